import PyProof.Rows.All
import Wide.All
import OpenK.AllK
import Wide.FinOn
import PyProof.EqAt
import PyProof.EqKinds
import PyProof.TupleCall
import Lean
import PyProof.Rows.SortRuns
import PySem.Syntax
import PyProof.NeKinds
import PyProof.WalkInts
import KE.KDictList
import PyProof.CompUse
import PyProof.StrWalks
import PyProof.EnumMake
import PyProof.EnumFor
import PyProof.StrCalls2
import PyProof.StrBlock2
import PyProof.StrBlockI
import PyProof.SliceStr2
import PyProof.ConsumeWalk
import PyProof.StrLawsJoin
import KE.KTryMore
import KE.KTryDeep
import OpenK.KOwn
import PyProof.ExcClass3
import KE.KIsAll
import PyProof.ExcArgsOwn
import PyProof.NsDelKeeps
import PyProof.ListRange
import PyProof.DictWalks
import KE.KEqDict
import PyProof.Rows.TupAdd
import PyProof.DictIter
import PyProof.AttrMissHeap
import PyProof.ZipIter
import PyProof.TupleIter
import PyProof.WalksMore
import PyProof.FactsAll.zip
import KE.KDictOf
import PyProof.Conv_int
import PyProof.Conv_int_bool
import PyProof.StrBlockL
import PyProof.MakeMany
import PyProof.MeetsStr2
import PyProof.CallRoads3
import PyProof.Rows.TupIn
import KE.KRevIter
import PySem.Challenge.RW_hookmill_k52_values_stay
set_option Elab.async false
set_option maxRecDepth 100000
set_option maxHeartbeats 4000000
noncomputable section
set_option linter.all false
set_option autoImplicit false
set_option genSizeOfSpec false
set_option genInjectivity true
abbrev nDb (x:PySem.Str):Prop := (x==("__debug__" : PySem.Str))=false
abbrev nCd (x:PySem.Str):Prop := (x==("__classdict__" : PySem.Str))=false
section
namespace L2
open PySem PySem.Spec PyProof.Rows
abbrev Key:=Sum Int Str
noncomputable def BW:Key->Value->Bool
 | .inl k,v=>Value.isInt k v
 | .inr x,v=>Value.isStrOf x v
noncomputable def aG0 (w:World):Key->Int
 | .inl k=>hashInt k
 | .inr x=>hashStr w x
theorem cU:∀{k:Key} {v:Value},BW k v=true->(∃i t,k=Sum.inl i/\v=Value.int i t)\/(∃x t,k=Sum.inr x/\v=Value.str x t)
 | .inl i,v,h=>by
  obtain ⟨t,e⟩:=Value.isInt_shape (k:=i) (v:=v) h;exact .inl ⟨i,t,rfl,e⟩
 | .inr x,v,h=>by
  obtain ⟨t,e⟩:=Value.isStrOf_shape (x:=x) (v:=v) h;exact .inr ⟨x,t,rfl,e⟩
theorem HF (i:Int) (t:Tok):BW (.inl i) (.int i t)=true:=by simp [BW,Value.isInt]
theorem HH (x:Str) (t:Tok):BW (.inr x) (.str x t)=true:=by simp [BW,Value.isStrOf]
theorem Z4 (a b:Int):decide ((Sum.inl a:Key)=Sum.inl b)=(a==b):=by
 by_cases e:a=b
 ·subst e;simp
 ·have h:¬(Sum.inl a:Key)=Sum.inl b:=fun q=>e (Sum.inl.inj q)
  rw [decide_eq_false h];exact (beq_eq_false_iff_ne.mpr e).symm
theorem Z5 (a b:Str):decide ((Sum.inr a:Key)=Sum.inr b)=decide (a=b):=by
 by_cases e:a=b
 ·subst e;simp
 ·have h:¬(Sum.inr a:Key)=Sum.inr b:=fun q=>e (Sum.inr.inj q)
  rw [decide_eq_false h,decide_eq_false e]
theorem Z6 (a:Int) (b:Str):decide ((Sum.inl a:Key)=Sum.inr b)=false:=decide_eq_false (fun q=>nomatch q)
theorem Z7 (a:Str) (b:Int):decide ((Sum.inr a:Key)=Sum.inl b)=false:=decide_eq_false (fun q=>nomatch q)
noncomputable def cV (prog:Program) (w:World):PySem.KeyKind prog w Key where
 is:=BW
 hash:=aG0 w
 inj:=fun v a b ha hb=>by
  rcases cU ha with ⟨i,t,rfl,rfl⟩|⟨x,t,rfl,rfl⟩
  ·rcases cU hb with ⟨j,u,rfl,e⟩|⟨y,u,rfl,e⟩
   ·injection e with e1 _;rw [e1]
   ·exact nomatch e
  ·rcases cU hb with ⟨j,u,rfl,e⟩|⟨y,u,rfl,e⟩
   ·exact nomatch e
   ·injection e with e1 _;rw [e1]
 byValue:=fun k v h=>by
  rcases cU h with ⟨i,t,rfl,rfl⟩|⟨x,t,rfl,rfl⟩ <;> rfl
 pyHash:=fun hv h=>by
  rcases cU hv with ⟨i,t,rfl,rfl⟩|⟨x,t,rfl,rfl⟩
  ·exact wpAny_pyHash_int h
  ·exact wpAny_pyHash_str h
 eqBool:=fun hu hv h=>by
  rcases cU hu with ⟨i,t,rfl,rfl⟩|⟨x,t,rfl,rfl⟩
  ·rcases cU hv with ⟨j,u,rfl,rfl⟩|⟨y,u,rfl,rfl⟩
   ·rw [Z4] at h;exact wpAny_eqBool_int h
   ·rw [Z6] at h;exact SeqAt.EqAt.int_str i t y u _ _ _ _ h
  ·rcases cU hv with ⟨j,u,rfl,rfl⟩|⟨y,u,rfl,rfl⟩
   ·rw [Z7] at h;exact SeqAt.EqAt.str_int x t j u _ _ _ _ h
   ·rw [Z5] at h;exact wpAny_eqBool_str h
 «strs»:=fun k x t v h=>by
  rcases cU h with ⟨i,u,rfl,e⟩|⟨y,u,rfl,e⟩
  ·exact nomatch e
  ·injection e with e1 _
   subst e1;cases v <;> rfl
theorem vU (prog:Program) (w:World) (i:Int) (t:Tok):(cV prog w).is (.inl i) (.int i t)=true:=HF i t
theorem vV (prog:Program) (w:World) (x:Str) (t:Tok):(cV prog w).is (.inr x) (.str x t)=true:=HH x t
end L2
namespace L2
open PySem PySem.Spec PyProof.Rows
inductive V where
 | non|bl (b:Bool)|int (i:Int)|str (x:Str)|byt (b:Array UInt8)|flt (b:UInt64)|ref (a:Addr)|ty (n:String)
 deriving DecidableEq
noncomputable def RelV:V->Value->Prop
 | .non,u=>u=Value.none
 | .bl b,u=>u=Value.bool b
 | .int i,u=>∃t,u=Value.int i t
 | .str x,u=>∃t,u=Value.str x t
 | .byt b,u=>∃t,u=Value.bytes b t
 | .flt b,u=>∃t,u=Value.float b t
 | .ref a,u=>u=Value.ref a
 | .ty n,u=>u=Value.type n
abbrev Vals:List V->List Value->Prop:=Paired RelV
theorem Vals.length {xs:List V} {us:List Value} (r:Vals xs us):xs.length=us.length:=Paired.length r
theorem Vals.get:∀{xs:List V} {us:List Value} {i:Nat} {x:V},Vals xs us->xs[i]?=some x->∃u,us[i]?=some u/\RelV x u
 | _,_,_,_,.nil,e=>by simp at e
 | _,_,0,_,.cons r _,e=>by simp at e;subst e;exact ⟨_,rfl,r⟩
 | _,_,i+1,x,.cons _ t,e=>by
  obtain ⟨u,h1,h2⟩:=Vals.get (i:=i) (x:=x) t (by simpa using e);exact ⟨u,by simpa using h1,h2⟩
theorem Vals.set {x:V} {u:Value} (r:RelV x u):∀{xs:List V} {us:List Value} (i:Nat),Vals xs us->Vals (xs.set i x) (us.set i u)
 | _,_,_,.nil=>.nil
 | _,_,0,.cons _ t=>.cons r t
 | _,_,i+1,.cons q t=>.cons q (Vals.set r i t)
theorem Vals.append:∀{xs ys:List V} {us ws:List Value},Vals xs us->Vals ys ws->Vals (xs++ys) (us++ws)
 | _,_,_,_,.nil,s=>s
 | _,_,_,_,.cons r t,s=>.cons r (Vals.append t s)
theorem Vals.take:∀{xs:List V} {us:List Value} (n:Nat),Vals xs us->Vals (xs.take n) (us.take n)
 | _,_,0,_=>.nil
 | _,_,_+1,.nil=>.nil
 | _,_,n+1,.cons r t=>.cons r (Vals.take n t)
theorem Vals.drop:∀{xs:List V} {us:List Value} (n:Nat),Vals xs us->Vals (xs.drop n) (us.drop n)
 | _,_,0,r=>r
 | _,_,_+1,.nil=>.nil
 | _,_,n+1,.cons _ t=>Vals.drop n t
noncomputable def vR:Option V->Option Value->Prop
 | some v,some u=>RelV v u
 | none,none=>True
 | _,_=>False
noncomputable def KV {κ:Type}:List (κ×V)->List (κ×Value)->Prop:=Paired fun (p:κ×V) (q:κ×Value)=>p.1=q.1/\RelV p.2 q.2
noncomputable def kV:Key->V
 | .inl i=>.int i
 | .inr x=>.str x
inductive HO where
 | lst (xs:List V)
 | tup (xs:List V)
 | dK (kvs:List (Key×V))|dT (kvs:List (List Key×V))
 | set (S:Int->Bool) (n:Nat)
 | ins (C dx:Addr) (fs:List (Str×V))
 | own (x:Addr)
 | xd (fs:List (Str×V))
 | met (f x:Addr)
 | rng (lo hi:Int)
 | frz (o:Obj) (u:HO)
 | tbl (ps:Array Value)
 | ext (φ:Heap->Prop)
abbrev Hp:=Addr->Option HO
def upd (H:Hp) (a:Addr) (o:HO):Hp:=fun b=>if b=a then some o else H b
theorem aK {H:Hp} {a:Addr} {o:HO}:upd H a o a=some o:=by unfold upd;rw [if_pos rfl]
theorem bG {H:Hp} {a b:Addr} {o:HO} (h:b≠a):upd H a o b=H b:=by unfold upd;rw [if_neg h]
theorem vW {H:Hp} {a:Addr} {o u:HO}:upd (upd H a o) a u=upd H a u:=by
 funext b;unfold upd;split <;> rfl
theorem lZ {H:Hp} {a b:Addr} {o u:HO} (h:H a=some o) (h':H b=some u) (d:o≠u):a≠b:=by
 intro e;subst e;rw [h] at h';exact d (Option.some.inj h')
theorem b8 {H:Hp} {a b:Addr} {o:HO} (h:H a=some o) (h':H b=none):a≠b:=by
 intro e;subst e;rw [h] at h';cases h'
noncomputable def iM (h:Heap) (a:Addr) (its:Array Value):Prop:=∃o,h.get? a=some o/\o.cls=.type "tuple"/\∃n,(o.data,o.dict)=(Data.seq its n,none)
theorem iM.tup {h:Heap} {a:Addr} {its:Array Value} (t:iM h a its):IsTup h a its:=let ⟨o,e,c,n,d⟩:=t;⟨o,e,c,n,congrArg (·.1) d⟩
theorem iM.bare {h:Heap} {a:Addr} {its:Array Value} (t:iM h a its):∃o,h.get? a=some o/\o.dict=none:=let ⟨o,e,_,_,d⟩:=t;⟨o,e,congrArg (·.2) d⟩
theorem iM.new (h:Heap) (items:Array Value):iM (h.push {cls:=.type "tuple",data:=.seq items}) h.objs.size items:=⟨_,Heap.get?_push_size _ rfl,rfl,_,rfl⟩
section
variable (P:Program) (w:World)
noncomputable def iH (H:Hp) (h:Heap) (a:Addr):HO->Prop
 | .lst xs=>xs.length<=sizeLine/\∃(its:List Value) (n:Nat),Vals xs its/\h.get? a=some {cls:=.type "list",data:=.seq its.toArray n}
 | .tup xs=>xs.length<=sizeLine/\∃its:List Value,Vals xs its/\iM h a its.toArray
 | .dK kvs=>kvs.length<=sizeLine/\(a==sysModules)=false/\∃vs,KV kvs vs/\h.DictOf (cV P w) a vs
 | .dT kvs=>kvs.length<=sizeLine/\(a==sysModules)=false/\∃xs:List (List Key×Addr×Value),
   Paired (fun (p:List Key×V) (q:List Key×Addr×Value)=>p.1=q.1/\H q.2.1=some (.tup (p.1.map kV))/\RelV p.2 q.2.2) kvs xs/\
   ∃o es ep,h.get? a=some o/\o.ExactDict/\o.data=.dict es ep/\es.toList=xs.map (entryOfKey (tupleKind (cV P w)))/\(xs.map (·.1)).Nodup
 | .set S n=>h.SetOf (intKind P w) a S n
 | .ins C dx fs=>H dx=some (.own a)/\fs.length<=1000/\dx≠a/\h.get? a=some (PySem.W.instObj C dx)/\
   ∃mA,h.Ns1 dx mA/\(∀f,vR (fs.lookup f) (mA f))/\PySem.Within mA (fs.map (·.1))
 | .own _=>∃o,h.get? a=some o
 | .xd fs=>∃mA,h.Ns1 a mA/\∀f,vR (fs.lookup f) (mA f)
 | .rng lo hi=>∃t u v,h.get? a=some {cls:=.type "range",data:=.fields #[.int lo t,.int hi u,.int 1 v]}
 | .frz o u=>h.get? a=some o/\iH H h a u
 | .tbl ps=>h.get? a=some {cls:=.none,data:=.fields ps}
 | .met f x=>h.get? a=some (PySem.W.methodObj (.ref f) (.ref x))
 | .ext φ=>φ h/\(∃o,h.get? a=some o)/\∀h1 h2:Heap,φ h1->(∀o,h1.get? a=some o->h2.get? a=some o)->φ h2
def HOk (H:Hp) (h:Heap):Prop:=∀a o,H a=some o->iH P w H h a o
end
section
variable {P:Program} {w:World} {H H':Hp} {h h':Heap} {a:Addr} {o:HO}
theorem iH.lt (x:iH P w H h a o):a<h.objs.size:=by
 cases o with
 | lst xs=>obtain ⟨_,_,_,_,e⟩:=x;exact Heap.lt_size e
 | tup xs=>obtain ⟨_,_,_,p⟩:=x;exact p.tup.lt
 | dK kvs=>obtain ⟨_,_,_,_,o,_,_,e,_⟩:=x;exact Heap.lt_size e
 | dT kvs=>obtain ⟨_,_,_,_,o,_,_,e,_⟩:=x;exact Heap.lt_size e
 | set S n=>obtain ⟨o,_,_,_,e,_⟩:=x;exact Heap.lt_size e
 | ins C dx fs=>obtain ⟨_,_,_,e,_⟩:=x;exact Heap.lt_size e
 | own y=>obtain ⟨_,e⟩:=x;exact Heap.lt_size e
 | xd fs=>obtain ⟨_,⟨_,_,_,e,_⟩,_⟩:=x;exact Heap.lt_size e
 | rng lo hi=>obtain ⟨_,_,_,e⟩:=x;exact Heap.lt_size e
 | frz ob u=>obtain ⟨e,_⟩:=x;exact Heap.lt_size e
 | tbl ps=>exact Heap.lt_size (show h.get? a=some _ from x)
 | met f y=>exact Heap.lt_size (show h.get? a=some _ from x)
 | ext φ=>obtain ⟨_,⟨_,e⟩,_⟩:=x;exact Heap.lt_size e
theorem Paired.aDp {α β:Type} {F G:α->β->Prop}:∀{l₁:List α} {l₂:List β},Paired F l₁ l₂->(∀a b,F a b->G a b)->Paired G l₁ l₂
 | _,_,.nil,_=>.nil
 | _,_,.cons r t,f=>.cons (f _ _ r) (Paired.aDp t f)
theorem iH.stay (x:iH P w H h a o) (k:∀b u,(b=a\/H b=some (.own a))->h.get? b=some u->h'.get? b=some u)
  (ho:∀b,H b=some (.own a)->H' b=some (.own a)) (ht:∀b xs,H b=some (.tup xs)->H' b=some (.tup xs)):iH P w H' h' a o:=by
 induction o with
 | lst xs=>obtain ⟨z,its,n,r,e⟩:=x;exact ⟨z,its,n,r,k _ _ (.inl rfl) e⟩
 | tup xs=>obtain ⟨z,its,r,ob,e,c⟩:=x;exact ⟨z,its,r,ob,k _ _ (.inl rfl) e,c⟩
 | dK kvs=>obtain ⟨z,y,vs,r,ob,es,ep,e,c⟩:=x;exact ⟨z,y,vs,r,ob,es,ep,k _ _ (.inl rfl) e,c⟩
 | dT kvs=>
  obtain ⟨z,y,xs,r,ob,es,ep,e,c⟩:=x;exact ⟨z,y,xs,Paired.aDp r fun p q z=>⟨z.1,ht _ _ z.2.1,z.2.2⟩,ob,es,ep,k _ _ (.inl rfl) e,c⟩
 | set S n=>obtain ⟨ob,es,ep,t,e,c⟩:=x;exact ⟨ob,es,ep,t,k _ _ (.inl rfl) e,c⟩
 | ins C dx fs=>
  obtain ⟨d,z,ne,e,mA,⟨od,es,ep,e2,c⟩,r⟩:=x;exact ⟨ho _ d,z,ne,k _ _ (.inl rfl) e,mA,⟨od,es,ep,k _ _ (.inr d) e2,c⟩,r⟩
 | own y=>obtain ⟨ob,e⟩:=x;exact ⟨ob,k _ _ (.inl rfl) e⟩
 | xd fs=>obtain ⟨mA,⟨od,es,ep,e,c⟩,r⟩:=x;exact ⟨mA,⟨od,es,ep,k _ _ (.inl rfl) e,c⟩,r⟩
 | rng lo hi=>obtain ⟨t,u,v,e⟩:=x;exact ⟨t,u,v,k _ _ (.inl rfl) e⟩
 | frz ob u ih=>obtain ⟨e,q⟩:=x;exact ⟨k _ _ (.inl rfl) e,ih q⟩
 | tbl ps=>
  have e:h.get? a=some {cls:=.none,data:=.fields ps}:=x;show h'.get? a=some {cls:=.none,data:=.fields ps};exact k a _ (.inl rfl) e
 | met f y=>
  have e:h.get? a=some (PySem.W.methodObj (.ref f) (.ref y)):=x;show h'.get? a=some (PySem.W.methodObj (.ref f) (.ref y));exact k a _ (.inl rfl) e
 | ext φ=>obtain ⟨p,⟨o,e⟩,st⟩:=x;exact ⟨st _ _ p fun o q=>k _ _ (.inl rfl) q,⟨o,k _ _ (.inl rfl) e⟩,st⟩
theorem HOk.lt (x:HOk P w H h) (e:H a=some o):a<h.objs.size:=(x a o e).lt
theorem HOk.fresh (x:HOk P w H h) (e:h.objs.size<=a):H a=none:=by
 cases q:H a with
 | none=>rfl
 | some u=>exact absurd (Nat.lt_of_lt_of_le (x.lt q) e) (Nat.lt_irrefl _)
theorem HOk.kept (x:HOk P w H h) (k:∀b u,h.get? b=some u->h'.get? b=some u):HOk P w H h':=fun a o e=>
 (x a o e).stay (fun b u _ q=>k b u q) (fun _ q=>q) fun _ _ q=>q
theorem HOk.laid (x:HOk P w H h) (k:∀b u,h.get? b=some u->h'.get? b=some u) (hp:h.objs.size<=a) (new:iH P w (upd H a o) h' a o):HOk P w (upd H a o) h':=fun b u e=>by
 have hn:=x.fresh hp;by_cases hb:b=a
 ·subst hb;rw [aK] at e;cases e;exact new
 ·rw [bG hb] at e;exact (x b u e).stay (fun c v _ q=>k c v q) (fun c q=>by rw [bG (b8 q hn)];exact q) fun c xs q=>by rw [bG (b8 q hn)];exact q
end
def Rd (H:Hp) (a:Addr) (u:HO):Prop:=H a=some u\/∃o,H a=some (.frz o u)
theorem Rd.ok {P:Program} {w:World} {H:Hp} {h:Heap} {a:Addr} {u:HO} (r:Rd H a u) (x:HOk P w H h):iH P w H h a u:=by
 rcases r with r|⟨o,r⟩
 ·exact x a u r
 ·obtain ⟨_,q⟩:=x a _ r;exact q
noncomputable def Mut:Option HO->Prop
 | some (.lst _)=>True
 | some (.dK _)=>True
 | some (.dT _)=>True
 | some (.set _ _)=>True
 | some (.ins _ _ _)=>True
 | some (.ext _)=>True
 | _=>False
section
variable {P:Program} {w:World} {H:Hp} {h h':Heap} {x e:Addr} {o':HO}
theorem HOk.write (ok:HOk P w H h) (mu:Mut (H x)) (he:e=x\/H e=some (.own x)) (k:∀b u,b≠e->h.get? b=some u->h'.get? b=some u) (heo:∃u,h'.get? e=some u)
  (new:iH P w (upd H x o') h' x o'):HOk P w (upd H x o') h':=fun b u q=>by
 have nown:∀c y,H c=some (.own y)->c≠x:=fun c y r z=>by subst z;rw [r] at mu;exact mu
 have ntup:∀c xs,H c=some (.tup xs)->c≠x:=fun c xs r z=>by subst z;rw [r] at mu;exact mu
 by_cases hb:b=x
 ·subst hb;rw [aK] at q;cases q;exact new
 ·rw [bG hb] at q;by_cases hbe:b=e
  ·have q':H b=some (.own x):=by
    rcases he with z|z
    ·exact absurd (hbe.trans z) hb
    ·rw [hbe];exact z
   rw [q] at q';cases q';obtain ⟨v,hv⟩:=heo;exact ⟨v,by rw [hbe];exact hv⟩
  ·refine (ok b u q).stay (fun c v hc r=>k c v ?_ r) (fun c r=>by rw [bG (nown c b r)];exact r) fun c xs r=>by rw [bG (ntup c xs r)];exact r
   rcases hc with rfl|hc
   ·exact hbe
   ·rintro rfl;rcases he with z|z
    ·exact nown c b hc z
    ·rw [hc] at z;cases z;exact hb rfl
end
structure Un (fs ex:List Addr) (H H':Hp) (h h':Heap):Prop where
 keep:∀b o,h.get? b=some o->H b=none->b∉fs->b∉ex->h'.get? b=some o
 slot:∀b o,h.get? b=some o->H b=none->b∈fs->b∉ex->∃sl,h'.get? b=some {o with slots:=sl}
 free:∀b o,h.get? b=some o->H b=none->b∉ex->H' b=none
 there:∀b o,h.get? b=some o->b∉ex->∃o',h'.get? b=some o'
 tups:∀b xs,H b=some (.tup xs)->H' b=some (.tup xs)
 frzs:∀b o u,H b=some (.frz o u)->H' b=some (.frz o u)
 tbls:∀b ps,H b=some (.tbl ps)->∃more,H' b=some (.tbl (ps++more))
section
variable {fs fs' ex ex':List Addr} {H H1 H2:Hp} {h h1 h2 h':Heap} {a x e:Addr} {o:HO}
theorem Un.any (u:Un fs ex H H1 h h1) {b:Addr} {ob:Obj} (q:h.get? b=some ob) (n:H b=none) (hx:b∉ex):∃sl,h1.get? b=some {ob with slots:=sl}:=by
 by_cases hb:b∈fs
 ·exact u.slot b ob q n hb hx
 ·exact ⟨ob.slots,u.keep b ob q n hb hx⟩
theorem Un.kept (k:∀b u,h.get? b=some u->h'.get? b=some u):Un fs ex H H h h':=
 ⟨fun b ob q _ _ _=>k b ob q,fun b ob q _ _ _=>⟨ob.slots,k b ob q⟩,fun _ _ _ n _=>n,fun b ob q _=>⟨ob,k b ob q⟩,fun _ _ q=>q,fun _ _ _ q=>q,fun _ ps q=>⟨#[],by rw [q];simp⟩⟩
theorem Un.refl:Un fs ex H H h h:=Un.kept fun _ _ q=>q
theorem Un.laid (k:∀b u,h.get? b=some u->h'.get? b=some u) (hp:h.objs.size<=a) (hn:H a=none):Un fs ex H (upd H a o) h h' where
 keep:=fun b u q _ _ _=>k b u q
 slot:=fun b u q _ _ _=>⟨u.slots,k b u q⟩
 free:=fun b u q n _=>by rw [bG (Nat.ne_of_lt (Nat.lt_of_lt_of_le (Heap.lt_size q) hp))];exact n
 there:=fun b u q _=>⟨u,k b u q⟩
 tups:=fun b xs q=>by rw [bG (b8 q hn)];exact q
 frzs:=fun b u xs q=>by rw [bG (b8 q hn)];exact q
 tbls:=fun b ps q=>⟨#[],by rw [bG (b8 q hn),q];simp⟩
theorem Un.write (mu:Mut (H x)) (he:e=x\/H e=some (.own x)) (k:∀b u,b≠e->h.get? b=some u->h'.get? b=some u) (heo:∃u,h'.get? e=some u):Un fs ex H (upd H x o) h h':=by
 have hx:∀b,H b=none->b≠x:=fun b n z=>by subst z;rw [n] at mu;exact mu
 have hb:∀b,H b=none->b≠e:=fun b n z=>by
  subst z;rcases he with r|r
  ·exact hx b n r
  ·rw [n] at r;cases r
 have hm:∀b u,H b=some u->¬Mut (some u)->b≠x:=fun b u q nm z=>by subst z;rw [q] at mu;exact nm mu
 refine ⟨fun b u q n _ _=>k b u (hb b n) q,fun b u q n _ _=>⟨u.slots,k b u (hb b n) q⟩,fun b u q n _=>by rw [bG (hx b n)];exact n,fun b u q _=>?_,
  fun b xs q=>by rw [bG (hm b _ q fun z=>z)];exact q,fun b u xs q=>by rw [bG (hm b _ q fun z=>z)];exact q,fun b ps q=>⟨#[],by rw [bG (hm b _ q fun z=>z),q];simp⟩⟩
 by_cases hbe:b=e
 ·subst hbe;exact heo
 ·exact ⟨u,k b u hbe q⟩
end
noncomputable def trk (h:Heap) (H:Hp):List Addr:=(List.range h.objs.size).filter fun a=>(H a).isSome
def QK (h:Heap) (H:Hp):Heap:=PySem.W.hideAll h (trk h H)
theorem HJ (h:Heap) (H:Hp):(QK h H).objs.size=h.objs.size:=PySem.W.hideAll_size _ _
theorem QL {h:Heap} {H:Hp} {b:Addr} {o:Obj} (e:h.get? b=some o) (n:H b=none):(QK h H).get? b=some o:=
 PySem.W.hideAll_get _ e fun hm=>by
  have q:(H b).isSome=true:=(List.mem_filter.mp hm).2;rw [n] at q;simp at q
theorem V4 {h:Heap} {H:Hp} {b:Addr} {o:Obj} (e:(QK h H).get? b=some o):h.get? b=some o/\H b=none:=by
 have e':h.get? b=some o:=PySem.W.of_hideAll (trk h H) e;refine ⟨e',?_⟩;cases q:H b with
 | none=>rfl
 | some x=>
  have hm:b∈trk h H:=List.mem_filter.mpr ⟨List.mem_range.mpr (Heap.lt_size e'),by simp [q]⟩;have z:(QK h H).get? b=none:=PySem.W.hideAll_none (trk h H) hm;rw [z] at e;cases e
end L2
namespace L2
open PySem PySem.Spec PyProof.Rows
structure Mod (K:PySem.W.Frag) (mg:Str->Option Value) (base:Heap):Prop where
 kin:K.In base
 glob:base.Ns mainGlobals mg
 blt:∃mb,base.Ns builtinsNs mb/\∀x:Str,x ≠ "__name__"->mb x=bootBuiltins x
 nolimit:base.NoLimit
/-- the context: a def's body (or a comprehension's block) running. base: fixed through the whole law; s₀, H₀: the entry; outer: the frames whose slots others may change (a def's callers); stack: all frames that run;
   ex: iterators that were made ahead of the entry and are walked here (a comprehension's); fn: the names whose cells were made at the entry (a def: all; a comprehension's block: its own); calm: not within an except suite; pn: pins that every state bears; xe: what is wanted of an exception that leaves the code -/
structure Cx where
 prog:Program
 w:World
 K:PySem.W.Frag
 mg:Str->Option Value
 base:Heap
 A:Around
 N:List Str
 s₀:Shared
 H₀:Hp
 env:Env
 outer:List Env
 stack:List Env
 ex:List Addr
 fn:Str->Bool
 calm:Bool
 pn:List (Addr×Obj)
 xe:Value->Shared->Prop
def frs (l:List Env):List Addr:=l.filterMap (·.frame)
abbrev Cx.fs (X:Cx):List Addr:=frs X.outer
noncomputable def Vis (sc:Scope) (x:Str):Prop:=sc.names.lookup x=some .local\/sc.names.lookup x=some .cell\/sc.names.lookup x=some .free
noncomputable def Loc (sc:Scope) (x:Str):Prop:=sc.names.lookup x=some .local\/sc.names.lookup x=some .cell
noncomputable def Look (env:Env) (h:Heap) (m:Str->Option Value) (x:Str) (u:Value):Prop:=
 (env.kindOf x=some .local/\m x=some u)\/((env.kindOf x=some .cell\/env.kindOf x=some .free)/\∃c,env.cells.lookup x=some c/\h.IsCell c (some u))
structure Cx.Ok (X:Cx):Prop where
 mod:Mod X.K X.mg X.base
 kind:X.env.scope.kind=.function
 glob:X.env.globals=mainGlobals
 blt:X.env.builtins=builtinsNs
 above:X.s₀.heap.objs.size<=X.env.locals
 inj:∀x y c,X.env.cells.lookup x=some c->X.env.cells.lookup y=some c->x=y
 has:∀x,(X.env.kindOf x=some .cell\/X.env.kindOf x=some .free)->∃c,X.env.cells.lookup x=some c
 cab:∀x c,X.fn x=true->X.env.cells.lookup x=some c->X.s₀.heap.objs.size<=c
 hd:X.calm=true->X.A.handled=none
 frames:X.A.frames=some X.stack
 stk:X.stack=X.outer\/(X.stack=X.env::X.outer/\X.env.frame=some X.env.locals)
 exf:∀b∈X.ex,b≠X.env.locals/\∀x c,X.env.cells.lookup x=some c->c≠b
 bs:∀b o,X.base.get? b=some o->X.s₀.heap.get? b=some o/\X.H₀ b=none
 bsz:X.base.objs.size<=X.s₀.heap.objs.size
 noex:∀b o,X.base.get? b=some o->b∉X.ex
 exfs:∀b∈X.ex,b∉X.fs
 G8:X.s₀.heap.FunFrames X.base X.outer
 frf:∀b∈X.fs,X.H₀ b=none
structure Inv (X:Cx) (pins:List (Addr×Obj)) (σ:List (Option V)) (H:Hp) (s:Shared):Prop where
 ok:X.Ok
 os:s.os=X.s₀.os
 bare:AllBare s.gens
 base:Un X.fs X.ex X.H₀ H X.s₀.heap s.heap
 loc:∃m,s.heap.Ns X.env.locals m/\∀(i:Nat) (x:Str) (v:V),X.N[i]?=some x->σ[i]?=some (some v)->Vis X.env.scope x->∃u,RelV v u/\Look X.env s.heap m x u
 cell:∀x c,X.env.cells.lookup x=some c->∃v,s.heap.IsCell c v
 free:H X.env.locals=none
 freeC:∀x c,X.env.cells.lookup x=some c->H c=none
 pin:∀p∈X.pn++pins,s.heap.get? p.1=some p.2/\H p.1=none/\p.1≠X.env.locals/\p.1∉X.fs/\∀v,p.2.data≠.cell v
 hok:HOk X.prog X.w H s.heap
 len:σ.length=X.N.length
section
variable {X:Cx} {pins:List (Addr×Obj)} {σ:List (Option V)} {H H':Hp} {s:Shared} {h':Heap}
theorem Cx.Ok.aG1 (ok:X.Ok) {b:Addr} {o:Obj} (e:X.base.get? b=some o):b∉X.fs:=fun hb=>by
 have:=(ok.G8.mem hb).1;rw [e] at this;cases this
theorem Inv.bs (I:Inv X pins σ H s):∀b o,X.base.get? b=some o->s.heap.get? b=some o/\H b=none:=fun b o e=>
 ⟨I.base.keep b o (I.ok.bs b o e).1 (I.ok.bs b o e).2 (I.ok.aG1 e) (I.ok.noex b o e),I.base.free b o (I.ok.bs b o e).1 (I.ok.bs b o e).2 (I.ok.noex b o e)⟩
theorem Inv.bk (I:Inv X pins σ H s):∀b o,X.base.get? b=some o->s.heap.get? b=some o:=fun b o e=>(I.bs b o e).1
theorem Inv.mod (I:Inv X pins σ H s):Mod X.K X.mg X.base:=I.ok.mod
theorem Inv.kIn (I:Inv X pins σ H s):X.K.In s.heap:=I.ok.mod.kin.keeps I.bk
theorem Inv.lt (I:Inv X pins σ H s):X.env.locals<s.heap.objs.size:=let ⟨_,hn,_⟩:=I.loc;hn.lt
theorem Inv.sz (I:Inv X pins σ H s):X.s₀.heap.objs.size<=s.heap.objs.size:=Nat.le_trans I.ok.above (Nat.le_of_lt I.lt)
theorem Inv.aFi (I:Inv X pins σ H s) {a:Addr} (h:s.heap.objs.size<=a):a∉X.fs:=fun hb=>by
 obtain ⟨_,o,ho,_⟩:=I.ok.G8.mem hb;exact absurd (Nat.lt_of_lt_of_le (Heap.lt_size ho) (Nat.le_trans I.sz h)) (Nat.lt_irrefl _)
theorem Inv.cne (I:Inv X pins σ H s):∀x c,X.env.cells.lookup x=some c->c≠X.env.locals:=fun x c e z=>by
 obtain ⟨v,o,ho,hd⟩:=I.cell x c e;obtain ⟨m,⟨o',es,ep,ho',hd',_⟩,_⟩:=I.loc;rw [z,ho'] at ho;cases ho;rw [hd'] at hd;cases hd
theorem Inv.G8 (I:Inv X pins σ H s):s.heap.FunFrames X.base X.outer:=by
 have all:∀(l:List Env),(∀b∈frs l,b∈X.fs)->X.s₀.heap.FunFrames X.base l->s.heap.FunFrames X.base l:=by
  intro l;induction l with
  | nil=>intro _ _;trivial
  | cons env r ih=>
   intro hs hl;obtain ⟨hk,⟨L,o,hf,hn,ho,hd⟩,hr⟩:=hl;have hL:L∈X.fs:=hs L (by unfold frs;rw [List.filterMap_cons,hf];exact List.mem_cons_self);obtain ⟨sl,e⟩:=I.base.slot L o ho (I.ok.frf L hL) hL fun z=>I.ok.exfs L z hL
   exact ⟨hk,⟨L,_,hf,hn,e,hd⟩,ih (fun b hb=>hs b (by unfold frs;rw [List.filterMap_cons,hf];exact List.mem_cons_of_mem _ hb)) hr⟩
 exact all X.outer (fun _ hb=>hb) I.ok.G8
theorem Inv.stack (I:Inv X pins σ H s):s.heap.FunFrames X.base X.stack:=by
 rcases I.ok.stk with e|⟨e,hf⟩
 ·rw [e];exact I.G8
 ·rw [e];obtain ⟨m,hn,_⟩:=I.loc;refine .cons (by rw [I.ok.kind];decide) hf hn ?_ I.G8;exact Heap.get?_none_of_le (Nat.le_trans I.ok.bsz I.ok.above)
theorem Inv.xW (I:Inv X pins σ H s):∀b∈frs X.stack,b∈X.env.locals::X.fs:=fun b hb=>by
 rcases I.ok.stk with e|⟨e,hf⟩
 ·rw [e] at hb;exact List.mem_cons_of_mem _ hb
 ·rw [e] at hb;unfold frs at hb;rw [List.filterMap_cons,hf] at hb;exact hb
theorem Inv.HN (I:Inv X pins σ H s):∀b∈frs X.stack,H b=none:=fun b hb=>by
 rcases List.mem_cons.mp (I.xW b hb) with e|hb
 ·rw [e];exact I.free
 ·obtain ⟨_,o,ho,_⟩:=I.ok.G8.mem hb;exact I.base.free b o ho (I.ok.frf b hb) fun z=>I.ok.exfs b z hb
theorem Inv.step {g':Array GenState} {t':Nat} {d':Drawn} {ch:List Addr} (I:Inv X pins σ H s)
  (hch:∀b∈ch,(b∈X.ex\/X.s₀.heap.objs.size<=b)/\b≠X.env.locals/\(∀x c,X.env.cells.lookup x=some c->c≠b)/\∀p∈X.pn++pins,p.1≠b)
  (keep:∀b o,b≠X.env.locals->b∉X.fs->b∉ch->s.heap.get? b=some o->H b=none->h'.get? b=some o)
  (slot:∀b o,b≠X.env.locals->b∈X.fs->b∉ch->s.heap.get? b=some o->H b=none->∃sl,h'.get? b=some {o with slots:=sl}) (free:∀b o,b∉ch->s.heap.get? b=some o->H b=none->H' b=none)
  (there:∀b o,b∉ch->s.heap.get? b=some o->∃o',h'.get? b=some o')
  (tups:∀b xs,H b=some (.tup xs)->H' b=some (.tup xs)) (frzs:∀b o u,H b=some (.frz o u)->H' b=some (.frz o u)) (tbls:∀b ps,H b=some (.tbl ps)->∃more,H' b=some (.tbl (ps++more)))
  (ns:∀m,s.heap.Ns X.env.locals m->h'.Ns X.env.locals m) (hok:HOk X.prog X.w H' h') (hg:AllBare g') :
  Inv X pins σ H' {s with heap:=h',gens:=g',drawn:=d',toks:=t'}:=by
 have neL:∀b o,X.s₀.heap.get? b=some o->b≠X.env.locals:=fun b o e=>Nat.ne_of_lt (Nat.lt_of_lt_of_le (Heap.lt_size e) I.ok.above)
 have neC:∀b o,X.s₀.heap.get? b=some o->b∉X.ex->b∉ch:=fun b o e hx hb=>by
  rcases (hch b hb).1 with z|z
  ·exact hx z
  ·exact absurd (Nat.lt_of_lt_of_le (Heap.lt_size e) z) (Nat.lt_irrefl _)
 have cellK:∀x c,X.env.cells.lookup x=some c->∀v,s.heap.IsCell c v->h'.IsCell c v:=fun x c e v ⟨o,ho,hd⟩=>by
  have nch:c∉ch:=fun z=>(hch c z).2.2.1 x c e rfl
  by_cases hc:c∈X.fs
  ·obtain ⟨sl,q⟩:=slot c o (I.cne x c e) hc nch ho (I.freeC x c e);exact ⟨_,q,hd⟩
  ·exact ⟨o,keep c o (I.cne x c e) hc nch ho (I.freeC x c e),hd⟩
 refine ⟨I.ok,I.os,hg,⟨fun b o e n hb hx=>?_,fun b o e n hb hx=>?_,fun b o e n hx=>?_,fun b o e hx=>?_,fun b xs e=>tups b xs (I.base.tups b xs e),fun b o xs e=>frzs b o xs (I.base.frzs b o xs e),fun b ps e=>?_⟩,?_,fun x c e=>?_,?_,fun x c e=>?_,fun p hp=>?_,hok,I.len⟩
 ·exact keep b o (neL b o e) hb (neC b o e hx) (I.base.keep b o e n hb hx) (I.base.free b o e n hx)
 ·obtain ⟨sl,e1⟩:=I.base.slot b o e n hb hx;obtain ⟨sl',e2⟩:=slot b _ (neL b o e) hb (neC b o e hx) e1 (I.base.free b o e n hx);exact ⟨sl',e2⟩
 ·obtain ⟨o',e1⟩:=I.base.there b o e hx;exact free b o' (neC b o e hx) e1 (I.base.free b o e n hx)
 ·obtain ⟨o',e1⟩:=I.base.there b o e hx;exact there b o' (neC b o e hx) e1
 ·obtain ⟨m1,e1⟩:=I.base.tbls b ps e;obtain ⟨m2,e2⟩:=tbls b _ e1;exact ⟨m1++m2,by rw [e2,Array.append_assoc]⟩
 ·obtain ⟨m,hn,hl⟩:=I.loc;refine ⟨m,ns m hn,fun i x v e1 e2 e3=>?_⟩;obtain ⟨u,r,l⟩:=hl i x v e1 e2 e3;refine ⟨u,r,?_⟩;rcases l with l|⟨k,c,e,z⟩
  ·exact .inl l
  ·exact .inr ⟨k,c,e,cellK x c e _ z⟩
 ·obtain ⟨v,z⟩:=I.cell x c e;exact ⟨v,cellK x c e v z⟩
 ·obtain ⟨m,⟨o,_,_,ho,_⟩,_⟩:=I.loc;exact free _ o (fun z=>(hch _ z).2.1 rfl) ho I.free
 ·obtain ⟨v,o,ho,hd⟩:=I.cell x c e;exact free c o (fun z=>(hch c z).2.2.1 x c e rfl) ho (I.freeC x c e)
 ·obtain ⟨e,n,ne,nf,d⟩:=I.pin p hp;have nch:p.1∉ch:=fun z=>(hch p.1 z).2.2.2 p hp rfl
  exact ⟨keep p.1 p.2 ne nf nch e n,free p.1 p.2 nch e n,ne,nf,d⟩
theorem Inv.un {t':Nat} (I:Inv X pins σ H s) (u:Un X.fs [] H H' s.heap h') (hok:HOk X.prog X.w H' h'):Inv X pins σ H' {s with heap:=h',toks:=t'}:=by
 obtain ⟨m,⟨o,es,ep,ho,r⟩,_⟩:=id I.loc;obtain ⟨sl,hL⟩:=u.any ho I.free (by simp);exact I.step (g':=s.gens) (d':=s.drawn) (ch:=[]) (fun _ z=>nomatch z) (fun b o _ hb _ e n=>u.keep b o e n hb (by simp)) (fun b o _ hb _ e n=>u.slot b o e n hb (by simp)) (fun b o _ e n=>u.free b o e n (by simp)) (fun b o _ e=>u.there b o e (by simp)) u.tups u.frzs u.tbls (fun m' hm=>by
  obtain ⟨o',es',ep',ho',r'⟩:=hm;rw [ho] at ho';cases ho';exact ⟨_,es',ep',hL,r'⟩) hok I.bare
theorem Inv.call {g':Array GenState} {t':Nat} {d':Drawn} {ch:List Addr} (I:Inv X pins σ H s) (u:Un (frs X.stack) ch H H' s.heap h') (hok:HOk X.prog X.w H' h') (hg:AllBare g')
  (hch:∀b∈ch,(b∈X.ex\/X.s₀.heap.objs.size<=b)/\b≠X.env.locals/\(∀x c,X.env.cells.lookup x=some c->c≠b)/\∀p∈X.pn++pins,p.1≠b) :
  Inv X pins σ H' {s with heap:=h',gens:=g',drawn:=d',toks:=t'}:=by
 obtain ⟨m,⟨o,es,ep,ho,r⟩,_⟩:=id I.loc;obtain ⟨sl,hL⟩:=u.any ho I.free fun z=>(hch _ z).2.1 rfl
 exact I.step (ch:=ch) hch (fun b o hL hb hc e n=>u.keep b o e n (fun z=>(List.mem_cons.mp (I.xW b z)).elim hL hb) hc) (fun b o _ _ hc e n=>u.any e n hc) (fun b o hc e n=>u.free b o e n hc) (fun b o hc e=>u.there b o e hc) u.tups u.frzs u.tbls (fun m' hm=>by
  obtain ⟨o',es',ep',ho',r'⟩:=hm;rw [ho] at ho';cases ho';exact ⟨_,es',ep',hL,r'⟩) hok hg
theorem Inv.turned {t':Nat} {it:Addr} (I:Inv X pins σ H s) (k:∀b o,b≠it->s.heap.get? b=some o->h'.get? b=some o) (hn:H it=none) (hL:it≠X.env.locals)
  (h1:it∈X.ex\/X.s₀.heap.objs.size<=it) (h2:∀x c,X.env.cells.lookup x=some c->c≠it) (h3:∀p∈X.pn++pins,p.1≠it):Inv X pins σ H {s with heap:=h',toks:=t'}:=by
 have nit:∀b u,H b=some u->b≠it:=fun b u e z=>by rw [z,hn] at e;cases e
 refine I.step (g':=s.gens) (d':=s.drawn) (ch:=[it]) (fun b hb=>?_) (fun b o _ _ hc e _=>k b o (fun z=>hc (by simp [z])) e) (fun b o _ _ hc e _=>⟨o.slots,k b o (fun z=>hc (by simp [z])) e⟩) (fun _ _ _ _ n=>n)
  (fun b o hc e=>⟨o,k b o (fun z=>hc (by simp [z])) e⟩) (fun _ _ e=>e) (fun _ _ _ e=>e) (fun b ps e=>⟨#[],by rw [e];simp⟩) (fun m hm=>?_) (fun b u e=>?_) I.bare
 ·have e:b=it:=by simpa using hb
  subst e;exact ⟨h1,hL,h2,h3⟩
 ·obtain ⟨o,es,ep,ho,r⟩:=hm;exact ⟨o,es,ep,k _ o (Ne.symm hL) ho,r⟩
 ·refine (I.hok b u e).stay (fun c v hc q=>k c v ?_ q) (fun _ q=>q) fun _ _ q=>q
  rcases hc with z|z
  ·rw [z];exact nit b u e
  ·exact nit c _ z
theorem Inv.tok (I:Inv X pins σ H s) (t:Nat):Inv X pins σ H {s with toks:=t}:=I.un (h':=s.heap) (t':=t) Un.refl I.hok
theorem Inv.kept {t':Nat} (I:Inv X pins σ H s) (k:∀b u,s.heap.get? b=some u->h'.get? b=some u):Inv X pins σ H {s with heap:=h',toks:=t'}:=I.un (Un.kept k) (I.hok.kept k)
theorem Inv.laid {a:Addr} {o:HO} {t':Nat} (I:Inv X pins σ H s) (k:∀b u,s.heap.get? b=some u->h'.get? b=some u) (hp:s.heap.objs.size<=a) (new:iH X.prog X.w (upd H a o) h' a o) :
  Inv X pins σ (upd H a o) {s with heap:=h',toks:=t'}:=I.un (Un.laid k hp (I.hok.fresh hp)) (I.hok.laid k hp new)
theorem Inv.write {x e:Addr} {o:HO} {t':Nat} (I:Inv X pins σ H s) (mu:Mut (H x)) (he:e=x\/H e=some (.own x)) (k:∀b u,b≠e->s.heap.get? b=some u->h'.get? b=some u) (heo:∃u,h'.get? e=some u)
  (new:iH X.prog X.w (upd H x o) h' x o):Inv X pins σ (upd H x o) {s with heap:=h',toks:=t'}:=I.un (Un.write mu he k heo) (I.hok.write mu he k heo new)
theorem Inv.weak {σ':List (Option V)} (I:Inv X pins σ H s) (hl:σ'.length=σ.length) (w:∀(i:Nat) v,σ'[i]?=some (some v)->σ[i]?=some (some v)):Inv X pins σ' H s:=
 ⟨I.ok,I.os,I.bare,I.base,let ⟨m,hn,hl'⟩:=I.loc;⟨m,hn,fun i x v e1 e2 e3=>hl' i x v e1 (w i v e2) e3⟩,I.cell,I.free,I.freeC,I.pin,I.hok,hl.trans I.len⟩
theorem Inv.vX {pins':List (Addr×Obj)} (I:Inv X pins σ H s) (h:∀p∈pins',s.heap.get? p.1=some p.2/\H p.1=none/\p.1≠X.env.locals/\p.1∉X.fs/\∀v,p.2.data≠.cell v):Inv X pins' σ H s:=
 ⟨I.ok,I.os,I.bare,I.base,I.loc,I.cell,I.free,I.freeC,fun p hp=>(List.mem_append.mp hp).elim (fun z=>I.pin p (List.mem_append_left _ z)) (h p),I.hok,I.len⟩
theorem xX {N:List Str} (hN:N.Nodup) {i j:Nat} {x:Str} (a:N[i]?=some x) (b:N[j]?=some x):i=j:=by
 obtain ⟨h1,e1⟩:=List.getElem?_eq_some_iff.mp a;obtain ⟨h2,e2⟩:=List.getElem?_eq_some_iff.mp b;exact (List.getElem_inj hN).mp (e1.trans e2.symm)
theorem HQ {M:Model} {A:Around} {E:Value->Shared->Prop} {i:Nat} {x:Str} {v:V} {u:Value} {Q:Unit->Shared->Prop} (I:Inv X pins σ H s) (hN:X.N.Nodup) (hi:X.N[i]?=some x) (hx:Loc X.env.scope x) (r:RelV v u)
  (h:∀s',Inv X pins (σ.set i (some v)) H s'->(∃a,Heap.SameBut a s.heap s'.heap/\(a=X.env.locals\/X.env.cells.lookup x=some a))->Q () s') (hf:X.fn x=true\/X.env.scope.names.lookup x=some .local:=by first|exact .inl rfl|exact .inr rfl|assumption):wpAny M A (storeName X.env x u) Q E s:=by
 obtain ⟨m,hn,hl⟩:=id I.loc;have hcls:(X.env.scope.kind==.class||(X.env.scope.kind==.module&&X.env.locals != X.env.globals))=false:=by rw [I.ok.kind];rfl
 have hiσ:i<σ.length:=by rw [I.len];exact (List.getElem?_eq_some_iff.mp hi).1
 have cne:=I.cne;have tracked:∀{a:Addr} {h':Heap},(∃o,s.heap.get? a=some o/\H a=none)->Heap.SameBut a s.heap h'->HOk X.prog X.w H h':=fun {a h'} ha hs b ob e=>by
  obtain ⟨_,_,hfree⟩:=ha;refine (I.hok b ob e).stay (fun c w' hc q=>(hs.2 c ?_).trans q) (fun _ q=>q) fun _ _ q=>q
  rintro rfl;rcases hc with rfl|hc
  ·rw [hfree] at e;cases e
  ·rw [hfree] at hc;cases hc
 rcases hx with hk|hk
 ·refine wpAny_storeName_local hk hn (fun h' hn' hs=>?_) hcls;obtain ⟨oL,_,_,hoL,_⟩:=id hn;refine h _ ⟨I.ok,I.os,I.bare,⟨fun b o e n hb hx=>?_,fun b o e n hb hx=>?_,I.base.free,fun b o e hx=>?_,I.base.tups,I.base.frzs,I.base.tbls⟩,⟨_,hn',fun j y v' e1 e2 e3=>?_⟩,fun y c e=>?_,I.free,I.freeC,fun p hp=>?_,tracked ⟨oL,hoL,I.free⟩ hs,by simpa using I.len⟩ ⟨_,hs,.inl rfl⟩
  ·exact (hs.2 b (Nat.ne_of_lt (Nat.lt_of_lt_of_le (Heap.lt_size e) I.ok.above))).trans (I.base.keep b o e n hb hx)
  ·obtain ⟨sl,e1⟩:=I.base.slot b o e n hb hx;exact ⟨sl,(hs.2 b (Nat.ne_of_lt (Nat.lt_of_lt_of_le (Heap.lt_size e) I.ok.above))).trans e1⟩
  ·obtain ⟨o',e1⟩:=I.base.there b o e hx;exact ⟨o',(hs.2 b (Nat.ne_of_lt (Nat.lt_of_lt_of_le (Heap.lt_size e) I.ok.above))).trans e1⟩
  ·by_cases hj:j=i
   ·subst hj;rw [hi] at e1;cases e1;rw [List.getElem?_set_self hiσ] at e2;cases e2;exact ⟨u,r,.inl ⟨hk,by simp⟩⟩
   ·rw [List.getElem?_set_ne (Ne.symm hj)] at e2;obtain ⟨u',r',q⟩:=hl j y v' e1 e2 e3;refine ⟨u',r',?_⟩;rcases q with ⟨k,e⟩|⟨k,c,e,z⟩
    ·refine .inl ⟨k,?_⟩;have:y≠x:=fun e=>hj (xX hN e1 (e▸hi))
     simp [this,e]
    ·exact .inr ⟨k,c,e,z.sameBut hs (cne y c e)⟩
  ·obtain ⟨w',z⟩:=I.cell y c e;exact ⟨w',z.sameBut hs (cne y c e)⟩
  ·obtain ⟨e,n,ne,nf,d⟩:=I.pin p hp;exact ⟨(hs.2 p.1 ne).trans e,n,ne,nf,d⟩
 ·have hfn:X.fn x=true:=by
   rcases hf with z|z
   ·exact z
   ·rw [z] at hk;cases hk
  obtain ⟨c,hc⟩:=I.ok.has x (.inl hk);obtain ⟨w',z⟩:=I.cell x c hc;refine wpAny_storeName_cell I.ok.kind hk hc z (fun h' hc' hs=>?_);obtain ⟨oc,hoc,hocd⟩:=id z;refine h {s with heap:=h'} ⟨I.ok,I.os,I.bare,⟨fun b o e n hb hx=>?_,fun b o e n hb hx=>?_,I.base.free,fun b o e hx=>?_,I.base.tups,I.base.frzs,I.base.tbls⟩,⟨m,hn.sameBut hs (Ne.symm (cne x c hc)),fun j y v' e1 e2 e3=>?_⟩,fun y c' e=>?_,I.free,I.freeC,fun p hp=>?_,tracked ⟨oc,hoc,I.freeC x c hc⟩ hs,by simpa using I.len⟩ ⟨c,hs,.inr hc⟩
  ·exact (hs.2 b (Nat.ne_of_lt (Nat.lt_of_lt_of_le (Heap.lt_size e) (I.ok.cab x c hfn hc)))).trans (I.base.keep b o e n hb hx)
  ·obtain ⟨sl,e1⟩:=I.base.slot b o e n hb hx;exact ⟨sl,(hs.2 b (Nat.ne_of_lt (Nat.lt_of_lt_of_le (Heap.lt_size e) (I.ok.cab x c hfn hc)))).trans e1⟩
  ·obtain ⟨o',e1⟩:=I.base.there b o e hx;exact ⟨o',(hs.2 b (Nat.ne_of_lt (Nat.lt_of_lt_of_le (Heap.lt_size e) (I.ok.cab x c hfn hc)))).trans e1⟩
  ·by_cases hj:j=i
   ·subst hj;rw [hi] at e1;cases e1;rw [List.getElem?_set_self hiσ] at e2;cases e2;exact ⟨u,r,.inr ⟨.inl hk,c,hc,hc'⟩⟩
   ·rw [List.getElem?_set_ne (Ne.symm hj)] at e2;obtain ⟨u',r',q⟩:=hl j y v' e1 e2 e3;refine ⟨u',r',?_⟩;rcases q with q|⟨k,c',e,z'⟩
    ·exact .inl q
    ·refine .inr ⟨k,c',e,z'.sameBut hs ?_⟩;rintro rfl;exact hj (xX hN e1 (I.ok.inj _ _ _ e hc▸hi))
  ·by_cases hcc:c'=c
   ·subst hcc;exact ⟨_,hc'⟩
   ·obtain ⟨w2,z2⟩:=I.cell y c' e;exact ⟨w2,z2.sameBut hs hcc⟩
  ·obtain ⟨e,n,ne,nf,d⟩:=I.pin p hp;refine ⟨(hs.2 p.1 ?_).trans e,n,ne,nf,d⟩;intro q;rw [q,hoc] at e;have q':oc=p.2:=Option.some.inj e;exact d w' (by rw [<-q'];exact hocd)
theorem xY {M:Model} {A:Around} {E:Value->Shared->Prop} {i:Nat} {x:Str} {v:V} {u:Value} {Q:Unit->Shared->Prop} (I:Inv X pins σ H s) (hN:X.N.Nodup) (hi:X.N[i]?=some x) (hx:Loc X.env.scope x) (r:RelV v u)
  (h:∀s',Inv X pins (σ.set i (some v)) H s'->Q () s') (hf:X.fn x=true\/X.env.scope.names.lookup x=some .local:=by first|exact .inl rfl|exact .inr rfl|assumption):wpAny M A (storeName X.env x u) Q E s:=
 HQ I hN hi hx r (fun s' I' _=>h s' I') hf
end
abbrev XK:=Value->Option Addr->Hp->Prop
abbrev St:=List (Option V)
abbrev VK:=V->Hp->Prop
abbrev TE:=St->Hp->VK->Prop
abbrev TT:=St->Hp->(Bool->Hp->Prop)->Prop
abbrev TA:=St->Hp->(List V->Hp->Prop)->Prop
structure Ends where
 nx:St->Hp->Prop
 rt:VK
 bk:St->Hp->Prop:=fun _ _=>False
 ct:St->Hp->Prop:=fun _ _=>False
abbrev TS:=Ends->St->Hp->Prop
noncomputable def EP (X:Cx) (pins:List (Addr×Obj)) (σ:St) (Q:VK) (u:Value) (s':Shared):Prop:=∃v H',Inv X pins σ H' s'/\RelV v u/\Q v H'
noncomputable def TP (X:Cx) (pins:List (Addr×Obj)) (σ:St) (Q:Bool->Hp->Prop) (b:Bool) (s':Shared):Prop:=∃H',Inv X pins σ H' s'/\Q b H'
noncomputable def AP (X:Cx) (pins:List (Addr×Obj)) (σ:St) (Q:List V->Hp->Prop) (us:List Value) (s':Shared):Prop:=∃vs H',Inv X pins σ H' s'/\Vals vs us/\Q vs H'
noncomputable def SP (X:Cx) (pins:List (Addr×Obj)) (D:Ends) (f:Flow) (s':Shared):Prop:=
 match f with
 | .next=>∃σ' H',Inv X pins σ' H' s'/\D.nx σ' H'
 | .brk=>∃σ' H',Inv X pins σ' H' s'/\D.bk σ' H'
 | .cont=>∃σ' H',Inv X pins σ' H' s'/\D.ct σ' H'
 | .ret u=>∃v σ' H',Inv X pins σ' H' s'/\RelV v u/\D.rt v H'
noncomputable def PE (X:Cx) (e:Expr) (t:TE):Prop:=
 ∀(pins:List (Addr×Obj)) (s:Shared) (σ:St) (H:Hp) (Q:VK),Inv X pins σ H s->t σ H Q->wpAny (model X.prog X.w) X.A (eval e X.env) (EP X pins σ Q) X.xe s
noncomputable def PT (X:Cx) (e:Expr) (t:TT):Prop:=
 ∀(pins:List (Addr×Obj)) (s:Shared) (σ:St) (H:Hp) (Q:Bool->Hp->Prop),Inv X pins σ H s->t σ H Q->wpAny (model X.prog X.w) X.A (isTrue e X.env (eval e X.env)) (TP X pins σ Q) X.xe s
noncomputable def PW (X:Cx) (e:Expr) (t:TT):Prop:=
 ∀(whole:Sem Value) (pins:List (Addr×Obj)) (s:Shared) (σ:St) (H:Hp) (Q:Bool->Hp->Prop),Inv X pins σ H s->t σ H Q->wpAny (model X.prog X.w) X.A (isTrue e X.env whole) (TP X pins σ Q) X.xe s
theorem PW.pt {X:Cx} {e:Expr} {t:TT} (h:PW X e t):PT X e t:=h _
noncomputable def PA (X:Cx) (es:List Expr) (t:TA):Prop:=
 ∀(pos:Pos) (pins:List (Addr×Obj)) (s:Shared) (σ:St) (H:Hp) (Q:List V->Hp->Prop),Inv X pins σ H s->t σ H Q->wpAny (model X.prog X.w) X.A (spliced (backTo pos (starEach es X.env))) (AP X pins σ Q) X.xe s
noncomputable def PS (X:Cx) (st:Stmt) (t:TS):Prop:=
 ∀(pins:List (Addr×Obj)) (s:Shared) (σ:St) (H:Hp) (D:Ends),Inv X pins σ H s->t D σ H->wpAny (model X.prog X.w) X.A (exec st X.env) (SP X pins D) X.xe s
noncomputable def PSs (X:Cx) (st:List Stmt) (t:TS):Prop:=
 ∀(pins:List (Addr×Obj)) (s:Shared) (σ:St) (H:Hp) (D:Ends),Inv X pins σ H s->t D σ H->wpAny (model X.prog X.w) X.A (execs st X.env) (SP X pins D) X.xe s
theorem thn {α:Type} {t:Sem α} {Q Q':α->Shared->Prop} {M:Model} {A:Around} {E:Value->Shared->Prop} {s:Shared} (h:wpAny M A t Q E s) (hQ:∀a s,Q a s->Q' a s):wpAny M A t Q' E s:=wpAny_mono h hQ fun _ _ x=>x
end L2
namespace L2
open PySem PySem.Spec PyProof.Rows
section
variable {X:Cx}
theorem bin {a b:Expr} {ta tb:TE} (ha:PE X a ta) (hb:PE X b tb) {pins:List (Addr×Obj)} {s:Shared} {σ:St} {H:Hp} {R:V->V->Hp->Prop} (I:Inv X pins σ H s) (h:ta σ H fun x H1=>tb σ H1 fun y H2=>R x y H2)
  {α:Type} {Q:α->Shared->Prop} {f:Value->Value->Sem α}
  (hf:∀v u s2 x y H2,Inv X pins σ H2 s2->RelV x v->RelV y u->R x y H2->wpAny (model X.prog X.w) X.A (f v u) Q X.xe s2) :
  wpAny (model X.prog X.w) X.A (eval a X.env) (fun v s₁=>wpAny (model X.prog X.w) X.A (eval b X.env) (fun u s₂=>wpAny (model X.prog X.w) X.A (f v u) Q X.xe s₂) X.xe s₁) X.xe s:=by
 refine thn (ha pins s σ H _ I h) fun v s1 ⟨x,H1,I1,r1,q1⟩=>?_
 refine thn (hb pins s1 σ H1 _ I1 q1) fun u s2 ⟨y,H2,I2,r2,q2⟩=>?_
 exact hf v u s2 x y H2 I2 r1 r2 q2
def sX (i:Nat):TE:=fun σ H Q=>∃v,σ[i]?=some (some v)/\Q v H
def tC (v:V):TE:=fun _ H Q=>Q v H
theorem bN {i:Nat} {x:Str} {pos:Pos} (hN:X.N[i]?=some x) (hv:Vis X.env.scope x) (hd:nDb x:=by decide) (hcd:nCd x:=by decide):PE X (.Name x pos) (sX i):=by
 intro pins s σ H Q I h;obtain ⟨v,e,h⟩:=h;obtain ⟨m,hn,hl⟩:=I.loc;obtain ⟨u,r,l⟩:=hl i x v hN e hv;have fin:EP X pins σ Q u s:=⟨v,H,I,r,h⟩
 rcases l with ⟨hk,hm⟩|⟨hk,c,hc,hcell⟩
 ·exact wpAny_Name (wpAny_loadName_local I.ok.kind hk hn hm fin) hd
 ·rcases hk with hk|hk
  ·exact wpAny_Name (wpAny_loadName_cell I.ok.kind hk hc hcell fin) hd
  ·exact wpAny_Name (wpAny_loadName_free I.ok.kind hk hc hcell fin hcd) hd
theorem qF {i j pos}:PE X (.Constant (.int i) j pos) (tC (.int i)):=fun _ _ _ H _ I h=>wpAny_Constant_int ⟨.int i,H,I.tok _,⟨_,rfl⟩,h⟩
theorem aDq {b j pos}:PE X (.Constant (.bool b) j pos) (tC (.bl b)):=fun _ _ _ H _ I h=>Constant_bool ⟨.bl b,H,I,rfl,h⟩
theorem Z8 {x j pos}:PE X (.Constant (.str x) j pos) (tC (.str x)):=fun _ _ _ H _ I h=>Calls.Constant_str ⟨.str x,H,I.tok _,⟨_,rfl⟩,h⟩
def Gl (X:Cx) (x:Str):Prop:=X.env.kindOf x=some .globalImplicit
theorem HR {E:Value->Shared->Prop} {pins:List (Addr×Obj)} {s:Shared} {σ:St} {H:Hp} {x:Str} {u:Value} {pos:Pos} {Q:Value->Shared->Prop} (I:Inv X pins σ H s) (hg:Gl X x) (hm:X.mg x=some u) (h:Q u s)
  (hd:nDb x:=by decide):wpAny (model X.prog X.w) X.A (eval (.Name x pos) X.env) Q E s:=
 Calls.Name_function_global I.ok.kind hg (Calls.loadGlobal_global (by rw [I.ok.glob];exact I.mod.glob.keeps I.bk) hm h) hd
theorem nM {E:Value->Shared->Prop} {pins:List (Addr×Obj)} {s:Shared} {σ:St} {H:Hp} {x:Str} {u:Value} {pos:Pos} {Q:Value->Shared->Prop} (I:Inv X pins σ H s) (hg:Gl X x) (hm:X.mg x=none) (hv:bootBuiltins x=some u) (h:Q u s)
  (hn:x ≠ "__name__":=by decide) (hd:nDb x:=by decide):wpAny (model X.prog X.w) X.A (eval (.Name x pos) X.env) Q E s:=by
 obtain ⟨mb,h1,h2⟩:=I.mod.blt;exact Calls.Name_function_global I.ok.kind hg (Calls.loadGlobal_builtin (by rw [I.ok.glob];exact I.mod.glob.keeps I.bk) hm (by rw [I.ok.blt];exact h1.keeps I.bk) ((h2 x hn).trans hv) h) hd
theorem V5 {x:Str} {v:V} {u:Value} {pos:Pos} (hg:Gl X x) (hm:X.mg x=none) (hv:bootBuiltins x=some u) (r:RelV v u) (hn:x ≠ "__name__":=by decide) (hd:nDb x:=by decide):PE X (.Name x pos) (tC v):=
 fun _ _ _ H _ I h=>nM I hg hm hv ⟨v,H,I,r,h⟩ hn hd
noncomputable def t2I (ta tb:TE) (k:Int->Int->Hp->Prop):St->Hp->Prop:=fun σ H=>ta σ H fun x H1=>tb σ H1 fun y H2=>∃i j,x=.int i/\y=.int j/\k i j H2
noncomputable def aFj (ta tb:TE):TE:=fun σ H Q=>t2I ta tb (fun i j H2=>Q (.int (i-j)) H2) σ H
variable {a b:Expr} {ta tb:TE} {pos:Pos}
theorem Z9 (ha:PE X a ta) (hb:PE X b tb):PE X (.BinOp a .Sub b pos) (aFj ta tb):=by
 intro pins s σ H Q I h;refine wpAny_BinOp (bin ha hb I h fun v u s2 x y H2 I2 rx ry q=>?_);obtain ⟨i,j,rfl,rfl,q⟩:=q;obtain ⟨t,rfl⟩:=rx;obtain ⟨t',rfl⟩:=ry;exact sub_int ⟨.int _,H2,I2.tok _,⟨_,rfl⟩,q⟩
noncomputable def PC (X:Cx) (op:CmpOp) (a b:Expr) (t:TE):Prop:=
 ∀(pins:List (Addr×Obj)) (s:Shared) (σ:St) (H:Hp) (Q:VK),Inv X pins σ H s->t σ H Q->
  wpAny (model X.prog X.w) X.A (eval a X.env) (fun v s₁=>wpAny (model X.prog X.w) X.A (eval b X.env) (fun u s₂=>wpAny (model X.prog X.w) X.A (compareOp op v u) (EP X pins σ Q) X.xe s₂) X.xe s₁) X.xe s
theorem QM (b:Expr) {op:CmpOp} (h:op≠.In) (h2:op≠.NotIn):behindInMarks op b=false:=by
 have e1:(op==CmpOp.In)=false:=by cases op <;> first|rfl|exact absurd rfl h
 have e2:(op==CmpOp.NotIn)=false:=by cases op <;> first|rfl|exact absurd rfl h2
 cases b <;> simp [behindInMarks,e1,e2]
noncomputable def aFk (p:Int->Int->Bool) (ta tb:TE):TE:=fun σ H Q=>t2I ta tb (fun i j H2=>Q (.bl (p i j)) H2) σ H
abbrev aFl:TE->TE->TE:=aFk fun i j=>decide (i=j)
theorem Z_ {op:CmpOp} {p:Int->Int->Bool} (ha:PE X a ta) (hb:PE X b tb)
  (rule:∀(i j:Int) (t u:Tok) (Q:Value->Shared->Prop) (s:Shared),Q (.bool (p i j)) s->wpAny (model X.prog X.w) X.A (compareOp op (.int i t) (.int j u)) Q X.xe s):PC X op a b (aFk p ta tb):=by
 intro pins s σ H Q I h;refine bin ha hb I h fun v u s2 x y H2 I2 rx ry q=>?_
 obtain ⟨i,j,rfl,rfl,q⟩:=q;obtain ⟨t,rfl⟩:=rx;obtain ⟨t',rfl⟩:=ry;exact rule i j t t' _ s2 ⟨.bl _,H2,I2,rfl,q⟩
theorem aA0 (ha:PE X a ta) (hb:PE X b tb):PC X .Eq a b (aFl ta tb):=Z_ ha hb fun _ _ _ _ _ _ h=>eq_int (by rw [Bool.beq_eq_decide_eq];exact h)
def tB (t:TE):TT:=fun σ H Q=>t σ H fun x H1=>∃c,x=.bl c/\Q c H1
theorem aA1 {op:CmpOp} {t:TE} (h:PC X op a b t) (h1:behindInMarks op b=false:=by first|exact QM _ (by decide) (by decide)|rfl):PT X (.Compare a [op] [b] pos) (tB t):=by
 intro pins s σ H Q I hw;refine wpAny_isTrue_Compare1 (thn (h pins s σ H _ I hw) fun v s1 h1=>thn h1 fun u s2 h2=>thn h2 fun c s3 ⟨x,H1,I1,r1,q1⟩=>?_) h1;obtain ⟨d,rfl,q⟩:=q1;cases r1;exact wpAny_truthy_bool ⟨H1,I1,q⟩
variable {tA tB':TT} {rest:List Expr}
noncomputable def aG2 (t u:TT):TT:=fun σ H Q=>t σ H fun c H1=>if c=true then u σ H1 Q else Q false H1
noncomputable def tOr (t u:TT):TT:=fun σ H Q=>t σ H fun c H1=>if c=true then Q true H1 else u σ H1 Q
def aG3 (t:TT):TT:=fun σ H Q=>t σ H fun c H1=>Q (!c) H1
theorem HS (ha:PT X a tA):PW X (.BoolOp .And [a] pos) tA:=by
 intro wh pins s σ H Q I h;refine isTrue_and (thn (ha pins s σ H Q I h) fun c s1 e=>?_);cases c with
 | true=>exact isTrue_and_nil e
 | false=>exact e
theorem aA2 (ha:PT X a tA):PW X (.BoolOp .Or [a] pos) tA:=by
 intro wh pins s σ H Q I h;refine isTrue_or (thn (ha pins s σ H Q I h) fun c s1 e=>?_);cases c with
 | false=>exact isTrue_or_nil e
 | true=>exact e
theorem T5 (ha:PT X a tA) (hb:PW X (.BoolOp .And (b::rest) pos) tB'):PW X (.BoolOp .And (a::b::rest) pos) (aG2 tA tB'):=by
 intro wh pins s σ H Q I h;refine isTrue_and (thn (ha pins s σ H _ I h) fun c s1 ⟨H1,I1,q1⟩=>?_);cases c with
 | true=>exact hb wh pins s1 σ H1 Q I1 q1
 | false=>exact ⟨H1,I1,q1⟩
theorem aDr (ha:PT X a tA) (hb:PW X (.BoolOp .Or (b::rest) pos) tB'):PW X (.BoolOp .Or (a::b::rest) pos) (tOr tA tB'):=by
 intro wh pins s σ H Q I h;refine isTrue_or (thn (ha pins s σ H _ I h) fun c s1 ⟨H1,I1,q1⟩=>?_);cases c with
 | true=>exact ⟨H1,I1,q1⟩
 | false=>exact hb wh pins s1 σ H1 Q I1 q1
theorem aA3 (ha:PT X a tA):PT X (.UnaryOp .Not a pos) (aG3 tA):=by
 intro pins s σ H Q I h;exact isTrue_not (ha pins s σ H (fun c H1=>Q (!c) H1) I h)
end
end L2
namespace L2
open PySem PySem.Spec PyProof.Rows
noncomputable def SqL (K:PySem.W.Frag) (H:Hp) (a:Addr) (xs:List V):Prop:=
 Rd H a (.lst xs)\/
  ∃(o:Obj) (its:Array Value) (n:Nat),K.lookup a=some o/\o.cls=.type "list"/\o.dict=none/\o.data=.seq its n/\its.size<=sizeLine/\Vals xs its.toList
noncomputable def SqT (K:PySem.W.Frag) (H:Hp) (a:Addr) (xs:List V):Prop:=
 Rd H a (.tup xs)\/
  ∃(o:Obj) (its:Array Value) (n:Nat),K.lookup a=some o/\o.cls=.type "tuple"/\o.data=.seq its n/\its.size<=sizeLine/\Vals xs its.toList
noncomputable def aG4:Value->Option V
 | .none=>some .non
 | .bool b=>some (.bl b)
 | .int i _=>some (.int i)
 | .str x _=>some (.str x)
 | .bytes b _=>some (.byt b)
 | .float b _=>some (.flt b)
 | .ref a=>some (.ref a)
 | .type n=>some (.ty n)
 | _=>none
theorem RelV.abs {x:V} {u:Value} (r:RelV x u):aG4 u=some x:=by
 cases x with
 | non=>cases r;rfl
 | bl _=>cases r;rfl
 | int _=>obtain ⟨t,rfl⟩:=r;rfl
 | str _=>obtain ⟨t,rfl⟩:=r;rfl
 | byt _=>obtain ⟨t,rfl⟩:=r;rfl
 | flt _=>obtain ⟨t,rfl⟩:=r;rfl
 | ref _=>cases r;rfl
 | ty _=>cases r;rfl
theorem RelV.inj {x y:V} {u:Value} (r:RelV x u) (q:RelV y u):x=y:=Option.some.inj (r.abs.symm.trans q.abs)
theorem Vals.inj:∀{xs ys:List V} {us:List Value},Vals xs us->Vals ys us->xs=ys
 | _,_,_,.nil,.nil=>rfl
 | _,_,_,.cons r t,.cons r' t'=>by rw [r.inj r',Vals.inj t t']
section
variable {X:Cx} {pins:List (Addr×Obj)} {σ:St} {H:Hp} {s:Shared} {a:Addr} {xs ys:List V}
theorem SqL.of {K:PySem.W.Frag} (h:H a=some (.lst xs)):SqL K H a xs:=.inl (.inl h)
theorem SqT.of {K:PySem.W.Frag} (h:H a=some (.tup xs)):SqT K H a xs:=.inl (.inl h)
theorem Inv.list (I:Inv X pins σ H s) (h:SqL X.K H a xs):∃its:List Value,Vals xs its/\PlainL s.heap a its.toArray/\xs.length<=sizeLine:=by
 rcases h with h|⟨o,its,n,hk,hc,hd,hs,hz,r⟩
 ·obtain ⟨z,its,n,r,e⟩:=h.ok I.hok;exact ⟨its,r,⟨_,n,e,rfl,rfl,rfl⟩,z⟩
 ·refine ⟨its.toList,r,⟨o,n,I.kIn a o hk,hc,hd,by simpa using hs⟩,?_⟩;have e:=r.length;simp only [Array.length_toList] at e;lia
theorem Inv.tuple (I:Inv X pins σ H s) (h:SqT X.K H a xs):∃its:List Value,Vals xs its/\IsTup s.heap a its.toArray/\xs.length<=sizeLine:=by
 rcases h with h|⟨o,its,n,hk,hc,hs,hz,r⟩
 ·obtain ⟨z,its,r,p⟩:=h.ok I.hok;exact ⟨its,r,p.tup,z⟩
 ·refine ⟨its.toList,r,⟨o,I.kIn a o hk,hc,n,by simpa using hs⟩,?_⟩;have e:=r.length;simp only [Array.length_toList] at e;lia
theorem Inv.QR (I:Inv X pins σ H s) (h:SqL X.K H a xs) (h':SqL X.K H a ys):xs=ys:=by
 obtain ⟨its,r,⟨o,n,e,_,_,d⟩,_⟩:=I.list h;obtain ⟨its',r',⟨o',n',e',_,_,d'⟩,_⟩:=I.list h';rw [e] at e';cases e';rw [d] at d';injection d' with d1 _
 have:its=its':=by simpa using congrArg Array.toList d1
 subst this;exact r.inj r'
theorem Inv.HW (I:Inv X pins σ H s) (h:SqT X.K H a xs) (h':SqT X.K H a ys):xs=ys:=by
 obtain ⟨its,r,⟨o,e,_,n,d⟩,_⟩:=I.tuple h;obtain ⟨its',r',⟨o',e',_,n',d'⟩,_⟩:=I.tuple h';rw [e] at e';cases e';rw [d] at d';injection d' with d1 _
 have:its=its':=by simpa using congrArg Array.toList d1
 subst this;exact r.inj r'
end
abbrev Cx.wish (X:Cx) (E:Value->Shared->Prop):Cx:={X with xe:=E}
abbrev Cx.nox (X:Cx):Cx:=X.wish fun _ _=>False
theorem Cx.Ok.wish {X:Cx} (ok:X.Ok) (E:Value->Shared->Prop):(X.wish E).Ok:=
 ⟨ok.mod,ok.kind,ok.glob,ok.blt,ok.above,ok.inj,ok.has,ok.cab,ok.hd,ok.frames,ok.stk,ok.exf,ok.bs,ok.bsz,ok.noex,ok.exfs,ok.G8,ok.frf⟩
theorem Cx.Ok.nO {X:Cx} {E:Value->Shared->Prop} (ok:(X.wish E).Ok):X.Ok:=
 ⟨ok.mod,ok.kind,ok.glob,ok.blt,ok.above,ok.inj,ok.has,ok.cab,ok.hd,ok.frames,ok.stk,ok.exf,ok.bs,ok.bsz,ok.noex,ok.exfs,ok.G8,ok.frf⟩
section
variable {X:Cx} {pins:List (Addr×Obj)} {σ:St} {H:Hp} {s:Shared} {E:Value->Shared->Prop}
theorem Inv.wish (I:Inv X pins σ H s) (E:Value->Shared->Prop):Inv (X.wish E) pins σ H s:=⟨I.ok.wish E,I.os,I.bare,I.base,I.loc,I.cell,I.free,I.freeC,I.pin,I.hok,I.len⟩
theorem Inv.nO (I:Inv (X.wish E) pins σ H s):Inv X pins σ H s:=⟨I.ok.nO,I.os,I.bare,I.base,I.loc,I.cell,I.free,I.freeC,I.pin,I.hok,I.len⟩
theorem SP.nO {D:Ends} {f:Flow} {s':Shared} (h:SP (X.wish E) pins D f s'):SP X pins D f s':=by
 cases f with
 | next=>obtain ⟨σ',H',I,q⟩:=h;exact ⟨σ',H',I.nO,q⟩
 | brk=>obtain ⟨σ',H',I,q⟩:=h;exact ⟨σ',H',I.nO,q⟩
 | cont=>obtain ⟨σ',H',I,q⟩:=h;exact ⟨σ',H',I.nO,q⟩
 | ret u=>obtain ⟨v,σ',H',I,r,q⟩:=h;exact ⟨v,σ',H',I.nO,r,q⟩
theorem PSs.nox {st:List Stmt} {t:TS} (h:PSs X.nox st t):PSs X st t:=fun pins s σ H D I hw=>
 wpAny_mono (h pins s σ H D (I.wish _) hw) (fun _ _ q=>q.nO) fun _ _ z=>False.elim z
end
section
variable {X:Cx} {st:Stmt} {rest:List Stmt} {t u:TS} {e:Expr} {te:TE} {pos:Pos}
def aA4:TS:=fun D σ H=>D.nx σ H
def T6 (t u:TS):TS:=fun D σ H=>t {D with nx:=u D} σ H
theorem vY:PSs X [] aA4:=fun _ _ σ H _ I h=>wpAny_execs_nil ⟨σ,H,I,h⟩
theorem cN (h1:PS X st t) (h2:PSs X rest u):PSs X (st::rest) (T6 t u):=by
 intro pins s σ H D I h;refine wpAny_execs_cons (thn (h1 pins s σ H {D with nx:=u D} I h) fun f s1 q=>?_);cases f with
 | next=>
  obtain ⟨σ',H',I',q⟩:=q;exact h2 pins s1 σ' H' D I' q
 | ret v=>exact q
 | brk=>exact q
 | cont=>exact q
theorem oG (h1:PS X st t):PSs X [st] t:=by
 intro pins s σ H D I h;refine wpAny_execs_cons (thn (h1 pins s σ H D I h) fun f s1 q=>?_);cases f with
 | next=>exact wpAny_execs_nil q
 | ret v=>exact q
 | brk=>exact q
 | cont=>exact q
theorem Inv.quiet {pins:List (Addr×Obj)} {σ:St} {H:Hp} {s:Shared} (I:Inv X pins σ H s):interactive X.env=false:=by simp [interactive,I.ok.kind]
def V6 (te:TE):TS:=fun D σ H=>te σ H fun _ H1=>D.nx σ H1
theorem oH (he:PE X e te) (hs:swapsWith e none pos.line X.env=pure false:=by rfl):PS X (.Expr e pos) (V6 te):=by
 intro pins s σ H D I h;exact wpAny_Expr_any (thn (he pins s σ H _ I h) fun v s1 ⟨x,H1,I1,r1,q1⟩=>⟨σ,H1,I1,q1⟩) I.quiet hs
def aFm (te:TE):TS:=fun D σ H=>te σ H D.rt
theorem qG (he:PE X e te):PS X (.Return (some e) pos) (aFm te):=by
 intro pins s σ H D I h;exact wpAny_Return_some (thn (he pins s σ H _ I h) fun v s1 ⟨x,H1,I1,r1,q1⟩=>⟨x,σ,H1,I1,r1,q1⟩)
noncomputable def aFn (c:TT) (t u:TS):TS:=fun D σ H=>c σ H fun b H1=>if b=true then t D σ H1 else u D σ H1
theorem V7 {c:Expr} {a b:List Stmt} {tc:TT} (hc:PT X c tc) (ha:PSs X a t) (hb:PSs X b u):PS X (.If c a b pos) (aFn tc t u):=by
 intro pins s σ H D I h;refine wpAny_If (thn (hc pins s σ H _ I h) fun d s1 ⟨H1,I1,q1⟩=>?_);cases d with
 | true=>exact ha pins s1 σ H1 D I1 q1
 | false=>exact hb pins s1 σ H1 D I1 q1
end
abbrev TG:=V->St->Hp->(St->Hp->Prop)->Prop
abbrev TGs:=List V->St->Hp->(St->Hp->Prop)->Prop
noncomputable def PG (X:Cx) (target:Expr) (t:TG):Prop:=
 ∀(pins:List (Addr×Obj)) (s:Shared) (σ:St) (H:Hp) (v:V) (u:Value) (Q:St->Hp->Prop),Inv X pins σ H s->RelV v u->t v σ H Q->
  wpAny (model X.prog X.w) X.A (assign target X.env u) (fun _ s'=>∃σ' H',Inv X pins σ' H' s'/\Q σ' H') X.xe s
noncomputable def PGs (X:Cx) (ts:List Expr) (t:TGs):Prop:=
 ∀(pins:List (Addr×Obj)) (s:Shared) (σ:St) (H:Hp) (vs:List V) (us:List Value) (Q:St->Hp->Prop),Inv X pins σ H s->Vals vs us->t vs σ H Q->
  wpAny (model X.prog X.w) X.A (assignInOrder ((assignEach ts X.env).map (·.2)) us) (fun _ s'=>∃σ' H',Inv X pins σ' H' s'/\Q σ' H') X.xe s
abbrev aG5:=V->V->V->Hp->(Hp->Prop)->Prop
noncomputable def aG6 (X:Cx) (t:aG5):Prop:=
 ∀(pins:List (Addr×Obj)) (s:Shared) (σ:St) (H:Hp) (o i v:V) (ov iv u:Value) (Q:Hp->Prop),Inv X pins σ H s->RelV o ov->RelV i iv->RelV v u->t o i v H Q->
  wpAny (model X.prog X.w) X.A (setItem ov iv u) (fun _ s'=>∃H',Inv X pins σ H' s'/\Q H') X.xe s
section
variable {X:Cx} {pos:Pos}
def jW (i:Nat):TG:=fun v σ H Q=>Q (σ.set i (some v)) H
theorem aZ {i:Nat} {x:Str} (hN:X.N.Nodup) (hi:X.N[i]?=some x) (hx:Loc X.env.scope x) (hf:X.fn x=true\/X.env.scope.names.lookup x=some .local:=by first|exact .inl rfl|exact .inr rfl|assumption):PG X (.Name x pos) (jW i):=by
 intro pins s σ H v u Q I r h;exact wpAny_assign_Name (xY I hN hi hx r (fun s' I'=>⟨_,H,I',h⟩) hf)
def aFo:TGs:=fun vs σ H Q=>vs=[]/\Q σ H
noncomputable def aA5 (t:TG) (u:TGs):TGs:=fun vs σ H Q=>∃v r,vs=v::r/\t v σ H fun σ' H'=>u r σ' H' Q
theorem vZ:PGs X [] aFo:=by
 intro pins s σ H vs us Q I r h;obtain ⟨e,h⟩:=h;subst e;cases r;exact assignInOrder_nil ⟨σ,H,I,h⟩
theorem eG {e:Expr} {es:List Expr} {t:TG} {u:TGs} (h1:PG X e t) (h2:PGs X es u)
  (hs:(assignEach (e::es) X.env).map (·.2)=assign e X.env::(assignEach es X.env).map (·.2):=by rfl):PGs X (e::es) (aA5 t u):=by
 intro pins s σ H vs us Q I r h;obtain ⟨v,vr,e1,h⟩:=h;subst e1;cases r with
 | cons r rr=>
  rw [hs];refine assignInOrder_cons (thn (h1 pins s σ H _ _ _ I r h) fun _ s1 ⟨σ1,H1,I1,q1⟩=>?_);exact h2 pins s1 σ1 H1 _ _ Q I1 rr q1
noncomputable def aFp (K:PySem.W.Frag) (n:Nat) (t:TGs):TG:=fun v σ H Q=>∃a xs,v=.ref a/\SqT K H a xs/\xs.length=n/\t xs σ H Q
theorem T7 {es:List Expr} {k:Nat} {t:TGs} {n:Nat} (hc:X.calm=true) (h:PGs X es t)
  (hn:(assignEach es X.env).length=n:=by rfl) (hst:(assignEach es X.env).findIdx? (·.1)=none:=by rfl):PG X (.Tuple es k pos) (aFp X.K n t):=by
 intro pins s σ H v u Q I r hw;obtain ⟨a,xs,e1,hq,hl,hw⟩:=hw;subst e1;cases r;obtain ⟨its,rv,ht,hz⟩:=I.tuple hq;refine assign_Tuple_tuple (I.ok.hd hc) ht (by simp [hn,<-hl,rv.length]) hst fun h' hx=>?_
 have I1:Inv X pins σ H {s with heap:=h'}:=I.kept (t':=s.toks) fun b o e=>hx b o (Nat.ne_of_lt (Heap.lt_size e)) e
 exact h pins _ σ H xs _ Q I1 (by simpa using rv) hw
def HX (te:TE) (g:TG):TS:=fun D σ H=>te σ H fun x H1=>g x σ H1 D.nx
theorem xZ {tg e:Expr} {te:TE} {g:TG} (he:PE X e te) (hg:PG X tg g) (hs:swapsWithSole [tg] e pos.line X.env=pure false:=by rfl) (hw:swappedStores [tg] e X.env=pure none:=by rfl)
  (h1:(assignEach [tg] X.env).map (·.2)=[assign tg X.env]:=by rfl):PS X (.Assign [tg] e pos) (HX te g):=by
 intro pins s σ H D I h;refine wpAny_Assign_stores (thn (he pins s σ H _ I h) fun v s1 ⟨x,H1,I1,r1,q1⟩=>?_) hs hw;rw [h1];exact thn (hg pins s1 σ H1 x v _ I1 r1 q1) fun _ s2 q=>q
theorem sZ {i:Nat} {x:Str} {e:Expr} {te:TE} {pos':Pos} (hN:X.N.Nodup) (hi:X.N[i]?=some x) (hx:Loc X.env.scope x) (he:PE X e te) (hs:swapsWith e (some (.Name x pos')) pos.line X.env=pure false:=by rfl) (hf:X.fn x=true\/X.env.scope.names.lookup x=some .local:=by first|exact .inl rfl|exact .inr rfl|assumption) :
  PS X (.Assign [.Name x pos'] e pos) (HX te (jW i)):=by
 intro pins s σ H D I h;refine wpAny_Assign_Name (thn (he pins s σ H _ I h) fun v s1 ⟨y,H1,I1,r1,q1⟩=>?_) hs;exact xY I1 hN hi hx r1 (fun s2 I2=>⟨_,H1,I2,q1⟩) hf
end
section
variable {X:Cx} {pos:Pos}
noncomputable def HY (c:TT) (tb:TS):TS:=fun D σ H=>∃W:Nat->St->Hp->Prop,(∃m,W m σ H)/\∀m σ H,W m σ H->
 c σ H fun b H1=>if b=true then ∃N:St->Hp->Prop,(∀σ' H',N σ' H'->∃m',m'<m/\W m' σ' H')/\tb {D with nx:=N,ct:=N,bk:=D.nx} σ H1 else D.nx σ H1
theorem x_ {c:Expr} {body:List Stmt} {tc:TT} {tb:TS} (hp:PassesOwn (model X.prog X.w) X.A X.env X.xe) (hc:PT X c tc) (hb:PSs X body tb):PS X (.While c body [] pos) (HY tc tb):=by
 intro pins s σ H D I h;obtain ⟨W,⟨m0,w0⟩,turn⟩:=h;refine wpAny_While (codeAny_whileLoop (fun n s'=>∃σ' H',Inv X pins σ' H' s'/\W n σ' H') ?_ m0 ⟨σ,H,I,w0⟩);rintro n s1 ⟨σ1,H1,I1,w1⟩;refine wpAny_passesOwn hp (thn (hc pins s1 σ1 H1 _ I1 (turn n σ1 H1 w1)) fun b s2 ⟨H2,I2,q2⟩=>?_);cases b with
 | true=>
  obtain ⟨N,hN,q2⟩:=q2;rw [if_pos rfl];refine wpAny_passesOwn hp (thn (hb pins s2 σ1 H2 _ I2 q2) fun f s3 q3=>?_);cases f with
  | next=>
   obtain ⟨σ3,H3,I3,n3⟩:=q3;obtain ⟨m',hm,w3⟩:=hN σ3 H3 n3;exact ⟨m',hm,σ3,H3,I3,w3⟩
  | cont=>
   obtain ⟨σ3,H3,I3,n3⟩:=q3;obtain ⟨m',hm,w3⟩:=hN σ3 H3 n3;exact ⟨m',hm,σ3,H3,I3,w3⟩
  | brk=>exact q3
  | ret v=>exact q3
 | false=>
  rw [if_neg Bool.false_ne_true];exact wpAny_execs_nil ⟨σ1,H2,I2,q2⟩
end
structure It where
 go:Nat->Hp->Prop
 yld:Nat->Hp->V->Hp->Prop
 stop:Nat->Hp->Prop
noncomputable def H_ (X:Cx) (pins:List (Addr×Obj)) (H:Hp) (b:Addr):Prop:=
 H b=none/\b≠X.env.locals/\b∉X.fs/\(b∈X.ex\/X.s₀.heap.objs.size<=b)/\(∀x c,X.env.cells.lookup x=some c->c≠b)/\∀p∈X.pn++pins,p.1≠b
theorem Inv.aDc {X:Cx} {pins:List (Addr×Obj)} {σ:St} {H H':Hp} {s:Shared} {b:Addr} (I:Inv X pins σ H s) (hb:s.heap.objs.size<=b) (hn:H' b=none):H_ X pins H' b:=by
 refine ⟨hn,Nat.ne_of_gt (Nat.lt_of_lt_of_le I.lt hb),I.aFi hb,.inr (Nat.le_trans I.sz hb),fun x c e z=>?_,fun p hp z=>?_⟩
 ·obtain ⟨v,q⟩:=I.cell x c e;exact absurd (Nat.lt_of_lt_of_le q.lt (by rw [z];exact hb)) (Nat.lt_irrefl _)
 ·exact absurd (Nat.lt_of_lt_of_le (Heap.lt_size (I.pin p hp).1) (by rw [z];exact hb)) (Nat.lt_irrefl _)
structure Turn (P:Program) (w:World) (K:PySem.W.Frag) (tg:Expr) (J:It) (fp:List Addr) (it:Addr) (tn:Nat->Heap->Prop):Prop where
 mem:it∈fp
 obj:∀i h,tn i h->∀b∈fp,∃o,h.get? b=some o/\∀v,o.data≠.cell v
 keep:∀i h h',tn i h->(∀b∈fp,∀o,h.get? b=some o->h'.get? b=some o)->tn i h'
 item:∀(X:Cx),X.prog=P->X.w=w->X.K=K->X.calm=true->∀(i:Nat) (pins:List (Addr×Obj)) (s:Shared) (σ:St) (H:Hp) (E:Value->Shared->Prop),Inv X pins σ H s->(∀b∈fp,H_ X pins H b)->tn i s.heap->J.go i H->
  wpAny (model P w) X.A (pyNext (.ref it)) (fun r s1=>∃u,r=some u/\
   wpAny (model P w) X.A (letOwnedTupleGo tg (.ref it) u) (fun _ s2=>∃x H',Inv X pins σ H' s2/\RelV x u/\J.yld i H x H'/\tn (i+1) s2.heap/\∀b∈fp,H' b=none) E s1) E s
 done:∀(X:Cx),X.prog=P->X.w=w->X.K=K->X.calm=true->∀(i:Nat) (pins:List (Addr×Obj)) (s:Shared) (σ:St) (H:Hp) (E:Value->Shared->Prop),Inv X pins σ H s->(∀b∈fp,H_ X pins H b)->tn i s.heap->J.stop i H->
  wpAny (model P w) X.A (pyNext (.ref it)) (fun r s1=>r=none/\Inv X pins σ H s1) E s
 self:∀(A:Around) (i:Nat) (s:Shared) (Q:Value->Shared->Prop) (E:Value->Shared->Prop),tn i s.heap->Q (.ref it) s->wpAny (model P w) A (pyIter (.ref it)) Q E s
abbrev TI:=St->Hp->(It->Hp->Prop)->Prop
noncomputable def PIE (X:Cx) (pins:List (Addr×Obj)) (σ:St) (tg:Expr) (R:It->Hp->Prop) (itv:Value) (s2:Shared):Prop:=
 ∃(it:Addr) (fp:List Addr) (tn:Nat->Heap->Prop) (J:It) (H':Hp),itv=.ref it/\Inv X pins σ H' s2/\Turn X.prog X.w X.K tg J fp it tn/\tn 0 s2.heap/\(∀b∈fp,H_ X pins H' b)/\R J H'
noncomputable def PI (X:Cx) (tg iter:Expr) (wi:TI):Prop:=
 ∀(pins:List (Addr×Obj)) (s:Shared) (σ:St) (H:Hp) (R:It->Hp->Prop),Inv X pins σ H s->wi σ H R->
  wpAny (model X.prog X.w) X.A (eval iter X.env) (fun v s1=>wpAny (model X.prog X.w) X.A (pyIter v) (PIE X pins σ tg R) X.xe s1) X.xe s
theorem QS {M:Model} {A:Around} {E:Value -> Shared -> Prop} {s:Shared} {tg:Expr} {it:Addr} {u:Value} {o:Obj} {n:String} {vs:Array Value} {Q:Unit -> Shared -> Prop} (ho:s.heap.get? it=some o) (hc:o.cls=.type n) (hd:o.data=.fields vs)
    (hn:["enumerate", "zip", "dict_itemiterator", "dict_reverseitemiterator", "odict_iterator", "itertools.zip_longest", "itertools.pairwise"].contains n=false) (hQ:Q () s):wpAny M A (letOwnedTupleGo tg (.ref it) u) Q E s := by
  unfold letOwnedTupleGo;cases tg <;> first
    | exact wpAny_pure hQ
    | (cases u <;> first
        | exact wpAny_pure hQ
        | (refine wpAny_bind (wpAny_load ho ?_)
           rw [hc, hd];show wpAny M A (if (["enumerate", "zip", "dict_itemiterator", "dict_reverseitemiterator", "odict_iterator", "itertools.zip_longest", "itertools.pairwise"].contains n&&vs[0]?==some (rawInt _))=true then _ else _) Q E s;rw [if_neg (by intro h; rw [hn, Bool.false_and] at h; cases h)];exact wpAny_pure hQ))
noncomputable def Itl (K:PySem.W.Frag) (a:Addr):It:=
 ⟨fun i H=>∃xs x,SqL K H a xs/\xs[i]?=some x,fun i H x H'=>H'=H/\∀xs,SqL K H a xs->xs[i]?=some x,fun i H=>∃xs,SqL K H a xs/\xs.length<=i⟩
noncomputable def Itt (K:PySem.W.Frag) (a:Addr):It:=
 ⟨fun i H=>∃xs x,SqT K H a xs/\xs[i]?=some x,fun i H x H'=>H'=H/\∀xs,SqT K H a xs->xs[i]?=some x,fun i H=>∃xs,SqT K H a xs/\xs.length<=i⟩
noncomputable def Itr (lo:Int) (n:Nat):It:=⟨fun i _=>i<n,fun i H x H'=>H'=H/\x=.int (lo+i),fun i _=>n<=i⟩
theorem IK {P:Program} {w:World} {K:PySem.W.Frag} {tg:Expr} (a it:Addr):Turn P w K tg (Itl K a) [it] it (fun i h=>h.IsListIter it a i) where
 mem:=by simp
 obj:=fun i h st b hb=>by
  have e:b=it:=by simpa using hb
  subst e;obtain ⟨o,e,c,d⟩:=st;exact ⟨o,e,fun v z=>by rw [d] at z;cases z⟩
 keep:=fun i h h' st k=>st.at fun o e=>k it (by simp) o e
 item:=by
  intro X hP hw hK hc i pins s σ H E I hf st hg;subst hP hw hK;obtain ⟨xs,x,hq,hx⟩:=hg;obtain ⟨its,rv,p,hz⟩:=I.list hq;obtain ⟨u,hu,ru⟩:=rv.get hx;obtain ⟨f0,f1,f2,f3,f4,f5⟩:=hf it (by simp);refine wpAny_pyNext_list_item st p.isList (x:=u) (by simpa using hu) fun h' st' sb=>?_
  have I1:Inv X pins σ H {s with heap:=h'}:=I.turned (t':=s.toks) (fun b o hb e=>(sb.2 b hb).trans e) f0 f1 f3 f4 f5;obtain ⟨o,e,c,d⟩:=id st';exact ⟨u,rfl,QS (s:={s with heap:=h'}) e c d (by decide) ⟨x,H,I1,ru,⟨rfl,fun ys hy=>by rw [I.QR hy hq];exact hx⟩,st',fun b hb=>(hf b hb).1⟩⟩
 done:=by
  intro X hP hw hK hc i pins s σ H E I hf st hg;subst hP hw hK;obtain ⟨xs,hq,hx⟩:=hg;obtain ⟨its,rv,p,hz⟩:=I.list hq;obtain ⟨f0,f1,f2,f3,f4,f5⟩:=hf it (by simp);have hl:=rv.length;exact wpAny_pyNext_list_end (I.ok.hd hc) st p.isList (by simp;lia) fun h' eb=>⟨rfl,I.turned (t':=s.toks) (fun b o hb e=>eb b o hb e) f0 f1 f3 f4 f5⟩
 self:=fun _ _ _ _ _ st h=>wpAny_pyIter_listiter st h
theorem BX {P:Program} {w:World} {K:PySem.W.Frag} {tg:Expr} (a it:Addr):Turn P w K tg (Itt K a) [it] it (fun i h=>h.IsTupleIter it a i) where
 mem:=by simp
 obj:=fun i h st b hb=>by
  have e:b=it:=by simpa using hb
  subst e;obtain ⟨o,e,c,d⟩:=st;exact ⟨o,e,fun v z=>by rw [d] at z;cases z⟩
 keep:=fun i h h' st k=>st.at fun o e=>k it (by simp) o e
 item:=by
  intro X hP hw hK hc i pins s σ H E I hf st hg;subst hP hw hK;obtain ⟨xs,x,hq,hx⟩:=hg;obtain ⟨its,rv,p,hz⟩:=I.tuple hq;obtain ⟨u,hu,ru⟩:=rv.get hx;obtain ⟨f0,f1,f2,f3,f4,f5⟩:=hf it (by simp);refine wpAny_pyNext_tuple_item st (show s.heap.IsTuple a its.toArray from p) (x:=u) (by simpa using hu) fun h' st' sb=>?_
  have I1:Inv X pins σ H {s with heap:=h'}:=I.turned (t':=s.toks) (fun b o hb e=>(sb.2 b hb).trans e) f0 f1 f3 f4 f5;obtain ⟨o,e,c,d⟩:=id st';exact ⟨u,rfl,QS (s:={s with heap:=h'}) e c d (by decide) ⟨x,H,I1,ru,⟨rfl,fun ys hy=>by rw [I.HW hy hq];exact hx⟩,st',fun b hb=>(hf b hb).1⟩⟩
 done:=by
  intro X hP hw hK hc i pins s σ H E I hf st hg;subst hP hw hK;obtain ⟨xs,hq,hx⟩:=hg;obtain ⟨its,rv,p,hz⟩:=I.tuple hq;obtain ⟨f0,f1,f2,f3,f4,f5⟩:=hf it (by simp);have hl:=rv.length;exact wpAny_pyNext_tuple_end (I.ok.hd hc) st (show s.heap.IsTuple a its.toArray from p) (by simp;lia) fun h' eb=>⟨rfl,I.turned (t':=s.toks) (fun b o hb e=>eb b o hb e) f0 f1 f3 f4 f5⟩
 self:=fun _ _ _ _ _ st h=>wpAny_pyIter_tupleiter st h
theorem BZ {P:Program} {w:World} {K:PySem.W.Frag} {tg:Expr} (it:Addr) (lo:Int) (n:Nat):Turn P w K tg (Itr lo n) [it] it (fun i h=>IsRangeIter h it (lo+(i:Nat)*1) ((n:Int)-(i:Nat)) 1) where
 mem:=by simp
 obj:=fun i h st b hb=>by
  have e:b=it:=by simpa using hb
  subst e;exact ⟨_,st,fun v z=>by
   have z':Data.fields _=Data.cell v:=z;cases z'⟩
 keep:=fun i h h' st k=>k it (by simp) _ st
 item:=by
  intro X hP hw hK hc i pins s σ H E I hf st hg;subst hP hw hK;obtain ⟨f0,f1,f2,f3,f4,f5⟩:=hf it (by simp);have W:=Walks.range (prog:=X.prog) (w:=X.w) (I.ok.hd hc) it lo 1 n;refine W.item i s _ _ hg st fun v h' tk hv st' kk=>?_
  obtain ⟨t,rfl⟩:=hv;have I1:Inv X pins σ H {s with heap:=h',toks:=tk}:=I.turned (fun b o hb e=>kk b o (by simpa using hb) e) f0 f1 f3 f4 f5;refine ⟨_,rfl,QS (s:={s with heap:=h',toks:=tk}) (n := "range_iterator") st' rfl rfl (by decide) ⟨.int (lo+i),H,I1,⟨t,?_⟩,⟨rfl,rfl⟩,st',fun b hb=>(hf b hb).1⟩⟩;rw [Int.mul_one]
 done:=by
  intro X hP hw hK hc i pins s σ H E I hf st hg;subst hP hw hK;obtain ⟨f0,f1,f2,f3,f4,f5⟩:=hf it (by simp);exact wpAny_pyNext_range_end (I.ok.hd hc) st (by have:n<=i:=hg;lia) fun h' eb=>⟨rfl,I.turned (t':=s.toks) (fun b o hb e=>eb b o hb e) f0 f1 f3 f4 f5⟩
 self:=fun _ _ _ _ _ st h=>wpAny_pyIter_rangeiter st h
end L2
namespace L2
open PySem PySem.Spec PyProof.Rows
section
variable {X:Cx} {tg:Expr}
theorem QT {pins:List (Addr×Obj)} {σ:St} {H:Hp} {s:Shared} {R:It->Hp->Prop} {E:Value->Shared->Prop} {lo hi:Int} {t u v:Tok} {tk:Nat} (I:Inv X pins σ H s) (h1:-(2 ^ 62)<=lo) (h2:lo<2 ^ 62) (h3:-(2 ^ 62)<=hi) (h4:hi<2 ^ 62)
  (q:R (Itr lo (hi-lo).toNat) H):wpAny (model X.prog X.w) X.A (pyIter (.ref s.heap.objs.size)) (PIE X pins σ tg R) E {s with heap:=s.heap.push {cls:=.type "range",data:=.fields #[.int lo t,.int hi u,.int 1 v]},toks:=tk}:=by
 refine wpAny_pyIter_range (IsRange.new ..) (small_one h1 h2 h3 h4) ?_;have I1:Inv X pins σ H {s with heap:=s.heap.push {cls:=.type "range",data:=.fields #[.int lo t,.int hi u,.int 1 v]},toks:=tk}:=I.kept fun b o e=>Heap.get?_push_of_some _ e
 refine ⟨(s.heap.push {cls:=.type "range",data:=.fields #[.int lo t,.int hi u,.int 1 v]}).objs.size,[(s.heap.push {cls:=.type "range",data:=.fields #[.int lo t,.int hi u,.int 1 v]}).objs.size],_,_,H,rfl,
  I1.kept (t':=tk) fun b o e=>Heap.get?_push_of_some _ e,BZ _ lo (hi-lo).toNat,?_,fun b hb=>?_,q⟩
 ·have e1:lo+((0:Nat):Int)*1=lo:=by simp
  have e2:(((hi-lo).toNat:Nat):Int)-((0:Nat):Int)=Builtin.Range.rangeSize lo hi 1:=by rw [rangeSize_one];split <;> lia
  show IsRangeIter _ _ (lo+((0:Nat):Int)*1) ((((hi-lo).toNat:Nat):Int)-((0:Nat):Int)) 1;rw [e1,e2];exact Heap.get?_push_size _ rfl
 ·have e:b=(s.heap.push {cls:=.type "range",data:=.fields #[.int lo t,.int hi u,.int 1 v]}).objs.size:=by simpa using hb
  subst e;exact I1.aDc (Nat.le_refl _) (I1.hok.fresh (Nat.le_refl _))
noncomputable def aDs (ta:TA):TI:=fun σ H R=>ta σ H fun vs H1=>∃j:Int,vs=[.int j]/\-(2 ^ 62)<=j/\j<2 ^ 62/\R (Itr 0 j.toNat) H1
theorem tD {a:Expr} {ta:TA} {p pos:Pos} (hg:Gl X "range") (hm:X.mg "range" = none) (ha:PA X [a] ta) (hs:starEach [a] X.env=[(false,eval a X.env)]:=by rfl):PI X tg (.Call (.Name "range" p) [a] [] pos) (aDs ta):=by
 intro pins s σ H R I h;refine Call_ (nM I hg hm boot_range (PyProof.Rows.callWith_type1 (thn (ha pos pins s σ H _ I h) fun us s1 ⟨vs,H1,I1,r1,q1⟩=>?_) hs rfl));obtain ⟨j,e,q1,q2,q⟩:=q1;subst e;cases r1 with
 | cons r rr=>
  cases rr;obtain ⟨t,rfl⟩:=r;exact call_range_1 (QT I1 (by lia) (by lia) q1 q2 (by simpa using q))
noncomputable def aG7 (wi:TI) (g:TG) (tb:TS):TS:=fun D σ H=>wi σ H fun J H1=>∃W:Nat->Nat->St->Hp->Prop,(∃m,W 0 m σ H1)/\∀i m σ H,W i m σ H->
 (J.stop i H/\D.nx σ H)\/(J.go i H/\∃N:St->Hp->Prop,(∀σ' H',N σ' H'->∃m',m'<m/\W (i+1) m' σ' H')/\∀x H',J.yld i H x H'->g x σ H' fun σ2 H2=>tb {D with nx:=N,ct:=N,bk:=D.nx} σ2 H2)
noncomputable def oJ (fp:List Addr) (h:Heap):List (Addr×Obj):=fp.filterMap fun b=>(h.get? b).map fun o=>(b,o)
theorem kW {fp:List Addr} {h:Heap} {b:Addr} {o:Obj} (hb:b∈fp) (e:h.get? b=some o):(b,o)∈oJ fp h:=List.mem_filterMap.mpr ⟨b,hb,by rw [e];rfl⟩
theorem IV {fp:List Addr} {h:Heap} {p:Addr×Obj} (hp:p∈oJ fp h):p.1∈fp/\h.get? p.1=some p.2:=by
 obtain ⟨b,hb,e⟩:=List.mem_filterMap.mp hp;cases q:h.get? b with
 | none=>rw [q] at e;cases e
 | some o=>
  rw [q] at e;have e':(b,o)=p:=Option.some.inj e;subst e';exact ⟨hb,q⟩
theorem Inv.pinned {pins:List (Addr×Obj)} {σ:St} {H:Hp} {s:Shared} {fp:List Addr} (I:Inv X pins σ H s) (hf:∀b∈fp,H_ X pins H b) (ho:∀b∈fp,∃o,s.heap.get? b=some o/\∀v,o.data≠.cell v):Inv X (pins++oJ fp s.heap) σ H s:=
 I.vX fun p hp=>(List.mem_append.mp hp).elim (fun z=>I.pin p (List.mem_append_right _ z)) fun z=>by
  obtain ⟨hb,e⟩:=IV z;obtain ⟨f0,f1,f2,_⟩:=hf p.1 hb;obtain ⟨o,e',d⟩:=ho p.1 hb;rw [e] at e';cases e';exact ⟨e,f0,f1,f2,d⟩
theorem Inv.l_ {pins pl:List (Addr×Obj)} {σ:St} {H:Hp} {s:Shared} (I:Inv X (pins++pl) σ H s):Inv X pins σ H s:=I.vX fun p hp=>I.pin p (List.mem_append_right _ (List.mem_append_left _ hp))
theorem IW {iter:Expr} {body:List Stmt} {wi:TI} {g:TG} {tb:TS} {pos:Pos} (hp:PassesOwn (model X.prog X.w) X.A X.env X.xe) (hc:X.calm=true) (hi:PI X tg iter wi) (hg:PG X tg g) (hb:PSs X body tb)
  (hs:∀x,foldedSetIterable iter X.env x=pure x:=by intro _;rfl):PS X (.For tg iter body [] pos) (aG7 wi g tb):=by
 intro pins s σ H D I h;refine wpAny_For (thn (hi pins s σ H _ I h) fun v s1 h1=>thn h1 fun itv s2 h2=>?_) hs;obtain ⟨it,fp,tn,J,H2,e,I2,T,st2,f2,W,⟨m0,w0⟩,turn⟩:=h2;subst e
 -- what stays true of the iterator's objects through the loop
 have stat:∀{H':Hp},(∀b∈fp,H' b=none)->∀b∈fp,H_ X pins H' b:=fun hn b hb=>⟨hn b hb,(f2 b hb).2⟩
 refine codeAny_forLoop_any (fun n s'=>∃i σ' H',Inv X pins σ' H' s'/\tn i s'.heap/\(∀b∈fp,H' b=none)/\W i n σ' H') ?_ m0 ⟨0,σ,H2,I2,st2,fun b hb=>(f2 b hb).1,w0⟩;rintro n s3 ⟨i,σ3,H3,I3,st3,fr3,w3⟩;rcases turn i n σ3 H3 w3 with ⟨stop,qn⟩|⟨go,N,hN,step⟩
 ·refine wpAny_passesOwn hp (thn (T.done X rfl rfl rfl hc i pins s3 σ3 H3 X.xe I3 (stat fr3) st3 stop) fun r s4 ⟨hr,I4⟩=>?_);subst hr;exact wpAny_execs_nil ⟨σ3,H3,I4,qn⟩
 ·refine wpAny_passesOwn hp (thn (T.item X rfl rfl rfl hc i pins s3 σ3 H3 X.xe I3 (stat fr3) st3 go) fun r s4 ⟨u,hr,h4⟩=>?_);subst hr;refine wpAny_passesOwn hp (thn h4 fun _ s5 ⟨x,H5,I5,r5,y5,st5,fr5⟩=>?_);have I5':=I5.pinned (stat fr5) (T.obj _ _ st5);refine wpAny_passesOwn hp (thn (hg _ s5 σ3 H5 x u _ I5' r5 (step x H5 y5)) fun _ s6 ⟨σ6,H6,I6,q6⟩=>?_);refine wpAny_passesOwn hp (thn (hb _ s6 σ6 H6 _ I6 q6) fun f s7 q7=>?_);have again:∀{σ7:St} {H7:Hp},Inv X (pins++oJ fp s5.heap) σ7 H7 s7->N σ7 H7->∃m,m<n/\∃i σ' H',Inv X pins σ' H' s7/\tn i s7.heap/\(∀b∈fp,H' b=none)/\W i m σ' H':=fun {σ7 H7} I7 n7=>by
   obtain ⟨m',hm,w7⟩:=hN σ7 H7 n7;refine ⟨m',hm,i+1,σ7,H7,I7.l_,T.keep _ _ _ st5 fun b hb o e=>(I7.pin (b,o) (List.mem_append_right _ (List.mem_append_right _ (kW hb e)))).1,fun b hb=>?_,w7⟩;obtain ⟨o,e,d⟩:=T.obj _ _ st5 b hb;exact (I7.pin (b,o) (List.mem_append_right _ (List.mem_append_right _ (kW hb e)))).2.1
  cases f with
  | next=>obtain ⟨σ7,H7,I7,n7⟩:=q7;exact again I7 n7
  | cont=>obtain ⟨σ7,H7,I7,n7⟩:=q7;exact again I7 n7
  | brk=>obtain ⟨σ7,H7,I7,q7⟩:=q7;exact ⟨σ7,H7,I7.l_,q7⟩
  | ret v=>obtain ⟨x7,σ7,H7,I7,r7,q7⟩:=q7;exact ⟨x7,σ7,H7,I7.l_,r7,q7⟩
end
end L2
namespace L2
open PySem PySem.Spec PyProof.Rows
abbrev R2:=V->V->Hp->VK->Prop
noncomputable def OpR (X:Cx) (f:Value->Value->Sem Value) (r:R2):Prop:=
 ∀(pins:List (Addr×Obj)) (s:Shared) (σ:St) (H:Hp) (x y:V) (v u:Value) (Q:VK),Inv X pins σ H s->RelV x v->RelV y u->r x y H Q->
  wpAny (model X.prog X.w) X.A (f v u) (EP X pins σ Q) X.xe s
noncomputable def UnR (X:Cx) (f:Value->Sem Value) (r:V->Hp->VK->Prop):Prop:=
 ∀(pins:List (Addr×Obj)) (s:Shared) (σ:St) (H:Hp) (x:V) (v:Value) (Q:VK),Inv X pins σ H s->RelV x v->r x H Q->
  wpAny (model X.prog X.w) X.A (f v) (EP X pins σ Q) X.xe s
noncomputable def mR (X:Cx) (f:Value) (r:List V->Hp->VK->Prop):Prop:=
 ∀(pins:List (Addr×Obj)) (s:Shared) (σ:St) (H:Hp) (xs:List V) (us:List Value) (Q:VK),Inv X pins σ H s->Vals xs us->r xs H Q->
  wpAny (model X.prog X.w) X.A (call f us) (EP X pins σ Q) X.xe s
noncomputable def aG8 (X:Cx) (r:V->Hp->(Bool->Hp->Prop)->Prop):Prop:=
 ∀(pins:List (Addr×Obj)) (s:Shared) (σ:St) (H:Hp) (x:V) (v:Value) (Q:Bool->Hp->Prop),Inv X pins σ H s->RelV x v->r x H Q->
  wpAny (model X.prog X.w) X.A (truthy v) (TP X pins σ Q) X.xe s
noncomputable def tOp (r:R2) (ta tb:TE):TE:=fun σ H Q=>ta σ H fun x H1=>tb σ H1 fun y H2=>r x y H2 Q
def tUn (r:V->Hp->VK->Prop) (ta:TE):TE:=fun σ H Q=>ta σ H fun x H1=>r x H1 Q
noncomputable def rI (C:Int->Int->Prop) (g:Int->Int->V):R2:=fun x y H Q=>∃i j,x=.int i/\y=.int j/\C i j/\Q (g i j) H
noncomputable def rI0 (g:Int->Int->V):R2:=fun x y H Q=>∃i j,x=.int i/\y=.int j/\Q (g i j) H
def rU (g:Int->V):V->Hp->VK->Prop:=fun x H Q=>∃i,x=.int i/\Q (g i) H
section
variable {X:Cx} {a b c:Expr} {ta tb tc:TE} {pos:Pos}
theorem aDt (ha:PE X a ta) (hb:PE X b tb) {pins:List (Addr×Obj)} {s:Shared} {σ:St} {H:Hp} {R:V->V->Hp->Prop} (I:Inv X pins σ H s)
  (h:ta σ H fun x H1=>tb σ H1 fun y H2=>R x y H2) {Q:Value->Shared->Prop} {f:Value->Value->Sem Value}
  (hf:∀v u s2 x y H2,Inv X pins σ H2 s2->RelV x v->RelV y u->R x y H2->wpAny (model X.prog X.w) X.A (f v u) Q X.xe s2) :
  wpAny (model X.prog X.w) X.A (eval a X.env) (fun v s₁=>wpAny (model X.prog X.w) X.A (eval b X.env) (fun u s₂=>wpAny (model X.prog X.w) X.A (f v u) Q X.xe s₂) X.xe s₁) X.xe s:=by
 refine thn (ha pins s σ H _ I h) fun v s1 ⟨x,H1,I1,r1,q1⟩=>?_
 refine thn (hb pins s1 σ H1 _ I1 q1) fun u s2 ⟨y,H2,I2,r2,q2⟩=>?_
 exact hf v u s2 x y H2 I2 r1 r2 q2
theorem aA6 {op:Operator} {r:R2} (ho:OpR X (binaryOp op) r) (ha:PE X a ta) (hb:PE X b tb):PE X (.BinOp a op b pos) (tOp r ta tb):=by
 intro pins s σ H Q I h;exact wpAny_BinOp (aDt ha hb I h fun v u s2 x y H2 I2 rx ry q=>ho pins s2 σ H2 x y v u Q I2 rx ry q)
theorem V8 {op:UnaryOp} {r:V->Hp->VK->Prop} (ho:UnR X (unaryOp op) r) (ha:PE X a ta):PE X (.UnaryOp op a pos) (tUn r ta):=by
 intro pins s σ H Q I h;exact UnaryOp_ (thn (ha pins s σ H _ I h) fun v s1 ⟨x,H1,I1,r1,q1⟩=>ho pins s1 σ H1 x v Q I1 r1 q1)
theorem opI {f:Value->Value->Sem Value} {C:Int->Int->Prop} {g:Int->Int->Int}
  (rule:∀(i j:Int) (t u:Tok) (s:Shared) (Q:Value->Shared->Prop) (E:Value->Shared->Prop),C i j->Q (.int (g i j) s.toks) {s with toks:=s.toks+1}->wpAny (model X.prog X.w) X.A (f (.int i t) (.int j u)) Q E s) :
  OpR X f (rI C fun i j=>.int (g i j)):=by
 intro pins s σ H x y v u Q I rx ry h;obtain ⟨i,j,rfl,rfl,hc,q⟩:=h;obtain ⟨t,rfl⟩:=rx;obtain ⟨t',rfl⟩:=ry;exact rule i j t t' s _ _ hc ⟨.int (g i j),H,I.tok _,⟨_,rfl⟩,q⟩
theorem aFq {f:Value->Value->Sem Value} {g:Int->Int->Int}
  (rule:∀(i j:Int) (t u:Tok) (s:Shared) (Q:Value->Shared->Prop) (E:Value->Shared->Prop),Q (.int (g i j) s.toks) {s with toks:=s.toks+1}->wpAny (model X.prog X.w) X.A (f (.int i t) (.int j u)) Q E s) :
  OpR X f (rI0 fun i j=>.int (g i j)):=by
 intro pins s σ H x y v u Q I rx ry h;obtain ⟨i,j,rfl,rfl,q⟩:=h;obtain ⟨t,rfl⟩:=rx;obtain ⟨t',rfl⟩:=ry;exact rule i j t t' s _ _ ⟨.int (g i j),H,I.tok _,⟨_,rfl⟩,q⟩
def aG9 (i j:Int):Prop:=0<j/\j<1073741824
def aDu (i j:Int):Prop:=(-(2 ^ 64)<i/\i<2 ^ 64)\/(-(2 ^ 64)<j/\j<2 ^ 64)
theorem aDu.ok {i j:Int} (h:aDu i j):IntMulOk i j:=by
 rcases h with ⟨h1,h2⟩|⟨h1,h2⟩
 ·exact .of_left (intBits_le_64 h1 h2)
 ·exact .of_right (intBits_le_64 h1 h2)
theorem aA7:OpR X (binaryOp .Add) (rI0 fun i j=>.int (i+j)):=aFq fun _ _ _ _ _ _ _ q=>add_int q
theorem aA8:OpR X (binaryOp .Sub) (rI0 fun i j=>.int (i-j)):=aFq fun _ _ _ _ _ _ _ q=>sub_int q
theorem aA9:OpR X (binaryOp .Mult) (rI aDu fun i j=>.int (i*j)):=opI fun _ _ _ _ _ _ _ hc q=>mul_int q hc.ok
theorem V9:OpR X (binaryOp .FloorDiv) (rI aG9 fun i j=>.int (i / j)):=opI fun i j _ _ _ _ _ hc q=>by
 have h1:(0:Int)<j:=hc.1;have h2:j<1073741824:=hc.2;exact floordiv_int (by lia) (by rw [Int.fdiv_eq_ediv_of_nonneg i (by lia)];exact q) (.inl (PyProof.noPylong_small (by lia)))
theorem aAa:OpR X (binaryOp .Mod) (rI (fun _ j=>0<j) fun i j=>.int (i % j)):=opI fun i j _ _ _ _ _ hc q=>by
 have h1:(0:Int)<j:=hc;exact mod_int' (by lia) (by rw [Int.fmod_eq_emod_of_nonneg i (by lia)];exact q)
theorem unI {f:Value->Sem Value} {g:Int->Int}
  (rule:∀(i:Int) (t:Tok) (s:Shared) (Q:Value->Shared->Prop) (E:Value->Shared->Prop),Q (.int (g i) s.toks) {s with toks:=s.toks+1}->wpAny (model X.prog X.w) X.A (f (.int i t)) Q E s) :
  UnR X f (rU fun i=>.int (g i)):=by
 intro pins s σ H x v Q I rx h;obtain ⟨i,rfl,q⟩:=h;obtain ⟨t,rfl⟩:=rx;exact rule i t s _ _ ⟨.int (g i),H,I.tok _,⟨_,rfl⟩,q⟩
theorem I_:UnR X (unaryOp .USub) (rU fun i=>.int (-i)):=unI fun _ _ _ _ _ q=>neg_int q
end
section
variable {X:Cx} {a b c:Expr} {ta tb tc:TE} {pos:Pos}
theorem aAb {pins:List (Addr×Obj)} {σ:St} {H:Hp} {s:Shared} {Q:VK} {k k':Bool} (I:Inv X pins σ H s) (q:Q (.bl k) H) (e:k=k'):EP X pins σ Q (.bool k') s:=by
 subst e;exact ⟨.bl k,H,I,rfl,q⟩
theorem JB:OpR X (compareOp .In) (fun x y H Q=>∃i j,x=.str i/\y=.str j/\Q (.bl (!(Builtin.Str.occurrences j i 0 j.length 1).isEmpty)) H):=by
 intro pins s σ H x y v u Q I rx ry h;obtain ⟨i,j,rfl,rfl,q⟩:=h;obtain ⟨t,rfl⟩:=rx;obtain ⟨t',rfl⟩:=ry;exact in_str (aAb I q rfl)
theorem eN (b:Expr) {op:CmpOp} (h:op≠.In:=by decide) (h2:op≠.NotIn:=by decide):behindInMarks op b=false:=by
 have e1:(op==CmpOp.In)=false:=by cases op <;> first|rfl|exact absurd rfl h
 have e2:(op==CmpOp.NotIn)=false:=by cases op <;> first|rfl|exact absurd rfl h2
 cases b <;> simp [behindInMarks,e1,e2]
theorem V_ {op:CmpOp} {r:R2} (ho:OpR X (compareOp op) r) (ha:PE X a ta) (hb:PE X b tb) (hm:behindInMarks op b=false):PE X (.Compare a [op] [b] pos) (tOp r ta tb):=by
 intro pins s σ H Q I h;exact wpAny_Compare1 (aDt ha hb I h fun v u s2 x y H2 I2 rx ry q=>ho pins s2 σ H2 x y v u Q I2 rx ry q) hm
def aDv (t:TE):TT:=fun σ H Q=>t σ H fun x H'=>∃k,x=.bl k/\Q k H'
theorem JC {op:CmpOp} {r:R2} (ho:OpR X (compareOp op) r) (ha:PE X a ta) (hb:PE X b tb) (hm:behindInMarks op b=false):PT X (.Compare a [op] [b] pos) (aDv (tOp r ta tb)):=by
 intro pins s σ H Q I h;refine wpAny_isTrue_Compare1 (thn (ha pins s σ H _ I h) fun v s1 ⟨x,H1,I1,r1,q1⟩=>thn (hb pins s1 σ H1 _ I1 q1) fun u s2 ⟨y,H2,I2,r2,q2⟩=>
  thn (ho pins s2 σ H2 x y v u _ I2 r1 r2 q2) fun c s3 ⟨z,H3,I3,r3,k,e,q3⟩=>?_) hm
 subst e;cases r3;exact wpAny_truthy_bool ⟨H3,I3,q3⟩
noncomputable def aDd (K:PySem.W.Frag) (x:V) (H:Hp) (k:Bool):Prop:=
 match x with
 | .non=>k=false
 | .bl b=>k=b
 | .int i=>k=(i != 0)
 | .str y=>y.length<=sizeLine/\k=((y.length:Int) != 0)
 | .byt y=>y.size<=sizeLine/\k=((y.size:Int) != 0)
 | .ref p=>(∃xs,SqL K H p xs/\k=!xs.isEmpty)\/(∃xs,SqT K H p xs/\k=!xs.isEmpty)\/∃kvs,H p=some (.dK kvs)/\k=!kvs.isEmpty
 | _=>False
theorem B_ {κ:Type} {kvs:List (κ×V)} {vs:List (κ×Value)} (r:KV kvs vs):(!vs.isEmpty)=!kvs.isEmpty:=by
 cases r <;> rfl
theorem qH {xs:List V} {its:List Value} (r:Vals xs its):(!its.toArray.isEmpty)=!xs.isEmpty:=by
 cases r <;> simp
theorem oK:(sizeLine:Nat)<2 ^ 63:=by rw [sizeLine_eq];decide
theorem aAc:aG8 X (fun x H Q=>∃k,aDd X.K x H k/\Q k H):=by
 intro pins s σ H x v Q I rx h;obtain ⟨k,e,q⟩:=h;have hl:=oK;have hs:sizeLine=16777216:=sizeLine_eq;cases x with
 | non=>
  cases rx;have e':k=false:=e;subst e';exact truthy_none ⟨H,I,q⟩
 | bl b=>
  cases rx;have e':k=b:=e;subst e';exact wpAny_truthy_bool ⟨H,I,q⟩
 | int i=>
  obtain ⟨t,rfl⟩:=rx;have e':k=(i != 0):=e;subst e';exact PySem.P.truthy_int ⟨H,I,q⟩
 | str y=>
  obtain ⟨t,rfl⟩:=rx;obtain ⟨hy,e'⟩:y.length<=sizeLine/\k=((y.length:Int) != 0):=e;subst e';exact PySem.P.truthy_str (by lia) ⟨H,I.tok _,q⟩
 | byt y=>
  obtain ⟨t,rfl⟩:=rx;obtain ⟨hy,e'⟩:y.size<=sizeLine/\k=((y.size:Int) != 0):=e;subst e';exact PySem.W.truthy_bytes (by lia) ⟨H,I.tok _,q⟩
 | ref p=>
  cases rx;have e':(∃xs,SqL X.K H p xs/\k=!xs.isEmpty)\/(∃xs,SqT X.K H p xs/\k=!xs.isEmpty)\/∃kvs,H p=some (.dK kvs)/\k=!kvs.isEmpty:=e;rcases e' with ⟨xs,hx,e'⟩|⟨xs,hx,e'⟩|⟨kvs,hx,e'⟩
  ·subst e';obtain ⟨its,r,pl,hz⟩:=I.list hx;have hlen:=r.length;exact wpAny_truthy_list pl.isList (by simp only [List.size_toArray];lia) ⟨H,I.tok _,by rw [qH r];exact q⟩
  ·subst e';obtain ⟨its,r,pl,hz⟩:=I.tuple hx;have hlen:=r.length;exact truthy_tuple pl (by simp only [List.size_toArray];lia) ⟨H,I.tok _,by rw [qH r];exact q⟩
  ·subst e';obtain ⟨hz,hS,vs,r,m⟩:kvs.length<=sizeLine/\(p==sysModules)=false/\∃vs,KV kvs vs/\s.heap.DictOf (cV X.prog X.w) p vs:=I.hok p _ hx;have hlen:kvs.length=vs.length:=Paired.length r;exact wpAny_truthy_dict hS m (by lia) ⟨H,I.tok _,by rw [B_ r];exact q⟩
 | _=>exact (show False from e).elim
theorem yC (ha:PE X a ta) (he:∀whole,isTrue a X.env whole=(do let v <- whole;standAt a.pos;holding [v] (truthy v))) :
  PT X a (fun σ H Q=>ta σ H fun x H'=>∃k,aDd X.K x H' k/\Q k H'):=by
 intro pins s σ H Q I h;exact isTrue_plain (thn (ha pins s σ H _ I h) fun v s1 ⟨x,H1,I1,r1,q1⟩=>aAc pins s1 σ H1 x v Q I1 r1 q1) (he _)
theorem CG:OpR X (binaryOp .Add) (fun x y H Q=>∃i j,x=.str i/\y=.str j/\i.length+j.length<=sizeLine/\Q (.str (i++j)) H):=by
 intro pins s σ H x y v u Q I rx ry h;obtain ⟨i,j,rfl,rfl,hz,q⟩:=h;obtain ⟨t,rfl⟩:=rx;obtain ⟨t',rfl⟩:=ry;exact add_str (fun t' tk=>⟨.str (i++j),H,I.tok _,⟨_,rfl⟩,q⟩) hz
theorem vals1 {x:V} {us:List Value} (r:Vals [x] us):∃u,us=[u]/\RelV x u:=by
 cases r with
 | cons r1 r2=>cases r2;exact ⟨_,rfl,r1⟩
end
end L2
namespace L2
open PySem PySem.Spec PyProof.Rows
structure WD (h:Heap) (x dx C:Addr) (mA:Str->Option Value):Prop where
 obj:h.get? x=some (PySem.W.instObj C dx)
 ns:h.Ns1 dx mA
 ne:dx≠x
theorem JD {h:Heap} {dx:Addr} {mA:Str->Option Value} (n:h.Ns1 dx mA):∃od,h.get? dx=some od/\∀name,PySem.W.lookIn name od=some (mA name):=by
 obtain ⟨o,es,ep,ho,hd,hk,_,hm⟩:=n;refine ⟨o,ho,fun name=>?_⟩;have e:=hm name;unfold nsFind findBy at e;rw [<-Array.find?_toList] at e;unfold PySem.W.lookIn;rw [hd];dsimp only;split
 ·rename_i y q;rw [q] at e;exact congrArg some e
 ·rename_i q;rw [q] at e;have a:es.toList.any (·.refKey)=false:=by
   rw [List.any_eq_false];intro y hy;obtain ⟨z,t,hkey⟩:=hk y (Array.mem_toList_iff.mp hy);simp [DictEntry.refKey,hkey]
  have a':¬es.toList.any (·.refKey)=true:=by rw [a];exact Bool.false_ne_true
  rw [if_neg a'];exact congrArg some e
theorem WD.look {h:Heap} {x dx C:Addr} {mA:Str->Option Value} (I:WD h x dx C mA):∃od,PySem.W.InstAt h x (PySem.W.instObj C dx) C (some od)/\∀name,PySem.W.lookIn name od=some (mA name):=
 let ⟨od,ho,hl⟩:=JD I.ns
 ⟨od,⟨I.obj,rfl,rfl,ho⟩,hl⟩
section
variable {prog:Program} {w:World} {A:Around} {E:Value->Shared->Prop} {s:Shared} {K:PySem.W.Frag} {x dx C f:Addr} {mA:Str->Option Value} {name:Str} {v:Value}
theorem lJ {expr:Bool} {Q:Value->Shared->Prop} (X:K.In s.heap) (I:WD s.heap x dx C mA) (hg:PySem.W.plainGet K C name=true) (hh:PySem.W.hasDictIn K C=true)
  (ha:PySem.W.findIn K (.ref C) name=some none) (hv:mA name=some v) (hv':PySem.W.handedIn v=true) (h:Q v {s with toks:=s.toks+1}) :
  wpAny (model prog w) A (getAttr (.ref x) name expr) Q E s:=by
 obtain ⟨od,J,hl⟩:=I.look;exact PySem.W.get_value X J (PySem.W.plainGet_of hg).1 (PySem.W.findObj_own hh ha rfl (by rw [hl,hv])) hv' h
theorem QV {pl:Sem Bool} {Q:Value×List Value->Shared->Prop} (X:K.In s.heap) (I:WD s.heap x dx C mA) (hg:PySem.W.plainGet K C name=true)
  (hf:PySem.W.findIn K (.ref C) name=some (some (.ref f))) (ht:PySem.W.isFn K (.ref f)=true) (hv:mA name=none) (h:Q (.ref f,[.ref x]) s) :
  wpAny (model prog w) A (getMethod (.ref x) name pl) Q E s:=by
 obtain ⟨od,J,hl⟩:=I.look;exact PySem.W.method_fn X J (PySem.W.plainGet_of hg).1 (PySem.W.plainGet_of hg).2 hf (beq_iff_eq.mp ht) (by show (PySem.W.lookIn name od).map (·.isSome)=some false;rw [hl,hv];rfl) h
theorem WF {ns:List Str} {Q:Unit->Shared->Prop} (X:K.In s.heap) (I:WD s.heap x dx C mA)
  (hs:PySem.W.findIn K (.ref C) "__setattr__" = some (some (.builtin "object.__setattr__"))) (hp:PySem.W.plainOver K C=true) (ht:PySem.W.takerIn K C name=some none) (hh:PySem.W.hasDictIn K C=true)
  (hw:PySem.Within mA ns) (hsz:ns.length<=sizeLine)
  (h:∀h',WD h' x dx C (fun y=>if y=name then some v else mA y)->Heap.SameBut dx s.heap h'->Q () {s with heap:=h',toks:=s.toks+2}) :
  wpAny (model prog w) A (setAttr (.ref x) name v) Q E s:=by
 obtain ⟨od,J,hl⟩:=I.look;refine PySem.W.set_plain X J hs (PySem.W.osa_open (s:={s with toks:=s.toks+1}) (r:=none) X J hp ht fun b=>?_);obtain ⟨cd,hc,hd'⟩:=PySem.W.any_some hh;have hx:s.heap.get? x=some ⟨.ref C,some dx,.plain,#[]⟩:=I.obj;refine wpAny_bind (wpAny_pure (wpAny_bind (wpAny_bind (wpAny_loadPart hx (wpAny_bind (PySem.W.Looks.here (s:={s with toks:=s.toks+1}) (PySem.W.looks_clsIn X hc) ?_))))));rw [hd'];refine wpAny_pure (a:=some dx) (wpAny_bind (wpAny_pure (wpAny_bind ?_)));refine wpAny_nsSet1 (s:={s with toks:=s.toks+1}) I.ns fun h' hn2 hs2=>?_
 obtain ⟨oD,esD,epD,hoD,hdD,hcD⟩:=hn2.count (PySem.Within.cons name v hw);refine wpAny_bind (wpAny_lookBehind hoD (by rw [hdD];exact pastItsLine_dict (Nat.le_trans hcD (by rw [List.length_cons];lia))) ?_);exact wpAny_pure (h _ ⟨(hs2.2 _ (Ne.symm I.ne)).trans I.obj,hn2,I.ne⟩ hs2)
theorem QW {R:Result->Shared->Prop} {vs:List Value} {kw:List (Str×Value)} (X:K.In s.heap) (hm:PySem.W.makesIn K C=true)
  (hi:PySem.W.findIn K (.ref C) "__init__" = some (some (.ref f))) (hf:PySem.W.typeIn K (.ref f)=some (.type "function"))
  (h:codeAny (model prog w) (A.under (.builtin "type.__call__" ⟨.ref C::vs,kw⟩)) (.call (.ref f) ⟨.ref (s.heap.objs.size+1)::vs,kw⟩) (PySem.W.InitBack (s.heap.objs.size+1) R)
   {s with heap:=(s.heap.push PySem.W.emptyDict).push (PySem.W.instObj C s.heap.objs.size)}) :
  codeAny (model prog w) A (.call (.ref C) ⟨vs,kw⟩) R s:=by
 obtain ⟨hh,g,d,t,os⟩:=s;exact PySem.W.make_core (PySem.W.makes_of X hm) (PySem.W.looks_findIn X hi) (fun self=>PySem.W.bind_fn X self hf) (.inl rfl) h
end
noncomputable def oM (f:Str) (v:V):List (Str×V)->List (Str×V)
 | []=>[(f,v)]
 | (g,x)::r=>if g=f then (g,v)::r else (g,x)::oM f v r
theorem oN (f g:Str) (v:V):∀fs:List (Str×V),(oM f v fs).lookup g=if g=f then some v else fs.lookup g
 | []=>by
  show List.lookup g [(f,v)]=_;by_cases h:g=f
  ·have hb:(g==f)=true:=beq_iff_eq.mpr h;simp only [List.lookup,hb,if_pos h]
  ·have hb:(g==f)=false:=beq_eq_false_iff_ne.mpr h;simp only [List.lookup,hb,if_neg h]
 | (k,x)::r=>by
  have ih:=oN f g v r;rw [show oM f v ((k,x)::r)=(if k=f then (k,v)::r else (k,x)::oM f v r) from rfl];by_cases hk:k=f
  ·rw [if_pos hk];by_cases h:g=k
   ·have hb:(g==k)=true:=beq_iff_eq.mpr h;simp only [List.lookup,hb,if_pos (h.trans hk)]
   ·have hb:(g==k)=false:=beq_eq_false_iff_ne.mpr h;simp only [List.lookup,hb,if_neg (fun e:g=f=>h (e.trans hk.symm))]
  ·rw [if_neg hk];by_cases h:g=k
   ·have hb:(g==k)=true:=beq_iff_eq.mpr h;simp only [List.lookup,hb,if_neg (fun e:g=f=>hk (h.symm.trans e))]
   ·have hb:(g==k)=false:=beq_eq_false_iff_ne.mpr h;simp only [List.lookup,hb];exact ih
theorem oO (f:Str) (v:V):∀fs:List (Str×V),f∈(oM f v fs).map (·.1)/\∀g,g∈fs.map (·.1)->g∈(oM f v fs).map (·.1)
 | []=>⟨by simp [oM],fun g h=>by simp at h⟩
 | (k,x)::r=>by
  obtain ⟨i1,i2⟩:=oO f v r;rw [show oM f v ((k,x)::r)=(if k=f then (k,v)::r else (k,x)::oM f v r) from rfl];by_cases hk:k=f
  ·rw [if_pos hk];subst hk;exact ⟨by simp,fun g h=>by simpa using h⟩
  ·rw [if_neg hk];refine ⟨?_,fun g h=>?_⟩
   ·rw [List.map_cons];exact List.mem_cons_of_mem _ i1
   ·rw [List.map_cons] at h ⊢;rcases List.mem_cons.mp h with e|e
    ·exact List.mem_cons.mpr (.inl e)
    ·exact List.mem_cons_of_mem _ (i2 g e)
theorem oR (f:Str) (v:V):∀fs:List (Str×V),(oM f v fs).length<=fs.length+1
 | []=>by simp [oM]
 | (k,x)::r=>by
  have ih:=oR f v r;rw [show oM f v ((k,x)::r)=(if k=f then (k,v)::r else (k,x)::oM f v r) from rfl];by_cases hk:k=f
  ·rw [if_pos hk,List.length_cons,List.length_cons];lia
  ·rw [if_neg hk,List.length_cons,List.length_cons];lia
theorem vR.some_of {v:V} {o:Option Value} (r:vR (some v) o):∃u,o=some u/\RelV v u:=by
 cases o with
 | none=>exact (show False from r).elim
 | some u=>exact ⟨u,rfl,r⟩
theorem vR.none_of {o:Option Value} (r:vR none o):o=none:=by
 cases o with
 | none=>rfl
 | some u=>exact (show False from r).elim
theorem JF {v:V} {u:Value} (r:RelV v u):PySem.W.handedIn u=true:=by
 cases v with
 | non=>cases (show u=Value.none from r);rfl
 | bl b=>cases (show u=Value.bool b from r);rfl
 | int i=>obtain ⟨t,e⟩:=(show ∃t,u=Value.int i t from r);cases e;rfl
 | str x=>obtain ⟨t,e⟩:=(show ∃t,u=Value.str x t from r);cases e;rfl
 | byt b=>obtain ⟨t,e⟩:=(show ∃t,u=Value.bytes b t from r);cases e;rfl
 | flt b=>obtain ⟨t,e⟩:=(show ∃t,u=Value.float b t from r);cases e;rfl
 | ref a=>cases (show u=Value.ref a from r);rfl
 | ty n=>cases (show u=Value.type n from r);rfl
section
variable {P:Program} {w:World} {H H':Hp} {h h':Heap} {a C dx:Addr} {fs fs':List (Str×V)}
theorem v5 (hok:HOk P w H h) (e:H a=some (.ins C dx fs)):∃mA,WD h a dx C mA/\(∀f,vR (fs.lookup f) (mA f))/\PySem.Within mA (fs.map (·.1))/\fs.length<=1000/\H dx=some (.own a):=by
 obtain ⟨d,z,ne,ob,mA,n,r,q⟩:=(show iH P w H h a (.ins C dx fs) from hok a _ e)
 exact ⟨mA,⟨ob,n,ne⟩,r,q,z,d⟩
end
structure Cls (K:PySem.W.Frag) (C:Addr):Prop where
 pg:PySem.W.plainGet K C Str.empty=true
 hd:PySem.W.hasDictIn K C=true
 po:PySem.W.plainOver K C=true
 sa:PySem.W.findIn K (.ref C) "__setattr__" = some (some (.builtin "object.__setattr__"))
theorem Cls.get {K:PySem.W.Frag} {C:Addr} (c:Cls K C) (f:Str):PySem.W.plainGet K C f=true:=c.pg
noncomputable def fY (K:PySem.W.Frag) (C:Addr) (f:Str):Prop:=PySem.W.findIn K (.ref C) f=some none
theorem fY.taker {K:PySem.W.Frag} {C:Addr} {f:Str} (n:fY K C f):PySem.W.takerIn K C f=some none:=by
 unfold PySem.W.takerIn;rw [show PySem.W.findIn K (.ref C) f=some none from n];rfl
structure Meth (K:PySem.W.Frag) (C:Addr) (m:Str) (f:Addr):Prop where
 at_:PySem.W.findIn K (.ref C) m=some (some (.ref f))
 fn:PySem.W.isFn K (.ref f)=true
 kp:PySem.W.keepIn K (.ref f)=true
section
variable {X:Cx} {pins:List (Addr×Obj)} {σ:St} {H:Hp} {s:Shared} {a C dx:Addr} {fs:List (Str×V)} {f:Str} {v:V} {A:Around} {E:Value->Shared->Prop}
theorem CJ {b:Bool} {Q:Value->Shared->Prop} (I:Inv X pins σ H s) (e:H a=some (.ins C dx fs)) (c:Cls X.K C) (n:fY X.K C f) (l:fs.lookup f=some v)
  (h:∀u s',Inv X pins σ H s'->RelV v u->Q u s'):wpAny (model X.prog X.w) A (getAttr (.ref a) f b) Q E s:=by
 obtain ⟨mA,O,r,_,_,_⟩:=v5 I.hok e;obtain ⟨u,hu,ru⟩:=vR.some_of (v:=v) (o:=mA f) (by rw [<-l];exact r f);exact lJ I.kIn O (c.get f) c.hd n hu (JF ru) (h u _ (I.tok _) ru)
theorem CK {m:Str} {g:Addr} {pl:Sem Bool} {Q:Value×List Value->Shared->Prop} (I:Inv X pins σ H s) (e:H a=some (.ins C dx fs)) (c:Cls X.K C) (k:Meth X.K C m g) (l:fs.lookup m=none)
  (h:Q (.ref g,[.ref a]) s):wpAny (model X.prog X.w) A (getMethod (.ref a) m pl) Q E s:=by
 obtain ⟨mA,O,r,_,_,_⟩:=v5 I.hok e;have hn:mA m=none:=vR.none_of (by rw [<-l];exact r m);exact QV I.kIn O (c.get m) k.at_ k.fn hn h
theorem CN {y:V} {u:Value} {Q:Unit->Shared->Prop} (I:Inv X pins σ H s) (e:H a=some (.ins C dx fs)) (c:Cls X.K C) (n:fY X.K C f) (hl:fs.length<1000) (ry:RelV y u)
  (h:∀s',Inv X pins σ (upd H a (.ins C dx (oM f y fs))) s'->Q () s'):wpAny (model X.prog X.w) A (setAttr (.ref a) f u) Q E s:=by
 obtain ⟨mA,O,r,wi,_,ho⟩:=v5 I.hok e;have hz:(fs.map (·.1)).length<=sizeLine:=by rw [List.length_map,sizeLine_eq];lia
 refine WF I.kIn O c.sa c.po n.taker c.hd wi hz fun h' O' sb=>h _ ?_
 have hd:∃o,h'.get? dx=some o:=let ⟨o,_,_,e',_⟩:=O'.ns;⟨o,e'⟩
 refine I.write (x:=a) (e:=dx) (by rw [e];exact True.intro) (.inr ho) (fun b q hb z=>(sb.2 b hb).trans z) hd ?_;refine ⟨by rw [bG O.ne];exact ho,?_,O.ne,O'.obj,_,O'.ns,fun g=>?_,fun g hg=>?_⟩
 ·have:=oR f y fs;lia
 ·show vR ((oM f y fs).lookup g) (if g=f then some u else mA g);rw [oN];by_cases q:g=f
  ·rw [if_pos q,if_pos q];exact ry
  ·rw [if_neg q,if_neg q];exact r g
 ·by_cases q:g=f
  ·rw [q];exact (oO f y fs).1
  ·refine (oO f y fs).2 g (wi g fun z=>hg ?_);show (if g=f then some u else mA g)=none;rw [if_neg q];exact z
theorem Inv.made (I:Inv X pins σ H s):Inv X pins σ (upd (upd H s.heap.objs.size (.own (s.heap.objs.size+1))) (s.heap.objs.size+1) (.ins C s.heap.objs.size []))
  {s with heap:=(s.heap.push PySem.W.emptyDict).push (PySem.W.instObj C s.heap.objs.size)}:=by
 have e1:(s.heap.push PySem.W.emptyDict).get? s.heap.objs.size=some PySem.W.emptyDict:=Heap.get?_push_size s.heap rfl;have e2:((s.heap.push PySem.W.emptyDict).push (PySem.W.instObj C s.heap.objs.size)).get? (s.heap.objs.size+1)=some (PySem.W.instObj C s.heap.objs.size):=by
  have:=Heap.get?_push_size (s.heap.push PySem.W.emptyDict) (o:=PySem.W.instObj C s.heap.objs.size) rfl;rwa [Heap.size_push] at this
 have e3:(s.heap.push PySem.W.emptyDict).Ns s.heap.objs.size (fun _=>none):=⟨PySem.W.emptyDict,#[],_,e1,rfl,(fun e he=>absurd he (by simp)),fun _=>rfl⟩
 have I1:=I.laid (a:=s.heap.objs.size) (o:=.own (s.heap.objs.size+1)) (h':=s.heap.push PySem.W.emptyDict) (t':=s.toks) (fun b u q=>Heap.get?_push_of_some _ q) (Nat.le_refl _) ⟨_,e1⟩;refine I1.laid (a:=s.heap.objs.size+1) (o:=.ins C s.heap.objs.size []) (t':=s.toks) (fun b u q=>Heap.get?_push_of_some _ q) (Nat.le_of_eq (Heap.size_push _ _)) ?_;have ne:s.heap.objs.size≠s.heap.objs.size+1:=Nat.ne_of_lt (Nat.lt_succ_self _);refine ⟨by rw [bG ne,aK],Nat.zero_le _,ne,e2,fun _=>none,(Heap.Ns1.of_empty e3).at fun o q=>Heap.get?_push_of_some _ q,fun _=>True.intro,fun y hy=>absurd rfl hy⟩
theorem WK {prog:Program} {w:World} {env:Env} {e:Expr} {f:Str} {pos:Pos} {s:Shared} {Q:Value->Shared->Prop} (hb:attributeBase e f env (eval e env)=eval e env)
  (h:wpAny (model prog w) A (eval e env) (fun o s₁=>wpAny (model prog w) A (getAttr o f true) Q E s₁) E s):wpAny (model prog w) A (eval (.Attribute e f pos) env) Q E s:=
 Attribute_any_ h (by rw [arm_eval_Attribute,hb])
end
noncomputable def aDw (K:PySem.W.Frag) (ta:TE) (f:Str):TE:=fun σ H Q=>ta σ H fun x H1=>∃a C dx fs v,x=.ref a/\H1 a=some (.ins C dx fs)/\Cls K C/\fY K C f/\fs.lookup f=some v/\Q v H1
noncomputable def aDx (K:PySem.W.Frag) (ta tv:TE) (f:Str):TS:=fun D σ H=>tv σ H fun y H1=>ta σ H1 fun x H2=>∃a C dx fs,x=.ref a/\H2 a=some (.ins C dx fs)/\Cls K C/\fY K C f/\fs.length<1000/\
 D.nx σ (upd H2 a (.ins C dx (oM f y fs)))
section
variable {X:Cx} {o e value:Expr} {f:Str} {pos pos' tpos:Pos} {ta tv:TE}
theorem yD (he:PE X e ta) (hb:attributeBase e f X.env (eval e X.env)=eval e X.env):PE X (.Attribute e f pos) (aDw X.K ta f):=by
 intro pins s σ H Q I h;refine WK hb (thn (he pins s σ H _ I h) fun u s1 ⟨x,H1,I1,rx,a,C,dx,fs,v,ex,ea,c,n,l,q⟩=>?_);subst ex;obtain rfl:u=Value.ref a:=rx;exact CJ I1 ea c n l fun u' s2 I2 ru=>⟨v,H1,I2,ru,q⟩
theorem jX (ha:PE X o ta) (hv:PE X value tv) (hs:swapsWith value (some (.Attribute o f pos')) pos.line X.env=pure false):PS X (.Assign [.Attribute o f pos'] value pos) (aDx X.K ta tv f):=by
 intro pins s σ H D I h;refine plainObj_wpAny_Assign_Attribute (thn (hv pins s σ H _ I h) fun u s1 ⟨y,H1,I1,ry,q⟩=>thn (ha pins s1 σ H1 _ I1 q) fun ov s2 ⟨x,H2,I2,rx,a,C,dx,fs,ex,ea,c,n,l,q2⟩=>?_) hs;subst ex;obtain rfl:ov=Value.ref a:=rx;exact CN I2 ea c n l ry fun s3 I3=>⟨σ,_,I3,q2⟩
end
section
variable {X:Cx} {pins:List (Addr×Obj)} {σ:St} {H:Hp} {s:Shared} {A:Around} {E:Value->Shared->Prop} {Q:Value->Shared->Prop} {c:Value} {b:Bool}
end
end L2
namespace L2
open PySem PySem.Spec PyProof.Rows
structure jH (k:Nat) (A:Around):Prop where
 hd:A.handled=none
 dp:A.depth+3*k+5<recursionLimit
 un:A.units+16*k+200<cLine
theorem jH.mono {j k:Nat} {A:Around} (r:jH k A) (h:j<=k):jH j A:=⟨r.hd,by have:=r.dp;lia,by have:=r.un;lia⟩
theorem jH.deeper {k:Nat} {A:Around} (r:jH (k+1) A) (env:Env):jH k (A.deeper env):=
 ⟨r.hd,by have:=r.dp;show A.depth+1+3*k+5<_;lia,by have:=r.un;show A.units+3+16*k+200<_;lia⟩
theorem CP {A:Around} {C:Addr} {us:List Value} {kw:List (Str×Value)}:(A.under (.builtin "type.__call__" ⟨.ref C::us,kw⟩)).depth=A.depth+1:=by
 first|rfl|simp [Around.under,Code.weight,Code.isCreation,Code.isGuard,Code.isCaller,Code.frames,Code.isFrame,guardIds]
theorem CQ {A:Around} {C:Addr} {us:List Value} {kw:List (Str×Value)}:(A.under (.builtin "type.__call__" ⟨.ref C::us,kw⟩)).units=A.units+1:=by
 first|rfl|simp [Around.under,Code.cUnits,Code.frames,Code.isFrame]
theorem jH.make {k:Nat} {A:Around} (r:jH (k+1) A) (C:Addr) (us:List Value) (kw:List (Str×Value)):jH k (A.under (.builtin "type.__call__" ⟨.ref C::us,kw⟩)):=
 ⟨r.hd,by have:=r.dp;rw [CP];lia,by have:=r.un;rw [CQ];lia⟩
theorem jH.depth {k:Nat} {A:Around} (r:jH k A):A.depth<recursionLimit:=by have:=r.dp;lia
theorem jH.units {k:Nat} {A:Around} (r:jH k A):A.units+64<cLine:=by have:=r.un;lia
def T8:TA:=fun _ H Q=>Q [] H
noncomputable def oU (ta:TE) (tr:TA):TA:=fun σ H Q=>ta σ H fun x H1=>tr σ H1 fun xs H2=>Q (x::xs) H2
section
variable {X:Cx} {e:Expr} {es:List Expr} {te:TE} {t:TA} {pos:Pos}
theorem jJ:PA X [] T8:=fun _ _ _ _ H Q I h=>Calls.spliced_nil ⟨[],H,I,.nil,h⟩
theorem c7 (ha:PE X e te) (hr:PA X es t) (hs:starEach (e::es) X.env=(false,eval e X.env)::starEach es X.env:=by rfl):PA X (e::es) (oU te t):=by
 intro pos pins s σ H Q I h;rw [hs];show wpAny _ _ (spliced ((false,eval e X.env)::backTo pos (starEach es X.env))) _ _ s;refine Calls.spliced_cons (thn (ha pins s σ H _ I h) fun u s1 ⟨x,H1,I1,r1,q1⟩=>?_);exact thn (hr pos pins s1 σ H1 _ I1 q1) fun us s2 ⟨xs,H2,I2,r2,q2⟩=>⟨x::xs,H2,I2,.cons r1 r2,q2⟩
noncomputable def aGa (t:TA):TE:=fun σ H Q=>t σ H fun xs H1=>xs.length<=sizeLine/\∀p,H1 p=none->Q (.ref p) (upd H1 p (.tup xs))
noncomputable def aDe (t:TA):TE:=fun σ H Q=>t σ H fun xs H1=>xs.length<=sizeLine/\∀p,H1 p=none->Q (.ref p) (upd H1 p (.lst xs))
theorem aAd {x1} (h:PA X es t):PE X (.Tuple es x1 pos) (aGa t):=by
 intro pins s σ H Q I hq;refine wpAny_Tuple_spliced (thn (h pos pins s σ H _ I hq) fun us s1 ⟨xs,H1,I1,r,z,q⟩=>⟨by rw [<-r.length];exact z,?_⟩);have hf:H1 s1.heap.objs.size=none:=I1.hok.fresh (Nat.le_refl _);refine ⟨.ref s1.heap.objs.size,upd H1 s1.heap.objs.size (.tup xs),I1.laid (t':=s1.toks) (fun b u e=>Heap.get?_push_of_some _ e) (Nat.le_refl _) ?_,rfl,q _ hf⟩;exact ⟨z,us,r,⟨_,Heap.get?_push_size _ rfl,rfl,_,rfl⟩⟩
theorem yE (h:PA X es t):PE X (.List es pos) (aDe t):=by
 intro pins s σ H Q I hq;refine wpAny_List_spliced (thn (h pos pins s σ H _ I hq) fun us s1 ⟨xs,H1,I1,r,z,q⟩=>⟨by rw [<-r.length];exact z,?_⟩);have hf:H1 s1.heap.objs.size=none:=I1.hok.fresh (Nat.le_refl _);refine ⟨.ref s1.heap.objs.size,upd H1 s1.heap.objs.size (.lst xs),I1.laid (t':=s1.toks) (fun b u e=>Heap.get?_push_of_some _ e) (Nat.le_refl _) ?_,rfl,q _ hf⟩;exact ⟨z,us,0,r,Heap.get?_push_size _ rfl⟩
end
abbrev Sp:=List V->Hp->VK->XK->Prop
abbrev CXT:=List Env->Hp->Shared->XK->Value->Shared->Prop
structure WL (P:Program) (w:World) (K:PySem.W.Frag) (mg:Str->Option Value) (base:Heap) (A:Around) (outer:List Env) (s:Shared) (H:Hp):Prop where
 frames:A.frames=some outer
 mod:Mod K mg base
 bs:∀b o,base.get? b=some o->s.heap.get? b=some o/\H b=none
 bsz:base.objs.size<=s.heap.objs.size
 G8:s.heap.FunFrames base outer
 frf:∀b∈frs outer,H b=none
 hok:HOk P w H s.heap
 bare:AllBare s.gens
noncomputable def CE (outer:List Env) (P:Program) (w:World) (H:Hp) (s:Shared) (Q:VK) (u:Value) (s':Shared):Prop:=
 ∃v H',s'.os=s.os/\AllBare s'.gens/\Un (frs outer) [] H H' s.heap s'.heap/\HOk P w H' s'.heap/\RelV v u/\Q v H'
noncomputable def CR (CX:CXT) (outer:List Env) (P:Program) (w:World) (H:Hp) (s:Shared) (Q:VK) (E:XK) (r:Result) (s':Shared):Prop:=
 match r with
 | .ok (.ret u)=>CE outer P w H s Q u s'
 | .ok _=>False
 | .error e=>CX outer H s E e s'
structure mC (P:Program) (w:World) (K:PySem.W.Frag) (mg:Str->Option Value) (base:Heap) (CX:CXT) (k:Nat) (f:Addr) (fd:FuncData) (ps:List Str) (sp:Sp):Prop where
 len:∀vs H Q E,sp vs H Q E->vs.length=ps.length
 run:∀(A:Around) (outer:List Env) (s:Shared) (H:Hp) (args:Args) (us:List Value) (vs:List V) (Q:VK) (E:XK),jH k A->WL P w K mg base A outer s H->BindsTo s fd args (ps.zip us)->Vals vs us->sp vs H Q E->
  codeAny (model P w) A (.call (.ref f) args) (CR CX outer P w H s Q E) s
theorem WL.make {P:Program} {w:World} {K:PySem.W.Frag} {mg:Str->Option Value} {base:Heap} {A:Around} {outer:List Env} {s:Shared} {H:Hp} (e:WL P w K mg base A outer s H) (C:Addr) (us:List Value) (kw:List (Str×Value)) :
  WL P w K mg base (A.under (.builtin "type.__call__" ⟨.ref C::us,kw⟩)) outer s H:=⟨by first|exact e.frames|(simpa [Around.under,Code.envs,Code.isFrame,pushEnvs] using e.frames),e.mod,e.bs,e.bsz,e.G8,e.frf,e.hok,e.bare⟩
section
variable {X:Cx} {pins:List (Addr×Obj)} {σ:St} {H:Hp} {s s':Shared}
theorem Inv.env0 (I:Inv X pins σ H s):WL X.prog X.w X.K X.mg X.base X.A X.stack s H:=
 ⟨I.ok.frames,I.ok.mod,I.bs,Nat.le_trans I.ok.bsz I.sz,I.stack,I.HN,I.hok,I.bare⟩
theorem Inv.after {Q:VK} {u:Value} (I:Inv X pins σ H s) (h:CE X.stack X.prog X.w H s Q u s'):EP X pins σ Q u s':=by
 obtain ⟨v,H',os,bare,un,hok,r,q⟩:=h;obtain ⟨hh,g,d,t,os'⟩:=s';obtain rfl:os'=s.os:=os;exact ⟨v,H',I.call (h':=hh) (g':=g) (d':=d) (t':=t) (ch:=[]) un hok bare (fun b z=>absurd z (by simp)),r,q⟩
end
noncomputable def aDy (sp:Sp) (dvs:List V) (E:XK) (t:TA):TE:=fun σ H Q=>t σ H fun vs H1=>sp (vs++dvs) H1 Q E
noncomputable def aAe (C:Addr) (m:Str) (sp:Sp) (dvs:List V) (E:XK) (ta:TE) (t:TA):TE:=fun σ H Q=>ta σ H fun x H1=>∃a dx fs,x=.ref a/\H1 a=some (.ins C dx fs)/\fs.lookup m=none/\
 t σ H1 fun vs H2=>sp (x::(vs++dvs)) H2 Q E
noncomputable def aDz (C:Addr) (sp:Sp) (dvs:List V) (E:XK) (t:TA):TE:=fun σ H Q=>t σ H fun vs H1=>∀x dx,H1 x=none->H1 dx=none->dx≠x->
 sp (.ref x::(vs++dvs)) (upd (upd H1 dx (.own x)) x (.ins C dx [])) (fun v H2=>v=.non/\Q (.ref x) H2) E
noncomputable def Binds (K:PySem.W.Frag) (fd:FuncData) (ps:List Str) (ds:List Value):Prop:=
 ∀(s:Shared) (us:List Value),K.In s.heap->(us++ds).length=ps.length->BindsTo s fd ⟨us,[]⟩ (ps.zip (us++ds))
theorem Binds.all {K:PySem.W.Frag} {fd:FuncData} {ps:List Str} (h:∀us:List Value,us.length=ps.length->bindArgs fd ⟨us,[]⟩=pure (ps.zip us)):Binds K fd ps []:=fun s us _ hl=>by
 rw [List.append_nil] at hl ⊢;exact .of_eq (h us hl)
noncomputable def qI (CX:CXT) (X:Cx) (E:XK):Prop:=∀(pins:List (Addr×Obj)) (σ:St) (H:Hp) (s:Shared) (e:Value) (s':Shared),Inv X pins σ H s->CX X.stack H s E e s'->X.xe e s'
section
variable {X:Cx} {CX:CXT} {k:Nat} {f C:Addr} {fd:FuncData} {ps:List Str} {sp:Sp} {dvs:List V} {ds:List Value} {E:XK} {x m:Str} {p pos apos:Pos} {e o:Expr} {es:List Expr} {ta:TE} {t:TA}
theorem T9 {pins:List (Addr×Obj)} {σ:St} {H:Hp} {s:Shared} {Q:VK} {us:List Value} {vs:List V} (F:mC X.prog X.w X.K X.mg X.base CX k f fd ps sp) (hr:jH k X.A) (hb:Binds X.K fd ps ds) (hd:Vals dvs ds) (hx:qI CX X E)
  (I:Inv X pins σ H s) (r:Vals vs us) (h:sp (vs++dvs) H Q E):wpAny (model X.prog X.w) X.A (call (.ref f) us) (EP X pins σ Q) X.xe s:=by
 have r2:Vals (vs++dvs) (us++ds):=r.append hd;have hl:(us++ds).length=ps.length:=by rw [<-r2.length];exact F.len _ _ _ _ h
 refine wpAny_call (codeAny_mono (F.run X.A X.stack s H ⟨us,[]⟩ (us++ds) (vs++dvs) Q E hr I.env0 (hb s us I.kIn hl) r2 h) fun r s' hq=>?_);cases r with
 | error e=>exact hx pins σ H s e s' I hq
 | ok fl=>
  cases fl with
  | ret u=>exact I.after hq
  | next=>exact False.elim hq
  | brk=>exact False.elim hq
  | cont=>exact False.elim hq
theorem v6 (F:mC X.prog X.w X.K X.mg X.base CX k f fd ps sp) (hr:jH k X.A) (hg:Gl X x) (hm:X.mg x=some (.ref f)) (hk:PySem.W.keepIn X.K (.ref f)=true) (hb:Binds X.K fd ps ds) (hd:Vals dvs ds) (hx:qI CX X E)
  (ha:PA X (e::es) t) (hdb:nDb x:=by decide) (he:starEach (e::es) X.env=(false,eval e X.env)::starEach es X.env:=by rfl) (hpl:(backTo pos (starEach es X.env)).any (·.1)=false:=by rfl) :
  PE X (.Call (.Name x p) (e::es) [] pos) (aDy sp dvs E t):=by
 intro pins s σ H Q I h;refine wpAny_Call_Name_kw (HR I hg hm ?_ hdb);refine PySem.W.callWith_K (h₀:=X.base) I.ok.mod.kin hk (thn (ha pos pins s σ H _ I h) fun us s1 ⟨vs,H1,I1,r,q⟩=>⟨I1.kIn,?_⟩) he hpl;exact T9 F hr hb hd hx I1 r q
theorem JG {pl:Sem Bool} (he:PE X o ta) (c:Cls X.K C) (hm:Meth X.K C m f) (F:mC X.prog X.w X.K X.mg X.base CX k f fd ps sp) (hr:jH k X.A) (hb:Binds X.K fd ps ds) (hd:Vals dvs ds) (hx:qI CX X E) (ha:PA X (e::es) t)
  (hst:starEach (e::es) X.env=(false,eval e X.env)::starEach es X.env:=by rfl) (hpl:(backTo pos (starEach es X.env)).any (·.1)=false:=by rfl)
  (ht:eval (.Call (.Attribute o m apos) (e::es) [] pos) X.env=(do
   let ov <- eval o X.env
   standAt apos.atName
   let (f,first) <- holding [ov] (getMethod ov m pl)
   callWith pos f first (backTo pos (starEach (e::es) X.env)) (backToKw pos (keywordEach [] X.env))):=by rfl) :
  PE X (.Call (.Attribute o m apos) (e::es) [] pos) (aAe C m sp dvs E ta t):=by
 intro pins s σ H Q I h;refine PySem.W.methodCall_KW (pl:=pl) (thn (he pins s σ H _ I h) fun u s1 ⟨x,H1,I1,rx,a,dx,fs,ex,ea,l,q⟩=>?_) ht;subst ex;obtain rfl:u=Value.ref a:=rx;refine CK I1 ea c hm l ?_;refine PySem.W.callWith_K (first:=[.ref a]) (h₀:=X.base) I.ok.mod.kin hm.kp (thn (ha pos pins s1 σ H1 _ I1 q) fun us s2 ⟨vs,H2,I2,r,q2⟩=>⟨I2.kIn,?_⟩) hst hpl;exact T9 (us:=.ref a::us) (vs:=.ref a::vs) F hr hb hd hx I2 (.cons rfl r) q2
structure Mk (K:PySem.W.Frag) (C f:Addr):Prop where
 makes:PySem.W.makesIn K C=true
 init:PySem.W.findIn K (.ref C) "__init__" = some (some (.ref f))
 fn:PySem.W.isFn K (.ref f)=true
 kp:PySem.W.keepIn K (.ref C)=true
theorem QX {pins:List (Addr×Obj)} {σ:St} {H:Hp} {s:Shared} {Q:VK} {us:List Value} {vs:List V} (M:Mk X.K C f) (F:mC X.prog X.w X.K X.mg X.base CX k f fd ps sp) (hr:jH (k+1) X.A) (hb:Binds X.K fd ps ds) (hd:Vals dvs ds)
  (hx:qI CX X E) (I:Inv X pins σ H s) (r:Vals vs us)
  (h:∀x dx,H x=none->H dx=none->dx≠x->sp (.ref x::(vs++dvs)) (upd (upd H dx (.own x)) x (.ins C dx [])) (fun v H2=>v=.non/\Q (.ref x) H2) E) :
  wpAny (model X.prog X.w) X.A (call (.ref C) us) (EP X pins σ Q) X.xe s:=by
 have hq:=h (s.heap.objs.size+1) s.heap.objs.size (I.hok.fresh (Nat.le_succ _)) (I.hok.fresh (Nat.le_refl _)) (Nat.ne_of_lt (Nat.lt_succ_self _));have I2:=Inv.made (C:=C) I;have r2:Vals (V.ref (s.heap.objs.size+1)::(vs++dvs)) (Value.ref (s.heap.objs.size+1)::(us++ds)):=.cons rfl (r.append hd);have hl:(Value.ref (s.heap.objs.size+1)::us++ds).length=ps.length:=by
  have e:=r2.length;rw [F.len _ _ _ _ hq] at e;exact e.symm
 refine wpAny_call (QW (f:=f) I.kIn M.makes M.init (beq_iff_eq.mp M.fn) (codeAny_mono (F.run _ X.stack _ _ ⟨Value.ref (s.heap.objs.size+1)::us,[]⟩ (Value.ref (s.heap.objs.size+1)::(us++ds)) _ _ E (hr.make C us [])
  (I2.env0.make C us []) (hb _ (Value.ref (s.heap.objs.size+1)::us) I2.kIn hl) r2 hq) fun r s' hq'=>?_))
 cases r with
 | error e=>exact hx pins σ _ _ e s' I2 hq'
 | ok fl=>
  cases fl with
  | ret u=>
   obtain ⟨v,H',I3,rv,ev,q3⟩:=I2.after hq';subst ev;exact ⟨rv,⟨V.ref (s.heap.objs.size+1),H',I3,rfl,q3⟩⟩
  | next=>exact False.elim hq'
  | brk=>exact False.elim hq'
  | cont=>exact False.elim hq'
theorem WM (M:Mk X.K C f) (F:mC X.prog X.w X.K X.mg X.base CX k f fd ps sp) (hr:jH (k+1) X.A) (hg:Gl X x) (hm:X.mg x=some (.ref C)) (hb:Binds X.K fd ps ds) (hd:Vals dvs ds) (hx:qI CX X E)
  (ha:PA X (e::es) t) (hdb:nDb x:=by decide) (he:starEach (e::es) X.env=(false,eval e X.env)::starEach es X.env:=by rfl) (hpl:(backTo pos (starEach es X.env)).any (·.1)=false:=by rfl) :
  PE X (.Call (.Name x p) (e::es) [] pos) (aDz C sp dvs E t):=by
 intro pins s σ H Q I h;refine wpAny_Call_Name_kw (HR I hg hm ?_ hdb);refine PySem.W.callWith_K (h₀:=X.base) I.ok.mod.kin M.kp (thn (ha pos pins s σ H _ I h) fun us s1 ⟨vs,H1,I1,r,q⟩=>⟨I1.kIn,?_⟩) he hpl;exact QX M F hr hb hd hx I1 r q
end
section
variable {X:Cx} {CX:CXT} {k:Nat} {f C:Addr} {fd:FuncData} {ps ks:List Str} {sp:Sp} {E:XK} {x m:Str} {p pos apos kpos:Pos} {e o:Expr} {es:List Expr} {kws:List Keyword} {te ta:TE} {t tk:TA} {nm:Option Str}
variable {g:List Value->List Value->List Value} {gV:List V->List V->List V}
end
structure bW (N P:List Str) (sc:Scope):Prop where
 kind:sc.kind=.function
 co:sc.isCoroutine=false
 gen:sc.isGenerator=false
 nd:N.Nodup
 pre:N.take P.length=P
 par:∀x∈P,sc.names.lookup x=some .local\/sc.names.lookup x=some .cell
 nofree:∀y∈sc.names,y.2≠.free
theorem tE {kindOf:Str->Option NameKind} {x:Str}:∀{binds:List (Str×Value)} {m:Str->Option Value},(∀v,(x,v)∉binds)->bindL kindOf binds m x=m x
 | [],_,_=>rfl
 | (n,v)::r,m,h=>by
  unfold bindL;rw [tE fun w hw=>h w (List.mem_cons_of_mem _ hw)];split
  ·have:x≠n:=by rintro rfl;exact h v List.mem_cons_self
   simp [this]
  ·rfl
theorem tG {kindOf:Str->Option NameKind} {x:Str}:∀{binds:List (Str×Value)} {m:Str->Option Value},(∀v,(x,v)∉binds)->bindC kindOf binds m x=m x
 | [],_,_=>rfl
 | (n,v)::r,m,h=>by
  unfold bindC;rw [tG fun w hw=>h w (List.mem_cons_of_mem _ hw)];split
  ·rfl
  ·have:x≠n:=by rintro rfl;exact h v List.mem_cons_self
   simp [this]
theorem tH {kindOf:Str->Option NameKind} {x:Str} {v:Value}:∀{P:List Str} {vs:List Value} {i:Nat} {m:Str->Option Value},P.Nodup->P[i]?=some x->vs[i]?=some v->kindOf x=some .local->
  bindL kindOf (P.zip vs) m x=some v
 | [],_,_,_,_,h,_,_=>by simp at h
 | _::_,[],_,_,_,_,h,_=>by simp at h
 | p::P,w::vs,0,m,nd,h1,h2,hk=>by
  simp at h1 h2;subst h1;subst h2;show bindL kindOf ((p,w)::P.zip vs) m p=_;unfold bindL;rw [tE fun v hv=>(List.nodup_cons.mp nd).1 (List.of_mem_zip hv).1,if_pos hk];simp
 | p::P,w::vs,i+1,m,nd,h1,h2,hk=>by
  show bindL kindOf ((p,w)::P.zip vs) m x=_;unfold bindL;exact tH (i:=i) (List.nodup_cons.mp nd).2 (by simpa using h1) (by simpa using h2) hk
theorem tK {kindOf:Str->Option NameKind} {x:Str} {v:Value}:∀{P:List Str} {vs:List Value} {i:Nat} {m:Str->Option Value},P.Nodup->P[i]?=some x->vs[i]?=some v->kindOf x≠some .local->
  bindC kindOf (P.zip vs) m x=some v
 | [],_,_,_,_,h,_,_=>by simp at h
 | _::_,[],_,_,_,_,h,_=>by simp at h
 | p::P,w::vs,0,m,nd,h1,h2,hk=>by
  simp at h1 h2;subst h1;subst h2;show bindC kindOf ((p,w)::P.zip vs) m p=_;unfold bindC;rw [tG fun v hv=>(List.nodup_cons.mp nd).1 (List.of_mem_zip hv).1,if_neg hk];simp
 | p::P,w::vs,i+1,m,nd,h1,h2,hk=>by
  show bindC kindOf ((p,w)::P.zip vs) m x=_;unfold bindC;exact tK (i:=i) (List.nodup_cons.mp nd).2 (by simpa using h1) (by simpa using h2) hk
noncomputable def start (N:List Str) (vs:List V):St:=vs.map some++List.replicate (N.length-vs.length) none
noncomputable def CT (CX:CXT) (P:Program) (w:World) (K:PySem.W.Frag) (mg:Str->Option Value) (base:Heap) (N:List Str) (qual:Str) (scope:Scope) (f:Addr) (cd:Value) (A:Around) (outer:List Env) (s:Shared) (H:Hp) (E:XK):Cx where
 prog:=P
 w:=w
 K:=K
 mg:=mg
 base:=base
 A:=A.deeper (envOfC qual scope s.heap.objs.size f cd)
 N:=N
 s₀:=s
 H₀:=H
 env:=envOfC qual scope s.heap.objs.size f cd
 outer:=outer
 stack:=envOfC qual scope s.heap.objs.size f cd::outer
 ex:=[]
 calm:=true
 fn:=fun _=>true
 pn:=[]
 xe:=fun e s'=>wpAny (model P w) (A.deeper (envOfC qual scope s.heap.objs.size f cd)) (leaving (envOfC qual scope s.heap.objs.size f cd) e) (fun _ s''=>CX outer H s E e s'') (fun e' s''=>CX outer H s E e' s'') s'
theorem yF {sc:Scope} {n:Nat} {x:Str} (h:sc.names.lookup x=some .cell):∃c,(cellsFrom n sc.names []).lookup x=some c:=by
 have q:=PySem.W.cellsFrom_some sc.names n [] (.inl h);exact Option.isSome_iff_exists.mp q
theorem JH {CX:CXT} {P:Program} {w:World} {K:PySem.W.Frag} {mg:Str->Option Value} {base:Heap} {N ps:List Str} {qual:Str} {scope:Scope} {f:Addr} {cd:Value} {A:Around} {outer:List Env} {s s1:Shared} {H:Hp} {E:XK} {us:List Value} {vs:List V}
  (S:bW N ps scope) (hd:A.handled=none) (e0:WL P w K mg base A outer s H) (hl:vs.length=ps.length) (r:Vals vs us)
  (x:InCallC s s.heap.objs.size (bindL (envOfC qual scope s.heap.objs.size f cd).kindOf (ps.zip us) fun _=>none) (cellsFrom (s.heap.objs.size+1) scope.names []) (bindC (envOfC qual scope s.heap.objs.size f cd).kindOf (ps.zip us) fun _=>none) s1) :
  Inv (CT CX P w K mg base N qual scope f cd A outer s H E) [] (start N vs) H s1:=by
 have hpl:ps.length<=N.length:=by have:=congrArg List.length S.pre;rw [List.length_take] at this;lia
 obtain ⟨h1,tk,rfl,hk⟩:=x.done;have noA:∀b:Addr,b∉(CT CX P w K mg base N qual scope f cd A outer s H E).ex:=fun b z=>absurd (show b∈([]:List Addr) from z) (by simp)
 refine ⟨⟨e0.mod,S.kind,rfl,rfl,Nat.le_refl _,fun y z c h1 h2=>?_,fun y hy=>?_,fun y c _ h=>?_,fun _=>hd,Around.frames_deeper e0.frames,.inr ⟨rfl,rfl⟩,fun b z=>absurd z (noA b),e0.bs,e0.bsz,fun b _ _=>noA b,fun b z=>absurd z (noA b),e0.G8,e0.frf⟩,
  rfl,e0.bare,Un.kept hk,⟨_,x.toInCall.ns,fun i y v h1 h2 h3=>?_⟩,fun y c h=>⟨_,x.cell y c h⟩,e0.hok.fresh (Nat.le_refl _),fun y c h=>?_,fun p hp=>absurd (show p∈([]:List (Addr×Obj)) from hp) (by simp),e0.hok.kept hk,?_⟩
 ·exact name_of_addr x.apart (PySem.mem_of_lookup h1) (PySem.mem_of_lookup h2)
 ·have hy:scope.names.lookup y=some .cell\/scope.names.lookup y=some .free:=hy;rcases hy with hy|hy
  ·exact yF hy
  ·exact absurd rfl (S.nofree _ (PySem.mem_of_lookup hy))
 ·exact Nat.le_of_lt (x.above y c (PySem.mem_of_lookup h))
 ·have hi:i<vs.length:=by
   unfold start at h2;by_cases hi:i<vs.length
   ·exact hi
   ·rw [List.getElem?_append_right (by simpa using hi)] at h2;rw [List.getElem?_replicate] at h2;split at h2 <;> cases h2
  have ha:vs[i]?=some v:=by
   unfold start at h2;rw [List.getElem?_append_left (by simpa using hi),List.getElem?_map] at h2;cases e:vs[i]? with
   | none=>rw [e] at h2;cases h2
   | some a=>rw [e] at h2;cases h2;rfl
  obtain ⟨u,hu,rv⟩:=r.get ha;have hp:ps[i]?=some y:=by
   rw [<-S.pre,List.getElem?_take_of_lt (by lia)];exact h1
  have ndP:ps.Nodup:=by rw [<-S.pre];exact S.nd.sublist (List.take_sublist _ _)
  refine ⟨u,rv,?_⟩;rcases S.par y (List.mem_of_getElem? hp) with k|k
  ·exact .inl ⟨k,tH ndP hp hu k⟩
  ·obtain ⟨c,e⟩:=yF (n:=s.heap.objs.size+1) k;refine .inr ⟨.inl k,c,e,?_⟩;have q:=x.cell y c e;rw [tK ndP hp hu (by show scope.names.lookup y≠_;rw [k];decide)] at q;exact q
 ·exact e0.hok.fresh (Nat.le_of_lt (x.above y c (PySem.mem_of_lookup h)))
 ·unfold start;show _=N.length;rw [List.length_append,List.length_map,List.length_replicate];lia
theorem aAf {CX:CXT} {P:Program} {w:World} {K:PySem.W.Frag} {mg:Str->Option Value} {base:Heap} {k:Nat} {f:Addr} {name qual:Str} {params:Arguments} {body:List Stmt} {scope:Scope} {dV kV doc pm cdv ct oc:Value} {an od:Option Addr}
  {osl:Array (Option Value)} {N ps:List Str} {sp:Sp} (lk:K.lookup f=some ⟨oc,od,.func (PySem.W.fnOf name qual params body scope dV kV doc pm an cdv ct),osl⟩) (hcd:PySem.W.codeIn K cdv qual=true) (S:bW N ps scope)
  (len:∀vs H Q E,sp vs H Q E->vs.length=ps.length)
  (hbody:∀(A:Around) (outer:List Env) (s:Shared) (H:Hp) (vs:List V) (Q:VK) (E:XK),jH k (A.deeper (envOfC qual scope s.heap.objs.size f cdv))->sp vs H Q E->
   ∃t,PSs (CT CX P w K mg base N qual scope f cdv A outer s H E) body t/\t {nx:=fun _ H'=>Q .non H',rt:=Q} (start N vs) H) :
  mC P w K mg base CX (k+1) f (PySem.W.fnOf name qual params body scope dV kV doc pm an cdv ct) ps sp:=by
 refine ⟨len,fun A outer s H args us vs Q E hr e0 hb r hsp=>?_⟩;have hl:=len _ _ _ _ hsp;have KX:K.In s.heap:=e0.mod.kin.keeps fun b o e=>(e0.bs b o e).1
 have lim:s.heap.NoLimit:=e0.mod.nolimit.keeps fun b o e=>(e0.bs b o e).1
 have hkind:∀y∈ps.zip us,scope.names.lookup y.1=some .local\/(scope.names.lookup y.1=some .cell/\((cellsFrom (s.heap.objs.size+1) scope.names []).lookup y.1).isSome=true):=fun ⟨n,v⟩ hy=>by
  rcases S.par n (List.of_mem_zip hy).1 with q|q
  ·exact .inl q
  ·exact .inr ⟨q,PySem.W.cellsFrom_some _ _ _ (.inl q)⟩
 refine codeAny_call_function hr.depth (KX _ _ lk) rfl S.co S.gen rfl (PySem.W.codeRec_of KX hcd) (hb _ _ _ _ ?_);refine wpAny_newFunctionEnv_cells S.kind hkind fun env he s1 x=>?_
 subst he;refine ⟨lim.keeps x.toInCall.keep,codeAny_func ?_⟩;obtain ⟨t,ht,hq⟩:=hbody A outer s H vs Q E (hr.deeper _) hsp;have I:Inv (CT CX P w K mg base N qual scope f cdv A outer s H E) [] (start N vs) H s1:=JH S hr.hd e0 hl r x;refine wpAny_mono (ht [] s1 (start N vs) H _ I hq) (fun fl s' hs=>?_) fun e s' hs=>hs
 have fin:∀{σ':St} {H':Hp} {v:V} {u:Value},Inv (CT CX P w K mg base N qual scope f cdv A outer s H E) [] σ' H' s'->RelV v u->Q v H'->CE outer P w H s Q u s':=
  fun {σ' H' v u} J rv q=>⟨v,H',J.os,J.bare,J.base,J.hok,rv,q⟩
 cases fl with
 | ret u=>
  obtain ⟨v,σ',H',J,rv,q⟩:=hs;exact fin J rv q
 | next=>
  obtain ⟨σ',H',J,q⟩:=hs;exact fin (v:=V.non) (u:=Value.none) J rfl q
 | brk=>
  obtain ⟨_,_,_,q⟩:=hs;exact False.elim q
 | cont=>
  obtain ⟨_,_,_,q⟩:=hs;exact False.elim q
end L2
namespace L2
open PySem PySem.Spec PyProof.Rows
section
variable {X:Cx} {x:Str} {p pos:Pos} {e:Expr} {es:List Expr} {t:TA} {id T:String} {r:List V->Hp->VK->Prop}
noncomputable def tCB (r:List V->Hp->VK->Prop) (t:TA):TE:=fun σ H Q=>t σ H fun vs H1=>r vs H1 Q
theorem yG (hc:mR X (.builtin id) r) (hg:Gl X x) (hm:X.mg x=none) (hv:bootBuiltins x=some (.builtin id)) (ha:PA X (e::es) t) (hn:x ≠ "__name__":=by decide) (hdb:nDb x:=by decide)
  (he:starEach (e::es) X.env=(false,eval e X.env)::starEach es X.env:=by rfl) (hpl:(backTo pos (starEach es X.env)).any (·.1)=false:=by rfl):PE X (.Call (.Name x p) (e::es) [] pos) (tCB r t):=by
 intro pins s σ H Q I h;refine wpAny_Call_Name_kw (nM I hg hm hv ?_ hn hdb);exact PyProof.Rows.callWith_builtin1 (thn (ha pos pins s σ H _ I h) fun us s1 ⟨vs,H1,I1,r1,q1⟩=>hc pins s1 σ H1 vs us Q I1 r1 q1) he hpl
theorem JK (hc:mR X (.type T) r) (hg:Gl X x) (hm:X.mg x=none) (hv:bootBuiltins x=some (.type T)) (ha:PA X (e::es) t) (hn:x ≠ "__name__":=by decide) (hdb:nDb x:=by decide)
  (he:starEach (e::es) X.env=(false,eval e X.env)::starEach es X.env:=by rfl) (hpl:(backTo pos (starEach es X.env)).any (·.1)=false:=by rfl):PE X (.Call (.Name x p) (e::es) [] pos) (tCB r t):=by
 intro pins s σ H Q I h;refine wpAny_Call_Name_kw (nM I hg hm hv ?_ hn hdb);exact PyProof.Rows.callWith_type1 (thn (ha pos pins s σ H _ I h) fun us s1 ⟨vs,H1,I1,r1,q1⟩=>hc pins s1 σ H1 vs us Q I1 r1 q1) he hpl
end
end L2
namespace HT
open PySem PyProof.Rows
section
open PySem.SeqAt
open PySem.AutoSeq1 (wpAny_loadPart')
open PySem.MeetsSeq PySem.MeetsSeq2 PySem.MeetsSeq3
end
section
variable {prog:Program} {w:World} {A:Around} {E:Value->Shared->Prop} {s:Shared}
theorem WN {t b:Addr} {vs ws:List Value} {Q:Value->Shared->Prop} (ht:IsTup s.heap t vs.toArray) (hb:IsTup s.heap b ws.toArray) (hv:vs≠[])
  (h1:ws=[]->Q (.ref t) s) (h2:ws≠[]->Q (.ref s.heap.objs.size) {s with heap:=s.heap.push {cls:=.type "tuple",data:=.seq (vs++ws).toArray}})
  (hsz:vs.length+ws.length<=sizeLine):wpAny (model prog w) A (binaryOp .Add (.ref t) (.ref b)) Q E s:=by
 obtain ⟨⟨cls,dd,data,sl⟩,ho,hc,n,hd⟩:=id ht;obtain ⟨⟨cls2,dd2,data2,sl2⟩,ho2,hc2,n2,hd2⟩:=id hb;simp only at hc hd hc2 hd2;subst hc hd hc2 hd2;have e:vs.toArray++ws.toArray=(vs++ws).toArray:=by simp
 by_cases hw:ws=[]
 ·exact concat_meets ⟨_,ho,rfl⟩ ⟨_,ho2,rfl⟩ noFill_tuple_add seq_tuple_add PySem.F.slot_tuple_add PySem.F.entry_tuple_add (PySem.F.args_tuple_add_2 _ _)
   (tuple_addW1 t b vs.toArray ws.toArray n n2 dd dd2 sl sl2 (by simpa using hv) (by simp [hw])) ⟨ho,ho2,h1 hw⟩
 ·refine concat_meets ⟨_,ho,rfl⟩ ⟨_,ho2,rfl⟩ noFill_tuple_add seq_tuple_add PySem.F.slot_tuple_add PySem.F.entry_tuple_add (PySem.F.args_tuple_add_2 _ _)
   (tuple_addW2 t b vs.toArray ws.toArray n n2 dd dd2 sl sl2 (by simpa using hv) (by simpa using hw) (by rw [List.size_toArray,List.size_toArray];exact hsz)) ⟨ho,ho2,?_⟩
  rw [e];exact h2 hw
noncomputable def sIx (n d:Nat):Option Int->Nat
 | none=>d
 | some v=>if v<0 then (v+(n:Int)).toNat else min v.toNat n
theorem aAg (n d:Nat) (hd:d<=n) (o:Option Int):sIx n d o<=n:=by
 cases o with
 | none=>exact hd
 | some v=>
  show (if v<0 then (v+(n:Int)).toNat else min v.toNat n)<=n;by_cases hv:v<0
  ·rw [if_pos hv];lia
  ·rw [if_neg hv];exact Nat.min_le_right _ _
theorem JL (v:Int) (n d:Nat):(if v<0 then max (v+(n:Int)) 0 else min v (n:Int))=((sIx n d (some v):Nat):Int):=by
 show (if v<0 then max (v+(n:Int)) 0 else min v (n:Int))=(((if v<0 then (v+(n:Int)).toNat else min v.toNat n):Nat):Int);by_cases hv:v<0
 ·simp only [if_pos hv];lia
 ·simp only [if_neg hv];lia
theorem CV (lo hi:Option Int) (n:Nat):Builtin.Slice.sliceAdjust lo hi 1 (n:Int)=(((sIx n 0 lo:Nat):Int),((sIx n n hi:Nat):Int)):=by
 have h1:¬((1:Int)<0):=by lia
 unfold Builtin.Slice.sliceAdjust;simp only [h1,if_false];refine Prod.ext ?_ ?_
 ·cases lo with
  | none=>rfl
  | some v=>exact JL v n 0
 ·cases hi with
  | none=>rfl
  | some v=>exact JL v n n
theorem CW (i j:Nat):Builtin.Slice.slicePlaces (i:Int) (j:Int) 1=j-i:=by
 unfold Builtin.Slice.slicePlaces;have h1:(1:Int) > 0:=by lia
 simp only [h1,if_true,Int.ediv_one];split <;> lia
theorem qJ {v:Value} {o:Option Int} {Q:Option Int->Shared->Prop} (p:IsPart v o) (h:Q o s):wpAny (model prog w) A (Builtin.Slice.slicePartIndex v) Q E s:=by
 cases p with
 | none=>exact slicePart_none h
 | int i t=>exact slicePart_int h
theorem nW {sl:Addr} {vl vu:Value} {lo hi:Option Int} {n:Nat} {Q:Int×Int×Nat->Shared->Prop} (hs:s.heap.IsSliceOf sl vl vu .none) (pl:IsPart vl lo) (pu:IsPart vu hi)
  (h:Q (((sIx n 0 lo:Nat):Int),1,sIx n n hi-sIx n 0 lo) s):wpAny (model prog w) A (Builtin.Slice.sliceApplied (.ref sl) (pure (n:Int))) Q E s:=by
 obtain ⟨os,hos,hcs,hds⟩:=id hs;unfold Builtin.Slice.sliceApplied Builtin.Slice.sliceFields;refine wpAny_bind (wpAny_bind (wpAny_field hos hds (x:=vl) rfl (wpAny_bind (wpAny_field hos hds (x:=vu) rfl (wpAny_bind (wpAny_field hos hds (x:=.none) rfl (wpAny_pure ?_)))))));refine wpAny_bind (slicePart_none ?_);show wpAny _ _ (if ((1:Int)==0)=true then _ else _) _ _ s;rw [if_neg (by decide)];refine wpAny_bind (qJ pl (wpAny_bind (qJ pu (wpAny_bind (wpAny_pure ?_)))));show wpAny _ _ (match Builtin.Slice.sliceAdjust lo hi 1 (n:Int) with|(lo,hi)=>pure (lo,(1:Int),Builtin.Slice.slicePlaces lo hi 1)) _ _ s;rw [CV lo hi n];show wpAny _ _ (pure (((sIx n 0 lo:Nat):Int),(1:Int),Builtin.Slice.slicePlaces ((sIx n 0 lo:Nat):Int) ((sIx n n hi:Nat):Int) 1)) _ _ s;rw [CW];exact wpAny_pure h
theorem QZ (xs:Array Value) (i k:Nat):((List.range k).filterMap fun (m:Nat)=>xs[((i:Int)+(m:Int)*1).toNat]?).toArray=((xs.toList.drop i).take k).toArray:=by
 have e:(fun (m:Nat)=>xs[((i:Int)+(m:Int)*1).toNat]?)=fun m=>xs[i+m]?:=by
  funext m
  have:((i:Int)+(m:Int)*1).toNat=i+m:=by lia
  rw [this]
 rw [e];have:=pick_run xs i k;rw [List.filterMap_map] at this;have e2:((fun x=>xs[x]?) ∘ fun x=>i+x)=fun m=>xs[i+m]?:=rfl
 rw [e2] at this;rw [this]
theorem mU {t sl:Addr} {items:Array Value} {vl vu:Value} {lo hi:Option Int} {Q:Value->Shared->Prop} (ht:IsTup s.heap t items) (hs:s.heap.IsSliceOf sl vl vu .none) (pl:IsPart vl lo) (pu:IsPart vu hi)
  (hw:¬(sIx items.size 0 lo=0/\sIx items.size items.size hi=items.size))
  (h:Q (.ref s.heap.objs.size) {s with heap:=s.heap.push {cls:=.type "tuple",data:=.seq ((items.toList.drop (sIx items.size 0 lo)).take (sIx items.size items.size hi-sIx items.size 0 lo)).toArray}})
  (hsz:items.size<=sizeLine):wpAny (model prog w) A (getItem (.ref t) (.ref sl)) Q E s:=by
 have htake:sizeOk (.seq ((items.toList.drop (sIx items.size 0 lo)).take (sIx items.size items.size hi-sIx items.size 0 lo)).toArray):=by
  show ((items.toList.drop (sIx items.size 0 lo)).take (sIx items.size items.size hi-sIx items.size 0 lo)).toArray.size<=sizeLine;rw [List.size_toArray,List.length_take,List.length_drop,Array.length_toList];lia
 have hj:sIx items.size items.size hi<=items.size:=aAg _ _ (Nat.le_refl _) hi;obtain ⟨os,hos,hcs,hds⟩:=id hs;have hTs:s.TypeIs (.ref sl) "slice":=⟨os,hos,hcs⟩
 unfold getItem
 try with_reducible refine wpAny_holding ?_
 first|refine wpAny_bind (wpAny_pure ?_)|skip
 refine wpAny_bind (wpAny_sequenceKey ht.typeIs (by decide) ?_);refine wpAny_bind (wpAny_callSpecial?_slot (name:=Str.ofString "__getitem__") ht.typeIs PyProof.Rows.slot_tuple_getitem
  (wpAny_call_entry PyProof.Rows.slot_tuple_getitem ht.typeIs entry_tuple_getitem ?_ (args_tuple_getitem _ _)))
 show wpAny _ _ (Builtin.Tuple.tupleItemsOf (.ref t) >>= _) _ _ s;refine wpAny_bind (tupleItemsOf_ ht ?_);refine wpAny_bind (wpAny_typeOf hTs ?_);rw [if_pos (by decide)];refine wpAny_bind (nW hs pl pu ?_);have hno:¬((((sIx items.size 0 lo:Nat):Int)==0&&(1:Int)==1&&(sIx items.size items.size hi-sIx items.size 0 lo)==items.size)=true):=by
  intro q;rw [Bool.and_eq_true,Bool.and_eq_true] at q;have q1:((sIx items.size 0 lo:Nat):Int)=0:=eq_of_beq q.1.1;have q2:sIx items.size items.size hi-sIx items.size 0 lo=items.size:=eq_of_beq q.2;exact hw ⟨by lia,by lia⟩
 show wpAny _ _ (if (((sIx items.size 0 lo:Nat):Int)==0&&(1:Int)==1&&(sIx items.size items.size hi-sIx items.size 0 lo)==items.size)=true then _ else _) _ _ s;rw [if_neg hno,QZ]
 first
  | exact wpAny_bind (m:=Builtin.Tuple.tupleExact _) (wpAny_newObj_type (wpAny_pure ⟨_,rfl,wpAny_pure h⟩) htake)
  | exact wpAny_bind (m:=Builtin.Tuple.tupleExact _) (wpAny_newObj_type (wpAny_bind (wpAny_pure (wpAny_pure ⟨_,rfl,wpAny_pure h⟩))) htake)
  | exact wpAny_bind (wpAny_bind (m:=Builtin.Tuple.tupleExact _) (wpAny_newObj_type (wpAny_pure (wpAny_pure ⟨_,rfl,wpAny_pure h⟩)) htake))
  | exact wpAny_bind (wpAny_bind (m:=Builtin.Tuple.tupleExact _) (wpAny_newObj_type (wpAny_pure ⟨_,rfl,wpAny_pure h⟩) htake))
end
end HT
namespace L2
open PySem PySem.Spec PyProof.Rows
abbrev TO:=St->Hp->(Option Int->Hp->Prop)->Prop
noncomputable def PO (X:Cx) (e:Option Expr) (t:TO):Prop:=
 ∀(pins:List (Addr×Obj)) (s:Shared) (σ:St) (H:Hp) (Q:Option Int->Hp->Prop),Inv X pins σ H s->t σ H Q->
  wpAny (model X.prog X.w) X.A (evalPart e X.env) (fun u s'=>∃o H',Inv X pins σ H' s'/\IsPart u o/\Q o H') X.xe s
def WP:TO:=fun _ H Q=>Q none H
def aE0 (t:TE):TO:=fun σ H Q=>t σ H fun x H1=>∃i,x=.int i/\Q (some i) H1
section
variable {X:Cx} {e:Expr} {te:TE} {lo hi:Option Expr} {tl th:TO} {pos p2:Pos}
theorem WQ:PO X none WP:=by
 intro pins s σ H Q I h;rw [evalPart_none];exact wpAny_pure ⟨none,H,I,.none,h⟩
theorem WR (h:PE X e te):PO X (some e) (aE0 te):=by
 intro pins s σ H Q I hw;rw [evalPart_some];refine thn (h pins s σ H _ I hw) fun u s1 ⟨x,H1,I1,r1,q1⟩=>?_
 obtain ⟨i,rfl,q⟩:=q1;obtain ⟨t,rfl⟩:=r1;exact ⟨some i,H1,I1,.int i t,q⟩
noncomputable def SlR (X:Cx) (r:V->Option Int->Option Int->Hp->VK->Prop):Prop:=
 ∀(pins:List (Addr×Obj)) (s:Shared) (σ:St) (H:Hp) (x:V) (v vl vu:Value) (lo hi:Option Int) (sl:Addr) (Q:VK),Inv X pins σ H s->RelV x v->s.heap.IsSliceOf sl vl vu .none->IsPart vl lo->IsPart vu hi->r x lo hi H Q->
  ∃T id,typeLookup (.type T) "__getitem__" = pure (some (.builtin id))/\s.TypeIs v T/\wpAny (model X.prog X.w) X.A (getItem v (.ref sl)) (EP X pins σ Q) X.xe s
noncomputable def tSl (r:V->Option Int->Option Int->Hp->VK->Prop) (te:TE) (tl th:TO):TE:=fun σ H Q=>te σ H fun x H1=>tl σ H1 fun l H2=>th σ H2 fun u H3=>r x l u H3 Q
theorem Q0 {r:V->Option Int->Option Int->Hp->VK->Prop} (hr:SlR X r) (he:PE X e te) (hl:PO X lo tl) (hu:PO X hi th):PE X (.Subscript e (.Slice lo hi none p2) pos) (tSl r te tl th):=by
 intro pins s σ H Q I h;refine Subscript_ (thn (he pins s σ H _ I h) fun v s1 ⟨x,H1,I1,r1,q1⟩=>?_);refine wpAny_Slice (thn (hl pins s1 σ H1 _ I1 q1) fun vl s2 ⟨l,H2,I2,pl,q2⟩=>thn (hu pins s2 σ H2 _ I2 q2) fun vu s3 ⟨u,H3,I3,pu,q3⟩=>?_);rw [evalPart_none];refine wpAny_pure ?_;have I4:Inv X pins σ H3 {s3 with heap:=s3.heap.push {cls:=.type "slice",data:=.fields #[vl,vu,.none]}}:=I3.kept (t':=s3.toks) fun b ob q=>Heap.get?_push_of_some _ q
 obtain ⟨T,id,hT,ht,hg⟩:=hr pins {s3 with heap:=s3.heap.push {cls:=.type "slice",data:=.fields #[vl,vu,.none]}} σ H3 x v vl vu l u s3.heap.objs.size Q I4 r1 (Heap.IsSliceOf.new ..) pl pu q3;show wpAny (model X.prog X.w) X.A (subscriptTail e (.Slice lo hi none p2) v (.ref s3.heap.objs.size)) (EP X pins σ Q) X.xe {s3 with heap:=s3.heap.push {cls:=.type "slice",data:=.fields #[vl,vu,.none]}};exact tail_any (ops:=[.ref s3.heap.objs.size,v]) ht hT hg (by with_unfolding_all rfl)
noncomputable def JM (xs:List V) (lo hi:Option Int):List V:=(xs.drop (HT.sIx xs.length 0 lo)).take (HT.sIx xs.length xs.length hi-HT.sIx xs.length 0 lo)
theorem oV (xs:List V) (lo hi:Option Int):(JM xs lo hi).length<=xs.length:=by
 unfold JM;rw [List.length_take,List.length_drop];lia
noncomputable def aGb (K:PySem.W.Frag):V->Option Int->Option Int->Hp->VK->Prop:=fun x lo hi H Q=>∃a xs,x=.ref a/\SqT K H a xs/\
 ¬(HT.sIx xs.length 0 lo=0/\HT.sIx xs.length xs.length hi=xs.length)/\∀p,H p=none->Q (.ref p) (upd H p (.tup (JM xs lo hi)))
theorem aAh:SlR X (aGb X.K):=by
 intro pins s σ H x v vl vu lo hi sl Q I rx hs pl pu h;obtain ⟨a,xs,rfl,hx,hw,q⟩:=h;cases rx;obtain ⟨its,r,ht,hz⟩:=I.tuple hx;have hlen:its.toArray.size=xs.length:=by rw [List.size_toArray];exact r.length.symm
 refine ⟨"tuple",_,PyProof.Rows.slot_tuple_getitem.lookup,ht.typeIs,?_⟩;refine HT.mU ht hs pl pu (by rw [hlen];exact hw) ?_ (by rw [hlen];exact hz);rw [hlen];refine ⟨.ref s.heap.objs.size,_,I.laid (t':=s.toks) (o:=.tup (JM xs lo hi)) (fun b ob q=>Heap.get?_push_of_some _ q) (Nat.le_refl _) ?_,rfl,q _ (I.hok.fresh (Nat.le_refl _))⟩;exact ⟨Nat.le_trans (oV xs lo hi) hz,_,(r.drop (HT.sIx xs.length 0 lo)).take (HT.sIx xs.length xs.length hi-HT.sIx xs.length 0 lo),iM.new _ _⟩
noncomputable def aE1 (K:PySem.W.Frag):R2:=fun x y H Q=>∃a b xs ys,x=.ref a/\y=.ref b/\SqT K H a xs/\SqT K H b ys/\xs≠[]/\xs.length+ys.length<=sizeLine/\
 (ys=[]->Q (.ref a) H)/\(ys≠[]->∀p,H p=none->Q (.ref p) (upd H p (.tup (xs++ys))))
theorem Vals.oW {xs:List V} {us:List Value} (r:Vals xs us):us=[]↔xs=[]:=by
 cases r with
 | nil=>simp
 | cons _ _=>simp
theorem WT:OpR X (binaryOp .Add) (aE1 X.K):=by
 intro pins s σ H x y v u Q I rx ry h;obtain ⟨a,b,xs,ys,rfl,rfl,ha,hb,hx,hz,q1,q2⟩:=h;cases rx;cases ry;obtain ⟨its,r1,p1,_⟩:=I.tuple ha;obtain ⟨its2,r2,p2,_⟩:=I.tuple hb;refine HT.WN p1 p2 (fun z=>hx (r1.oW.mp z)) (fun z=>⟨.ref a,H,I,rfl,q1 (r2.oW.mp z)⟩) (fun z=>?_) (by rw [<-r1.length,<-r2.length];exact hz);refine ⟨.ref s.heap.objs.size,_,I.laid (t':=s.toks) (o:=.tup (xs++ys)) (fun b ob q=>Heap.get?_push_of_some _ q) (Nat.le_refl _) ?_,rfl,q2 (fun w=>z (r2.oW.mpr w)) _ (I.hok.fresh (Nat.le_refl _))⟩;exact ⟨by rw [List.length_append];exact hz,_,r1.append r2,iM.new _ _⟩
end
end L2
namespace L2
open PySem PySem.Spec PyProof.Rows
noncomputable def ixN (n:Nat) (i:Int):Option Nat:=if 0<=i then (if i<n then some i.toNat else none) else if -(n:Int)<=i then some (i+n).toNat else none
noncomputable def atI {α:Type} (xs:List α) (i:Int):Option α:=(ixN xs.length i).bind fun j=>xs[j]?
theorem JN {n:Nat} {i:Int} {j:Nat} (h:ixN n i=some j):seqIndex? i n=some j/\j<n/\-(n:Int)<=i/\i<n:=by
 unfold ixN at h;by_cases h0:0<=i
 ·rw [if_pos h0] at h;by_cases h1:i<n
  ·rw [if_pos h1] at h;have e:i.toNat=j:=Option.some.inj h;exact ⟨by rw [seqIndex_of h0 h1,e],by lia,by lia,h1⟩
  ·rw [if_neg h1] at h;cases h
 ·rw [if_neg h0] at h;by_cases h1:-(n:Int)<=i
  ·rw [if_pos h1] at h;have e:(i+n).toNat=j:=Option.some.inj h;exact ⟨by rw [seqIndex_neg (by lia) h1,e],by lia,h1,by lia⟩
  ·rw [if_neg h1] at h;cases h
theorem v7 {α:Type} {xs:List α} {i:Int} {v:α} (h:atI xs i=some v):∃j,seqIndex? i xs.length=some j/\xs[j]?=some v/\j<xs.length/\-(xs.length:Int)<=i/\i<xs.length:=by
 unfold atI at h;cases e:ixN xs.length i with
 | none=>rw [e] at h;cases h
 | some j=>
  rw [e] at h;obtain ⟨h1,h2,h3,h4⟩:=JN e;exact ⟨j,h1,h,h2,h3,h4⟩
theorem WW {α:Type} {xs:List α} {j:Nat} {v:α} (h:xs[j]?=some v):atI xs (j:Int)=some v:=by
 have hj:j<xs.length:=(List.getElem?_eq_some_iff.mp h).1;have e:ixN xs.length (j:Int)=some j:=by
  unfold ixN;rw [if_pos (by lia),if_pos (by lia)];simp
 unfold atI;rw [e];exact h
theorem yH {α:Type} (xs:List α) (v:α):atI (xs++[v]) (-1)=some v:=by
 have hl:(xs++[v]).length=xs.length+1:=by simp
 have e:ixN (xs++[v]).length (-1)=some xs.length:=by
  unfold ixN;rw [hl,if_neg (by decide),if_pos (by lia)]
  congr 1
  lia
 unfold atI;rw [e];show (xs++[v])[xs.length]?=some v;simp
noncomputable def v8 (b:Expr):Prop:=∀o i,subscripted b false o i=operate [o,i] (getItem o i)
noncomputable def IxR (X:Cx) (r:R2):Prop:=
 ∀(value slice:Expr) (pins:List (Addr×Obj)) (s:Shared) (σ:St) (H:Hp) (x y:V) (v u:Value) (Q:VK),Inv X pins σ H s->RelV x v->RelV y u->r x y H Q->
  subscripted slice false v u=operate [v,u] (getItem v u)->wpAny (model X.prog X.w) X.A (subscriptTail value slice v u) (EP X pins σ Q) X.xe s
noncomputable def MtR (X:Cx) (id:String) (r:V->List V->Hp->VK->Prop):Prop:=
 ∀(pins:List (Addr×Obj)) (s:Shared) (σ:St) (H:Hp) (x:V) (xs:List V) (v:Value) (us:List Value) (Q:VK),Inv X pins σ H s->RelV x v->Vals xs us->r x xs H Q->
  wpAny (model X.prog X.w) X.A (call (.builtin id) (v::us)) (EP X pins σ Q) X.xe s
section
variable {X:Cx} {a b:Expr} {ta tb:TE} {pos:Pos}
theorem JP {r:R2} (hr:IxR X r) (ha:PE X a ta) (hb:PE X b tb) (hs:v8 b):PE X (.Subscript a b pos) (tOp r ta tb):=by
 intro pins s σ H Q I h;exact Subscript_ (aDt ha hb I h fun v u s2 x y H2 I2 rx ry q=>hr a b pins s2 σ H2 x y v u Q I2 rx ry q (hs _ _))
noncomputable def aE2 (K:PySem.W.Frag):R2:=fun x y H Q=>∃p xs i v,x=.ref p/\y=.int i/\SqL K H p xs/\atI xs i=some v/\Q v H
noncomputable def aGc (K:PySem.W.Frag):R2:=fun x y H Q=>∃p xs i v,x=.ref p/\y=.int i/\SqT K H p xs/\atI xs i=some v/\Q v H
noncomputable def aGd:R2:=fun x y H Q=>∃z i c,x=.str z/\y=.int i/\z.length<=sizeLine/\atI z.cps.toList i=some c/\Q (.str ⟨#[c]⟩) H
theorem mV:IxR X (aE2 X.K):=by
 intro value slice pins s σ H x y v u Q I rx ry h hs;obtain ⟨p,xs,i,z,rfl,rfl,hq,he,q⟩:=h;cases rx;obtain ⟨t,rfl⟩:=ry;obtain ⟨its,r,pl,hz⟩:=I.list hq;obtain ⟨j,h1,h2,h3,h4,h5⟩:=v7 he;obtain ⟨w,ew,rw'⟩:=r.get h2;have hl:=r.length;have hn:=oK;have fin:EP X pins σ Q w s:=⟨z,H,I,rw',q⟩
 by_cases h0:0<=i
 ·have hj:i.toNat=j:=by
   rw [seqIndex_of h0 h5] at h1;exact Option.some.inj h1
  exact item_listR pl.isList h0 (by lia) (by rw [hj];simpa using ew) fin hs
 ·have hj:(i+(its.toArray.size:Int)).toNat=j:=by
   rw [seqIndex_neg (by lia) h4] at h1;rw [List.size_toArray,<-hl];exact Option.some.inj h1
  exact subscriptTail_builtinR (x:=w) pl.isList.typeIs slot_list_getitem.lookup
   (wpAny_getItem_list_neg (Q:=fun r s'=>r=w/\EP X pins σ Q r s') pl.isList (by lia) (by rw [List.size_toArray] <;> lia) (by lia) (by rw [hj];simpa using ew) ⟨rfl,fin⟩) hs
theorem aAi:IxR X (aGc X.K):=by
 intro value slice pins s σ H x y v u Q I rx ry h hs;obtain ⟨p,xs,i,z,rfl,rfl,hq,he,q⟩:=h;cases rx;obtain ⟨t,rfl⟩:=ry;obtain ⟨its,r,pl,hz⟩:=I.tuple hq;obtain ⟨j,h1,h2,h3,h4,h5⟩:=v7 he;obtain ⟨w,ew,rw'⟩:=r.get h2;have hl:=r.length;have hn:=oK;have fin:EP X pins σ Q w s:=⟨z,H,I,rw',q⟩
 exact subscriptTail_builtinR (x:=w) pl.typeIs slot_tuple_getitem.lookup
  (getItem_tuple (j:=j) (Q:=fun r s'=>r=w/\EP X pins σ Q r s') pl (by lia) (by lia) (by rw [List.size_toArray,<-hl];exact h1) (by simpa using ew) ⟨rfl,fin⟩) hs
theorem aAj:IxR X aGd:=by
 intro value slice pins s σ H x y v u Q I rx ry h hs;obtain ⟨z,i,c,rfl,rfl,hz,he,q⟩:=h;obtain ⟨t,rfl⟩:=rx;obtain ⟨t',rfl⟩:=ry;obtain ⟨j,h1,h2,h3,h4,h5⟩:=v7 he;have hl:z.cps.toList.length=z.length:=by simp [Str.length]
 rw [hl] at h1 h4 h5;have hn:=oK;exact tail_any (typeIs_str s z t) slot_str_getitem.lookup (getItem_str (c:=c) (by
  have e1:decide (i < -(2 ^ 63:Int))=false:=decide_eq_false (by lia);have e2:decide (i >= 2 ^ 63)=false:=decide_eq_false (by lia);rw [e1,e2,Bool.or_false]) (by rw [h1];simpa using h2) ⟨.str ⟨#[c]⟩,H,I.tok _,⟨_,rfl⟩,q⟩) hs
theorem CZ (its:List Value) (n j:Nat) (u:Value):Obj.mapSeq (·.setIfInBounds j u) {cls:=.type "list",data:=.seq its.toArray n}={cls:=.type "list",data:=.seq (its.set j u).toArray n}:=by
 simp [Obj.mapSeq]
theorem Inv.lst {pins:List (Addr×Obj)} {σ:St} {H:Hp} {s:Shared} {p:Addr} {xs:List V} (I:Inv X pins σ H s) (h:H p=some (.lst xs)) :
  ∃(its:List Value) (n:Nat),Vals xs its/\s.heap.get? p=some {cls:=.type "list",data:=.seq its.toArray n}/\xs.length<=sizeLine:=by
 obtain ⟨z,its,n,r,e⟩:=I.hok p _ h;exact ⟨its,n,r,e,z⟩
theorem Inv.aAk {pins:List (Addr×Obj)} {σ:St} {H:Hp} {s:Shared} {p:Addr} {xs ys:List V} {its its':List Value} {n n':Nat} {f:Obj->Obj} (I:Inv X pins σ H s) (h:H p=some (.lst xs))
  (ho:s.heap.get? p=some {cls:=.type "list",data:=.seq its.toArray n}) (hf:f {cls:=.type "list",data:=.seq its.toArray n}={cls:=.type "list",data:=.seq its'.toArray n'}) (r:Vals ys its') (hz:ys.length<=sizeLine) (t:Nat) :
  Inv X pins σ (upd H p (.lst ys)) {s with heap:=s.heap.update p f,toks:=t}:=by
 have e:(s.heap.update p f).get? p=some {cls:=.type "list",data:=.seq its'.toArray n'}:=by
  rw [Heap.get?_update_self f ho (by rw [hf] <;> rfl),hf]
 refine I.write (x:=p) (e:=p) (by rw [h];trivial) (.inl rfl) (fun b u hb q=>(Heap.get?_update_other _ _ (Ne.symm hb)).trans q) ⟨_,e⟩ ?_;exact ⟨hz,its',n',r,e⟩
noncomputable def aE3:V->V->V->Hp->(Hp->Prop)->Prop:=fun o i v H Q=>∃p xs k j,o=.ref p/\i=.int k/\H p=some (.lst xs)/\ixN xs.length k=some j/\Q (upd H p (.lst (xs.set j v)))
theorem set_list:aG6 X aE3:=by
 intro pins s σ H o i v ov iv u Q I ro ri rv h;obtain ⟨p,xs,k,j,rfl,rfl,hp,hj,q⟩:=h;cases ro;obtain ⟨t,rfl⟩:=ri;obtain ⟨its,n,r,ho,hz⟩:=I.lst hp;obtain ⟨h1,h2,h3,h4⟩:=JN hj;have hl:=r.length;have hn:=oK;have I':Inv X pins σ (upd H p (.lst (xs.set j v))) {s with heap:=s.heap.update p (Obj.mapSeq (·.setIfInBounds j u))}:=
  I.aAk hp ho (CZ its n j u) (r.set rv j) (by rw [List.length_set];exact hz) s.toks
 by_cases h0:0<=k
 ·have hk:k.toNat=j:=by
   rw [seqIndex_of h0 h4] at h1;exact Option.some.inj h1
  exact PySem.W.ki_setAt ho h0 (by lia) (by rw [List.size_toArray,<-hl];exact h4) (by rw [hk];exact ⟨_,I',q⟩)
 ·have hk:(k+(its.toArray.size:Int)).toNat=j:=by
   rw [seqIndex_neg (by lia) h3] at h1;rw [List.size_toArray,<-hl];exact Option.some.inj h1
  exact PySem.W.ki_setBack ho (by lia) (by rw [List.size_toArray,<-hl];exact h3) (by lia) (by rw [hk];exact ⟨_,I',q⟩)
theorem tL (lo hi:Option Int) (n:Nat):(sliceBounds lo hi none n).1=((HT.sIx n 0 lo:Nat):Int)/\(sliceBounds lo hi none n).2.1=((HT.sIx n n hi:Nat):Int)/\(sliceBounds lo hi none n).2.2=1:=by
 refine ⟨?_,?_,rfl⟩
 ·cases lo with
  | none=>simp [sliceBounds,HT.sIx]
  | some i=>
   simp only [sliceBounds,HT.sIx,Option.getD_none,show (1:Int) > 0 by decide,if_true];by_cases h:i<0
   ·simp only [h,if_true] <;> lia
   ·simp only [h,if_false] <;> lia
 ·cases hi with
  | none=>simp [sliceBounds,HT.sIx]
  | some i=>
   simp only [sliceBounds,HT.sIx,Option.getD_none,show (1:Int) > 0 by decide,if_true];by_cases h:i<0
   ·simp only [h,if_true] <;> lia
   ·simp only [h,if_false] <;> lia
theorem rB (its:List Value) (lo hi:Option Int):slicePick its.toArray lo hi none=((its.drop (HT.sIx its.length 0 lo)).take (HT.sIx its.length its.length hi-HT.sIx its.length 0 lo)).toArray:=by
 obtain ⟨h1,h2,h3⟩:=tL lo hi its.toArray.size;unfold slicePick;rw [h1,h2,h3];simp only [sliceRange_one,pick_run,List.size_toArray] <;> rfl
noncomputable def aGe (K:PySem.W.Frag):V->Option Int->Option Int->Hp->VK->Prop:=fun x lo hi H Q=>∃a xs,x=.ref a/\SqL K H a xs/\∀p,H p=none->Q (.ref p) (upd H p (.lst (JM xs lo hi)))
theorem JQ:SlR X (aGe X.K):=by
 intro pins s σ H x v vl vu lo hi sl Q I rx hs pl pu h;obtain ⟨a,xs,rfl,hx,q⟩:=h;cases rx;obtain ⟨its,r,ht,hz⟩:=I.list hx;have hlen:=r.length;refine ⟨"list",_,slot_list_getitem.lookup,ht.isList.typeIs,?_⟩;refine wpAny_getItem_list_slice ht.isList hs pl pu .none (by simp) ?_ (by rw [List.size_toArray] <;> lia);rw [rB,<-hlen];refine ⟨.ref s.heap.objs.size,_,I.laid (t':=s.toks) (o:=.lst (JM xs lo hi)) (fun b ob q=>Heap.get?_push_of_some _ q) (Nat.le_refl _) ?_,rfl,q _ (I.hok.fresh (Nat.le_refl _))⟩;exact ⟨Nat.le_trans (oV xs lo hi) hz,_,0,(r.drop (HT.sIx xs.length 0 lo)).take (HT.sIx xs.length xs.length hi-HT.sIx xs.length 0 lo),Heap.get?_push_size _ rfl⟩
theorem gY:mR X (.builtin "len") (fun xs H Q=>∃p ys,xs=[.ref p]/\(SqL X.K H p ys\/SqT X.K H p ys)/\Q (.int ys.length) H):=by
 intro pins s σ H xs us Q I r h;obtain ⟨p,ys,rfl,hq,q⟩:=h;obtain ⟨u,rfl,rx⟩:=vals1 r;cases rx;have hn:=oK;rcases hq with hq|hq
 ·obtain ⟨its,r',pl,hz⟩:=I.list hq;have hlen:=r'.length;exact Calls.call_len_list pl.isList (by simp only [List.size_toArray] <;> lia) ⟨.int ys.length,H,I.tok _,⟨s.toks+1,by rw [List.size_toArray,hlen]⟩,q⟩
 ·obtain ⟨its,r',pl,hz⟩:=I.tuple hq;have hlen:=r'.length;exact len_tuple pl (by simp only [List.size_toArray] <;> lia) ⟨.int ys.length,H,I.tok _,⟨s.toks+1,by rw [List.size_toArray,hlen]⟩,q⟩
theorem tM:mR X (.builtin "len") (fun xs H Q=>∃z,xs=[.str z]/\z.length<=sizeLine/\Q (.int z.length) H):=by
 intro pins s σ H xs us Q I r h;obtain ⟨z,rfl,hz,q⟩:=h;obtain ⟨u,rfl,t,rfl⟩:=vals1 r;have hn:=oK;exact len_str (by lia) ⟨.int z.length,H,I.tok _,⟨_,rfl⟩,q⟩
theorem mD:mR X (.type "tuple") (fun xs H Q=>∃p ys,xs=[.ref p]/\((SqL X.K H p ys/\∀l,H l=none->Q (.ref l) (upd H l (.tup ys)))\/(SqT X.K H p ys/\Q (.ref p) H))):=by
 intro pins s σ H xs us Q I r h;obtain ⟨p,ys,rfl,h⟩:=h;obtain ⟨u,rfl,rx⟩:=vals1 r;cases rx;rcases h with ⟨hq,q⟩|⟨hq,q⟩
 ·obtain ⟨its,r',pl,hz⟩:=I.list hq;have hlen:=r'.length;refine call_tuple_list pl.isList (fun h' kp=>?_) (by simp only [List.size_toArray] <;> lia);have I1:Inv X pins σ H {s with heap:=h'}:=I.kept (t':=s.toks) kp;have I2:Inv X pins σ (upd H h'.objs.size (.tup ys)) {s with heap:=h'.push {cls:=.type "tuple",data:=.seq its.toArray}}:=
   I1.laid (t':=s.toks) (fun b o e=>Heap.get?_push_of_some _ e) (Nat.le_refl _) (show iH X.prog X.w _ _ _ (.tup ys) from ⟨hz,its,r',iM.new _ _⟩)
  exact ⟨.ref h'.objs.size,_,I2,rfl,q _ (I1.hok.fresh (Nat.le_refl _))⟩
 ·obtain ⟨its,r',pl,hz⟩:=I.tuple hq;exact call_tuple_same pl ⟨.ref p,H,I,rfl,q⟩
noncomputable def tyV (K:PySem.W.Frag) (T:String) (x:V) (H:Hp):Prop:=match x with
 | .str _=>T = "str"
 | .int _=>T = "int"
 | .ref p=>(T = "list"/\∃xs,SqL K H p xs)\/(T = "tuple"/\((∃o,K.lookup p=some o/\o.cls=.type "tuple"/\o.dict=none)\/∃xs,H p=some (.tup xs)))\/
   (T = "dict"/\((∃kvs,H p=some (.dK kvs))\/∃kvs,H p=some (.dT kvs)))\/(T = "set"/\∃S n,H p=some (.set S n))
 | _=>False
theorem T_ {pins:List (Addr×Obj)} {σ:St} {H:Hp} {s:Shared} {T:String} {x:V} {v:Value} (I:Inv X pins σ H s) (r:RelV x v) (ty:tyV X.K T x H) :
  s.TypeIs v T/\∀a,v=.ref a->∃ob,s.heap.get? a=some ob/\ob.dict=none:=by
 cases x with
 | str z=>
  obtain ⟨t,rfl⟩:=r;cases (show T = "str" from ty);exact ⟨typeIs_str s z t,fun _ e=>nomatch e⟩
 | int i=>
  obtain ⟨t,rfl⟩:=r;cases (show T = "int" from ty);exact ⟨typeIs_int s i t,fun _ e=>nomatch e⟩
 | ref p=>
  cases r;rcases ty with ⟨rfl,xs,hq⟩|⟨rfl,⟨o,hk,hc,hd⟩|⟨xs,hk⟩⟩|⟨rfl,hk⟩|⟨rfl,S,n,hk⟩
  ·obtain ⟨its,_,pl,_⟩:=I.list hq;refine ⟨pl.isList.typeIs,fun a e=>?_⟩;cases e;obtain ⟨o,n,e,c,hd,_⟩:=pl;exact ⟨o,e,hd⟩
  ·refine ⟨⟨o,I.kIn p o hk,hc⟩,fun a e=>?_⟩;cases e;exact ⟨o,I.kIn _ o hk,hd⟩
  ·obtain ⟨_,its,_,pl⟩:=I.hok p _ hk;refine ⟨(iM.tup pl).typeIs,fun a e=>?_⟩;cases e;exact iM.bare pl
  ·have z:∃o,s.heap.get? p=some o/\o.ExactDict:=by
    rcases hk with ⟨kvs,hk⟩|⟨kvs,hk⟩
    ·obtain ⟨_,_,_,_,o,_,_,e,ex,_⟩:=I.hok p _ hk;exact ⟨o,e,ex⟩
    ·obtain ⟨_,_,_,_,o,_,_,e,ex,_⟩:=I.hok p _ hk;exact ⟨o,e,ex⟩
   obtain ⟨o,e,ex⟩:=z;refine ⟨⟨o,e,ex.1⟩,fun a e2=>?_⟩;cases e2;exact ⟨o,e,ex.2.1⟩
  ·obtain ⟨o,_,_,_,e,ex,_⟩:=I.hok p _ hk;refine ⟨⟨o,e,ex.1⟩,fun a e2=>?_⟩;cases e2;exact ⟨o,e,ex.2.1⟩
 | _=>exact False.elim ty
noncomputable def aFr (K:PySem.W.Frag) (T:String) (r:V->List V->Hp->VK->Prop) (to:TE):TE:=fun σ H Q=>to σ H fun x H1=>tyV K T x H1/\r x [] H1 Q
noncomputable def tBM (K:PySem.W.Frag) (T:String) (r:V->List V->Hp->VK->Prop) (to:TE) (t:TA):TE:=fun σ H Q=>to σ H fun x H1=>tyV K T x H1/\t σ H1 fun xs H2=>r x xs H2 Q
variable {o e:Expr} {es:List Expr} {to:TE} {t:TA} {name:Str} {apos cpos:Pos} {T id:String} {r:V->List V->Hp->VK->Prop}
theorem JR (pa:PlainAttrs T) (slot:Slot T name id) (hty:typeOf (.builtin id)=pure (.type "method_descriptor")) (hm:MtR X id r) (ho:PE X o to)
  (hbase:attributeBase o name X.env (eval o X.env)=eval o X.env:=by rfl) (hline:(apos.endLine==cpos.line)=true:=by rfl):PE X (.Call (.Attribute o name apos) [] [] cpos) (aFr X.K T r to):=by
 intro pins s σ H Q I h;refine wpAny_Call_method0_late hbase hline (thn (ho pins s σ H _ I h) fun v s1 ⟨x,H1,I1,r1,ty,q1⟩=>?_);obtain ⟨h1,h2⟩:=T_ I1 r1 ty;exact ⟨T,id,pa,slot,hty,h1,h2,Calls.callWith_builtin rfl (PySem.evalArgs_none (hm pins s1 σ H1 x [] v [] Q I1 r1 .nil q1))⟩
theorem Q3 (pa:PlainAttrs T) (slot:Slot T name id) (hty:typeOf (.builtin id)=pure (.type "method_descriptor")) (hm:MtR X id r) (ho:PE X o to) (ha:PA X (e::es) t)
  (hbase:attributeBase o name X.env (eval o X.env)=eval o X.env:=by rfl)
  (hfew:((backTo cpos (starEach (e::es) X.env)).all (fun x=>!x.1)&&(backToKw cpos (keywordEach [] X.env)).all (fun x=>x.1.isSome)
   && decide ((e::es).length+([]:List Keyword).length+(if ([]:List Keyword).isEmpty then 0 else 1)<30))=true:=by rfl)
  (hline:(apos.endLine==cpos.line)=true:=by rfl) (hs:starEach (e::es) X.env=(false,eval e X.env)::starEach es X.env:=by rfl) (hplain:(backTo cpos (starEach es X.env)).any (·.1)=false:=by rfl) :
  PE X (.Call (.Attribute o name apos) (e::es) [] cpos) (tBM X.K T r to t):=by
 intro pins s σ H Q I h;refine wpAny_Call_method_late hbase hfew hline rfl (thn (ho pins s σ H _ I h) fun v s1 ⟨x,H1,I1,r1,ty,q1⟩=>?_);obtain ⟨h1,h2⟩:=T_ I1 r1 ty;refine ⟨T,id,pa,slot,hty,h1,h2,?_⟩;have hA:=ha cpos pins s1 σ H1 _ I1 q1;rw [hs] at hA ⊢;refine Calls.callWith_builtin (by show (false||(backTo cpos (starEach es X.env)).any (·.1))=false;rw [hplain] <;> rfl) (Calls.evalArgs_plain ?_);exact thn hA fun us s2 ⟨vs,H2,I2,r2,q2⟩=>hm pins s2 σ H2 x vs v us Q I2 r1 r2 q2
end
end L2
namespace L2
open PySem PySem.Spec PyProof.Rows
noncomputable def MtM (X:Cx) (id:String) (r:V->List V->Hp->VK->Prop):Prop:=
 ∀(pins:List (Addr×Obj)) (s:Shared) (σ:St) (H:Hp) (x:V) (xs:List V) (v:Value) (us:List Value) (Q:VK),Inv X pins σ H s->RelV x v->Vals xs us->r x xs H Q->
  wpAny (model X.prog X.w) X.A (call (.builtin id) (v::us)) (EP X pins σ Q) X.xe s
theorem Vals.one:∀{x:V} {us:List Value},Vals [x] us->∃u,us=[u]/\RelV x u
 | _,_,.cons r .nil=>⟨_,rfl,r⟩
theorem Vals.zero:∀{us:List Value},Vals [] us->us=[]
 | _,.nil=>rfl
theorem Vals.dropLast {xs:List V} {us:List Value} (h:Vals xs us):Vals xs.dropLast us.dropLast:=by
 induction h with
 | nil=>exact .nil
 | cons r t ih=>
  cases t with
  | nil=>exact .nil
  | cons q t'=>exact .cons r ih
theorem C_ {α:Type} (l:List α):l.eraseIdx (l.length-1)=l.dropLast:=by
 induction l with
 | nil=>rfl
 | cons a r ih=>
  cases r with
  | nil=>rfl
  | cons b r=>
   have e:(a::b::r).length-1=((b::r).length-1)+1:=by
    have h1:(a::b::r).length=r.length+2:=rfl;have h2:(b::r).length=r.length+1:=rfl;lia
   rw [e,List.eraseIdx_cons_succ,ih]
   all_goals rfl
section
variable {X:Cx} {pins:List (Addr×Obj)} {σ:St} {H:Hp} {s:Shared} {l b:Addr} {xs ys zs:List V}
theorem Inv.aE4 {its its':List Value} {n:Nat} {f:Array Value->Array Value} {t':Nat} (I:Inv X pins σ H s) (hH:H l=some (.lst xs))
  (e:s.heap.get? l=some {cls:=.type "list",data:=.seq its.toArray n}) (hf:f its.toArray=its'.toArray) (hv:Vals ys its') (hz:ys.length<=sizeLine) :
  Inv X pins σ (upd H l (.lst ys)) {s with heap:=s.heap.update l (Obj.mapSeq f),toks:=t'}:=by
 have q:=PySem.IsL.update e f;rw [hf] at q;refine I.write (x:=l) (e:=l) (by rw [hH];exact trivial) (.inl rfl) (fun b' u hb hu=>(Heap.get?_update_other s.heap (Obj.mapSeq f) (Ne.symm hb)).trans hu) ⟨_,q⟩ ?_;exact ⟨hz,its',_,hv,q⟩
theorem Inv.aGf {its:List Value} {t':Nat} (I:Inv X pins σ H s) (hv:Vals ys its) (hz:ys.length<=sizeLine) :
  Inv X pins σ (upd H s.heap.objs.size (.lst ys)) {s with heap:=s.heap.push {cls:=.type "list",data:=.seq its.toArray},toks:=t'}:=
 I.laid (fun _ _ q=>Heap.get?_push_of_some _ q) (Nat.le_refl _) ⟨hz,its,0,hv,Heap.get?_push_size _ rfl⟩
theorem Inv.fresh (I:Inv X pins σ H s):H s.heap.objs.size=none:=I.hok.fresh (Nat.le_refl _)
theorem Inv.aDf (I:Inv X pins σ H s) (hH:H l=some (.lst xs)):xs.length<=sizeLine/\∃(its:List Value) (n:Nat),Vals xs its/\xs.length=its.length/\s.heap.get? l=some {cls:=.type "list",data:=.seq its.toArray n}:=by
 obtain ⟨z,its,n,r,e⟩:=I.hok l _ hH;exact ⟨z,its,n,r,r.length,e⟩
theorem Q4 {n:Nat} (h:n<=sizeLine):Builtin.List.listTooLong n=false:=by
 unfold Builtin.List.listTooLong;exact decide_eq_false (by lia)
end
section
variable {X:Cx}
noncomputable def WX:V->List V->Hp->VK->Prop:=fun x vs H Q=>∃l xs y,x=.ref l/\vs=[y]/\H l=some (.lst xs)/\xs.length<sizeLine/\Q .non (upd H l (.lst (xs++[y])))
theorem oX:MtM X "list.append" WX:=by
 intro pins s σ H x vs v us Q I rx rv h;obtain ⟨l,xs,y,rfl,rfl,hH,hz,q⟩:=h;cases rx;obtain ⟨u,rfl,ru⟩:=rv.one;obtain ⟨z,its,n,r,hl,e⟩:=I.aDf hH;refine call_meets F.slot_list_append ⟨_,e,rfl⟩ F.entry_list_append (F.args_list_append_2 _ _) (PySem.list_append l its.toArray n u (by rw [List.size_toArray];lia)) ⟨e,?_⟩;refine ⟨.non,_,I.aE4 (its':=its++[u]) hH e (by simp) (r.append (.cons ru .nil)) ?_,rfl,q⟩;rw [List.length_append,List.length_singleton];lia
noncomputable def WY:V->List V->Hp->VK->Prop:=fun x vs H Q=>∃l b xs zs,x=.ref l/\vs=[.ref b]/\H l=some (.lst xs)/\H b=some (.lst zs)/\xs.length+zs.length<=sizeLine/\Q .non (upd H l (.lst (xs++zs)))
theorem JS:MtM X "list.extend" WY:=by
 intro pins s σ H x vs v us Q I rx rv h;obtain ⟨l,b,xs,zs,rfl,rfl,hH,hB,hz,q⟩:=h;cases rx;obtain ⟨u,rfl,ru⟩:=rv.one;cases ru;obtain ⟨z,its,n,r,hl,e⟩:=I.aDf hH;obtain ⟨z2,its2,n2,r2,hl2,e2⟩:=I.aDf hB;have hsz:its.toArray.size+its2.toArray.size<=sizeLine:=by rw [List.size_toArray,List.size_toArray];lia
 have hlong:¬(!its.toArray.isEmpty&&Builtin.List.listTooLong (its.toArray.size+its2.toArray.size))=true:=by
  rw [Q4 hsz,Bool.and_false];exact Bool.false_ne_true
 refine call_meets F.slot_list_extend ⟨_,e,rfl⟩ F.entry_list_extend (F.args_list_extend_2 _ _)
  (AutoSeq1.list_extend_list_list_0 l its.toArray n b its2.toArray n2 hlong (by rw [List.size_toArray];lia) (by lia)) ⟨e,e2,?_⟩
 refine ⟨.non,_,I.aE4 (its':=its++its2) hH e (by simp) (r.append r2) ?_,rfl,q⟩;rw [List.length_append];lia
noncomputable def aFs:V->List V->Hp->VK->Prop:=fun x vs H Q=>∃l xs y,x=.ref l/\vs=[]/\H l=some (.lst xs)/\xs[xs.length-1]?=some y/\Q y (upd H l (.lst xs.dropLast))
theorem JT:MtM X "list.pop" aFs:=by
 intro pins s σ H x vs v us Q I rx rv h;obtain ⟨l,xs,y,rfl,rfl,hH,hy,q⟩:=h;cases rx;have hus:=rv.zero;subst hus;obtain ⟨z,its,n,r,hl,e⟩:=I.aDf hH;obtain ⟨u,hu,ru⟩:=r.get hy;have hy':its.toArray[its.toArray.size-1]?=some u:=by
  show its.toArray[its.length-1]?=some u;rw [<-Array.getElem?_toList,<-hl];exact hu
 refine call_meets F.slot_list_pop ⟨_,e,rfl⟩ F.entry_list_pop (F.args_list_pop_1 _) (MeetsSeq.list_pop_last l its.toArray n u hy' (by rw [List.size_toArray];lia)) ⟨e,?_⟩;refine ⟨y,_,I.aE4 (its':=its.dropLast) hH e ?_ r.dropLast ?_,ru,q⟩
 ·show its.toArray.eraseIdxIfInBounds (its.toArray.size-1)=its.dropLast.toArray;rw [List.size_toArray,List.eraseIdxIfInBounds_toArray,C_]
 ·rw [List.length_dropLast];lia
end
section
variable {prog:Program} {w:World} {A:Around} {E:Value->Shared->Prop} {s:Shared}
end
section
variable {X:Cx}
end
end L2
namespace L2
open PySem PySem.Spec PyProof.Rows
section
variable {κ:Type} [DecidableEq κ]
noncomputable def qK (kvs:List (κ×V)) (k:κ):Option V:=(kvs.find? fun kv=>decide (kv.1=k)).map (·.2)
noncomputable def putK (kvs:List (κ×V)) (k:κ) (v:V):List (κ×V):=
 if (kvs.any fun kv=>decide (kv.1=k))=true then kvs.map (fun kv=>if kv.1=k then (kv.1,v) else kv) else kvs++[(k,v)]
theorem mF {p:κ×V} {r:List (κ×V)} {k:κ} (e:p.1=k):qK (p::r) k=some p.2:=by simp [qK,List.find?_cons,e]
theorem mG {p:κ×V} {r:List (κ×V)} {k:κ} (e:¬p.1=k):qK (p::r) k=qK r k:=by simp [qK,List.find?_cons,e]
theorem mH (k:κ):∀kvs:List (κ×V),(kvs.any fun kv=>decide (kv.1=k))=(qK kvs k).isSome
 | []=>rfl
 | p::r=>by
  rw [List.any_cons];by_cases e:p.1=k
  ·simp only [mF e,decide_eq_true e,Bool.true_or,Option.isSome_some]
  ·rw [mG e,decide_eq_false e,Bool.false_or];exact mH k r
theorem iY (kvs:List (κ×V)) (k:κ) (v:V):(putK kvs k v).length<=kvs.length+1:=by
 unfold putK;split
 ·rw [List.length_map];lia
 ·rw [List.length_append,List.length_cons,List.length_nil];lia
theorem Q5 {kvs:List (κ×V)} {k:κ} (v:V) (h:qK kvs k=none):putK kvs k v=kvs++[(k,v)]:=by
 unfold putK;rw [mH,h];exact if_neg (by decide)
theorem vR.oY {o:Option V} {u:Option Value} (r:vR o u):o.isSome=u.isSome:=by
 cases o with
 | none=>cases u with
  | none=>rfl
  | some _=>exact (show False from r).elim
 | some _=>cases u with
  | none=>exact (show False from r).elim
  | some _=>rfl
theorem KV.val {kvs:List (κ×V)} {vs:List (κ×Value)} (r:KV kvs vs) (k:κ):vR (qK kvs k) (valueAt vs k):=by
 unfold KV at r;induction r with
 | nil=>exact True.intro
 | @cons p q ps qs h t ih=>
  obtain ⟨h1,h2⟩:=h;by_cases e:p.1=k
  ·have e':q.1=k:=h1.symm.trans e;have b:valueAt (q::qs) k=some q.2:=by simp [valueAt,List.find?_cons,e']
   rw [mF e,b];exact h2
  ·have e':¬q.1=k:=fun z=>e (h1.trans z)
   have b:valueAt (q::qs) k=valueAt qs k:=by simp [valueAt,List.find?_cons,e']
   rw [mG e,b];exact ih
theorem KV.any {kvs:List (κ×V)} {vs:List (κ×Value)} (r:KV kvs vs) (k:κ):(kvs.any fun kv=>decide (kv.1=k))=vs.any fun kv=>decide (kv.1=k):=by
 unfold KV at r;induction r with
 | nil=>rfl
 | cons h t ih=>rw [List.any_cons,List.any_cons,ih,h.1]
theorem KV.repl {kvs:List (κ×V)} {vs:List (κ×Value)} (r:KV kvs vs) (k:κ) {y:V} {u:Value} (ry:RelV y u) :
  KV (kvs.map fun kv=>if kv.1=k then (kv.1,y) else kv) (vs.map fun kv=>if kv.1=k then (kv.1,u) else kv):=by
 unfold KV at r ⊢;induction r with
 | nil=>exact .nil
 | @cons p q ps qs h t ih=>
  rw [List.map_cons,List.map_cons];refine .cons ?_ ih;obtain ⟨h1,h2⟩:=h;by_cases e:p.1=k
  ·rw [if_pos e,if_pos (h1.symm.trans e)];exact ⟨h1,ry⟩
  ·rw [if_neg e,if_neg (fun z=>e (h1.trans z))];exact ⟨h1,h2⟩
theorem KV.put {kvs:List (κ×V)} {vs:List (κ×Value)} (r:KV kvs vs) (k:κ) {y:V} {u:Value} (ry:RelV y u):KV (putK kvs k y) (stored vs k u):=by
 unfold putK stored;rw [r.any k];by_cases e:(vs.any fun kv=>decide (kv.1=k))=true
 ·rw [if_pos e,if_pos e];exact r.repl k ry
 ·rw [if_neg e,if_neg e];exact Paired.snoc r ⟨rfl,ry⟩
theorem KV.length {kvs:List (κ×V)} {vs:List (κ×Value)} (r:KV kvs vs):kvs.length=vs.length:=Paired.length r
end
theorem DG {P:Program} {w:World} {k:Key} {u:Value} (r:RelV (kV k) u):(cV P w).is k u=true:=by
 cases k with
 | inl i=>obtain ⟨t,e⟩:=(show ∃t,u=Value.int i t from r);subst e;exact vU P w i t
 | inr x=>obtain ⟨t,e⟩:=(show ∃t,u=Value.str x t from r);subst e;exact vV P w x t
theorem tO {P:Program} {w:World}:∀{ks:List Key} {us:List Value},Vals (ks.map kV) us->ItemsAre (cV P w) ks us
 | [],_,r=>by rw [List.map_nil] at r;cases r;exact .nil
 | k::ks,_,r=>by
  rw [List.map_cons] at r;cases r with
  | cons h t=>exact .cons (DG h) (tO t)
noncomputable abbrev KT (H:Hp):List (List Key×V)->List (List Key×Addr×Value)->Prop:=Paired fun p q=>p.1=q.1/\H q.2.1=some (.tup (p.1.map kV))/\RelV p.2 q.2.2
theorem KT.val {H:Hp} {kvs:List (List Key×V)} {xs:List (List Key×Addr×Value)} (r:KT H kvs xs) (k:List Key):vR (qK kvs k) ((atKey xs k).map (·.2)):=by
 induction r with
 | nil=>exact True.intro
 | @cons p q ps qs h t ih=>
  obtain ⟨h1,_,h2⟩:=h;by_cases e:p.1=k
  ·have e':q.1=k:=h1.symm.trans e;have b:atKey (q::qs) k=some q.2:=by simp [atKey,List.find?_cons,e']
   rw [mF e,b];exact h2
  ·have e':¬q.1=k:=fun z=>e (h1.trans z)
   have b:atKey (q::qs) k=atKey qs k:=by simp [atKey,List.find?_cons,e']
   rw [mG e,b];exact ih
theorem KT.repl {H:Hp} {kvs:List (List Key×V)} {xs:List (List Key×Addr×Value)} (r:KT H kvs xs) (k:List Key) {y:V} {u:Value} (ry:RelV y u) :
  KT H (kvs.map fun kv=>if kv.1=k then (kv.1,y) else kv) (xs.map (putAt k u)):=by
 induction r with
 | nil=>exact .nil
 | @cons p q ps qs h t ih=>
  rw [List.map_cons,List.map_cons];refine .cons ?_ ih;obtain ⟨h1,h2,h3⟩:=h;unfold putAt;by_cases e:p.1=k
  ·rw [if_pos e,if_pos (h1.symm.trans e)];exact ⟨h1,h2,ry⟩
  ·rw [if_neg e,if_neg (fun z=>e (h1.trans z))];exact ⟨h1,h2,h3⟩
theorem KT.put {H:Hp} {kvs:List (List Key×V)} {xs:List (List Key×Addr×Value)} (r:KT H kvs xs) (k:List Key) {b:Addr} {y:V} {u:Value} (hb:H b=some (.tup (k.map kV))) (ry:RelV y u) :
  KT H (putK kvs k y) (storedH xs k b u):=by
 have e:(kvs.any fun kv=>decide (kv.1=k))=(atKey xs k).isSome:=by
  rw [mH,(r.val k).oY,Option.isSome_map]
 unfold putK storedH;rw [e];by_cases q:(atKey xs k).isSome=true
 ·rw [if_pos q,if_pos q];exact r.repl k ry
 ·rw [if_neg q,if_neg q];exact Paired.snoc r ⟨rfl,hb,ry⟩
theorem KT.keeps {H H':Hp} {kvs:List (List Key×V)} {xs:List (List Key×Addr×Value)} (r:KT H kvs xs) (ht:∀b ys,H b=some (.tup ys)->H' b=some (.tup ys)):KT H' kvs xs:=
 Paired.aDp r fun _ _ z=>⟨z.1,ht _ _ z.2.1,z.2.2⟩
section
variable {P:Program} {w:World} {H:Hp} {h:Heap} {a:Addr}
theorem aAl {u:HO} (ok:HOk P w H h) (e:Rd H a u):iH P w H h a u:=e.ok ok
theorem Q6 {kvs:List (Key×V)} (ok:HOk P w H h) (e:Rd H a (.dK kvs)):kvs.length<=sizeLine/\(a==sysModules)=false/\∃vs,KV kvs vs/\h.DictOf (cV P w) a vs:=
 show iH P w H h a (.dK kvs) from aAl ok e
theorem W0 {kvs:List (Key×V)} (ok:HOk P w H h) (e:H a=some (.dK kvs)):kvs.length<=sizeLine/\(a==sysModules)=false/\∃vs,KV kvs vs/\h.DictOf (cV P w) a vs:=Q6 ok (.inl e)
theorem tQ {ks:List Key} (ok:HOk P w H h) (e:H a=some (.tup (ks.map kV))):(tupleKind (cV P w)).is h ks a:=by
 obtain ⟨_,its,r,o,h1,h2,n,h3⟩:=(show iH P w H h a (.tup (ks.map kV)) from ok a _ e)
 exact ⟨o,its.toArray,n,h1,h2,congrArg (·.1) h3,by simpa using tO r⟩
theorem Q7 {kvs:List (List Key×V)} (ok:HOk P w H h) (e:Rd H a (.dT kvs)):kvs.length<=sizeLine/\(a==sysModules)=false/\
  ∃xs,KT H kvs xs/\h.DictOfH (tupleKind (cV P w)) a xs:=by
 obtain ⟨z,y,xs,r,o,es,ep,h1,h2,h3,h4,h5⟩:=(show iH P w H h a (.dT kvs) from aAl ok e)
 refine ⟨z,y,xs,r,o,es,ep,h1,h2,h3,h4,fun x hx=>?_,h5⟩;have all:∀{l:List (List Key×V)} {m:List (List Key×Addr×Value)},KT H l m->∀x∈m,(tupleKind (cV P w)).is h x.1 x.2.1:=by
  intro l m q;induction q with
  | nil=>intro x hx;exact nomatch hx
  | @cons p q ps qs hq t ih=>
   intro x hx;rcases List.mem_cons.mp hx with e|hx
   ·subst e;exact tQ ok (by rw [<-hq.1];exact hq.2.1)
   ·exact ih x hx
 exact all r x hx
theorem W2 {kvs:List (List Key×V)} (ok:HOk P w H h) (e:H a=some (.dT kvs)):kvs.length<=sizeLine/\(a==sysModules)=false/\
  ∃xs,KT H kvs xs/\h.DictOfH (tupleKind (cV P w)) a xs:=Q7 ok (.inl e)
end
noncomputable def QG (H:Hp) (a:Addr) (y:V) (r:Option V):Prop:=
 (∃kvs k,Rd H a (.dK kvs)/\y=kV k/\r=qK kvs k)\/∃kvs k b,Rd H a (.dT kvs)/\y=.ref b/\H b=some (.tup (k.map kV))/\r=qK kvs k
noncomputable def UG (H:Hp) (a:Addr) (y v:V) (H':Hp):Prop:=
 (∃kvs k,H a=some (.dK kvs)/\y=kV k/\kvs.length<sizeLine/\H'=upd H a (.dK (putK kvs k v)))\/
 ∃kvs k b,H a=some (.dT kvs)/\y=.ref b/\H b=some (.tup (k.map kV))/\kvs.length<sizeLine/\H'=upd H a (.dT (putK kvs k v))
theorem QG.k {H:Hp} {a:Addr} {kvs:List (Key×V)} {k:Key} (e:H a=some (.dK kvs)):QG H a (kV k) (qK kvs k):=.inl ⟨kvs,k,.inl e,rfl,rfl⟩
theorem QG.t {H:Hp} {a b:Addr} {kvs:List (List Key×V)} {k:List Key} (e:H a=some (.dT kvs)) (eb:H b=some (.tup (k.map kV))):QG H a (.ref b) (qK kvs k):=.inr ⟨kvs,k,b,.inl e,rfl,eb,rfl⟩
theorem UG.k {H:Hp} {a:Addr} {kvs:List (Key×V)} {k:Key} {v:V} (e:H a=some (.dK kvs)) (hl:kvs.length<sizeLine):UG H a (kV k) v (upd H a (.dK (putK kvs k v))):=.inl ⟨kvs,k,e,rfl,hl,rfl⟩
theorem UG.t {H:Hp} {a b:Addr} {kvs:List (List Key×V)} {k:List Key} {v:V} (e:H a=some (.dT kvs)) (eb:H b=some (.tup (k.map kV))) (hl:kvs.length<sizeLine) :
  UG H a (.ref b) v (upd H a (.dT (putK kvs k v))):=.inr ⟨kvs,k,b,e,rfl,eb,hl,rfl⟩
section
variable {X:Cx} {pins:List (Addr×Obj)} {σ:St} {H:Hp} {s:Shared} {a:Addr} {y v:V} {u r:Value} {o:Option V} {A:Around} {E:Value->Shared->Prop}
theorem Inv.big (I:Inv X pins σ H s):sysModules<s.heap.objs.size:=by
 have h:mainGlobals<s.heap.objs.size:=(I.mod.glob.keeps I.bk).lt;exact Nat.lt_trans (by decide) h
theorem JV {Q:Value->Shared->Prop} (hu:A.units+1<cLine) (I:Inv X pins σ H s) (g:QG H a y (some v)) (ry:RelV y u) (h:∀w' s',Inv X pins σ H s'->RelV v w'->Q w' s') :
  wpAny (model X.prog X.w) A (getItem (.ref a) u) Q E s:=by
 rcases g with ⟨kvs,k,e,ey,l⟩|⟨kvs,k,b,e,ey,eb,l⟩
 ·subst ey;obtain ⟨z,hd,vs,rel,dd⟩:=Q6 I.hok e;obtain ⟨w',hw,rw'⟩:=vR.some_of (v:=v) (o:=valueAt vs k) (by rw [l];exact rel.val k);exact wpAny_getItem_of (DG ry) dd.mapOf hw (h w' _ (I.tok _) rw')
 ·subst ey;cases (show u=Value.ref b from ry);obtain ⟨z,hd,xs,rel,dd⟩:=Q7 I.hok e;obtain ⟨w',hw,rw'⟩:=vR.some_of (v:=v) (o:=(atKey xs k).map (·.2)) (by rw [l];exact rel.val k);obtain ⟨p,hp,hp2⟩:=Option.map_eq_some_iff.mp hw;refine wpAny_getItem_heap (tupleKind_room_in1 hu) (tQ I.hok eb) dd hp ?_;rw [hp2];exact h w' _ (I.tok _) rw'
theorem aGg {Q:Value->Shared->Prop} (hu:A.units+1<cLine) (I:Inv X pins σ H s) (g:QG H a y o) (ry:RelV y u) (h:∀s',Inv X pins σ H s'->Q (.bool o.isSome) s') :
  wpAny (model X.prog X.w) A (compareOp .In u (.ref a)) Q E s:=by
 rcases g with ⟨kvs,k,e,ey,l⟩|⟨kvs,k,b,e,ey,eb,l⟩
 ·subst ey;obtain ⟨z,hd,vs,rel,dd⟩:=Q6 I.hok e;refine wpAny_in_of (DG ry) hd dd.mapOf ?_;rw [<-(rel.val k).oY,<-l];exact h _ (I.tok _)
 ·subst ey;cases (show u=Value.ref b from ry);obtain ⟨z,hd,xs,rel,dd⟩:=Q7 I.hok e;refine wpAny_in_heap (tupleKind_room_in1 hu) (tQ I.hok eb) hd dd ?_;have q:=(rel.val k).oY;rw [Option.isSome_map] at q;rw [<-q,<-l];exact h _ (I.tok _)
theorem JW {h':Heap} {t':Nat} {ob:HO} (I:Inv X pins σ H s) (mu:Mut (H a)) (hs:Heap.SameBut a s.heap h') (he:∃q,h'.get? a=some q) (new:iH X.prog X.w (upd H a ob) h' a ob) :
  Inv X pins σ (upd H a ob) {s with heap:=h',toks:=t'}:=
 I.write (x:=a) (e:=a) mu (.inl rfl) (fun b q hb z=>(hs.2 b hb).trans z) he new
theorem UJ {P:Program} {w:World} {H':Hp} {h':Heap} {kvs:List (Key×V)} {vs:List (Key×Value)} (z:kvs.length<=sizeLine) (hd:(a==sysModules)=false) (rel:KV kvs vs) (dd:h'.DictOf (cV P w) a vs) :
  iH P w H' h' a (.dK kvs):=⟨z,hd,vs,rel,dd⟩
theorem JX {H':Hp} {Q:Unit->Shared->Prop} (hu:A.units+1<cLine) (I:Inv X pins σ H s) (g:UG H a y v H') (ry:RelV y u) (rv:RelV v r) (h:∀s',Inv X pins σ H' s'->Q () s') :
  wpAny (model X.prog X.w) A (setItem (.ref a) u r) Q E s:=by
 rcases g with ⟨kvs,k,e,ey,l,eH⟩|⟨kvs,k,b,e,ey,eb,l,eH⟩
 ·subst ey eH;obtain ⟨z,hd,vs,rel,dd⟩:=W0 I.hok e;have hz:vs.length<=sizeLine:=by rw [<-rel.length];exact z
  have hl:(putK kvs k v).length<=sizeLine:=by have:=iY kvs k v;lia
  refine wpAny_setItem_pairs (hsz:=hz) (DG ry) dd fun h' dd' hs=>h _ ?_
  have he:∃q,h'.get? a=some q:=let ⟨q,_,_,hq,_⟩:=dd';⟨q,hq⟩
  exact JW I (by rw [e];exact True.intro) hs he (UJ hl hd (rel.put k rv) dd')
 ·subst ey eH;cases (show u=Value.ref b from ry);obtain ⟨z,hd,xs,rel,dd⟩:=W2 I.hok e;have hz:xs.length<=sizeLine:=by rw [<-Paired.length rel];exact z
  have hl:(putK kvs k v).length<=sizeLine:=by have:=iY kvs k v;lia
  refine wpAny_setItem_heap (hsz:=hz) (tupleKind_room_in1 hu) (tQ I.hok eb) dd fun h' dd' hs=>h _ ?_
  obtain ⟨q,es,ep,hq,h2,h3,h4,_,h5⟩:=dd';refine JW I (by rw [e];exact True.intro) hs ⟨q,hq⟩ ⟨hl,hd,_,(rel.put k eb rv).keeps fun c ys ec=>?_,q,es,ep,hq,h2,h3,h4,h5⟩;rw [bG (lZ ec e (fun z=>nomatch z))];exact ec
end
section
variable {X:Cx} {pins:List (Addr×Obj)} {σ:St} {H:Hp} {s:Shared} {a:Addr} {kvs:List (Key×V)} {k:Key} {u:Value} {A:Around} {E:Value->Shared->Prop}
end
theorem v9 {X:Cx} {pins:List (Addr×Obj)} {σ:St} {H:Hp} {s:Shared} {a:Addr} {y:V} {o:Option V} (I:Inv X pins σ H s) (g:QG H a y o):s.TypeIs (.ref a) "dict":=by
 rcases g with ⟨kvs,k,e,_,_⟩|⟨kvs,k,b,e,_,_,_⟩
 ·obtain ⟨_,_,vs,_,dd⟩:=Q6 I.hok e;exact dd.typeIs
 ·obtain ⟨_,_,xs,_,dd⟩:=Q7 I.hok e;exact dd.typeIs
section
variable {X:Cx} {o i e value:Expr} {pos pos' tpos:Pos} {td ty tv:TE}
end
theorem Q8 {P:Program} {w:World} {H:Hp} (h:Heap) (hb:sysModules<h.objs.size):iH P w H (h.push {cls:=.type "dict",data:=.dict #[]}) h.objs.size (.dK []):=
 ⟨Nat.zero_le _,beq_eq_false_iff_ne.mpr (Ne.symm (Nat.ne_of_lt hb)),[],.nil,Heap.DictOf.new h⟩
def yI:TE:=fun _ H Q=>∀p,H p=none->Q (.ref p) (upd H p (.dK []))
section
variable {X:Cx} {pos:Pos}
theorem yJ:PE X (.Dict [] [] pos) yI:=fun pins s σ H Q I h=>
 wpAny_Dict_empty ⟨.ref s.heap.objs.size,_,I.laid (a:=s.heap.objs.size) (o:=.dK []) (t':=s.toks) (fun _ _ q=>Heap.get?_push_of_some _ q) (Nat.le_refl _) (Q8 s.heap I.big),rfl,h _ (I.hok.fresh (Nat.le_refl _))⟩
end
noncomputable def jY (kvs more:List (Key×V)):List (Key×V):=more.foldl (fun acc kv=>putK acc kv.1 kv.2) kvs
theorem KV.merge:∀{more:List (Key×V)} {rs:List (Key×Value)} {kvs:List (Key×V)} {vs:List (Key×Value)},KV more rs->KV kvs vs->KV (jY kvs more) (merged vs rs):=by
 intro more rs kvs vs r;unfold KV at r;induction r generalizing kvs vs with
 | nil=>intro q;exact q
 | @cons p q ps qs h t ih=>
  intro r0;have e:KV (putK kvs p.1 p.2) (stored vs q.1 q.2):=by
   have:=r0.put p.1 h.2;rw [<-h.1];exact this
  exact ih e
theorem mJ:∀(more kvs:List (Key×V)),(jY kvs more).length<=kvs.length+more.length
 | [],kvs=>by show kvs.length<=kvs.length+0;lia
 | p::r,kvs=>by
  have h1:=mJ r (putK kvs p.1 p.2);have h2:=iY kvs p.1 p.2;show (jY (putK kvs p.1 p.2) r).length<=_;rw [List.length_cons];lia
section
variable {X:Cx} {pins:List (Addr×Obj)} {σ:St} {H:Hp} {s:Shared} {a:Addr} {y d:V} {u r:Value} {o:Option V} {A:Around} {E:Value->Shared->Prop}
end
section
variable {X:Cx} {o e f:Expr} {apos cpos:Pos} {td ty tx:TE}
end
section
variable {X:Cx} {pins:List (Addr×Obj)} {σ:St} {H:Hp} {s:Shared} {a:Addr} {kvs:List (Key×V)} {A:Around} {E:Value->Shared->Prop}
end
section
variable {X:Cx} {pins:List (Addr×Obj)} {σ:St} {H:Hp} {s:Shared} {a:Addr} {y:V} {u:Value} {A:Around} {E:Value->Shared->Prop}
end
end L2
namespace Att
open PySem PySem.W PySem.Calls PyProof.Rows
theorem oZ {P:Params} {h:Heap}:∀(ns:List Int) (vs:List Value),WellAll P h vs (ns.map WData.int)->IntsAre vs ns:=by
 intro ns;induction ns with
 | nil=>
  intro vs w;rw [List.map_nil] at w;cases w;exact .nil
 | cons n ns ih=>
  intro vs w;rw [List.map_cons] at w;cases w with
  | cons a b=>
   cases a;exact .cons _ _ (ih _ b)
theorem JZ {l:OpenLaw} {n:Nat} (hn:l.most=some n) {P:Params} {h:Heap} {args:List WData} {vals:List Value}
  (hpre:l.row.toRowW.claim.pre args=true) (hwl:WellAll P h vals args) :
  ∃a vs ns,vals=[Value.ref a]/\args=[WData.list (ns.map WData.int)]/\h.get? a=some {cls:=.type "list",data:=.seq vs.toArray}/\IntsAre vs ns/\ns.length<=n:=by
 have hsh:WShape.hasAll [] args [.list .int]=true:=(pre_splitW hpre).1;have hc:l.pre.holds [] {args:=args}=true:=(pre_splitW hpre).2;obtain ⟨d,r,rfl,h1,h2⟩:=hasAllW_cons hsh;obtain rfl:=hasAllW_nil h2;obtain ⟨xs,rfl,h3⟩:=hasW_list h1;obtain ⟨ns,rfl⟩:=items_int h3;have hlen:ns.length<=n:=by
  unfold OpenLaw.pre at hc;have h4:(WTm.not (.lt (.lit (.int (n:Int))) (.len (.arg 0)))).holds [] {args:=[.list (ns.map .int)]}=true:=by
   have h4:=(holds_andW hc).1;rw [hn] at h4;exact h4
  have h5:=condW_of h4 (w_not (w_lt w_lit (w_len_list (w_arg rfl))));rw [List.length_map] at h5;refine Nat.le_of_not_lt fun q=>?_
  have q':(n:Int)<((ns.length:Nat):Int):=by lia
  first
   | (rw [decide_eq_true q'] at h5;exact absurd h5 (by decide))
   | (simp at h5;lia)
 cases hwl with
 | cons w1 w2=>
  cases w2;cases w1 with
  | list ho hall=>exact ⟨_,_,ns,rfl,rfl,ho,oZ ns _ hall,hlen⟩
theorem J0 (l:OpenLaw) (args:List WData):l.row.toRowW.claim.post args (.bool true) args=true:=
 postW_of (r:=l.row.toRowW) (X:=(true==true))
  (show WShape.has [] (.bool true) .bool=true by first|rfl|decide|simp [WShape.has,WShape.arms,WShape.armsAll])
  (show (WTm.eq .res (.lit (.bool true))).value [] {args:=args,res:=some (.bool true),after:=args}=some (.bool (true==true)) from w_eq_bool (w_res rfl) w_lit) rfl
theorem v_ {l:OpenLaw} {n:Nat} {q:Program} {loose:List Str} {XP:(Str->Option Value)->Heap->Prop} {YP:World->Heap->Prop} {d:DefRec}
  (hn:l.most=some n) (hdf:d.params.defaults=[])
  (call:∀(w:World) (s₀ s₁:Shared) (mg mb:Str->Option Value) (fa:Addr) (o:Obj) (pm cd doc:Value) (a:Addr) (vs:List Value) (ns:List Int),
   Ground q loose [] XP w s₀ mg mb s₁.heap->YP w s₁.heap->
   s₁.heap.get? fa=some o->o.data=.func (docDef d.name d.params d.body d.scope pm cd doc)->s₁.heap.CodeRec cd d.name->mg d.name=some (.ref fa)->
   s₁.heap.get? a=some {cls:=.type "list",data:=.seq vs.toArray}->IntsAre vs ns->ns.length<=n->s₁.gens=#[]->
   codeAny (model l.prog w) callerA (.call (.ref fa) ⟨[.ref a],[]⟩) (fun r s'=>r=.ok (.ret (.bool true))/\OldK s₁.heap s'.heap/\s'.os=s₁.os/\AllBare s'.gens) s₁) :
  WalkO q loose XP YP l.row.toRowW d [] (fun f vs=>PySem.call f vs):=by
 intro w s₀ s₁ mg mb G Y fa o pm cd doc dV kV ho hd hcd hD hmg hg args vals as hpre hlay hrd hwl hlo;obtain rfl:dV=.none:=Dflts.none hD hdf;obtain rfl:kV=.none:=Dflts.noKw hD;obtain ⟨a,vs,ns,rfl,rfl,hobj,hints,hlen⟩:=JZ hn hpre hwl;refine enter_call (codeAny_mono (call w s₀ s₁ mg mb fa o pm cd doc a vs ns G Y ho (fd_plain hd) hcd hmg hobj hints hlen hg) fun r s' hq=>?_);obtain ⟨rfl,h2,h3,h4⟩:=hq;exact ⟨.inl ⟨.bool true,.bool true,[],rfl,fun _=>rfl,.bool true,J0 l _,fun _=>⟨List.Pairwise.nil,fun _ hm=>(nomatch hm)⟩⟩,h2,h3,h4⟩
section
variable {prog:Program} {w:World} {A:Around} {E:Value->Shared->Prop} {s:Shared} {K:Frag}
end
end Att
namespace L2
open PySem PySem.Spec PyProof.Rows
theorem jZ:∀{vs:List Value} {ns:List Int},IntsAre vs ns->Vals (ns.map V.int) vs
 | _,_,.nil=>.nil
 | _,_,.cons n t h=>.cons ⟨t,rfl⟩ (jZ h)
def Only (H:Hp):Prop:=∀b,H b=none\/∃o xs,H b=some (.frz o (.lst xs))
theorem Q9 {P:Program} {w:World} {K:PySem.W.Frag} {mg mb:Str->Option Value} {CX:CXT} {k:Nat} {fa a:Addr} {fd:FuncData} {x:Str} {sp:Sp} {s₁:Shared} {vs:List Value} {ns:List Int}
  (KX:K.In s₁.heap) (hns:s₁.heap.Ns mainGlobals mg) (hb:s₁.heap.Ns builtinsNs mb) (hbb:∀x:Str,x ≠ "__name__"->mb x=bootBuiltins x) (hlim:s₁.heap.NoLimit) (hg:s₁.gens=#[])
  (ha:s₁.heap.get? a=some {cls:=.type "list",data:=.seq vs.toArray}) (hi:IntsAre vs ns) (hl:ns.length<=sizeLine) (hr:jH k callerA)
  (F:∀base:Heap,K.In base->base.Ns mainGlobals mg->mC P w K mg base CX k fa fd [x] sp) (hbind:∀(s:Shared) (u:Value),BindsTo s fd ⟨[u],[]⟩ [(x,u)])
  (hsp:∀H:Hp,Only H->SqL K H a (ns.map V.int)->sp [.ref a] H (fun v _=>v=.bl true) fun _ _ _=>False)
  (hCX:∀H e s',CX [] H s₁ (fun _ _ _=>False) e s'->False) :
  codeAny (model P w) callerA (.call (.ref fa) ⟨[.ref a],[]⟩) (fun r s'=>r=.ok (.ret (.bool true))/\OldK s₁.heap s'.heap/\s'.os=s₁.os/\AllBare s'.gens) s₁:=by
 have rv:=jZ hi;have lenV:=hi.length
 -- from an abstract heap in which nothing but the script may be tracked
 have core:∀H:Hp,Only H->SqL K H a (ns.map V.int)->HOk P w H s₁.heap->(∀b,H b≠none->b=a)->(H a≠none->K.lookup a=none)->
   codeAny (model P w) callerA (.call (.ref fa) ⟨[.ref a],[]⟩) (fun r s'=>r=.ok (.ret (.bool true))/\OldK s₁.heap s'.heap/\s'.os=s₁.os/\AllBare s'.gens) s₁:=by
  intro H hO hS hok hA hK;have base_of:∀{b:Addr} {o:Obj},s₁.heap.get? b=some o->H b=none->(QK s₁.heap H).get? b=some o:=fun e n=>QL e n
  have noA:∀{b:Addr} {o:Obj} {es:Array DictEntry} {ep:Nat},s₁.heap.get? b=some o->o.data=.dict es ep->H b=none:=fun {b o es ep} e d=>by
   cases q:H b with
   | none=>rfl
   | some u=>
    have e':b=a:=hA b (by rw [q];simp);subst e';rw [ha] at e;cases e;have d':Data.seq vs.toArray _=Data.dict es ep:=d;cases d'
  have nsK:∀{b:Addr} {m:Str->Option Value},s₁.heap.Ns b m->(QK s₁.heap H).Ns b m:=fun {b m} ⟨o,es,ep,e,d,r⟩=>⟨o,es,ep,base_of e (noA e d),d,r⟩
  have hKb:K.In (QK s₁.heap H):=fun b o e=>base_of (KX b o e) (by
   cases q:H b with
   | none=>rfl
   | some u=>
    have e':b=a:=hA b (by rw [q];simp);subst e';rw [hK (by rw [q];simp)] at e;cases e)
  have hM:Mod K mg (QK s₁.heap H):=⟨hKb,nsK hns,⟨mb,nsK hb,hbb⟩,let ⟨mc,h1,h2⟩:=hlim;⟨mc,nsK h1,h2⟩⟩
  have e0:WL P w K mg (QK s₁.heap H) callerA [] s₁ H:=⟨rfl,hM,fun b o e=>V4 e,Nat.le_of_eq (HJ _ _),trivial,fun b hb=>absurd (show b∈([]:List Addr) from hb) (by simp),hok,.of_eq hg⟩
  refine codeAny_mono ((F _ hKb (nsK hns)).run callerA [] s₁ H ⟨[.ref a],[]⟩ [.ref a] [.ref a] _ _ hr e0 (hbind s₁ (.ref a)) (.cons rfl .nil) (hsp H hO hS)) fun r s' h=>?_
  cases r with
  | error e=>exact (hCX H e s' h).elim
  | ok fl=>
   cases fl with
   | next=>exact False.elim h
   | brk=>exact False.elim h
   | cont=>exact False.elim h
   | ret u=>
    obtain ⟨v,H',os,bare,un,hok',r',q⟩:=h;have q':v=.bl true:=q;subst q';obtain rfl:u=Value.bool true:=r';refine ⟨rfl,OldK.of_keep fun b o e=>?_,os,bare⟩;cases q:H b with
    | none=>exact un.keep b o e q (by intro z;exact absurd (show b∈([]:List Addr) from z) (by simp)) (by simp)
    | some u=>
     rcases hO b with z|⟨ob,xs,z⟩
     ·rw [q] at z;cases z
     ·have z2:=un.frzs b ob _ z;obtain ⟨e1,_⟩:=hok b _ z;obtain ⟨e2,_⟩:=hok' b _ z2;rw [e] at e1;cases e1;exact e2
 cases hk:K.lookup a with
 | some o=>
  -- the script is one of the module's own objects
  have e:=KX a o hk;rw [ha] at e;cases e;refine core (fun _=>none) (fun _=>.inl rfl) (.inr ⟨_,vs.toArray,_,hk,rfl,rfl,rfl,by rw [List.size_toArray,lenV];exact hl,by simpa using rv⟩) (fun b u z=>by have z':(none:Option HO)=some u:=z;cases z') (fun b z=>absurd rfl z) fun z=>absurd rfl z
 | none=>
  refine core (fun b=>if b=a then some (.frz {cls:=.type "list",data:=.seq vs.toArray} (.lst (ns.map V.int))) else none) (fun b=>?_) (.inl (.inr ⟨{cls:=.type "list",data:=.seq vs.toArray},if_pos rfl⟩)) (fun b u z=>?_) (fun b z=>?_) fun _=>hk
  ·by_cases hb:b=a
   ·exact .inr ⟨_,_,if_pos hb⟩
   ·exact .inl (if_neg hb)
  ·by_cases hb:b=a
   ·have z':=(if_pos hb).symm.trans z;cases z';subst hb;exact ⟨ha,by rw [List.length_map];exact hl,vs,_,rv,ha⟩
   ·have z':=(if_neg hb).symm.trans z;cases z'
  ·by_cases hb:b=a
   ·exact hb
   ·exact absurd (if_neg hb) z
end L2
namespace L2
open PySem PySem.Spec PyProof.Rows
theorem W3 {l:PySem.W.OpenLaw} {n k:Nat} {q:Program} {loose:List Str} {XP:(Str->Option Value)->Heap->Prop} {YP:World->Heap->Prop} {d:DefRec} {K:Params->PySem.W.Frag} {CX:World->CXT} {sp:World->Sp} {x:Str}
  (hn:l.most=some n) (hn2:n<=sizeLine) (hdf:d.params.defaults=[]) (hr:jH k callerA)
  (hY:∀(w:World) (h:Heap),YP w h->(K w.params).In h)
  (F:∀(w:World) (mg:Str->Option Value) (fa:Addr) (h:Heap),(K w.params).In h->h.Ns mainGlobals mg->mg d.name=some (.ref fa)->
   ∃fd:FuncData,(∀(s:Shared) (u:Value),BindsTo s fd ⟨[u],[]⟩ [(x,u)])/\
    ∀base:Heap,(K w.params).In base->base.Ns mainGlobals mg->mC l.prog w (K w.params) mg base (CX w) k fa fd [x] (sp w))
  (hsp:∀(w:World) (H:Hp) (a:Addr) (ns:List Int),ns.length<=n->Only H->SqL (K w.params) H a (ns.map V.int)->sp w [.ref a] H (fun v _=>v=.bl true) fun _ _ _=>False)
  (hCX:∀(w:World) (H:Hp) (s:Shared) (e:Value) (s':Shared),CX w [] H s (fun _ _ _=>False) e s'->False) :
  PySem.W.WalkO q loose XP YP l.row.toRowW d [] (fun f vs=>PySem.call f vs):=by
 refine Att.v_ hn hdf fun w s₀ s₁ mg mb fa o pm cd doc a vs ns G Y ho hd hcd hmg hobj hints hlen hg=>?_
 have KX:=hY w _ Y;obtain ⟨fd,hb,hF⟩:=F w mg fa _ KX G.T.g hmg;exact Q9 KX G.T.g G.T.b G.T.builtins G.T.nolimit hg hobj hints (Nat.le_trans hlen hn2) hr hF hb (fun H hO hS=>hsp w H a ns hlen hO hS) fun H e s'=>hCX w H s₁ e s'
end L2
namespace L2
open PySem PySem.Spec PyProof.Rows
noncomputable def eY (s:Stmt):Arguments:=match s with
 | .FunctionDef _ a _ _ _ _ _ _ _ _=>a
 | _=>{posonlyargs:=[],args:=[],vararg:=none,kwonlyargs:=[],kw_defaults:=[],kwarg:=none,defaults:=[]}
noncomputable def cF (s:Stmt):List Stmt:=match s with
 | .FunctionDef _ _ b _ _ _ _ _ _ _=>b
 | _=>[]
noncomputable def aJ (s:Stmt):Scope:=match s with
 | .FunctionDef _ _ _ _ _ _ sc _ _ _=>sc
 | _=>{kind:=.function,names:=[],isGenerator:=false,isCoroutine:=false}
abbrev CX0:CXT:=fun _ _ _ _ _ _=>False
abbrev E0:XK:=fun _ _ _=>False
theorem DK {X:Cx}:qI CX0 X E0:=fun _ _ _ _ _ _ _ h=>h.elim
structure Fun (K:PySem.W.Frag) (x qual:Str) (st:Stmt) (f:Addr) (fd:FuncData):Prop where
 ex:∃(oc:Value) (od:Option Addr) (kV doc pm:Value) (an:Option Addr) (cdv ct:Value) (osl:Array (Option Value)),
  fd=PySem.W.fnOf x qual (eY st) (cF st) (aJ st) .none kV doc pm an cdv ct/\K.lookup f=some ⟨oc,od,.func fd,osl⟩/\PySem.W.codeIn K cdv qual=true
 kp:PySem.W.keepIn K (.ref f)=true
section
variable {P:Program} {w:World} {K:PySem.W.Frag} {mg:Str->Option Value} {base:Heap}
theorem Fun.ok {x qual:Str} {st:Stmt} {f:Addr} {fd:FuncData} {N ps:List Str} {k:Nat} {sp:Sp} (F:Fun K x qual st f fd) (S:bW N ps (aJ st)) (len:∀vs H Q E,sp vs H Q E->vs.length=ps.length)
  (hbody:∀(cdv:Value) (A:Around) (outer:List Env) (s:Shared) (H:Hp) (vs:List V) (Q:VK) (E:XK),jH k (A.deeper (envOfC qual (aJ st) s.heap.objs.size f cdv))->sp vs H Q E->
   ∃t,PSs (CT CX0 P w K mg base N qual (aJ st) f cdv A outer s H E).nox (cF st) t/\t {nx:=fun _ H'=>Q .non H',rt:=Q} (start N vs) H):mC P w K mg base CX0 (k+1) f fd ps sp:=by
 obtain ⟨oc,od,kV,doc,pm,an,cdv,ct,osl,rfl,lk,hcd⟩:=F.ex;refine aAf lk hcd S len fun A outer s H vs Q E hr hsp=>?_
 obtain ⟨t,h,q⟩:=hbody cdv A outer s H vs Q E hr hsp;exact ⟨t,h.nox,q⟩
theorem Fun.binds {x qual:Str} {st:Stmt} {f:Addr} {fd:FuncData} {ps:List Str} (F:Fun K x qual st f fd)
  (h:∀(kV doc pm:Value) (an:Option Addr) (cdv ct:Value) (us:List Value),us.length=ps.length->bindArgs (PySem.W.fnOf x qual (eY st) (cF st) (aJ st) .none kV doc pm an cdv ct) ⟨us,[]⟩=pure (ps.zip us)):Binds K fd ps []:=by
 obtain ⟨oc,od,kV,doc,pm,an,cdv,ct,osl,rfl,lk,hcd⟩:=F.ex;exact .all (h kV doc pm an cdv ct)
theorem lC {x qual:Str} {st:Stmt} {f:Addr} {oc:Value} {od an:Option Addr} {osl:Array (Option Value)} {kV doc pm cdv ct:Value} (l:K.lookup f=some ⟨oc,od,.func (PySem.W.fnOf x qual (eY st) (cF st) (aJ st) .none kV doc pm an cdv ct),osl⟩)
  (c:PySem.W.codeIn K cdv qual=true) (k:PySem.W.keepIn K (.ref f)=true):Fun K x qual st f (PySem.W.fnOf x qual (eY st) (cF st) (aJ st) .none kV doc pm an cdv ct):=⟨⟨oc,od,kV,doc,pm,an,cdv,ct,osl,rfl,l,c⟩,k⟩
end
section
variable {X:Cx}
end
def bQ (H H':Hp):Prop:=∀b o,H b=some o->H' b=some o
theorem bQ.refl (H:Hp):bQ H H:=fun _ _ h=>h
theorem bQ.trans {H H1 H2:Hp} (a:bQ H H1) (b:bQ H1 H2):bQ H H2:=fun c o h=>b c o (a c o h)
theorem bQ.free {H H':Hp} (e:bQ H H') {l:Addr} (h:H' l=Option.none):H l=Option.none:=by
 cases q:H l with
 | none=>rfl
 | some o=>
  rw [e l o q] at h;cases h
section
variable {X:Cx}
end
section
variable {κ:Type} [DecidableEq κ]
theorem Q_ {kvs:List (κ×V)} {k:κ} (h:qK kvs k=none):¬k∈kvs.map (·.1):=by
 intro m;obtain ⟨p,hp,e⟩:=List.mem_map.mp m;have q:(kvs.any fun kv=>decide (kv.1=k))=true:=List.any_eq_true.mpr ⟨p,hp,decide_eq_true e⟩;rw [mH,h] at q;exact absurd q (by simp)
theorem J1:∀{l:List κ} {k:κ},l.Nodup->¬k∈l->(l++[k]).Nodup
 | [],k,_,_=>by simp
 | a::r,k,h,hk=>by
  obtain ⟨h1,h2⟩:=List.nodup_cons.mp h;show (a::(r++[k])).Nodup;refine List.nodup_cons.mpr ⟨fun m=>?_,J1 h2 fun m=>hk (List.mem_cons.mpr (Or.inr m))⟩;rcases List.mem_append.mp m with q|q
  ·exact h1 q
  ·exact hk (List.mem_cons.mpr (Or.inl (List.mem_singleton.mp q).symm))
theorem W4 {kvs:List (κ×V)} {k:κ} (v:V) (hn:(kvs.map (·.1)).Nodup) (h:qK kvs k=none):((putK kvs k v).map (·.1)).Nodup:=by
 rw [Q5 v h,List.map_append];exact J1 hn (Q_ h)
end
end L2
end
section
namespace TS
open PySem PyProof.Rows
end TS
end
section
namespace TS
open PySem PyProof.Rows
section
variable {prog:Program} {w:World} {A:Around} {E:Value->Shared->Prop} {s:Shared}
end
end TS
end
section
namespace TS
open PySem PyProof.Rows
section
variable {prog:Program} {w:World} {A:Around} {E:Value->Shared->Prop} {s:Shared} {kd:SortKind} {U:Keyed->Prop} {blt:Keyed->Keyed->Bool}
end
section
variable (blt:Keyed->Keyed->Bool)
variable {blt}
variable {a b out:Array Keyed} {ia ib:Nat}
end
end TS
end
section
namespace TS
open PySem PyProof.Rows
section
variable {prog:Program} {w:World} {A:Around} {E:Value->Shared->Prop} {s:Shared} {kd:SortKind} {U:Keyed->Prop} {blt:Keyed->Keyed->Bool}
end
end TS
end
section
namespace TS
open PySem PyProof.Rows
section
variable {blt:Keyed->Keyed->Bool}
variable {a b out:Array Keyed} {na nb:Nat}
variable {U:Keyed->Prop}
end
section
variable {prog:Program} {w:World} {A:Around} {E:Value->Shared->Prop} {s:Shared} {kd:SortKind} {U:Keyed->Prop} {blt:Keyed->Keyed->Bool}
end
end TS
end
section
namespace TS
open PySem PyProof.Rows
section
variable {blt:Keyed->Keyed->Bool} {U:Keyed->Prop}
end
section
variable {prog:Program} {w:World} {A:Around} {E:Value->Shared->Prop} {s:Shared} {kd:SortKind} {U:Keyed->Prop} {blt:Keyed->Keyed->Bool}
end
end TS
end
section
namespace TS
open PySem PyProof.Rows
section
variable {blt:Keyed->Keyed->Bool} {U:Keyed->Prop}
end
section
variable {prog:Program} {w:World} {A:Around} {E:Value->Shared->Prop} {s:Shared} {kd:SortKind} {U:Keyed->Prop} {blt:Keyed->Keyed->Bool}
end
end TS
end
section
namespace TS
open PySem PyProof.Rows
section
variable {blt:Keyed->Keyed->Bool} {U:Keyed->Prop}
end
section
variable {prog:Program} {w:World} {A:Around} {E:Value->Shared->Prop} {s:Shared} {kd:SortKind} {U:Keyed->Prop} {blt:Keyed->Keyed->Bool}
end
section
variable {blt:Keyed->Keyed->Bool} {U:Keyed->Prop}
end
end TS
end
section
namespace TS
open PySem PyProof.Rows
section
variable {prog:Program} {w:World} {A:Around} {E:Value->Shared->Prop} {s:Shared} {kd:SortKind} {U:Keyed->Prop} {blt:Keyed->Keyed->Bool}
end
end TS
end
section
namespace Mi
open PySem
inductive D where
 | uD|non|bl (b:Bool)|int (i:Int)|str (x:Str)
 | tup (xs:List D)|lst (xs:List D)|dct (kvs:List (D×D))|scr (xs:List D)|fdc (kvs:List (D×D))|cel (a:Nat) (xs:List D)|exc (c:Str) (fs:List (Str×Str))|ins (c:Str) (fs:List (Str×D))
 deriving Inhabited
mutual
noncomputable def D.pure:D->Bool
 | .tup xs=>D.aN xs
 | .lst _=>false
 | .dct _=>false
 | .uD=>false
 | .scr xs=>D.aN xs
 | .fdc _=>false
 | .cel _ _=>false
 | .exc _ _=>false
 | .ins _ _=>false
 | _=>true
noncomputable def D.aN:List D->Bool
 | []=>true
 | x::xs=>x.pure&&D.aN xs
end
mutual
noncomputable def eqD:D->D->Bool
 | .non,.non=>true
 | .bl a,.bl b=>a==b
 | .int a,.int b=>a==b
 | .bl a,.int b=>(if a then (1:Int) else 0)==b
 | .int a,.bl b=>a==(if b then (1:Int) else 0)
 | .str a,.str b=>a==b
 | .tup xs,.tup ys=>tR xs ys
 | .lst xs,.lst ys=>tR xs ys
 | _,_=>false
noncomputable def tR:List D->List D->Bool
 | [],[]=>true
 | x::xs,y::ys=>eqD x y&&tR xs ys
 | _,_=>false
end
mutual
noncomputable def D.bJ:Nat->D->Bool
 | n+1,.tup xs=>D.cG n xs
 | n+1,.lst xs=>D.cG n xs
 | 0,.tup _=>false
 | 0,.lst _=>false
 | _,.dct _=>false
 | _,.uD=>false
 | _,.scr _=>false
 | _,.fdc _=>false
 | _,.cel _ _=>false
 | _,.exc _ _=>false
 | _,.ins _ _=>false
 | _,_=>true
noncomputable def D.cG:Nat->List D->Bool
 | _,[]=>true
 | n,x::xs=>D.bJ n x&&D.cG n xs
end
inductive j0 where|lt|le|gt|ge
 deriving DecidableEq
noncomputable def j0.int:j0->Int->Int->Bool
 | .lt,a,b=>decide (a<b)|.le,a,b=>decide (a<=b)|.gt,a,b=>decide (b<a)|.ge,a,b=>decide (b<=a)
noncomputable def j0.nat:j0->Nat->Nat->Bool
 | .lt,a,b=>decide (a<b)|.le,a,b=>decide (a<=b)|.gt,a,b=>decide (b<a)|.ge,a,b=>decide (b<=a)
def RB (a b:Str):Bool:=decide (a.cps.toList<b.cps.toList)
noncomputable def j0.str:j0->Str->Str->Bool
 | .lt,a,b=>RB a b|.le,a,b=>!RB b a|.gt,a,b=>RB b a|.ge,a,b=>!RB a b
mutual
noncomputable def n6 (o:j0):D->D->Option Bool
 | .int a,.int b=>some (o.int a b)
 | .str a,.str b=>some (o.str a b)
 | .tup xs,.tup ys=>fG o xs ys
 | _,_=>none
noncomputable def fG (o:j0):List D->List D->Option Bool
 | [],ys=>some (o.nat 0 ys.length)
 | x::xs,[]=>some (o.nat (x::xs).length 0)
 | x::xs,y::ys=>if eqD x y then fG o xs ys else n6 o x y
end
inductive Res (α:Type) where
 | ok (a:α)|err (c:Str) (as:List D)|bad
noncomputable def Res.bind {α β:Type}:Res α->(α->Res β)->Res β
 | .ok a,f=>f a
 | .err c as,_=>.err c as
 | .bad,_=>.bad
noncomputable instance:Monad Res where
 pure:=.ok
 bind:=Res.bind
@[simp] theorem Res.aM {α β:Type} (a:α) (f:α->Res β):((Res.ok a) >>= f)=f a:=rfl
@[simp] theorem Res.aDg {α β:Type} (c:Str) (as:List D) (f:α->Res β):((Res.err c as:Res α) >>= f)=.err c as:=rfl
@[simp] theorem Res.aDh {α β:Type} (f:α->Res β):((Res.bad:Res α) >>= f)=.bad:=rfl
@[simp] theorem Res.pure_eq {α:Type} (a:α):(pure a:Res α)=.ok a:=rfl
theorem Res.W5 {α β:Type} {m:Res α} {f:α->Res β} {b:β} (h:(m >>= f)=.ok b):∃a,m=.ok a/\f a=.ok b:=by
 cases m with
 | ok a=>exact ⟨a,rfl,h⟩
 | err c as=>cases h
 | bad=>cases h
noncomputable def Res.ofOpt {α:Type}:Option α->Res α
 | some a=>.ok a
 | none=>.bad
@[simp] theorem Res.ZZ {α:Type} (a:α):Res.ofOpt (some a)=.ok a:=rfl
theorem Res.iZ {α:Type} {o:Option α} {a:α} (h:Res.ofOpt o=.ok a):o=some a:=by
 cases o with
 | none=>cases h
 | some b=>cases h;rfl
def lim:Nat:=1000000
inductive Bop where|add|sub|mul|fdiv|mod|pow
 deriving DecidableEq
inductive Cop where|eq|ne|ord (o:j0)|isin|notin|isN|notN
 deriving DecidableEq
def jK (i:Int):Bool:=decide (-(2 ^ 64)<i)&&decide (i<2 ^ 64)
noncomputable def aQ:Bop->D->D->Res D
 | .add,.int a,.int b=>.ok (.int (a+b))
 | .sub,.int a,.int b=>.ok (.int (a-b))
 | .mul,.int a,.int b=>if jK a||jK b then .ok (.int (a*b)) else .bad
 | .fdiv,.int a,.int b=>if decide (0<b)&&decide (b<1073741824) then .ok (.int (a / b)) else .bad
 | .mod,.int a,.int b=>if decide (0<b) then .ok (.int (a % b)) else .bad
 | .pow,.int a,.int b=>if decide (0<=b)&&decide (b<=1000000)&&decide (a.natAbs<2 ^ 64) then .ok (.int (a ^ b.toNat)) else .bad
 | .add,.str a,.str b=>if decide (a.length+b.length<=lim) then .ok (.str (a++b)) else .bad
 | .add,.lst a,.lst b=>if decide (a.length+b.length<=lim)&&D.aN a&&D.aN b then .ok (.lst (a++b)) else .bad
 | _,_,_=>.bad
noncomputable def aE5:D->Res Bool
 | .non=>.ok false
 | .bl b=>.ok b
 | .int i=>.ok (i != 0)
 | .str x=>if decide (x.length<=lim) then .ok ((x.length:Int) != 0) else .bad
 | .tup xs=>.ok (!xs.isEmpty)
 | .lst xs=>.ok (!xs.isEmpty)
 | .dct kvs=>.ok (!kvs.isEmpty)
 | .uD=>.bad
 | .fdc _=>.bad
 | .cel _ _=>.bad
 | .exc _ _=>.bad
 | .ins _ _=>.bad
 | .scr xs=>.ok (!xs.isEmpty)
noncomputable def j4:D->Bool
 | .int _=>true
 | .str _=>true
 | _=>false
noncomputable def keyOk:D->Bool
 | .int _=>true
 | .str _=>true
 | .tup xs=>xs.all j4
 | _=>false
noncomputable def isTup:D->Bool
 | .tup _=>true
 | _=>false
noncomputable def eO:List (D×D)->D->Option D
 | [],_=>none
 | (k,v)::r,q=>if eqD k q then some v else eO r q
noncomputable def putD:List (D×D)->D->D->List (D×D)
 | [],q,w=>[(q,w)]
 | (k,v)::r,q,w=>if eqD k q then (k,w)::r else (k,v)::putD r q w
noncomputable def DN (kvs:List (D×D)) (k:D):Bool:=keyOk k&&kvs.all (fun p=>isTup p.1==isTup k)
def aV:Nat:=12
noncomputable def dG:Cop->D->D->Res D
 | .eq,a,b=>if a.bJ aV&&b.bJ aV then .ok (.bl (eqD a b)) else .bad
 | .ne,a,b=>if a.bJ aV&&b.bJ aV then .ok (.bl (!eqD a b)) else .bad
 | .ord o,a,b=>if a.bJ aV&&b.bJ aV then (match n6 o a b with|some k=>.ok (.bl k)|none=>.bad) else .bad
 | .isin,a,.tup ys=>if a.bJ aV&&D.cG aV ys then .ok (.bl (ys.any fun y=>eqD y a)) else .bad
 | .isin,a,.lst ys=>if a.bJ aV&&D.cG aV ys then .ok (.bl (ys.any fun y=>eqD y a)) else .bad
 | .isin,a,.dct kvs=>if DN kvs a then .ok (.bl (eO kvs a).isSome) else .bad
 | .notin,a,.tup ys=>if a.bJ aV&&D.cG aV ys then .ok (.bl (!(ys.any fun y=>eqD y a))) else .bad
 | .notin,a,.lst ys=>if a.bJ aV&&D.cG aV ys then .ok (.bl (!(ys.any fun y=>eqD y a))) else .bad
 | .notin,a,.dct kvs=>if DN kvs a then .ok (.bl (!(eO kvs a).isSome)) else .bad
 | .isN,.scr _,.non=>.bad
 | .notN,.scr _,.non=>.bad
 | .isN,.fdc _,.non=>.bad
 | .notN,.fdc _,.non=>.bad
 | .isN,.cel _ _,.non=>.bad
 | .notN,.cel _ _,.non=>.bad
 | .isN,.non,.non=>.ok (.bl true)
 | .isN,a,.non=>.ok (.bl false)
 | .notN,.non,.non=>.ok (.bl false)
 | .notN,a,.non=>.ok (.bl true)
 | _,_,_=>.bad
noncomputable def ixD (n:Nat) (i:Int):Option Nat:=if 0<=i then (if i<n then some i.toNat else none) else if -(n:Int)<=i then some (i+n).toNat else none
noncomputable def getD (d i:D):Res D:=
 match d,i with
 | .tup xs,.int i=>Res.ofOpt ((ixD xs.length i).bind fun j=>xs[j]?)
 | .lst xs,.int i=>Res.ofOpt ((ixD xs.length i).bind fun j=>xs[j]?)
 | .scr xs,.int i=>Res.ofOpt ((ixD xs.length i).bind fun j=>xs[j]?)
 | .cel _ xs,.int i=>Res.ofOpt ((ixD xs.length i).bind fun j=>xs[j]?)
 | .str x,.int i=>if decide (x.length<=lim) then Res.ofOpt (((ixD x.cps.toList.length i).bind fun j=>x.cps.toList[j]?).map fun c=>D.str ⟨#[c]⟩) else .bad
 | .dct kvs,k=>if keyOk k then Res.ofOpt (eO kvs k) else .bad
 | .fdc kvs,k=>if keyOk k then Res.ofOpt (eO kvs k) else .bad
 | _,_=>.bad
noncomputable def UL (n d:Nat):Option Int->Nat
 | none=>d
 | some v=>if v<0 then (max (v+(n:Int)) 0).toNat else (min v (n:Int)).toNat
noncomputable def cutD {α:Type} (xs:List α) (lo hi:Option Int):List α:=(xs.drop (UL xs.length 0 lo)).take (UL xs.length xs.length hi-UL xs.length 0 lo)
inductive Ty where|int|str|bool|list|tuple|dict
 deriving DecidableEq
noncomputable def J2:Ty->D->Res Bool
 | _,.uD=>.bad
 | _,.scr _=>.bad
 | _,.fdc _=>.bad
 | _,.cel _ _=>.bad
 | _,.exc _ _=>.bad
 | _,.ins _ _=>.bad
 | .int,.int _=>.ok true
 | .int,.bl _=>.ok true
 | .bool,.bl _=>.ok true
 | .str,.str _=>.ok true
 | .tuple,.tup _=>.ok true
 | .list,.lst _=>.ok true
 | .dict,.dct _=>.ok true
 | _,_=>.ok false
def lK (i:Int):Bool:=decide (-(2 ^ 62)<=i)&&decide (i<2 ^ 62)
noncomputable def asB:D->Res Bool
 | .bl b=>.ok b
 | _=>.bad
noncomputable def asI:D->Res Int
 | .int i=>.ok i
 | _=>.bad
inductive Fl where
 | nx (ρ:List D)|rt (d:D)|bk (ρ:List D)|ct (ρ:List D)
noncomputable def aGh:Fl->Res D
 | .rt d=>.ok d
 | .nx _=>.ok .non
 | _=>.bad
abbrev FE:=List D->Res D
abbrev FT:=List D->Res Bool
abbrev FA:=List D->Res (List D)
def cL (i:Nat):FE:=fun ρ=>match ρ.getD i .uD with|.uD=>.bad|d=>.ok d
def bC (d:D):FE:=fun _=>.ok d
abbrev eF:FE := cL 4
abbrev gF:FE := cL 0
abbrev dO:FE := cL 2
abbrev cO:FE := cL 3
abbrev fP:FE := cL 5
abbrev pX:FE := cL 6
abbrev dY:FE := cL 1
abbrev j5:FE := cL 14
abbrev mQ:FE := cL 7
abbrev iQ:FE := cL 10
abbrev iI:FE := cL 11
abbrev n8:FE := cL 8
abbrev tU:FE := cL 12
abbrev i_:FE := cL 13
abbrev lD:FE := cL 9
abbrev dD:FE := bC (.int 1)
abbrev lL:FE := bC (.int 2)
abbrev fQ:FE := bC (.int 0)
abbrev fZ:FE := bC (.int 3)
abbrev aAm:FE := bC (.int 5)
abbrev aDi:FE := bC (.int 9)
abbrev G9:FE := bC (.int 6)
abbrev lA:FE := bC (.int 26)
abbrev aAn:FE := bC (.int 8)
abbrev J3:FE := bC (.int 40)
abbrev yK:FE := bC (.int 4)
abbrev DP:FE := bC (.int 12)
abbrev W6:FE := bC (.int 10)
abbrev RC:FE := bC (.int 13)
abbrev yL:FE := bC (.int 120)
abbrev W7:FE := bC (.int 24)
def b2 (f:D->D->Res D) (a b:FE):FE:=fun ρ=>do let x <- a ρ;let y <- b ρ;f x y
def b1 (f:D->Res D) (a:FE):FE:=fun ρ=>do let x <- a ρ;f x
def bTB (a:FE):FT:=fun ρ=>do let x <- a ρ;asB x
def J4 (a:FT):FT:=fun ρ=>do let x <- a ρ;pure (!x)
def QH (a b:FT):FT:=fun ρ=>do let x <- a ρ;if x then b ρ else pure false
def bOr (a b:FT):FT:=fun ρ=>do let x <- a ρ;if x then pure true else b ρ
def aU:FA:=fun _=>.ok []
def aB (a:FE) (b:FA):FA:=fun ρ=>do let x <- a ρ;let xs <- b ρ;pure (x::xs)
noncomputable def jL (a:FA):FE:=fun ρ=>do let xs <- a ρ;if decide (xs.length<=lim) then pure (.tup xs) else .bad
noncomputable def jU (a:FA):FE:=fun ρ=>do let xs <- a ρ;if decide (xs.length<=lim) then pure (.lst xs) else .bad
def aY (f:List D->Res D) (a:FA):FE:=fun ρ=>do let xs <- a ρ;f xs
noncomputable def bM (f:D->List D->Res D) (o:FE) (a:FA):FE:=fun ρ=>do let x <- o ρ;let xs <- a ρ;f x xs
noncomputable def dH (a:FE):List D->Res (Option Int):=fun ρ=>do let x <- a ρ;let i <- asI x;pure (some i)
def eX:List D->Res (Option Int):=fun _=>.ok none
noncomputable def aGi:D->Res Bool
 | .dct _=>.bad
 | .scr _=>.bad
 | .fdc _=>.bad
 | d=>aE5 d
def bTr (a:FE):FT:=fun ρ=>do let x <- a ρ;aGi x
noncomputable def G_:D->Res D
 | .int i=>.ok (.int (-i))
 | _=>.bad
noncomputable def Z0:D->Option Int->Option Int->Res D
 | .lst xs,lo,hi=>if D.aN xs then .ok (.lst (cutD xs lo hi)) else .bad
 | .scr xs,lo,hi=>if D.aN xs then .ok (.lst (cutD xs lo hi)) else .bad
 | .tup xs,lo,hi=>if !D.aN xs||decide (UL xs.length 0 lo=0/\UL xs.length xs.length hi=xs.length) then .bad else .ok (.tup (cutD xs lo hi))
 | _,_,_=>.bad
noncomputable def mW (o:j0):List D->Res D
 | []=>.bad
 | x::xs=>if ((x::xs).all fun a=>a.bJ aV&&(x::xs).all fun b=>(n6 o a b).isSome) then .ok (xs.foldl (fun m y=>if (n6 o y m).getD false then y else m) x) else .bad
noncomputable def btD (o:j0) (ds:List D) (i j:Nat):Bool:=(n6 o (ds.getD i .non) (ds.getD j .non)).getD false
noncomputable def tV (o:j0):List D->Res D
 | [.lst xs]=>mW o xs
 | [.tup xs]=>mW o xs
 | [a,b]=>mW o [a,b]
 | _=>.bad
noncomputable def j6:List D->Res D
 | [.tup xs]=>.ok (.int xs.length)
 | [.lst xs]=>.ok (.int xs.length)
 | [.scr xs]=>.ok (.int xs.length)
 | [.cel _ xs]=>.ok (.int xs.length)
 | [.str x]=>if decide (x.length<=lim) then .ok (.int x.length) else .bad
 | _=>.bad
noncomputable def b_:List D->Res D
 | [.tup xs]=>.ok (.tup xs)
 | [.lst xs]=>.ok (.tup xs)
 | _=>.bad
noncomputable def Ty.nm:Ty->String
 | .int => "int" | .str => "str" | .bool => "bool" | .list => "list" | .tuple => "tuple" | .dict => "dict"
def o5 (t:Ty) (d:D):Res D:=do let k <- J2 t d;pure (.bl k)
noncomputable def o6 (n:Nat) (f:List D->Res D):List D->Res D:=fun ds=>if decide (ds.length=n) then f ds else .bad
abbrev FI:=List D->Res (List D×Bool)
noncomputable def o7:D->Res (List D)
 | .lst xs=>.ok xs
 | .tup xs=>.ok xs
 | _=>.bad
noncomputable def gW:List D->Res (List D×Bool)
 | [.int n]=>if lK n then .ok ((List.range n.toNat).map fun (k:Nat)=>D.int (0+(k:Int)),true) else .bad
 | _=>.bad
noncomputable def jQ (f:FA) (g:List D->Res (List D×Bool)):FI:=fun ρ=>do let xs <- f ρ;g xs
def yM (n:Nat) (ρ:List D):List D:=(List.range n).map fun i=>ρ.getD i .uD
def jV:D->Res (List D):=fun d=>.ok [d]
noncomputable def wA (n:Nat) (t:D->Res (List D)) (c:FT) (f:FE) (k:Bool) (ρ:List D) (acc:List D) (x:D):Res (List D):=do
 let bs <- t x
 let ok <- c (yM n ρ++bs)
 if ok then (do
  let y <- f (yM n ρ++bs)
  if k||y.pure then pure (acc++[y]) else .bad)
 else pure acc
noncomputable def nY (g:List D->D->Res (List D)):List D->List D->Res (List D)
 | acc,[]=>.ok acc
 | acc,x::xs=>do let a <- g acc x;nY g a xs
noncomputable def cH (n:Nat) (it:FI) (t:D->Res (List D)) (c:FT) (f:FE) (k:Bool):FE:=fun ρ=>do
 let xs <- it ρ
 if decide (xs.1.length<=lim) then (do
  let ys <- nY (wA n t c f k ρ) [] xs.1
  pure (.lst ys)) else .bad
def d_:FT:=fun _=>.ok true
abbrev FS:=List D->Res Fl
noncomputable def D.yN:D->Bool
 | .cel _ _=>false
 | _=>true
noncomputable def inner:D->Bool
 | .lst xs=>D.aN xs
 | .dct kvs=>D.aN (kvs.map (·.2))
 | .cel _ xs=>D.aN xs
 | _=>false
def o8:FS:=fun ρ=>.ok (.nx ρ)
noncomputable def bA (f g:FS):FS:=fun ρ=>do
 let r <- f ρ
 match r with
 | .nx ρ'=>g ρ'
 | r=>.ok r
noncomputable def cM (o:Bool) (i:Nat) (f:FE) (k:Bool):FS:=fun ρ=>do
 let d <- f ρ
 if (if o then k&&inner d else k||d.pure) then .ok (.nx (ρ.set i d)) else .bad
noncomputable def sAl (i j:Nat):FS:=fun ρ=>do
 let d <- cL j ρ
 .ok (.nx (ρ.set i d))
noncomputable def sIf (c:FT) (f g:FS):FS:=fun ρ=>do
 let k <- c ρ
 if k then f ρ else g ρ
noncomputable def o9 (f:FE) (k:Bool):FS:=fun ρ=>do
 let d <- f ρ
 if k||d.pure then .ok (.rt d) else .bad
noncomputable def aAo (i:Nat):FS:=fun ρ=>do
 let d <- cL i ρ
 .ok (.rt d)
def rtX:Nat:=1000000
noncomputable def wB (f:FE) (k:Bool):FS:=fun ρ=>do
 let d <- f ρ
 if k||d.pure then .ok (.rt (.tup (d::ρ))) else .bad
noncomputable def qL (i:Nat):FS:=fun ρ=>do
 let d <- cL i ρ
 if d.yN then .ok (.rt (.tup (d::ρ))) else .bad
noncomputable def rC (i:Nat) (f:FE):FS:=fun ρ=>do
 let d <- f ρ
 match ρ.getD i .uD with
 | .lst xs=>if decide (xs.length<lim)&&d.pure then .ok (.nx (ρ.set i (.lst (xs++[d])))) else .bad
 | _=>.bad
noncomputable def RD (i:Nat) (f:FE) (g:FE):FS:=fun ρ=>do
 let d <- g ρ
 let k <- f ρ
 match ρ.getD i .uD with
 | .dct kvs=>if decide (kvs.length<lim)&&DN kvs k&&d.pure then .ok (.nx (ρ.set i (.dct (putD kvs k d)))) else .bad
 | _=>.bad
def tg1 (i:Nat):D->List D->Res (List D):=fun d ρ=>.ok (ρ.set i d)
noncomputable def wC:List Nat->List D->List D->List D
 | i::is,d::ds,ρ=>wC is ds (ρ.set i d)
 | _,_,ρ=>ρ
noncomputable def tgN (is:List Nat):D->List D->Res (List D)
 | .tup ds,ρ=>if decide (ds.length=is.length) then .ok (wC is ds ρ) else .bad
 | _,_=>.bad
noncomputable def pW (t:D->List D->Res (List D)) (body:FS):List D->List D->Res Fl
 | [],ρ=>.ok (.nx ρ)
 | x::xs,ρ=>do
  let ρ1 <- t x ρ
  let r <- body ρ1
  match r with
  | .nx ρ'=>pW t body xs ρ'
  | .ct ρ'=>pW t body xs ρ'
  | .bk ρ'=>.ok (.nx ρ')
  | .rt d=>.ok (.rt d)
noncomputable def DQ (it:FI) (t:D->List D->Res (List D)) (body:FS):FS:=fun ρ=>do
 let xs <- it ρ
 if xs.2 then pW t body xs.1 ρ else .bad
noncomputable def DR (i:Nat) (t:D->List D->Res (List D)) (body:FS):FS:=fun ρ=>do
 let d <- cL i ρ
 let xs <- o7 d
 pW t body xs ρ
noncomputable def fnS (n m:Nat) (f:FS):List D->Res D:=fun ds=>do
 let r <- f (ds++List.replicate (m-n) .uD)
 aGh r
end Mi
end
section
namespace Mi
open PySem
end Mi
end
section
namespace Mi
open PySem L2
class KFrag where
 K:PySem.W.Frag
variable [KFrag]
noncomputable def W8 (H:Hp) (a:Addr) (xs:List V):Prop:=(∃o,H a=some (.frz o (.lst xs)))\/
 ∃(o:Obj) (its:Array Value) (n:Nat),KFrag.K.lookup a=some o/\o.cls=.type "list"/\o.dict=none/\o.data=.seq its n/\its.size<=sizeLine/\Vals xs its.toList
theorem W8.sq {H:Hp} {a:Addr} {xs:List V} {K:PySem.W.Frag} (h:W8 H a xs) (hK:KFrag.K=K):SqL K H a xs:=by
 subst hK;rcases h with ⟨o,h⟩|h
 ·exact .inl (.inr ⟨o,h⟩)
 ·exact .inr h
noncomputable def kD:Key->D
 | .inl i=>.int i
 | .inr x=>.str x
noncomputable def HB:HO->Bool
 | .lst _=>true
 | .dK _=>true
 | .dT _=>true
 | _=>false
noncomputable def XO (a C:Addr) (dx:Option Addr) (h:Heap):Prop:=∃o,h.get? a=some o/\o.cls=.ref C/\o.dict=dx/\∃vs,o.data=.fields vs
noncomputable def XD (dx:Addr) (fs:List (Str×Str)) (h:Heap):Prop:=∃mA,h.Ns1 dx mA/\PySem.Within mA (fs.map (·.1))/\∀f,match fs.lookup f with
 | some t=>∃tk,mA f=some (.str t tk)
 | none=>mA f=none
noncomputable def XDs (H:Hp) (fs:List (Str×Str)):Option Addr->Prop
 | none=>fs=[]
 | some d=>H d=some (.ext (XD d fs))
mutual
inductive Rep (P:Addr->Prop) (H:Hp):V->D->Prop
 | non:Rep P H .non .non
 | bl (b:Bool):Rep P H (.bl b) (.bl b)
 | int (i:Int):Rep P H (.int i) (.int i)
 | str (x:Str):Rep P H (.str x) (.str x)
 | tup {a:Addr} {xs:List V} {ds:List D}:H a=some (.tup xs)->a_ P H xs ds->Rep P H (.ref a) (.tup ds)
 | lst {a:Addr} {xs:List V} {ds:List D}:H a=some (.lst xs)->P a->a_ P H xs ds->Rep P H (.ref a) (.lst ds)
 | cel {a:Addr} {xs:List V} {ds:List D}:H a=some (.lst xs)->P a->a_ P H xs ds->Rep P H (.ref a) (.cel a ds)
 | frz {a:Addr} {xs:List V} {ds:List D}:W8 H a xs->a_ P H xs ds->Rep P H (.ref a) (.scr ds)
 | dK {a:Addr} {kvs:List (Key×V)} {ds:List (D×D)}:H a=some (.dK kvs)->P a->jA P H kvs ds->(kvs.map (·.1)).Nodup->Rep P H (.ref a) (.dct ds)
 | dT {a:Addr} {kvs:List (List Key×V)} {ds:List (D×D)}:H a=some (.dT kvs)->P a->jR P H kvs ds->(kvs.map (·.1)).Nodup->Rep P H (.ref a) (.dct ds)
 | fdK {a:Addr} {o:Obj} {kvs:List (Key×V)} {ds:List (D×D)}:H a=some (.frz o (.dK kvs))->jA P H kvs ds->(kvs.map (·.1)).Nodup->Rep P H (.ref a) (.fdc ds)
 | fdT {a:Addr} {o:Obj} {kvs:List (List Key×V)} {ds:List (D×D)}:H a=some (.frz o (.dT kvs))->jR P H kvs ds->(kvs.map (·.1)).Nodup->Rep P H (.ref a) (.fdc ds)
 | exc {a C:Addr} {dx:Option Addr} {c:Str} {fs:List (Str×Str)}:PySem.W.nsIn KFrag.K mainGlobals c=some (some (.ref C))->H a=some (.ext (XO a C dx))->XDs H fs dx->Rep P H (.ref a) (.exc c fs)
 | ins {a C dx:Addr} {c:Str} {vs:List (Str×V)} {fs:List (Str×D)}:PySem.W.nsIn KFrag.K mainGlobals c=some (some (.ref C))->H a=some (.ins C dx vs)->lN P H vs fs->Rep P H (.ref a) (.ins c fs)
inductive lN (P:Addr->Prop) (H:Hp):List (Str×V)->List (Str×D)->Prop
 | nil:lN P H [] []
 | cons {f:Str} {v:V} {d:D} {r:List (Str×V)} {ds:List (Str×D)}:Rep P H v d->lN P H r ds->lN P H ((f,v)::r) ((f,d)::ds)
inductive a_ (P:Addr->Prop) (H:Hp):List V->List D->Prop
 | nil:a_ P H [] []
 | cons {v:V} {d:D} {vs:List V} {ds:List D}:Rep P H v d->a_ P H vs ds->a_ P H (v::vs) (d::ds)
inductive jA (P:Addr->Prop) (H:Hp):List (Key×V)->List (D×D)->Prop
 | nil:jA P H [] []
 | cons {k:Key} {v:V} {d:D} {r:List (Key×V)} {ds:List (D×D)}:Rep P H v d->jA P H r ds->jA P H ((k,v)::r) ((kD k,d)::ds)
inductive jR (P:Addr->Prop) (H:Hp):List (List Key×V)->List (D×D)->Prop
 | nil:jR P H [] []
 | cons {k:List Key} {v:V} {d:D} {r:List (List Key×V)} {ds:List (D×D)}:Rep P H v d->jR P H r ds->jR P H ((k,v)::r) ((.tup (k.map kD),d)::ds)
end
noncomputable def J5 (P:Addr->Prop) (H H':Hp):Prop:=∀a o,H a=some o->(P a\/HB o=false)->H' a=some o
theorem J5.same {P:Addr->Prop} {H H':Hp} (h:bQ H H'):J5 P H H':=fun a o e _=>h a o e
mutual
theorem Rep.keep {P P':Addr->Prop} {H H':Hp} (k:J5 P H H') (m:∀a,P a->P' a):∀{v:V} {d:D},Rep P H v d->Rep P' H' v d
 | _,_,.non=>.non
 | _,_,.bl b=>.bl b
 | _,_,.int i=>.int i
 | _,_,.str x=>.str x
 | _,_,.tup e r=>.tup (k _ _ e (.inr rfl)) (a_.keep k m r)
 | _,_,.lst e p r=>.lst (k _ _ e (.inl p)) (m _ p) (a_.keep k m r)
 | _,_,.cel e p r=>.cel (k _ _ e (.inl p)) (m _ p) (a_.keep k m r)
 | _,_,.frz e r=>.frz (e.imp (fun ⟨o,e⟩=>⟨o,k _ _ e (.inr rfl)⟩) id) (a_.keep k m r)
 | _,_,.dK e p r n=>.dK (k _ _ e (.inl p)) (m _ p) (jA.keep k m r) n
 | _,_,.dT e p r n=>.dT (k _ _ e (.inl p)) (m _ p) (jR.keep k m r) n
 | _,_,.fdK e r n=>.fdK (k _ _ e (.inr rfl)) (jA.keep k m r) n
 | _,_,.fdT e r n=>.fdT (k _ _ e (.inr rfl)) (jR.keep k m r) n
 | _,_,.exc (dx:=dx) n e q=>.exc n (k _ _ e (.inr rfl)) (match dx,q with|none,q=>q|some _,q=>k _ _ q (.inr rfl))
 | _,_,.ins n e r=>.ins n (k _ _ e (.inr rfl)) (lN.keep k m r)
theorem lN.keep {P P':Addr->Prop} {H H':Hp} (k:J5 P H H') (m:∀a,P a->P' a):∀{v:List (Str×V)} {d:List (Str×D)},lN P H v d->lN P' H' v d
 | _,_,.nil=>.nil
 | _,_,.cons r t=>.cons (Rep.keep k m r) (lN.keep k m t)
theorem a_.keep {P P':Addr->Prop} {H H':Hp} (k:J5 P H H') (m:∀a,P a->P' a):∀{v:List V} {d:List D},a_ P H v d->a_ P' H' v d
 | _,_,.nil=>.nil
 | _,_,.cons r t=>.cons (Rep.keep k m r) (a_.keep k m t)
theorem jA.keep {P P':Addr->Prop} {H H':Hp} (k:J5 P H H') (m:∀a,P a->P' a):∀{v:List (Key×V)} {d:List (D×D)},jA P H v d->jA P' H' v d
 | _,_,.nil=>.nil
 | _,_,.cons r t=>.cons (Rep.keep k m r) (jA.keep k m t)
theorem jR.keep {P P':Addr->Prop} {H H':Hp} (k:J5 P H H') (m:∀a,P a->P' a):∀{v:List (List Key×V)} {d:List (D×D)},jR P H v d->jR P' H' v d
 | _,_,.nil=>.nil
 | _,_,.cons r t=>.cons (Rep.keep k m r) (jR.keep k m t)
end
theorem Rep.mono {P P':Addr->Prop} {H:Hp} {v:V} {d:D} (r:Rep P H v d) (m:∀a,P a->P' a):Rep P' H v d:=r.keep (fun _ _ e _=>e) m
theorem a_.mono {P P':Addr->Prop} {H:Hp} {v:List V} {d:List D} (r:a_ P H v d) (m:∀a,P a->P' a):a_ P' H v d:=r.keep (fun _ _ e _=>e) m
theorem Rep.same {P:Addr->Prop} {H H':Hp} {v:V} {d:D} (r:Rep P H v d) (s:bQ H H'):Rep P H' v d:=r.keep (.same s) fun _ h=>h
theorem a_.same {P:Addr->Prop} {H H':Hp} {v:List V} {d:List D} (r:a_ P H v d) (s:bQ H H'):a_ P H' v d:=r.keep (.same s) fun _ h=>h
mutual
theorem Rep.bI {P P':Addr->Prop} {H:Hp}:∀{v:V} {d:D},Rep P H v d->d.pure=true->Rep P' H v d
 | _,_,.non,_=>.non
 | _,_,.bl b,_=>.bl b
 | _,_,.int i,_=>.int i
 | _,_,.str x,_=>.str x
 | _,_,.tup e r,h=>.tup e (a_.bI r (by rw [D.pure] at h;exact h))
 | _,_,.lst _ _ _,h=>by rw [D.pure] at h;cases h
 | _,_,.cel _ _ _,h=>by rw [D.pure] at h;cases h
 | _,_,.frz e r,h=>.frz e (a_.bI r (by rw [D.pure] at h;exact h))
 | _,_,.dK _ _ _ _,h=>by rw [D.pure] at h;cases h
 | _,_,.dT _ _ _ _,h=>by rw [D.pure] at h;cases h
 | _,_,.fdK _ _ _,h=>by rw [D.pure] at h;cases h
 | _,_,.fdT _ _ _,h=>by rw [D.pure] at h;cases h
 | _,_,.exc _ _ _,h=>by rw [D.pure] at h;cases h
 | _,_,.ins _ _ _,h=>by rw [D.pure] at h;cases h
theorem a_.bI {P P':Addr->Prop} {H:Hp}:∀{v:List V} {d:List D},a_ P H v d->D.aN d=true->a_ P' H v d
 | _,_,.nil,_=>.nil
 | _,_,.cons r t,h=>by
  rw [D.aN,Bool.and_eq_true] at h;exact .cons (Rep.bI r h.1) (a_.bI t h.2)
end
theorem a_.length {P:Addr->Prop} {H:Hp}:∀{v:List V} {d:List D},a_ P H v d->v.length=d.length
 | _,_,.nil=>rfl
 | _,_,.cons _ t=>by rw [List.length_cons,List.length_cons,a_.length t]
theorem a_.get {P:Addr->Prop} {H:Hp}:∀{vs:List V} {ds:List D} {i:Nat} {d:D},a_ P H vs ds->ds[i]?=some d->∃v,vs[i]?=some v/\Rep P H v d
 | _,_,_,_,.nil,e=>by simp at e
 | _,_,0,_,.cons r _,e=>by simp at e;subst e;exact ⟨_,rfl,r⟩
 | _,_,i+1,d,.cons _ t,e=>by
  obtain ⟨v,h1,h2⟩:=a_.get (i:=i) (d:=d) t (by simpa using e);exact ⟨v,by simpa using h1,h2⟩
theorem a_.at {P:Addr->Prop} {H:Hp}:∀{vs:List V} {ds:List D} {i:Nat} {v:V},a_ P H vs ds->vs[i]?=some v->∃d,ds[i]?=some d/\Rep P H v d
 | _,_,_,_,.nil,e=>by simp at e
 | _,_,0,_,.cons r _,e=>by simp at e;subst e;exact ⟨_,rfl,r⟩
 | _,_,i+1,d,.cons _ t,e=>by
  obtain ⟨v,h1,h2⟩:=a_.at (i:=i) (v:=d) t (by simpa using e);exact ⟨v,by simpa using h1,h2⟩
theorem a_.append {P:Addr->Prop} {H:Hp}:∀{vs ws:List V} {ds es:List D},a_ P H vs ds->a_ P H ws es->a_ P H (vs++ws) (ds++es)
 | _,_,_,_,.nil,s=>s
 | _,_,_,_,.cons r t,s=>.cons r (a_.append t s)
theorem a_.take {P:Addr->Prop} {H:Hp}:∀{vs:List V} {ds:List D} (n:Nat),a_ P H vs ds->a_ P H (vs.take n) (ds.take n)
 | _,_,0,_=>.nil
 | _,_,_+1,.nil=>.nil
 | _,_,n+1,.cons r t=>.cons r (a_.take n t)
theorem a_.drop {P:Addr->Prop} {H:Hp}:∀{vs:List V} {ds:List D} (n:Nat),a_ P H vs ds->a_ P H (vs.drop n) (ds.drop n)
 | _,_,0,r=>r
 | _,_,_+1,.nil=>.nil
 | _,_,n+1,.cons _ t=>a_.drop n t
theorem a_.set {P:Addr->Prop} {H:Hp} {v:V} {d:D} (r:Rep P H v d):∀{vs:List V} {ds:List D} (n:Nat),a_ P H vs ds->a_ P H (vs.set n v) (ds.set n d)
 | _,_,_,.nil=>.nil
 | _,_,0,.cons _ t=>.cons r t
 | _,_,n+1,.cons q t=>.cons q (a_.set r n t)
theorem a_.snoc {P:Addr->Prop} {H:Hp} {vs:List V} {ds:List D} {v:V} {d:D} (t:a_ P H vs ds) (r:Rep P H v d):a_ P H (vs++[v]) (ds++[d]):=t.append (.cons r .nil)
theorem Rep.uD {P:Addr->Prop} {H:Hp} {v:V}:¬Rep P H v .uD:=fun h=>by cases h
abbrev All:Addr->Prop:=fun _=>True
abbrev New (H:Hp):Addr->Prop:=fun a=>H a=none
theorem Rep.all {P:Addr->Prop} {H:Hp} {v:V} {d:D} (r:Rep P H v d):Rep All H v d:=r.mono fun _ _=>trivial
theorem a_.all {P:Addr->Prop} {H:Hp} {v:List V} {d:List D} (r:a_ P H v d):a_ All H v d:=r.mono fun _ _=>trivial
theorem bQ.new {H H':Hp} (s:bQ H H'):∀a,New H' a->New H a:=fun a h=>s.free h
theorem bQ.upd {H:Hp} {a:Addr} {o:HO} (h:H a=none):bQ H (upd H a o):=fun b u e=>by rw [bG (b8 e h)];exact e
noncomputable def ER (H:Hp) (σ:St) (ρ:List D):Prop:=∀i,ρ.getD i .uD≠.uD->∃v,σ[i]?=some (some v)/\Rep All H v (ρ.getD i .uD)
theorem ER.same {H H':Hp} {σ:St} {ρ:List D} (e:ER H σ ρ) (s:bQ H H'):ER H' σ ρ:=fun i h=>by
 obtain ⟨v,h1,h2⟩:=e i h;exact ⟨v,h1,h2.same s⟩
section
variable (cf:Nat->List D->Res D) (ff:Nat->Bool)
end
theorem PE.imp {X:Cx} {e:PySem.Expr} {t t':TE} (h:PE X e t) (i:∀σ H Q,t' σ H Q->t σ H Q):PE X e t':=fun pins s σ H Q I q=>h pins s σ H Q I (i σ H Q q)
theorem PT.imp {X:Cx} {e:PySem.Expr} {t t':TT} (h:PT X e t) (i:∀σ H Q,t' σ H Q->t σ H Q):PT X e t':=fun pins s σ H Q I q=>h pins s σ H Q I (i σ H Q q)
theorem PA.imp {X:Cx} {e:List PySem.Expr} {t t':TA} (h:PA X e t) (i:∀σ H Q,t' σ H Q->t σ H Q):PA X e t':=fun pos pins s σ H Q I q=>h pos pins s σ H Q I (i σ H Q q)
end Mi
end
section
namespace L2
open PySem PySem.Spec PyProof.Rows
noncomputable def fH (own:List Str) (x:Str):Str:=if own.contains x then x++(" " : Str) else x
noncomputable def clF (env:Env):List (Str×NameKind)->List (Str×Addr)->List (Str×Addr)
 | [],acc=>acc
 | (n,k)::r,acc=>clF env r (if k==.free then (n,(env.cells.lookup n).getD 0)::acc else acc)
theorem mX {env:Env}:∀(names:List (Str×NameKind)) (acc:List (Str×Addr)),(∀y∈names,y.2=.free->∃c,env.cells.lookup y.1=some c)->
  (forIn names acc fun x cs=>(match x with
   | (name,kind)=>if (kind==.free)=true then cellOf env name >>= fun c=>pure (ForInStep.yield ((name,c)::cs)) else pure (ForInStep.yield cs):Sem (ForInStep (List (Str×Addr)))))=(pure (clF env names acc):Sem _)
 | [],acc,_=>by rw [List.forIn_nil];rfl
 | (n,k)::r,acc,h=>by
  rw [List.forIn_cons];by_cases hk:(k==.free)=true
  ·have hk':k=.free:=by simpa using hk
   obtain ⟨c,e⟩:=h (n,k) (List.mem_cons_self ..) hk';have e':cellOf env n=pure c:=by
    unfold cellOf;have e2:env.cells.lookup n=some c:=e;rw [e2]
   dsimp only;rw [if_pos hk,e',pure_bind,pure_bind];dsimp only;rw [mX r _ fun y hy=>h y (List.mem_cons_of_mem _ hy)];have e2:env.cells.lookup n=some c:=e;simp only [clF,hk,if_true,e2,Option.getD_some]
  ·dsimp only;rw [if_neg hk,pure_bind];dsimp only;rw [mX r _ fun y hy=>h y (List.mem_cons_of_mem _ hy)];simp only [clF,hk,Bool.false_eq_true,if_false]
theorem DW {env:Env} {scope:Scope} (h:∀y∈scope.names,y.2=.free->∃c,env.cells.lookup y.1=some c):closureFor scope env=pure (clF env scope.names []):=by
 unfold closureFor;have:=mX (env:=env) scope.names [] h;simp only [bind_pure] at *;exact this
theorem wD {env:Env}:∀{names:List (Str×NameKind)} {acc:List (Str×Addr)} {x:Str} {c:Addr},(∀y∈names,y.2=.free->∃c,env.cells.lookup y.1=some c)->(∀x c,acc.lookup x=some c->env.cells.lookup x=some c)->
  (clF env names acc).lookup x=some c->env.cells.lookup x=some c
 | [],acc,x,c,_,h,e=>h x c e
 | (n,k)::r,acc,x,c,q,h,e=>by
  unfold clF at e;refine wD (fun y hy=>q y (List.mem_cons_of_mem _ hy)) (fun y d hy=>?_) e;by_cases hk:(k==.free)=true
  ·rw [if_pos hk,List.lookup_cons] at hy;obtain ⟨c',e'⟩:=q (n,k) (List.mem_cons_self ..) (by simpa using hk);have e2:env.cells.lookup n=some c':=e';cases hyn:y==n with
   | true=>
    rw [hyn] at hy;have:y=n:=by simpa using hyn
    subst this;rw [e2] at hy;simp only [Option.getD_some] at hy;rw [e2];exact hy
   | false=>rw [hyn] at hy;exact h y d hy
  ·rw [if_neg hk] at hy;exact h y d hy
theorem J6 {env:Env}:∀{names:List (Str×NameKind)} {acc:List (Str×Addr)} {x:Str},(∃c,acc.lookup x=some c)->∃c,(clF env names acc).lookup x=some c
 | [],_,_,h=>h
 | (n,k)::r,acc,x,⟨c,h⟩=>by
  unfold clF;refine J6 ?_;by_cases hk:(k==.free)=true
  ·rw [if_pos hk,List.lookup_cons];cases x==n with
   | true=>exact ⟨_,rfl⟩
   | false=>exact ⟨c,h⟩
  ·rw [if_neg hk];exact ⟨c,h⟩
theorem wF {env:Env}:∀{names:List (Str×NameKind)} {acc:List (Str×Addr)} {x:Str},(x,NameKind.free)∈names->∃c,(clF env names acc).lookup x=some c
 | (n,k)::r,acc,x,h=>by
  unfold clF;rcases List.mem_cons.mp h with e|h
  ·cases e;refine J6 ?_;rw [if_pos (by decide),List.lookup_cons];simp
  ·exact wF h
structure bY (N:List Str) (sc scope:Scope) (own:List Str):Prop where
 kind:scope.kind=.function
 nocell:∀y∈scope.names,y.2≠.cell
 names:∀y∈scope.names,y.2=.local->scope.names.lookup y.1=some .local
 free:∀y∈scope.names,y.2=.free->sc.names.lookup y.1=some .cell\/sc.names.lookup y.1=some .free
 ownl:∀x∈own,scope.names.lookup x=some .local
 hid:∀x∈own,scope.names.lookup (x++(" " : Str))=none
 loc:∀y∈scope.names,y.2=.local->y.1∈own\/y.1∉N
structure cC (X X':Cx) (scope:Scope) (own:List Str):Prop where
 prog:X'.prog=X.prog
 w:X'.w=X.w
 K:X'.K=X.K
 mg:X'.mg=X.mg
 base:X'.base=X.base
 A:X'.A=X.A
 N:X'.N=X.N.map (fH own)++own
 scope:X'.env.scope=relabel scope X.env
 calm:X'.calm=X.calm
 xe:X'.xe=fun _ _=>False
noncomputable def yO (X:Cx) (scope:Scope) (cl:List (Str×Addr)) (C:Addr) (own:List Str) (s₂:Shared) (H₂:Hp) (fp:List Addr):Cx:=
 {X with N:=X.N.map (fH own)++own,s₀:=s₂,H₀:=H₂,env:=compEnvC scope cl C X.env,outer:=X.stack,stack:=X.stack,ex:=fp,fn:=fun _=>false,pn:=[],xe:=fun _ _=>False}
theorem J7 {X:Cx} {scope:Scope} {cl:List (Str×Addr)} {C:Addr} {own:List Str} {s₂:Shared} {H₂:Hp} {fp:List Addr}:cC X (yO X scope cl C own s₂ H₂ fp) scope own:=
 ⟨rfl,rfl,rfl,rfl,rfl,rfl,rfl,rfl,rfl,rfl⟩
noncomputable def Ext (σ σ2:St):Prop:=σ2.length=σ.length/\∀(i:Nat) v,σ[i]?=some (some v)->σ2[i]?=some (some v)
noncomputable def tW (wi:TI) (g:TG) (tc:TT) (te:TE) (m:Nat):TE:=fun σ H Q=>wi σ H fun J H1=>∀p,H1 p=none->
 ∃W:Nat->Nat->List V->Hp->Prop,(∃n,W 0 n [] (upd H1 p (.lst [])))/\∀i n ys H,W i n ys H->H p=some (.lst ys)/\((J.stop i H/\Q (.ref p) H)\/(J.go i H/\ys.length<sizeLine/\
  ∀x H2,J.yld i H x H2->g x (σ++List.replicate m none) H2 fun σ2 H3=>Ext (σ++List.replicate m none) σ2/\tc σ2 H3 fun b H4=>if b=true then te σ2 H4 fun y H5=>H5 p=some (.lst ys)/\∃n',n'<n/\W (i+1) n' (ys++[y]) (upd H5 p (.lst (ys++[y])))
   else ∃n',n'<n/\W (i+1) n' ys H4))
section
variable {X:Cx} {scope:Scope} {own:List Str}
theorem Inv.comp {pins:List (Addr×Obj)} {σ:St} {H2:Hp} {s2:Shared} {fp:List Addr} {h1:Heap} {t1:Nat} (I:Inv X pins σ H2 s2) (S:bY X.N X.env.scope scope own) (hf:∀b∈fp,H_ X pins H2 b)
  (hfx:∀b∈fp,b<s2.heap.objs.size) (hns:h1.Ns (s2.heap.objs.size+1) (fun _=>none))
  (hk:∀b o,s2.heap.get? b=some o->h1.get? b=some o) (hacc:h1.get? s2.heap.objs.size=some {cls:=.type "list",data:=.seq #[]}) :
  Inv (yO X scope (clF X.env scope.names []) (s2.heap.objs.size+1) own s2 H2 fp) [] (σ++List.replicate own.length none) (upd H2 s2.heap.objs.size (.lst [])) {s2 with heap:=h1,toks:=t1}:=by
 have hD:H2 s2.heap.objs.size=none:=I.hok.fresh (Nat.le_refl _);have hC:H2 (s2.heap.objs.size+1)=none:=I.hok.fresh (Nat.le_succ _);have cells:∀y∈scope.names,y.2=.free->∃c,X.env.cells.lookup y.1=some c:=fun y hy hk=>I.ok.has y.1 (S.free y hy hk)
 have sub:∀x c,(clF X.env scope.names []).lookup x=some c->X.env.cells.lookup x=some c:=fun x c e=>wD cells (fun _ _ h=>by simp at h) e
 have relk:∀x,(relabel scope X.env).names.lookup x=some .cell\/(relabel scope X.env).names.lookup x=some .free->(x,NameKind.free)∈scope.names:=by
  intro x hx;have go:∀(l:List (Str×NameKind)),(∀y∈l,y.2≠.cell)->((l.map fun (n,k)=>if (k==NameKind.free&&X.env.scope.kind==.function&&X.env.kindOf n==some .cell) then (n,NameKind.cell) else (n,k)).lookup x=some .cell\/(l.map fun (n,k)=>if (k==NameKind.free&&X.env.scope.kind==.function&&X.env.kindOf n==some .cell) then (n,NameKind.cell) else (n,k)).lookup x=some .free)->(x,NameKind.free)∈l:=by
   intro l;induction l with
   | nil=>intro _ h;rcases h with h|h <;> simp at h
   | cons p l ih=>
    obtain ⟨n,k⟩:=p;intro nc h;rw [List.map_cons] at h;dsimp only at h;by_cases hc:(k==NameKind.free&&X.env.scope.kind==.function&&X.env.kindOf n==some .cell)=true
    ·rw [if_pos hc] at h;rw [List.lookup_cons] at h;cases e:x==n with
     | true=>
      have:x=n:=by simpa using e
      subst this;simp only [Bool.and_eq_true] at hc;have:k=.free:=by simpa using hc.1.1
      subst this;exact List.mem_cons_self ..
     | false=>
      rw [e] at h;exact List.mem_cons_of_mem _ (ih (fun y hy=>nc y (List.mem_cons_of_mem _ hy)) h)
    ·rw [if_neg hc] at h;rw [List.lookup_cons] at h;cases e:x==n with
     | true=>
      have:x=n:=by simpa using e
      subst this;rw [e] at h;dsimp only at h;rcases h with h|h
      ·exact absurd (Option.some.inj h) (nc (x,k) (List.mem_cons_self ..))
      ·have:=Option.some.inj h;subst this;exact List.mem_cons_self ..
     | false=>
      rw [e] at h;exact List.mem_cons_of_mem _ (ih (fun y hy=>nc y (List.mem_cons_of_mem _ hy)) h)
  exact go scope.names S.nocell hx
 have hne:s2.heap.objs.size≠s2.heap.objs.size+1:=Nat.ne_of_lt (Nat.lt_succ_self _);have hlt:∀b o,s2.heap.get? b=some o->b<s2.heap.objs.size:=fun b o e=>Heap.lt_size e
 have hstk:∀b∈frs X.stack,b<s2.heap.objs.size:=fun b hb=>by
  obtain ⟨_,o,ho,_⟩:=I.stack.mem hb;exact hlt b o ho
 refine ⟨⟨I.mod,?_,I.ok.glob,I.ok.blt,Nat.le_succ _,fun x y c e1 e2=>I.ok.inj x y c (sub x c e1) (sub y c e2),fun x hx=>?_,fun _ _ h=>(by cases h),I.ok.hd,I.ok.frames,.inl rfl,fun b hb=>?_,fun b o e=>I.bs b o e,?_,fun b o e hb=>?_,fun b hb hz=>?_,I.stack,I.HN⟩,
  rfl,I.bare,Un.laid hk (Nat.le_refl _) hD,?_,fun x c e=>?_,?_,fun x c e=>?_,fun p hp=>(by simp [yO] at hp),?_,?_⟩
 ·exact S.kind
 ·have hx':(relabel scope X.env).names.lookup x=some .cell\/(relabel scope X.env).names.lookup x=some .free:=hx;exact wF (relk x hx')
 ·refine ⟨Nat.ne_of_lt (Nat.lt_succ_of_lt (hfx b hb)),fun x c e z=>?_⟩;exact (hf b hb).2.2.2.2.1 x c (sub x c e) z
 ·exact Nat.le_trans I.ok.bsz I.sz
 ·rcases (hf b hb).2.2.2.1 with z|z
  ·exact I.ok.noex b o e z
  ·exact absurd (Nat.lt_of_lt_of_le (Heap.lt_size e) (Nat.le_trans I.ok.bsz z)) (Nat.lt_irrefl _)
 ·rcases List.mem_cons.mp (I.xW b hz) with z'|z'
  ·exact (hf b hb).2.1 z'
  ·exact (hf b hb).2.2.1 z'
 ·refine ⟨_,hns,fun i x v e1 e2 e3=>?_⟩;have hi:i<σ.length:=by
   rcases Nat.lt_or_ge i σ.length with h|h
   ·exact h
   ·rw [List.getElem?_append_right h,List.getElem?_replicate] at e2;split at e2 <;> cases e2
  rw [List.getElem?_append_left hi] at e2;have hiN:i<X.N.length:=by rw [<-I.len];exact hi
  have e1':(X.N.map (fH own))[i]?=some x:=by
   have:(X.N.map (fH own)++own)[i]?=some x:=e1;rwa [List.getElem?_append_left (by rw [List.length_map];exact hiN)] at this
  rw [List.getElem?_map] at e1';obtain ⟨y,hy,ey⟩:=Option.map_eq_some_iff.mp e1';have hyN:y∈X.N:=List.mem_of_getElem? hy;have e3':(relabel scope X.env).names.lookup x=some .local\/(relabel scope X.env).names.lookup x=some .cell\/(relabel scope X.env).names.lookup x=some .free:=e3;have keys:∀z k,(relabel scope X.env).names.lookup z=some k->∃k',scope.names.lookup z=some k'/\(k=.local->k'=.local):=by
   intro z k;show (scope.names.map fun (n,k)=>if (k==NameKind.free&&X.env.scope.kind==.function&&X.env.kindOf n==some .cell) then (n,NameKind.cell) else (n,k)).lookup z=some k->_;generalize scope.names=l;induction l with
   | nil=>intro h;simp at h
   | cons p l ih=>
    obtain ⟨n,k0⟩:=p;intro h;rw [List.map_cons] at h;dsimp only at h;by_cases hc:(k0==NameKind.free&&X.env.scope.kind==.function&&X.env.kindOf n==some .cell)=true
    ·rw [if_pos hc,List.lookup_cons] at h;rw [List.lookup_cons];cases e:z==n with
     | true=>
      rw [e] at h;dsimp only at h;cases h;exact ⟨k0,rfl,fun q=>by cases q⟩
     | false=>rw [e] at h;exact ih h
    ·rw [if_neg hc,List.lookup_cons] at h;rw [List.lookup_cons];cases e:z==n with
     | true=>
      rw [e] at h;dsimp only at h;cases h;exact ⟨_,rfl,fun q=>q⟩
     | false=>rw [e] at h;exact ih h
  by_cases hown:own.contains y=true
  ·exfalso;have ex:x=y++(" " : Str):=by rw [<-ey];unfold fH;rw [if_pos hown]
   have hn:=S.hid y (by simpa using hown);rw [<-ex] at hn;rcases e3' with q|q|q
   all_goals
    obtain ⟨k',hk',_⟩:=keys _ _ q;rw [hn] at hk';cases hk'
  ·have ex:x=y:=by rw [<-ey];unfold fH;rw [if_neg hown]
   subst ex;rcases e3' with q|q
   ·exfalso;obtain ⟨k',hk',hl⟩:=keys _ _ q;have:=hl rfl;subst this;rcases S.loc _ (PySem.mem_of_lookup hk') rfl with z|z
    ·exact hown (by simpa using z)
    ·exact z hyN
   ·have hfr:=relk x q;have hv:=S.free _ hfr rfl;obtain ⟨m,_,hl⟩:=I.loc;obtain ⟨u,ru,lk⟩:=hl i x v hy e2 (.inr hv);refine ⟨u,ru,.inr ⟨q,?_⟩⟩;rcases lk with ⟨z,_⟩|⟨_,c,hc,o,ho,hd⟩
    ·have z':X.env.scope.names.lookup x=some .local:=z;rcases hv with hv|hv <;> (rw [z'] at hv;cases hv)
    ·obtain ⟨c',hc'⟩:=wF (env:=X.env) (acc:=[]) hfr;have:=sub x c' hc';rw [hc] at this;cases this;exact ⟨c,hc',o,hk c o ho,hd⟩
 ·obtain ⟨v,z⟩:=I.cell x c (sub x c e);obtain ⟨o,ho,hd⟩:=z;exact ⟨v,o,hk c o ho,hd⟩
 ·show upd H2 _ _ (s2.heap.objs.size+1)=none;rw [bG (Ne.symm hne)];exact hC
 ·obtain ⟨v,o,ho,_⟩:=I.cell x c (sub x c e);show upd H2 _ _ c=none;rw [bG (Nat.ne_of_lt (hlt c o ho))];exact I.freeC x c (sub x c e)
 ·exact I.hok.laid hk (Nat.le_refl _) ⟨Nat.zero_le _,[],0,.nil,hacc⟩
 ·show (σ++List.replicate own.length none).length=(X.N.map (fH own)++own).length;rw [List.length_append,List.length_append,List.length_replicate,List.length_map,I.len]
end
section
variable {X:Cx} {scope:Scope} {own:List Str}
noncomputable def cI (X':Cx) (σ:St) (fp:List Addr) (tn:Nat->Heap->Prop) (W:Nat->Nat->List V->Hp->Prop) (n:Nat) (s:Shared):Prop:=∃i ys H',Inv X' [] σ H' s/\tn i s.heap/\(∀b∈fp,H' b=none)/\W i n ys H'
noncomputable abbrev cE (X X':Cx) (use:Option (Value->Sem Unit)) (QQ:Value->Shared->Prop) (p:Addr):Value->Shared->Prop:=notedBy (model X.prog X.w) X.A X'.env fun e s'=>compPost (model X.prog X.w) X.A X.xe use QQ (.ref p) (p+1) (.error e) s'
noncomputable def cB (X':Cx) (σ:St) (fp:List Addr) (tn:Nat->Heap->Prop) (W:Nat->Nat->List V->Hp->Prop) (n i:Nat) (h:Heap):Prop:=∀{ys':List V} {H9:Hp} {s9:Shared} {σ9:St},Ext σ σ9->Inv X' ([]++oJ fp h) σ9 H9 s9->(∃n',n'<n/\W (i+1) n' ys' H9)->∃m,m<n/\cI X' σ fp tn W m s9
theorem wG {elt iter tg:Expr} {ifs:List Expr} {wi:TI} {g:TG} {tc:TT} {te:TE} {pos ps:Pos} {use:Option (Value->Sem Unit)} {QQ:Value->Shared->Prop} {pins:List (Addr×Obj)} {s:Shared} {σ:St} {H:Hp} {R:VK} (S:bY X.N X.env.scope scope own) (hcalm:X.calm=true) (hi:PI X tg iter wi)
  (hg:∀X',cC X X' scope own->PG X' tg g) (hc:(ifs=[]/\tc=fun _ H Q=>Q true H)\/∃c,ifs=[c]/\∀X',cC X X' scope own->PT X' c tc) (he:∀X',cC X X' scope own->PE X' elt te)
  (hs:∀x,foldedSetIterable iter X.env x=pure x) (I:Inv X pins σ H s) (h:tW wi g tc te own.length σ H R)
  (last:∀{p C:Addr} {H5:Hp} {s6:Shared} {m6:Str->Option Value},Inv X pins σ H5 s6->H_ X pins H5 C->s6.heap.Ns C m6->R (.ref p) H5->compPost (model X.prog X.w) X.A X.xe use QQ (.ref p) C (.ok .next) s6) :
  wpAny (model X.prog X.w) X.A (comprehension (.ListComp elt [⟨tg,iter,ifs,0⟩] scope pos) scope X.env ps (newList []) false (eval iter X.env) use) QQ X.xe s:=by
 have cells:∀y∈scope.names,y.2=.free->∃c,X.env.cells.lookup y.1=some c:=fun y hy hk=>I.ok.has y.1 (S.free y hy hk)
 refine wpAny_comprehension_free rfl hs (DW cells) S.kind S.names (thn (hi pins s σ H _ I h) fun xv s1 h1=>thn h1 fun itv s2 h2=>?_);obtain ⟨it,fp,tn,J,H2,e,I2,T,st2,f2,hW⟩:=h2;subst e;have hD:H2 s2.heap.objs.size=none:=I2.hok.fresh (Nat.le_refl _);obtain ⟨W,⟨n0,w0⟩,turn⟩:=hW _ hD;have hfx:∀b∈fp,b<s2.heap.objs.size:=fun b hb=>by
  obtain ⟨o,ho,_⟩:=T.obj 0 _ st2 b hb;exact Heap.lt_size ho
 refine wpAny_newObj_type (wpAny_newFunctionEnv S.nocell (by intro y hy;simp at hy) (fun h₁ hns₁ hsb₁=>?_) S.kind);dsimp only at hns₁ hsb₁ ⊢;have hC:(s2.heap.push {cls:=.type "list",dict:=none,data:=.seq ([]:List Value).toArray}).objs.size=s2.heap.objs.size+1:=Heap.size_push ..;have hne:s2.heap.objs.size≠s2.heap.objs.size+1:=Nat.ne_of_lt (Nat.lt_succ_self _);rw [hC] at hns₁ hsb₁ ⊢;have old:∀b o,s2.heap.get? b=some o->h₁.get? b=some o:=fun b o e=>hsb₁.extBut b o (Nat.ne_of_lt (Nat.lt_succ_of_lt (Heap.lt_size e))) (Heap.get?_push_of_some _ (Heap.get?_push_of_some _ e))
 have hacc:h₁.get? s2.heap.objs.size=some {cls:=.type "list",data:=.seq #[]}:=hsb₁.extBut _ _ hne (Heap.get?_push_of_some _ (Heap.get?_push_size _ rfl));have I4:=Inv.comp (t1:=s2.toks+([]:List (Str×Value)).length) I2 S f2 hfx hns₁ old hacc;generalize hX':yO X scope (clF X.env scope.names []) (s2.heap.objs.size+1) own s2 H2 fp=X' at I4;have cc:cC X X' scope own:=by rw [<-hX'];exact J7
 have eenv:X'.env=compEnvC scope (clF X.env scope.names []) (s2.heap.objs.size+1) X.env:=by rw [<-hX'];rfl
 have eA:X'.A=X.A:=cc.A;have ep:X'.prog=X.prog:=cc.prog;have ew:X'.w=X.w:=cc.w;have efs:X'.fs=frs X.stack:=by rw [<-hX'];rfl
 have eex:X'.ex=fp:=by rw [<-hX'];rfl
 have es0:X'.s₀=s2:=by rw [<-hX'];rfl
 have eH0:X'.H₀=H2:=by rw [<-hX'];rfl
 have epn:X'.pn=[]:=by rw [<-hX'];rfl
 have eK:X'.K=X.K:=cc.K;have exe:=cc.xe;have ecalm:X'.calm=true:=cc.calm.trans hcalm
 -- the iterator's records within the block
 have fpok:∀{H':Hp},(∀b∈fp,H' b=none)->∀b∈fp,H_ X' [] H' b:=fun {H'} hn b hb=>by
  obtain ⟨_,f1,f3,_,f5,_⟩:=f2 b hb;refine ⟨hn b hb,?_,?_,.inl (by rw [eex];exact hb),fun x c e=>?_,fun p hp=>by rw [epn] at hp;simp at hp⟩
  ·rw [eenv];exact Nat.ne_of_lt (Nat.lt_succ_of_lt (hfx b hb))
  ·rw [efs];intro z;rcases List.mem_cons.mp (I2.xW b z) with z|z
   ·exact f1 z
   ·exact f3 z
  ·rw [eenv] at e;exact f5 x c (wD cells (fun _ _ h=>by simp at h) e)
 have st4:tn 0 h₁:=T.keep _ _ _ st2 fun b _ o e=>old b o e
 have fr4:∀b∈fp,(upd H2 s2.heap.objs.size (.lst [])) b=none:=fun b hb=>by rw [bG (Nat.ne_of_lt (hfx b hb))];exact (f2 b hb).1
 have loop:∀s4:Shared,s4={s2 with heap:=h₁,toks:=s2.toks+([]:List (Str×Value)).length}->
   codeAny (model X.prog X.w) X.A (.compLoop (.ListComp elt [⟨tg,iter,ifs,0⟩] scope pos) 0 (.ref it) (.ref s2.heap.objs.size) X'.env)
    (compPost (model X.prog X.w) X.A X.xe use QQ (.ref s2.heap.objs.size) (s2.heap.objs.size+1)) s4:=by
  rintro s4 rfl;have put:∀(n i:Nat) (ys:List V) (s7:Shared) (σ8:St) (H8:Hp) (s8:Shared),cB X' (σ++List.replicate own.length none) fp tn W n i s7.heap->Inv X' ([]++oJ fp s7.heap) σ8 H8 s8->Ext (σ++List.replicate own.length none) σ8->ys.length<sizeLine->(te σ8 H8 fun y H5=>H5 s2.heap.objs.size=some (.lst ys)/\∃n',n'<n/\W (i+1) n' (ys++[y]) (upd H5 s2.heap.objs.size (.lst (ys++[y]))))->
    wpAny (model X.prog X.w) X.A (eval elt X'.env) (fun x s₄=>wpAny (model X.prog X.w) X.A (call (.builtin "list.append") [.ref s2.heap.objs.size,x]) (fun _ s₅=>∃m,m<n/\cI X' (σ++List.replicate own.length none) fp tn W m s₅) (cE X X' use QQ s2.heap.objs.size) s₄) (cE X X' use QQ s2.heap.objs.size) s8:=by
   intro n i ys s7 σ8 H8 s8 back I8 ext8 hlen q8;have he':=he X' cc _ s8 _ H8 _ I8 q8;rw [ep,ew,eA,exe] at he';refine wpAny_mono he' (fun yv s10 ⟨y,H10,I10,r10,p10,q10⟩=>?_) fun _ _ z=>False.elim z
   have hm:=oX (X:=X') _ s10 σ8 H10 (.ref s2.heap.objs.size) [y] (.ref s2.heap.objs.size) [yv] (fun _ H11=>∃n',n'<n/\W (i+1) n' (ys++[y]) H11) I10 rfl (.cons r10 .nil) ⟨s2.heap.objs.size,ys,y,rfl,rfl,p10,hlen,q10⟩;rw [ep,ew,eA,exe] at hm;exact wpAny_mono hm (fun _ s11 ⟨_,H11,I11,_,q11⟩=>back ext8 I11 q11) fun _ _ z=>False.elim z
  have key:∀(PO:Nat->Shared->Prop),(∀(n i:Nat) (ys:List V) (s7:Shared) (σ8:St) (H8:Hp) (s8:Shared),cB X' (σ++List.replicate own.length none) fp tn W n i s7.heap->Inv X' ([]++oJ fp s7.heap) σ8 H8 s8->Ext (σ++List.replicate own.length none) σ8->ys.length<sizeLine->(tc σ8 H8 fun b H4=>if b=true then te σ8 H4 fun y H5=>H5 s2.heap.objs.size=some (.lst ys)/\∃n',n'<n/\W (i+1) n' (ys++[y]) (upd H5 s2.heap.objs.size (.lst (ys++[y]))) else ∃n',n'<n/\W (i+1) n' ys H4)->PO n s8)->
    ∀n s5,(cI X' (σ++List.replicate own.length none) fp tn W n s5)->wpAny (model X.prog X.w) X.A (pyNext (.ref it)) (fun r s₁=>match r with
     | none=>compPost (model X.prog X.w) X.A X.xe use QQ (.ref s2.heap.objs.size) (s2.heap.objs.size+1) (.ok .next) s₁
     | some v=>wpAny (model X.prog X.w) X.A (letOwnedTupleGo tg (.ref it) v) (fun _ s₀=>wpAny (model X.prog X.w) X.A (assign tg X'.env v) (fun _ s₂=>PO n s₂) (cE X X' use QQ s2.heap.objs.size) s₀) (cE X X' use QQ s2.heap.objs.size) s₁) (cE X X' use QQ s2.heap.objs.size) s5:=by
   intro PO hPO;rintro n s5 ⟨i,ys,H5,I5,st5,fr5,w5⟩;obtain ⟨hacc5,tr⟩:=turn i n ys H5 w5;rcases tr with ⟨stop,q⟩|⟨go,hlen,step⟩
   ·have done:=T.done X' ep ew eK ecalm i [] s5 _ H5 (cE X X' use QQ s2.heap.objs.size) I5 (fpok fr5) st5 stop;rw [eA] at done;refine thn done fun r s6 ⟨hr,I6⟩=>?_
    subst hr;obtain ⟨m6,hn6,_⟩:=id I6.loc;rw [eenv] at hn6;have u6:Un (frs X.stack) fp H2 H5 s2.heap s6.heap:=by
     have:=I6.base;rw [efs,eex,eH0,es0] at this;exact this
    have hCn:H5 (s2.heap.objs.size+1)=none:=by
     have:=I6.free;rw [eenv] at this;exact this
    have hok6:HOk X.prog X.w H5 s6.heap:=by
     have:=I6.hok;rw [ep,ew] at this;exact this
    have hos:s6.os=s2.os:=by have:=I6.os;rw [es0] at this;exact this
    obtain ⟨hh,gg,dd,tt,oo⟩:=s6;obtain rfl:oo=s2.os:=hos;have fin:=Inv.call (h':=hh) (g':=gg) (d':=dd) (t':=tt) (ch:=fp) I2 u6 hok6 I6.bare fun b hb=>⟨(f2 b hb).2.2.2.1,(f2 b hb).2.1,(f2 b hb).2.2.2.2.1,(f2 b hb).2.2.2.2.2⟩
    refine last fin ⟨hCn,Nat.ne_of_gt (Nat.lt_succ_of_lt I2.lt),I2.aFi (Nat.le_succ _),.inr (Nat.le_trans I2.sz (Nat.le_succ _)),fun x c e z=>?_,fun p hp z=>?_⟩ hn6 q
    ·obtain ⟨v,qq⟩:=I2.cell x c e;exact absurd (Nat.lt_succ_of_lt qq.lt) (by rw [z];exact Nat.lt_irrefl _)
    ·exact absurd (Nat.lt_succ_of_lt (Heap.lt_size (I2.pin p hp).1)) (by rw [z];exact Nat.lt_irrefl _)
   ·have item:=T.item X' ep ew eK ecalm i [] s5 _ H5 (cE X X' use QQ s2.heap.objs.size) I5 (fpok fr5) st5 go;rw [eA] at item;refine thn item fun r s6 ⟨u,hr,h6⟩=>?_
    subst hr;refine thn h6 fun _ s7 ⟨x,H7,I7,r7,y7,st7,fr7⟩=>?_
    have I7':=I7.pinned (fpok fr7) (T.obj _ _ st7);have hg':=hg X' cc _ s7 _ H7 x u _ I7' r7 (step x H7 y7);rw [ep,ew,eA,exe] at hg';refine wpAny_mono hg' (fun _ s8 ⟨σ8,H8,I8,ext8,q8⟩=>?_) fun _ _ z=>False.elim z
    have back:cB X' (σ++List.replicate own.length none) fp tn W n i s7.heap:=by
     rintro ys' H9 s9 σ9 ex9 I9 ⟨n',hn',w9⟩;refine ⟨n',hn',i+1,ys',H9,(I9.weak ex9.1.symm ex9.2).l_,T.keep _ _ _ st7 fun b hb o e=>(I9.pin (b,o) (List.mem_append_right _ (List.mem_append_right _ (kW hb e)))).1,fun b hb=>?_,w9⟩;obtain ⟨o,e,d⟩:=T.obj _ _ st7 b hb;exact (I9.pin (b,o) (List.mem_append_right _ (List.mem_append_right _ (kW hb e)))).2.1
    exact hPO n i ys s7 σ8 H8 s8 back I8 ext8 hlen q8
  rcases hc with ⟨rfl,rfl⟩|⟨c,rfl,hc⟩
  ·refine PySem.W.kcp_loop _ (key _ fun n i ys s7 σ8 H8 s8 back I8 ext8 hlen q8=>?_) n0 ⟨0,[],_,I4,st4,fr4,w0⟩;simp only [if_true] at q8;exact put n i ys s7 σ8 H8 s8 back I8 ext8 hlen q8
  ·refine PySem.W.kct_loop _ (key _ fun n i ys s7 σ8 H8 s8 back I8 ext8 hlen q8=>?_) n0 ⟨0,[],_,I4,st4,fr4,w0⟩;have hc':=hc X' cc _ s8 _ H8 _ I8 q8;rw [ep,ew,eA,exe] at hc';refine wpAny_mono hc' (fun b s9 ⟨H9,I9,q9⟩=>?_) fun _ _ z=>False.elim z
   cases b with
   | false=>
    simp only [Bool.false_eq_true,if_false] at q9 ⊢;exact back ext8 I9 q9
   | true=>
    simp only [if_true] at q9 ⊢;exact put n i ys s7 σ8 H9 s9 back I9 ext8 hlen q9
 have l4:=loop _ rfl;rw [eenv] at l4;exact codeAny_compStart_list l4 (T.self X.A 0 _ _ _ st4 l4)
theorem yP {pins:List (Addr×Obj)} {σ:St} {Q:VK} {p C:Addr} {H5:Hp} {s6:Shared} {m6:Str->Option Value} (f:Inv X pins σ H5 s6) (k:H_ X pins H5 C) (n:s6.heap.Ns C m6) (q:Q (.ref p) H5):compPost (model X.prog X.w) X.A X.xe none (EP X pins σ Q) (.ref p) C (.ok .next) s6:=
 ⟨m6,n,fun h' sb=>⟨.ref p,H5,Inv.turned (t':=s6.toks) f (fun b o hb e=>sb.extBut b o hb e) k.1 k.2.1 k.2.2.2.1 k.2.2.2.2.1 k.2.2.2.2.2,rfl,q⟩⟩
theorem J8 {elt iter tg c:Expr} {wi:TI} {g:TG} {tc:TT} {te:TE} {pos:Pos} (S:bY X.N X.env.scope scope own) (hcalm:X.calm=true) (hi:PI X tg iter wi)
  (hg:∀X',cC X X' scope own->PG X' tg g) (hc:∀X',cC X X' scope own->PT X' c tc) (he:∀X',cC X X' scope own->PE X' elt te)
  (hs:∀x,foldedSetIterable iter X.env x=pure x):PE X (.ListComp elt [⟨tg,iter,[c],0⟩] scope pos) (tW wi g tc te own.length):=by
 intro pins s σ H Q I h;rw [eval_ListComp];exact wG S hcalm hi hg (.inr ⟨c,rfl,hc⟩) he hs I h yP
theorem RG {elt iter tg:Expr} {wi:TI} {g:TG} {te:TE} {pos:Pos} (S:bY X.N X.env.scope scope own) (hcalm:X.calm=true) (hi:PI X tg iter wi)
  (hg:∀X',cC X X' scope own->PG X' tg g) (he:∀X',cC X X' scope own->PE X' elt te)
  (hs:∀x,foldedSetIterable iter X.env x=pure x):PE X (.ListComp elt [⟨tg,iter,[],0⟩] scope pos) (tW wi g (fun _ H Q=>Q true H) te own.length):=by
 intro pins s σ H Q I h;rw [eval_ListComp];exact wG S hcalm hi hg (.inl ⟨rfl,rfl⟩) he hs I h yP
end
end L2
end
section
namespace Mi
open PySem L2 PySem.SeqAt
variable [KFrag]
theorem gZ {X:Cx} {pins:List (Addr×Obj)} {σ:St} {H:Hp} {s:Shared} {a:Addr} {xs:List V} (I:Inv X pins σ H s) (e:H a=some (.tup xs)):∃its:List Value,Vals xs its/\s.heap.IsTuple a its.toArray:=by
 obtain ⟨_,its,r,p⟩:xs.length<=sizeLine/\∃its:List Value,Vals xs its/\iM s.heap a its.toArray:=I.hok a _ e;exact ⟨its,r,p.tup⟩
theorem j7 {X:Cx} {pins:List (Addr×Obj)} {σ:St} {H:Hp} {s:Shared} {a:Addr} {xs:List V} (I:Inv X pins σ H s) (e:SqL X.K H a xs):∃its:List Value,Vals xs its/\s.heap.IsList a its.toArray:=by
 obtain ⟨its,r,p,_⟩:=I.list e;exact ⟨its,r,p.isList⟩
theorem Rep.fU {P:Addr->Prop} {H:Hp} {K:PySem.W.Frag} {v:V} {ds:List D} (r:Rep P H v (.lst ds)):∃a xs,v=.ref a/\SqL K H a xs/\a_ P H xs ds:=by
 cases r with
 | lst e p r=>exact ⟨_,_,rfl,.inl (.inl e),r⟩
theorem Rep.eZ {P:Addr->Prop} {H:Hp} {v:V} {ds:List D} (r:Rep P H v (.tup ds)):∃a xs,v=.ref a/\H a=some (.tup xs)/\a_ P H xs ds:=by
 cases r with
 | tup e r=>exact ⟨_,_,rfl,e,r⟩
mutual
theorem rD:∀(n:Nat) (d:D),d.bJ n=true->eqD d d=true
 | _,.non,_=>rfl
 | _,.bl b,_=>by simp [eqD]
 | _,.int i,_=>by simp [eqD]
 | _,.str x,_=>by simp [eqD]
 | n+1,.tup xs,h=>by rw [D.bJ] at h;rw [eqD];exact o_ n xs h
 | n+1,.lst xs,h=>by rw [D.bJ] at h;rw [eqD];exact o_ n xs h
 | 0,.tup xs,h=>by simp [D.bJ] at h
 | 0,.lst xs,h=>by simp [D.bJ] at h
 | n,.dct _,h=>by cases n <;> simp [D.bJ] at h
 | n,.uD,h=>by cases n <;> simp [D.bJ] at h
 | n,.scr _,h=>by cases n <;> simp [D.bJ] at h
 | n,.fdc _,h=>by cases n <;> simp [D.bJ] at h
 | n,.exc _ _,h=>by cases n <;> simp [D.bJ] at h
 | n,.ins _ _,h=>by cases n <;> simp [D.bJ] at h
 | n,.cel _ _,h=>by cases n <;> simp [D.bJ] at h
theorem o_:∀(n:Nat) (ds:List D),D.cG n ds=true->tR ds ds=true
 | _,[],_=>rfl
 | n,d::ds,h=>by
  rw [D.cG,Bool.and_eq_true] at h;rw [tR,rD n d h.1,o_ n ds h.2];rfl
end
mutual
theorem Rep.inj {P P':Addr->Prop} {H:Hp}:∀(n:Nat) {v:V} {d e:D},d.bJ n=true->e.bJ n=true->Rep P H v d->Rep P' H v e->d=e
 | _,_,_,_,_,_,.non,.non=>rfl
 | _,_,_,_,_,_,.bl _,.bl _=>rfl
 | _,_,_,_,_,_,.int _,.int _=>rfl
 | _,_,_,_,_,_,.str _,.str _=>rfl
 | n+1,_,.tup ds,_,h,h',.tup e1 r1,q=>by
  cases q with
  | tup e2 r2=>
   rw [e1] at e2;cases e2;rw [D.bJ] at h h';rw [a_.inj n h h' r1 r2]
  | lst e2 _ _=>rw [e1] at e2;cases e2
  | frz e2 _=>simp [D.bJ] at h'
  | fdK e2 _ _=>simp [D.bJ] at h'
  | cel e2 _ _=>simp [D.bJ] at h'
  | fdT e2 _ _=>simp [D.bJ] at h'
  | exc _ _ _=>simp [D.bJ] at h'
  | ins _ _ _=>simp [D.bJ] at h'
  | dK e2 _ _ _=>rw [e1] at e2;cases e2
  | dT e2 _ _ _=>rw [e1] at e2;cases e2
 | n+1,_,.lst ds,_,h,h',.lst e1 p r1,q=>by
  cases q with
  | tup e2 r2=>rw [e1] at e2;cases e2
  | lst e2 _ r2=>
   rw [e1] at e2;cases e2;rw [D.bJ] at h h';rw [a_.inj n h h' r1 r2]
  | frz e2 _=>simp [D.bJ] at h'
  | fdK e2 _ _=>simp [D.bJ] at h'
  | cel e2 _ _=>simp [D.bJ] at h'
  | fdT e2 _ _=>simp [D.bJ] at h'
  | exc _ _ _=>simp [D.bJ] at h'
  | ins _ _ _=>simp [D.bJ] at h'
  | dK e2 _ _ _=>rw [e1] at e2;cases e2
  | dT e2 _ _ _=>rw [e1] at e2;cases e2
 | 0,_,.tup ds,_,h,_,_,_=>by simp [D.bJ] at h
 | 0,_,.lst ds,_,h,_,_,_=>by simp [D.bJ] at h
 | n,_,.dct _,_,h,_,_,_=>by cases n <;> simp [D.bJ] at h
 | n,_,.scr _,_,h,_,_,_=>by cases n <;> simp [D.bJ] at h
 | n,_,.fdc _,_,h,_,_,_=>by cases n <;> simp [D.bJ] at h
 | n,_,.exc _ _,_,h,_,_,_=>by cases n <;> simp [D.bJ] at h
 | n,_,.ins _ _,_,h,_,_,_=>by cases n <;> simp [D.bJ] at h
 | n,_,.cel _ _,_,h,_,_,_=>by cases n <;> simp [D.bJ] at h
theorem a_.inj {P P':Addr->Prop} {H:Hp}:∀(n:Nat) {v:List V} {d e:List D},D.cG n d=true->D.cG n e=true->a_ P H v d->a_ P' H v e->d=e
 | _,_,_,_,_,_,.nil,.nil=>rfl
 | n,_,_,_,h,h',.cons r t,.cons r' t'=>by
  rw [D.cG,Bool.and_eq_true] at h h';rw [Rep.inj n h.1 h'.1 r r',a_.inj n h.2 h'.2 t t']
end
theorem mY:∀(xs ys:List D),tR xs ys=((List.range (min xs.length ys.length)).all (fun j=>eqD (xs.getD j .non) (ys.getD j .non))&&xs.length==ys.length)
 | [],[]=>by simp [tR]
 | [],y::ys=>by simp [tR]
 | x::xs,[]=>by simp [tR]
 | x::xs,y::ys=>by
  have e:min (x::xs).length (y::ys).length=min xs.length ys.length+1:=by simp only [List.length_cons];lia
  rw [tR,mY xs ys,e,List.range_succ_eq_map,List.all_cons,List.all_map,Bool.and_assoc]
  congr 1
  simp [Function.comp_def]
theorem fJ {n:Nat}:∀{ds:List D} {j:Nat},D.cG n ds=true->j<ds.length->(ds.getD j .non).bJ n=true
 | [],j,_,h=>by simp at h
 | d::ds,0,h,_=>by rw [D.cG,Bool.and_eq_true] at h;exact h.1
 | d::ds,j+1,h,hj=>by
  rw [D.cG,Bool.and_eq_true] at h;simpa using fJ (ds:=ds) (j:=j) h.2 (by simpa using hj)
theorem a_.getD {P:Addr->Prop} {H:Hp} {vs:List V} {ds:List D} {j:Nat} (r:a_ P H vs ds) (hj:j<ds.length):∃v,vs[j]?=some v/\Rep P H v (ds.getD j .non):=by
 obtain ⟨v,h1,h2⟩:=r.get (i:=j) (d:=ds.getD j .non) (by simp [hj]);exact ⟨v,h1,h2⟩
section
variable {X:Cx} {pins:List (Addr×Obj)} {σ:St} {H:Hp} {s:Shared}
theorem yQ (I:Inv X pins σ H s):∀(n:Nat) (A:Around) {x y:V} {a b:D} {u v:Value},A.units+n<cLine->a.bJ n=true->b.bJ n=true->Rep All H x a->Rep All H y b->RelV x u->RelV y v->
  RcAt A s u v (eqD a b)/\RcNeAt A s u v (!eqD a b)/\EqAt A s u v (eqD a b):=by
 intro n;induction n with
 | zero=>
  intro A x y a b u v hu ha hb rx ry ru rv;cases rx with
  | non=>
   cases ru;cases ry with
   | non=>cases rv;exact ⟨RcAt.none_none,RcNeAt.none_none,EqAt.same _⟩
   | bl _=>cases rv;exact ⟨RcAt.none_bool _,RcNeAt.none_bool _,EqAt.none_bool _⟩
   | int _=>obtain ⟨t,rfl⟩:=rv;exact ⟨RcAt.none_int _ _,RcNeAt.none_int _ _,EqAt.none_int _ _⟩
   | str _=>obtain ⟨t,rfl⟩:=rv;exact ⟨RcAt.none_str _ _,RcNeAt.none_str _ _,EqAt.none_str _ _⟩
   | _=>simp [D.bJ] at hb
  | bl _=>
   cases ru;cases ry with
   | non=>cases rv;exact ⟨RcAt.bool_none _,RcNeAt.bool_none _,EqAt.bool_none _⟩
   | bl _=>cases rv;exact ⟨RcAt.bool_bool _ _,RcNeAt.bool_bool _ _,EqAt.bool_bool _ _⟩
   | int _=>obtain ⟨t,rfl⟩:=rv;exact ⟨RcAt.bool_int _ _ _,RcNeAt.bool_int _ _ _,EqAt.bool_int _ _ _⟩
   | str _=>obtain ⟨t,rfl⟩:=rv;exact ⟨RcAt.bool_str _ _ _,RcNeAt.bool_str _ _ _,EqAt.bool_str _ _ _⟩
   | _=>simp [D.bJ] at hb
  | int _=>
   obtain ⟨t,rfl⟩:=ru;cases ry with
   | non=>cases rv;exact ⟨RcAt.int_none _ _,RcNeAt.int_none _ _,EqAt.int_none _ _⟩
   | bl _=>cases rv;exact ⟨RcAt.int_bool _ _ _,RcNeAt.int_bool _ _ _,EqAt.int_bool _ _ _⟩
   | int _=>obtain ⟨t',rfl⟩:=rv;exact ⟨RcAt.int_int _ _ _ _,RcNeAt.int_int _ _ _ _,EqAt.int_int _ _ _ _⟩
   | str _=>obtain ⟨t',rfl⟩:=rv;exact ⟨RcAt.int_str _ _ _ _,RcNeAt.int_str _ _ _ _,EqAt.int_str _ _ _ _⟩
   | _=>simp [D.bJ] at hb
  | str _=>
   obtain ⟨t,rfl⟩:=ru;cases ry with
   | non=>cases rv;exact ⟨RcAt.str_none _ _,RcNeAt.str_none _ _,EqAt.str_none _ _⟩
   | bl _=>cases rv;exact ⟨RcAt.str_bool _ _ _,RcNeAt.str_bool _ _ _,EqAt.str_bool _ _ _⟩
   | int _=>obtain ⟨t',rfl⟩:=rv;exact ⟨RcAt.str_int _ _ _ _,RcNeAt.str_int _ _ _ _,EqAt.str_int _ _ _ _⟩
   | str _=>obtain ⟨t',rfl⟩:=rv;exact ⟨RcAt.str_str _ _ _ _,RcNeAt.str_str _ _ _ _,EqAt.str_str _ _ _ _⟩
   | _=>simp [D.bJ] at hb
  | _=>simp [D.bJ] at ha
 | succ n ih=>
  intro A x y a b u v hu ha hb rx ry ru rv;have hu0:A.units<cLine:=by lia
  have hu1:A.in1.units+n<cLine:=by show A.units+1+n<cLine;lia
  cases a with
  | uD=>exact absurd rx Rep.uD
  | dct _=>simp [D.bJ] at ha
  | scr _=>simp [D.bJ] at ha
  | fdc _=>simp [D.bJ] at ha
  | exc _ _=>simp [D.bJ] at ha
  | ins _ _=>simp [D.bJ] at ha
  | cel _ _=>simp [D.bJ] at ha
  | non=>
   cases rx;cases ru;cases b with
   | uD=>exact absurd ry Rep.uD
   | dct _=>simp [D.bJ] at hb
   | scr _=>simp [D.bJ] at hb
   | fdc _=>simp [D.bJ] at hb
   | exc _ _=>simp [D.bJ] at hb
   | ins _ _=>simp [D.bJ] at hb
   | cel _ _=>simp [D.bJ] at hb
   | non=>cases ry;cases rv;exact ⟨RcAt.none_none,RcNeAt.none_none,EqAt.same _⟩
   | bl _=>cases ry;cases rv;exact ⟨RcAt.none_bool _,RcNeAt.none_bool _,EqAt.none_bool _⟩
   | int _=>cases ry;obtain ⟨t2,rfl⟩:=rv;exact ⟨RcAt.none_int _ _,RcNeAt.none_int _ _,EqAt.none_int _ _⟩
   | str _=>cases ry;obtain ⟨t2,rfl⟩:=rv;exact ⟨RcAt.none_str _ _,RcNeAt.none_str _ _,EqAt.none_str _ _⟩
   | tup es=>
    obtain ⟨q,ys,rfl,e2,r2⟩:=ry.eZ;cases rv;obtain ⟨its2,vr2,h2⟩:=gZ I e2;exact ⟨RcAt.none_tuple h2 hu0,RcNeAt.none_tuple h2 hu0,EqAt.none_tuple h2 hu0⟩
   | lst es=>
    obtain ⟨q,ys,rfl,e2,r2⟩:=ry.fU (K:=X.K);cases rv;obtain ⟨its2,vr2,h2⟩:=j7 I e2;exact ⟨RcAt.none_list h2 hu0,RcNeAt.none_list h2 hu0,EqAt.none_list h2 hu0⟩
  | bl _=>
   cases rx;cases ru;cases b with
   | uD=>exact absurd ry Rep.uD
   | dct _=>simp [D.bJ] at hb
   | scr _=>simp [D.bJ] at hb
   | fdc _=>simp [D.bJ] at hb
   | exc _ _=>simp [D.bJ] at hb
   | ins _ _=>simp [D.bJ] at hb
   | cel _ _=>simp [D.bJ] at hb
   | non=>cases ry;cases rv;exact ⟨RcAt.bool_none _,RcNeAt.bool_none _,EqAt.bool_none _⟩
   | bl _=>cases ry;cases rv;exact ⟨RcAt.bool_bool _ _,RcNeAt.bool_bool _ _,EqAt.bool_bool _ _⟩
   | int _=>cases ry;obtain ⟨t2,rfl⟩:=rv;exact ⟨RcAt.bool_int _ _ _,RcNeAt.bool_int _ _ _,EqAt.bool_int _ _ _⟩
   | str _=>cases ry;obtain ⟨t2,rfl⟩:=rv;exact ⟨RcAt.bool_str _ _ _,RcNeAt.bool_str _ _ _,EqAt.bool_str _ _ _⟩
   | tup es=>
    obtain ⟨q,ys,rfl,e2,r2⟩:=ry.eZ;cases rv;obtain ⟨its2,vr2,h2⟩:=gZ I e2;exact ⟨RcAt.bool_tuple _ h2 hu0,RcNeAt.bool_tuple _ h2 hu0,EqAt.bool_tuple _ h2 hu0⟩
   | lst es=>
    obtain ⟨q,ys,rfl,e2,r2⟩:=ry.fU (K:=X.K);cases rv;obtain ⟨its2,vr2,h2⟩:=j7 I e2;exact ⟨RcAt.bool_list _ h2 hu0,RcNeAt.bool_list _ h2 hu0,EqAt.bool_list _ h2 hu0⟩
  | int _=>
   cases rx;obtain ⟨t1,rfl⟩:=ru;cases b with
   | uD=>exact absurd ry Rep.uD
   | dct _=>simp [D.bJ] at hb
   | scr _=>simp [D.bJ] at hb
   | fdc _=>simp [D.bJ] at hb
   | exc _ _=>simp [D.bJ] at hb
   | ins _ _=>simp [D.bJ] at hb
   | cel _ _=>simp [D.bJ] at hb
   | non=>cases ry;cases rv;exact ⟨RcAt.int_none _ _,RcNeAt.int_none _ _,EqAt.int_none _ _⟩
   | bl _=>cases ry;cases rv;exact ⟨RcAt.int_bool _ _ _,RcNeAt.int_bool _ _ _,EqAt.int_bool _ _ _⟩
   | int _=>cases ry;obtain ⟨t2,rfl⟩:=rv;exact ⟨RcAt.int_int _ _ _ _,RcNeAt.int_int _ _ _ _,EqAt.int_int _ _ _ _⟩
   | str _=>cases ry;obtain ⟨t2,rfl⟩:=rv;exact ⟨RcAt.int_str _ _ _ _,RcNeAt.int_str _ _ _ _,EqAt.int_str _ _ _ _⟩
   | tup es=>
    obtain ⟨q,ys,rfl,e2,r2⟩:=ry.eZ;cases rv;obtain ⟨its2,vr2,h2⟩:=gZ I e2;exact ⟨RcAt.int_tuple _ _ h2 hu0,RcNeAt.int_tuple _ _ h2 hu0,EqAt.int_tuple _ _ h2 hu0⟩
   | lst es=>
    obtain ⟨q,ys,rfl,e2,r2⟩:=ry.fU (K:=X.K);cases rv;obtain ⟨its2,vr2,h2⟩:=j7 I e2;exact ⟨RcAt.int_list _ _ h2 hu0,RcNeAt.int_list _ _ h2 hu0,EqAt.int_list _ _ h2 hu0⟩
  | str _=>
   cases rx;obtain ⟨t1,rfl⟩:=ru;cases b with
   | uD=>exact absurd ry Rep.uD
   | dct _=>simp [D.bJ] at hb
   | scr _=>simp [D.bJ] at hb
   | fdc _=>simp [D.bJ] at hb
   | exc _ _=>simp [D.bJ] at hb
   | ins _ _=>simp [D.bJ] at hb
   | cel _ _=>simp [D.bJ] at hb
   | non=>cases ry;cases rv;exact ⟨RcAt.str_none _ _,RcNeAt.str_none _ _,EqAt.str_none _ _⟩
   | bl _=>cases ry;cases rv;exact ⟨RcAt.str_bool _ _ _,RcNeAt.str_bool _ _ _,EqAt.str_bool _ _ _⟩
   | int _=>cases ry;obtain ⟨t2,rfl⟩:=rv;exact ⟨RcAt.str_int _ _ _ _,RcNeAt.str_int _ _ _ _,EqAt.str_int _ _ _ _⟩
   | str _=>cases ry;obtain ⟨t2,rfl⟩:=rv;exact ⟨RcAt.str_str _ _ _ _,RcNeAt.str_str _ _ _ _,EqAt.str_str _ _ _ _⟩
   | tup es=>
    obtain ⟨q,ys,rfl,e2,r2⟩:=ry.eZ;cases rv;obtain ⟨its2,vr2,h2⟩:=gZ I e2;exact ⟨RcAt.str_tuple _ _ h2 hu0,RcNeAt.str_tuple _ _ h2 hu0,EqAt.str_tuple _ _ h2 hu0⟩
   | lst es=>
    obtain ⟨q,ys,rfl,e2,r2⟩:=ry.fU (K:=X.K);cases rv;obtain ⟨its2,vr2,h2⟩:=j7 I e2;exact ⟨RcAt.str_list _ _ h2 hu0,RcNeAt.str_list _ _ h2 hu0,EqAt.str_list _ _ h2 hu0⟩
  | tup ds=>
   obtain ⟨p,xs,rfl,e1,r1⟩:=rx.eZ;cases ru;obtain ⟨its1,vr1,h1⟩:=gZ I e1;rw [D.bJ] at ha;cases b with
   | uD=>exact absurd ry Rep.uD
   | dct _=>simp [D.bJ] at hb
   | scr _=>simp [D.bJ] at hb
   | fdc _=>simp [D.bJ] at hb
   | exc _ _=>simp [D.bJ] at hb
   | ins _ _=>simp [D.bJ] at hb
   | cel _ _=>simp [D.bJ] at hb
   | non=>cases ry;cases rv;exact ⟨RcAt.tuple_none h1 hu0,RcNeAt.tuple_none h1 hu0,EqAt.tuple_none h1 hu0⟩
   | bl _=>cases ry;cases rv;exact ⟨RcAt.tuple_bool _ h1 hu0,RcNeAt.tuple_bool _ h1 hu0,EqAt.tuple_bool _ h1 hu0⟩
   | int _=>cases ry;obtain ⟨t2,rfl⟩:=rv;exact ⟨RcAt.tuple_int _ _ h1 hu0,RcNeAt.tuple_int _ _ h1 hu0,EqAt.tuple_int _ _ h1 hu0⟩
   | str _=>cases ry;obtain ⟨t2,rfl⟩:=rv;exact ⟨RcAt.tuple_str _ _ h1 hu0,RcNeAt.tuple_str _ _ h1 hu0,EqAt.tuple_str _ _ h1 hu0⟩
   | tup es=>
    obtain ⟨q,ys,rfl,e2,r2⟩:=ry.eZ;cases rv;obtain ⟨its2,vr2,h2⟩:=gZ I e2;rw [D.bJ] at hb;have z1:its1.toArray.size=ds.length:=by rw [List.size_toArray,<-vr1.length,r1.length]
    have z2:its2.toArray.size=es.length:=by rw [List.size_toArray,<-vr2.length,r2.length]
    have he:∀j (g1:j<its1.toArray.size) (g2:j<its2.toArray.size),EqAt A.in1 s its1.toArray[j] its2.toArray[j] (eqD (ds.getD j .non) (es.getD j .non)):=fun j g1 g2=>by
     obtain ⟨v1,w1,rr1⟩:=r1.getD (j:=j) (by lia);obtain ⟨v2,w2,rr2⟩:=r2.getD (j:=j) (by lia);obtain ⟨u1,k1,l1⟩:=vr1.get w1;obtain ⟨u2,k2,l2⟩:=vr2.get w2;have m1:its1.toArray[j]=u1:=by
      rw [List.getElem?_eq_getElem (by simpa using g1)] at k1;simpa using Option.some.inj k1
     have m2:its2.toArray[j]=u2:=by
      rw [List.getElem?_eq_getElem (by simpa using g2)] at k2;simpa using Option.some.inj k2
     rw [m1,m2];exact (ih A.in1 hu1 (fJ ha (by lia)) (fJ hb (by lia)) rr1 rr2 l1 l2).2.2
    have ee:eqD (.tup ds) (.tup es)=((List.range (min its1.toArray.size its2.toArray.size)).all (fun j=>eqD (ds.getD j .non) (es.getD j .non))&&its1.toArray.size==its2.toArray.size):=by
     rw [eqD,mY,z1,z2]
    have r0:=RcAt.tuples h1 h2 hu0 he;have r0':=RcNeAt.tuples h1 h2 hu0 he;rw [<-ee] at r0 r0';refine ⟨r0,r0',?_⟩;by_cases hpq:p=q
    ·subst hpq;have hab:(D.tup ds)=(.tup es):=Rep.inj (n+1) (by rw [D.bJ];exact ha) (by rw [D.bJ];exact hb) rx ry;rw [<-hab,rD (n+1) _ (by rw [D.bJ];exact ha)];exact EqAt.same _
    ·exact EqAt.of_refs hpq r0
   | lst es=>
    obtain ⟨q,ys,rfl,e2,r2⟩:=ry.fU (K:=X.K);cases rv;obtain ⟨its2,vr2,h2⟩:=j7 I e2;exact ⟨RcAt.tuple_list h1 h2 hu0,RcNeAt.tuple_list h1 h2 hu0,EqAt.tuple_list h1 h2 hu0⟩
  | lst ds=>
   obtain ⟨p,xs,rfl,e1,r1⟩:=rx.fU (K:=X.K);cases ru;obtain ⟨its1,vr1,h1⟩:=j7 I e1;rw [D.bJ] at ha;cases b with
   | uD=>exact absurd ry Rep.uD
   | dct _=>simp [D.bJ] at hb
   | scr _=>simp [D.bJ] at hb
   | fdc _=>simp [D.bJ] at hb
   | exc _ _=>simp [D.bJ] at hb
   | ins _ _=>simp [D.bJ] at hb
   | cel _ _=>simp [D.bJ] at hb
   | non=>cases ry;cases rv;exact ⟨RcAt.list_none h1 hu0,RcNeAt.list_none h1 hu0,EqAt.list_none h1 hu0⟩
   | bl _=>cases ry;cases rv;exact ⟨RcAt.list_bool _ h1 hu0,RcNeAt.list_bool _ h1 hu0,EqAt.list_bool _ h1 hu0⟩
   | int _=>cases ry;obtain ⟨t2,rfl⟩:=rv;exact ⟨RcAt.list_int _ _ h1 hu0,RcNeAt.list_int _ _ h1 hu0,EqAt.list_int _ _ h1 hu0⟩
   | str _=>cases ry;obtain ⟨t2,rfl⟩:=rv;exact ⟨RcAt.list_str _ _ h1 hu0,RcNeAt.list_str _ _ h1 hu0,EqAt.list_str _ _ h1 hu0⟩
   | tup es=>
    obtain ⟨q,ys,rfl,e2,r2⟩:=ry.eZ;cases rv;obtain ⟨its2,vr2,h2⟩:=gZ I e2;exact ⟨RcAt.list_tuple h1 h2 hu0,RcNeAt.list_tuple h1 h2 hu0,EqAt.list_tuple h1 h2 hu0⟩
   | lst es=>
    obtain ⟨q,ys,rfl,e2,r2⟩:=ry.fU (K:=X.K);cases rv;obtain ⟨its2,vr2,h2⟩:=j7 I e2;rw [D.bJ] at hb;have z1:its1.toArray.size=ds.length:=by rw [List.size_toArray,<-vr1.length,r1.length]
    have z2:its2.toArray.size=es.length:=by rw [List.size_toArray,<-vr2.length,r2.length]
    have he:∀j (g1:j<its1.toArray.size) (g2:j<its2.toArray.size),EqAt A.in1 s its1.toArray[j] its2.toArray[j] (eqD (ds.getD j .non) (es.getD j .non)):=fun j g1 g2=>by
     obtain ⟨v1,w1,rr1⟩:=r1.getD (j:=j) (by lia);obtain ⟨v2,w2,rr2⟩:=r2.getD (j:=j) (by lia);obtain ⟨u1,k1,l1⟩:=vr1.get w1;obtain ⟨u2,k2,l2⟩:=vr2.get w2;have m1:its1.toArray[j]=u1:=by
      rw [List.getElem?_eq_getElem (by simpa using g1)] at k1;simpa using Option.some.inj k1
     have m2:its2.toArray[j]=u2:=by
      rw [List.getElem?_eq_getElem (by simpa using g2)] at k2;simpa using Option.some.inj k2
     rw [m1,m2];exact (ih A.in1 hu1 (fJ ha (by lia)) (fJ hb (by lia)) rr1 rr2 l1 l2).2.2
    have r00:RcAt A s (.ref p) (.ref q) (eqD (.lst ds) (.lst es))/\RcNeAt A s (.ref p) (.ref q) (!eqD (.lst ds) (.lst es)):=by
     rw [eqD,mY];by_cases hz:ds.length=es.length
     ·have r0:=RcAt.lists h1 h2 (by lia) hu0 he;have r0':=RcNeAt.lists h1 h2 (by lia) hu0 he;rw [z1] at r0 r0';rw [show min ds.length es.length=ds.length by lia,show (ds.length==es.length)=true by simpa using hz,Bool.and_true];exact ⟨r0,r0'⟩
     ·have hz':(its1.toArray.size != its2.toArray.size)=true:=by rw [z1,z2];simpa using hz
      rw [show (ds.length==es.length)=false by simpa using hz,Bool.and_false];exact ⟨RcAt.lists_lengths h1 h2 hz' hu0,RcNeAt.lists_lengths h1 h2 hz' hu0⟩
    obtain ⟨r0,r0'⟩:=r00;refine ⟨r0,r0',?_⟩;by_cases hpq:p=q
    ·subst hpq;have hab:(D.lst ds)=(.lst es):=Rep.inj (n+1) (by rw [D.bJ];exact ha) (by rw [D.bJ];exact hb) rx ry;rw [<-hab,rD (n+1) _ (by rw [D.bJ];exact ha)];exact EqAt.same _
    ·exact EqAt.of_refs hpq r0
end
end Mi
end
section
namespace Mi
open PySem L2 PySem.SeqAt
open PySem.AutoSeq1 (wpAny_loadPart')
open PySem.MeetsSeq PySem.MeetsSeq2 PySem.MeetsSeq3
variable [KFrag]
noncomputable def j0.op:j0->CmpOp
 | .lt=>.Lt|.le=>.LtE|.gt=>.Gt|.ge=>.GtE
noncomputable def yR (op:CmpOp) (A:Around) (s:Shared) (u v:Value) (b:Bool):Prop:=
 ∀(prog:Program) (w:World) (E:Value->Shared->Prop) (Q:Value->Shared->Prop),Q (.bool b) s->wpAny (model prog w) A (richCompare op u v) Q E s
noncomputable def C2 (o:j0) (A:Around) (s:Shared) (vs ws:List Value) (xs ys:List D):Prop:=
 vs.length=xs.length/\ws.length=ys.length/\∀(j:Nat) (v w:Value) (x y:D),vs[j]?=some v->ws[j]?=some w->xs[j]?=some x->ys[j]?=some y->
  EqAt A s v w (eqD x y)/\(eqD x y=false->∀k,n6 o x y=some k->yR o.op A s v w k)
theorem C2.tail {o:j0} {A:Around} {s:Shared} {v w:Value} {vs ws:List Value} {x y:D} {xs ys:List D} (h:C2 o A s (v::vs) (w::ws) (x::xs) (y::ys)):C2 o A s vs ws xs ys:=
 ⟨by simpa using h.1,by simpa using h.2.1,fun j a b c d e1 e2 e3 e4=>h.2.2 (j+1) a b c d (by simpa using e1) (by simpa using e2) (by simpa using e3) (by simpa using e4)⟩
theorem DX (l b:Addr) (items items2:Array Value) (n n2:Nat) (dd dd2:Option Addr) (sl sl2:Array (Option Value)) (xs ys:List D) (res:Bool) (hr:fG .lt xs ys=some res) :
  Meets (Builtin.«tuple.__lt__» ⟨[.ref l,.ref b],[]⟩)
   (fun A R s=>s.heap.get? l=some {cls:=.type "tuple",dict:=dd,data:=.seq items n,slots:=sl}/\s.heap.get? b=some {cls:=.type "tuple",dict:=dd2,data:=.seq items2 n2,slots:=sl2}/\
    C2 .lt A.in1 s items.toList items2.toList xs ys/\R (.ok (.ret (.bool res))) s):=
 .of_wp fun prog w A R s h=>by
  obtain ⟨hp,g,d,tk,os⟩:=s;obtain ⟨hl,hb,hC,h⟩:=h;have f2:=AutoSeq1.sub_tuple_tuple;have z1:items.size=xs.length:=by rw [<-hC.1];simp
  have z2:items2.size=ys.length:=by rw [<-hC.2.1];simp
  wp_walk using wpAny_loadPart' hl,wpAny_loadPart' hb,wpAny_forIn_list _ (fun rest b s'=>b.1=none/\s'=⟨hp,g,d,tk,os⟩/\∃(vs ws:List Value) (xs' ys':List D),rest=vs.zip ws/\
   C2 .lt A.in1 ⟨hp,g,d,tk,os⟩ vs ws xs' ys'/\xs'.length+items2.size=ys'.length+items.size/\fG .lt xs' ys'=some res) _
  case turn=>
   rintro ⟨y,x⟩ rest b s' ⟨hb',rfl,vs,ws,xs',ys',hz,hC',hlen,hR⟩;cases vs with
   | nil=>rw [List.zip_nil_left] at hz;cases hz
   | cons v vs=>
    cases ws with
    | nil=>rw [List.zip_nil_right] at hz;cases hz
    | cons w' ws=>
     rw [List.zip_cons_cons] at hz;injection hz with hyx hrest
     injection hyx with hy hx
     subst hy hx;cases xs' with
     | nil=>exact absurd hC'.1 (by simp)
     | cons x0 xs'=>
      cases ys' with
      | nil=>exact absurd hC'.2.1 (by simp)
      | cons y0 ys'=>
       rw [fG] at hR;simp only [List.length_cons] at hlen;obtain ⟨he,hlt⟩:=hC'.2.2 0 _ _ _ _ rfl rfl rfl rfl;refine wpAny_bind (he prog w _ _ ?_);cases e:eqD x0 y0 with
       | true=>
        rw [e] at hR;simp only [if_true] at hR
        wp_walk
        exact ⟨rfl,rfl,_,_,_,_,hrest,hC'.tail,by lia,hR⟩
       | false=>
        rw [e] at hR;simp only [Bool.false_eq_true,if_false] at hR;have hri:∀(E:Value->Shared->Prop) (Q:Value->Shared->Prop),Q (.bool res) ⟨hp,g,d,tk,os⟩->wpAny (model prog w) A.in1 (richCompare .Lt _ _) Q E ⟨hp,g,d,tk,os⟩:=fun E Q q=>hlt e res hR prog w E Q q
        wp_walk using hri
        exact ⟨_,rfl,by simpa using h⟩
  case fin=>
   rintro ⟨b1,b2⟩ s' ⟨hb',rfl,vs,ws,xs',ys',hz,hC',hlen,hR⟩;simp only at hb';subst hb';have hv:res=decide (items.size<items2.size):=by
    cases xs' with
    | nil=>
     rw [fG] at hR;have:=Option.some.inj hR;rw [<-this];simp only [List.length_nil] at hlen;simp only [j0.nat]
     congr 1
     simp only [eq_iff_iff];lia
    | cons x0 xs'=>
     cases ys' with
     | nil=>
      rw [fG] at hR;have:=Option.some.inj hR;rw [<-this];simp only [List.length_nil,List.length_cons] at hlen;simp only [j0.nat,List.length_cons]
      congr 1
      simp only [eq_iff_iff];lia
     | cons y0 ys'=>
      exfalso;cases vs with
      | nil=>exact absurd hC'.1 (by simp)
      | cons v vs=>
       cases ws with
       | nil=>exact absurd hC'.2.1 (by simp)
       | cons w' ws=>rw [List.zip_cons_cons] at hz;cases hz
   rw [hv] at h
   wp_walk
   exact ⟨_,rfl,by simpa [Builtin.Tuple.tupleCompareSizes] using h⟩
  case h=>
   exact ⟨rfl,rfl,items.toList,items2.toList,xs,ys,rfl,hC,by lia,hr⟩
theorem yR.aAp {A:Around} {s:Shared} {l b:Addr} {items items2:Array Value} {xs ys:List D} {res:Bool} (hl:s.heap.IsTuple l items) (hb:s.heap.IsTuple b items2) (hC:C2 .lt A.in1 s items.toList items2.toList xs ys) (hr:fG .lt xs ys=some res) (hu:A.units<cLine) :
  yR .Lt A s (.ref l) (.ref b) res:=fun prog w E Q h=>by
 obtain ⟨⟨cls,dd,data,sl⟩,ho,hc,n,hd⟩:=id hl;obtain ⟨⟨cls2,dd2,data2,sl2⟩,ho2,hc2,n2,hd2⟩:=id hb;simp only at hc hd hc2 hd2;subst hc hd hc2 hd2;exact richCompare_meets_room (op:=.Lt) ⟨_,ho,rfl⟩ ⟨_,ho2,rfl⟩ PySem.F.slot_tuple_lt PySem.F.entry_tuple_lt (PySem.F.args_tuple_lt_2 _ _) (DX l b items items2 n n2 dd dd2 sl sl2 xs ys res hr)
  ⟨ho,ho2,hC,show Value.bool res≠Value.notImplemented/\Q (.bool res) s from ⟨(fun x=>nomatch x),h⟩⟩ hu
theorem DY (l b:Addr) (items items2:Array Value) (n n2:Nat) (dd dd2:Option Addr) (sl sl2:Array (Option Value)) (xs ys:List D) (res:Bool) (hr:fG .le xs ys=some res) :
  Meets (Builtin.«tuple.__le__» ⟨[.ref l,.ref b],[]⟩)
   (fun A R s=>s.heap.get? l=some {cls:=.type "tuple",dict:=dd,data:=.seq items n,slots:=sl}/\s.heap.get? b=some {cls:=.type "tuple",dict:=dd2,data:=.seq items2 n2,slots:=sl2}/\
    C2 .le A.in1 s items.toList items2.toList xs ys/\R (.ok (.ret (.bool res))) s):=
 .of_wp fun prog w A R s h=>by
  obtain ⟨hp,g,d,tk,os⟩:=s;obtain ⟨hl,hb,hC,h⟩:=h;have f2:=AutoSeq1.sub_tuple_tuple;have z1:items.size=xs.length:=by rw [<-hC.1];simp
  have z2:items2.size=ys.length:=by rw [<-hC.2.1];simp
  wp_walk using wpAny_loadPart' hl,wpAny_loadPart' hb,wpAny_forIn_list _ (fun rest b s'=>b.1=none/\s'=⟨hp,g,d,tk,os⟩/\∃(vs ws:List Value) (xs' ys':List D),rest=vs.zip ws/\
   C2 .le A.in1 ⟨hp,g,d,tk,os⟩ vs ws xs' ys'/\xs'.length+items2.size=ys'.length+items.size/\fG .le xs' ys'=some res) _
  case turn=>
   rintro ⟨y,x⟩ rest b s' ⟨hb',rfl,vs,ws,xs',ys',hz,hC',hlen,hR⟩;cases vs with
   | nil=>rw [List.zip_nil_left] at hz;cases hz
   | cons v vs=>
    cases ws with
    | nil=>rw [List.zip_nil_right] at hz;cases hz
    | cons w' ws=>
     rw [List.zip_cons_cons] at hz;injection hz with hyx hrest
     injection hyx with hy hx
     subst hy hx;cases xs' with
     | nil=>exact absurd hC'.1 (by simp)
     | cons x0 xs'=>
      cases ys' with
      | nil=>exact absurd hC'.2.1 (by simp)
      | cons y0 ys'=>
       rw [fG] at hR;simp only [List.length_cons] at hlen;obtain ⟨he,hlt⟩:=hC'.2.2 0 _ _ _ _ rfl rfl rfl rfl;refine wpAny_bind (he prog w _ _ ?_);cases e:eqD x0 y0 with
       | true=>
        rw [e] at hR;simp only [if_true] at hR
        wp_walk
        exact ⟨rfl,rfl,_,_,_,_,hrest,hC'.tail,by lia,hR⟩
       | false=>
        rw [e] at hR;simp only [Bool.false_eq_true,if_false] at hR;have hri:∀(E:Value->Shared->Prop) (Q:Value->Shared->Prop),Q (.bool res) ⟨hp,g,d,tk,os⟩->wpAny (model prog w) A.in1 (richCompare .LtE _ _) Q E ⟨hp,g,d,tk,os⟩:=fun E Q q=>hlt e res hR prog w E Q q
        wp_walk using hri
        exact ⟨_,rfl,by simpa using h⟩
  case fin=>
   rintro ⟨b1,b2⟩ s' ⟨hb',rfl,vs,ws,xs',ys',hz,hC',hlen,hR⟩;simp only at hb';subst hb';have hv:res=decide (items.size<=items2.size):=by
    cases xs' with
    | nil=>
     rw [fG] at hR;have:=Option.some.inj hR;rw [<-this];simp only [List.length_nil] at hlen;simp only [j0.nat]
     congr 1
     simp only [eq_iff_iff];lia
    | cons x0 xs'=>
     cases ys' with
     | nil=>
      rw [fG] at hR;have:=Option.some.inj hR;rw [<-this];simp only [List.length_nil,List.length_cons] at hlen;simp only [j0.nat,List.length_cons]
      congr 1
      simp only [eq_iff_iff];lia
     | cons y0 ys'=>
      exfalso;cases vs with
      | nil=>exact absurd hC'.1 (by simp)
      | cons v vs=>
       cases ws with
       | nil=>exact absurd hC'.2.1 (by simp)
       | cons w' ws=>rw [List.zip_cons_cons] at hz;cases hz
   rw [hv] at h
   wp_walk
   exact ⟨_,rfl,by simpa [Builtin.Tuple.tupleCompareSizes] using h⟩
  case h=>
   exact ⟨rfl,rfl,items.toList,items2.toList,xs,ys,rfl,hC,by lia,hr⟩
theorem yR.aAq {A:Around} {s:Shared} {l b:Addr} {items items2:Array Value} {xs ys:List D} {res:Bool} (hl:s.heap.IsTuple l items) (hb:s.heap.IsTuple b items2) (hC:C2 .le A.in1 s items.toList items2.toList xs ys) (hr:fG .le xs ys=some res) (hu:A.units<cLine) :
  yR .LtE A s (.ref l) (.ref b) res:=fun prog w E Q h=>by
 obtain ⟨⟨cls,dd,data,sl⟩,ho,hc,n,hd⟩:=id hl;obtain ⟨⟨cls2,dd2,data2,sl2⟩,ho2,hc2,n2,hd2⟩:=id hb;simp only at hc hd hc2 hd2;subst hc hd hc2 hd2;exact richCompare_meets_room (op:=.LtE) ⟨_,ho,rfl⟩ ⟨_,ho2,rfl⟩ PySem.F.slot_tuple_le PySem.F.entry_tuple_le (PySem.F.args_tuple_le_2 _ _) (DY l b items items2 n n2 dd dd2 sl sl2 xs ys res hr)
  ⟨ho,ho2,hC,show Value.bool res≠Value.notImplemented/\Q (.bool res) s from ⟨(fun x=>nomatch x),h⟩⟩ hu
theorem D_ (l b:Addr) (items items2:Array Value) (n n2:Nat) (dd dd2:Option Addr) (sl sl2:Array (Option Value)) (xs ys:List D) (res:Bool) (hr:fG .gt xs ys=some res) :
  Meets (Builtin.«tuple.__gt__» ⟨[.ref l,.ref b],[]⟩)
   (fun A R s=>s.heap.get? l=some {cls:=.type "tuple",dict:=dd,data:=.seq items n,slots:=sl}/\s.heap.get? b=some {cls:=.type "tuple",dict:=dd2,data:=.seq items2 n2,slots:=sl2}/\
    C2 .gt A.in1 s items.toList items2.toList xs ys/\R (.ok (.ret (.bool res))) s):=
 .of_wp fun prog w A R s h=>by
  obtain ⟨hp,g,d,tk,os⟩:=s;obtain ⟨hl,hb,hC,h⟩:=h;have f2:=AutoSeq1.sub_tuple_tuple;have z1:items.size=xs.length:=by rw [<-hC.1];simp
  have z2:items2.size=ys.length:=by rw [<-hC.2.1];simp
  wp_walk using wpAny_loadPart' hl,wpAny_loadPart' hb,wpAny_forIn_list _ (fun rest b s'=>b.1=none/\s'=⟨hp,g,d,tk,os⟩/\∃(vs ws:List Value) (xs' ys':List D),rest=vs.zip ws/\
   C2 .gt A.in1 ⟨hp,g,d,tk,os⟩ vs ws xs' ys'/\xs'.length+items2.size=ys'.length+items.size/\fG .gt xs' ys'=some res) _
  case turn=>
   rintro ⟨y,x⟩ rest b s' ⟨hb',rfl,vs,ws,xs',ys',hz,hC',hlen,hR⟩;cases vs with
   | nil=>rw [List.zip_nil_left] at hz;cases hz
   | cons v vs=>
    cases ws with
    | nil=>rw [List.zip_nil_right] at hz;cases hz
    | cons w' ws=>
     rw [List.zip_cons_cons] at hz;injection hz with hyx hrest
     injection hyx with hy hx
     subst hy hx;cases xs' with
     | nil=>exact absurd hC'.1 (by simp)
     | cons x0 xs'=>
      cases ys' with
      | nil=>exact absurd hC'.2.1 (by simp)
      | cons y0 ys'=>
       rw [fG] at hR;simp only [List.length_cons] at hlen;obtain ⟨he,hlt⟩:=hC'.2.2 0 _ _ _ _ rfl rfl rfl rfl;refine wpAny_bind (he prog w _ _ ?_);cases e:eqD x0 y0 with
       | true=>
        rw [e] at hR;simp only [if_true] at hR
        wp_walk
        exact ⟨rfl,rfl,_,_,_,_,hrest,hC'.tail,by lia,hR⟩
       | false=>
        rw [e] at hR;simp only [Bool.false_eq_true,if_false] at hR;have hri:∀(E:Value->Shared->Prop) (Q:Value->Shared->Prop),Q (.bool res) ⟨hp,g,d,tk,os⟩->wpAny (model prog w) A.in1 (richCompare .Gt _ _) Q E ⟨hp,g,d,tk,os⟩:=fun E Q q=>hlt e res hR prog w E Q q
        wp_walk using hri
        exact ⟨_,rfl,by simpa using h⟩
  case fin=>
   rintro ⟨b1,b2⟩ s' ⟨hb',rfl,vs,ws,xs',ys',hz,hC',hlen,hR⟩;simp only at hb';subst hb';have hv:res=decide (items2.size<items.size):=by
    cases xs' with
    | nil=>
     rw [fG] at hR;have:=Option.some.inj hR;rw [<-this];simp only [List.length_nil] at hlen;simp only [j0.nat]
     congr 1
     simp only [eq_iff_iff];lia
    | cons x0 xs'=>
     cases ys' with
     | nil=>
      rw [fG] at hR;have:=Option.some.inj hR;rw [<-this];simp only [List.length_nil,List.length_cons] at hlen;simp only [j0.nat,List.length_cons]
      congr 1
      simp only [eq_iff_iff];lia
     | cons y0 ys'=>
      exfalso;cases vs with
      | nil=>exact absurd hC'.1 (by simp)
      | cons v vs=>
       cases ws with
       | nil=>exact absurd hC'.2.1 (by simp)
       | cons w' ws=>rw [List.zip_cons_cons] at hz;cases hz
   rw [hv] at h
   wp_walk
   exact ⟨_,rfl,by simpa [Builtin.Tuple.tupleCompareSizes] using h⟩
  case h=>
   exact ⟨rfl,rfl,items.toList,items2.toList,xs,ys,rfl,hC,by lia,hr⟩
theorem yR.aAr {A:Around} {s:Shared} {l b:Addr} {items items2:Array Value} {xs ys:List D} {res:Bool} (hl:s.heap.IsTuple l items) (hb:s.heap.IsTuple b items2) (hC:C2 .gt A.in1 s items.toList items2.toList xs ys) (hr:fG .gt xs ys=some res) (hu:A.units<cLine) :
  yR .Gt A s (.ref l) (.ref b) res:=fun prog w E Q h=>by
 obtain ⟨⟨cls,dd,data,sl⟩,ho,hc,n,hd⟩:=id hl;obtain ⟨⟨cls2,dd2,data2,sl2⟩,ho2,hc2,n2,hd2⟩:=id hb;simp only at hc hd hc2 hd2;subst hc hd hc2 hd2;exact richCompare_meets_room (op:=.Gt) ⟨_,ho,rfl⟩ ⟨_,ho2,rfl⟩ PySem.F.slot_tuple_gt PySem.F.entry_tuple_gt (PySem.F.args_tuple_gt_2 _ _) (D_ l b items items2 n n2 dd dd2 sl sl2 xs ys res hr)
  ⟨ho,ho2,hC,show Value.bool res≠Value.notImplemented/\Q (.bool res) s from ⟨(fun x=>nomatch x),h⟩⟩ hu
theorem EY (l b:Addr) (items items2:Array Value) (n n2:Nat) (dd dd2:Option Addr) (sl sl2:Array (Option Value)) (xs ys:List D) (res:Bool) (hr:fG .ge xs ys=some res) :
  Meets (Builtin.«tuple.__ge__» ⟨[.ref l,.ref b],[]⟩)
   (fun A R s=>s.heap.get? l=some {cls:=.type "tuple",dict:=dd,data:=.seq items n,slots:=sl}/\s.heap.get? b=some {cls:=.type "tuple",dict:=dd2,data:=.seq items2 n2,slots:=sl2}/\
    C2 .ge A.in1 s items.toList items2.toList xs ys/\R (.ok (.ret (.bool res))) s):=
 .of_wp fun prog w A R s h=>by
  obtain ⟨hp,g,d,tk,os⟩:=s;obtain ⟨hl,hb,hC,h⟩:=h;have f2:=AutoSeq1.sub_tuple_tuple;have z1:items.size=xs.length:=by rw [<-hC.1];simp
  have z2:items2.size=ys.length:=by rw [<-hC.2.1];simp
  wp_walk using wpAny_loadPart' hl,wpAny_loadPart' hb,wpAny_forIn_list _ (fun rest b s'=>b.1=none/\s'=⟨hp,g,d,tk,os⟩/\∃(vs ws:List Value) (xs' ys':List D),rest=vs.zip ws/\
   C2 .ge A.in1 ⟨hp,g,d,tk,os⟩ vs ws xs' ys'/\xs'.length+items2.size=ys'.length+items.size/\fG .ge xs' ys'=some res) _
  case turn=>
   rintro ⟨y,x⟩ rest b s' ⟨hb',rfl,vs,ws,xs',ys',hz,hC',hlen,hR⟩;cases vs with
   | nil=>rw [List.zip_nil_left] at hz;cases hz
   | cons v vs=>
    cases ws with
    | nil=>rw [List.zip_nil_right] at hz;cases hz
    | cons w' ws=>
     rw [List.zip_cons_cons] at hz;injection hz with hyx hrest
     injection hyx with hy hx
     subst hy hx;cases xs' with
     | nil=>exact absurd hC'.1 (by simp)
     | cons x0 xs'=>
      cases ys' with
      | nil=>exact absurd hC'.2.1 (by simp)
      | cons y0 ys'=>
       rw [fG] at hR;simp only [List.length_cons] at hlen;obtain ⟨he,hlt⟩:=hC'.2.2 0 _ _ _ _ rfl rfl rfl rfl;refine wpAny_bind (he prog w _ _ ?_);cases e:eqD x0 y0 with
       | true=>
        rw [e] at hR;simp only [if_true] at hR
        wp_walk
        exact ⟨rfl,rfl,_,_,_,_,hrest,hC'.tail,by lia,hR⟩
       | false=>
        rw [e] at hR;simp only [Bool.false_eq_true,if_false] at hR;have hri:∀(E:Value->Shared->Prop) (Q:Value->Shared->Prop),Q (.bool res) ⟨hp,g,d,tk,os⟩->wpAny (model prog w) A.in1 (richCompare .GtE _ _) Q E ⟨hp,g,d,tk,os⟩:=fun E Q q=>hlt e res hR prog w E Q q
        wp_walk using hri
        exact ⟨_,rfl,by simpa using h⟩
  case fin=>
   rintro ⟨b1,b2⟩ s' ⟨hb',rfl,vs,ws,xs',ys',hz,hC',hlen,hR⟩;simp only at hb';subst hb';have hv:res=decide (items2.size<=items.size):=by
    cases xs' with
    | nil=>
     rw [fG] at hR;have:=Option.some.inj hR;rw [<-this];simp only [List.length_nil] at hlen;simp only [j0.nat]
     congr 1
     simp only [eq_iff_iff];lia
    | cons x0 xs'=>
     cases ys' with
     | nil=>
      rw [fG] at hR;have:=Option.some.inj hR;rw [<-this];simp only [List.length_nil,List.length_cons] at hlen;simp only [j0.nat,List.length_cons]
      congr 1
      simp only [eq_iff_iff];lia
     | cons y0 ys'=>
      exfalso;cases vs with
      | nil=>exact absurd hC'.1 (by simp)
      | cons v vs=>
       cases ws with
       | nil=>exact absurd hC'.2.1 (by simp)
       | cons w' ws=>rw [List.zip_cons_cons] at hz;cases hz
   rw [hv] at h
   wp_walk
   exact ⟨_,rfl,by simpa [Builtin.Tuple.tupleCompareSizes] using h⟩
  case h=>
   exact ⟨rfl,rfl,items.toList,items2.toList,xs,ys,rfl,hC,by lia,hr⟩
theorem yR.aAs {A:Around} {s:Shared} {l b:Addr} {items items2:Array Value} {xs ys:List D} {res:Bool} (hl:s.heap.IsTuple l items) (hb:s.heap.IsTuple b items2) (hC:C2 .ge A.in1 s items.toList items2.toList xs ys) (hr:fG .ge xs ys=some res) (hu:A.units<cLine) :
  yR .GtE A s (.ref l) (.ref b) res:=fun prog w E Q h=>by
 obtain ⟨⟨cls,dd,data,sl⟩,ho,hc,n,hd⟩:=id hl;obtain ⟨⟨cls2,dd2,data2,sl2⟩,ho2,hc2,n2,hd2⟩:=id hb;simp only at hc hd hc2 hd2;subst hc hd hc2 hd2;exact richCompare_meets_room (op:=.GtE) ⟨_,ho,rfl⟩ ⟨_,ho2,rfl⟩ PySem.F.slot_tuple_ge PySem.F.entry_tuple_ge (PySem.F.args_tuple_ge_2 _ _) (EY l b items items2 n n2 dd dd2 sl sl2 xs ys res hr)
  ⟨ho,ho2,hC,show Value.bool res≠Value.notImplemented/\Q (.bool res) s from ⟨(fun x=>nomatch x),h⟩⟩ hu
section
variable {X:Cx} {pins:List (Addr×Obj)} {σ:St} {H:Hp} {s:Shared}
theorem J9 (I:Inv X pins σ H s) (o:j0):∀(n:Nat) (A:Around) {x y:V} {a b:D} {u v:Value} {k:Bool},A.units+n<cLine->a.bJ n=true->b.bJ n=true->Rep All H x a->Rep All H y b->RelV x u->RelV y v->
  n6 o a b=some k->yR o.op A s u v k:=by
 intro n;induction n with
 | zero=>
  intro A x y a b u v k hu ha hb rx ry ru rv hk;cases a with
  | int i=>
   cases b with
   | int j=>
    cases rx;cases ry;obtain ⟨t,rfl⟩:=ru;obtain ⟨t',rfl⟩:=rv;rw [n6] at hk;have:=Option.some.inj hk;subst this;cases o with
    | lt=>exact fun prog w E Q h=>(PyProof.Rows.lt_int h:wpAny (model prog w) A (compareOp .Lt (.int i t) (.int j t')) Q E s)
    | le=>exact fun prog w E Q h=>(PyProof.Rows.le_int h:wpAny (model prog w) A (compareOp .LtE (.int i t) (.int j t')) Q E s)
    | gt=>exact fun prog w E Q h=>(PyProof.Rows.gt_int h:wpAny (model prog w) A (compareOp .Gt (.int i t) (.int j t')) Q E s)
    | ge=>exact fun prog w E Q h=>(PyProof.Rows.ge_int h:wpAny (model prog w) A (compareOp .GtE (.int i t) (.int j t')) Q E s)
   | _=>simp [n6] at hk
  | str i=>
   cases b with
   | str j=>
    cases rx;cases ry;obtain ⟨t,rfl⟩:=ru;obtain ⟨t',rfl⟩:=rv;rw [n6] at hk;have:=Option.some.inj hk;subst this;cases o with
    | lt=>exact fun prog w E Q h=>(PyProof.Rows.lt_str h:wpAny (model prog w) A (compareOp .Lt (.str i t) (.str j t')) Q E s)
    | le=>exact fun prog w E Q h=>(PySem.P.le_str h:wpAny (model prog w) A (compareOp .LtE (.str i t) (.str j t')) Q E s)
    | gt=>exact fun prog w E Q h=>(PySem.P.gt_str h:wpAny (model prog w) A (compareOp .Gt (.str i t) (.str j t')) Q E s)
    | ge=>exact fun prog w E Q h=>(PySem.P.ge_str h:wpAny (model prog w) A (compareOp .GtE (.str i t) (.str j t')) Q E s)
   | _=>simp [n6] at hk
  | tup _=>simp [D.bJ] at ha
  | _=>cases b <;> simp [n6] at hk
 | succ n ih=>
  intro A x y a b u v k hu ha hb rx ry ru rv hk;have hu0:A.units<cLine:=by lia
  have hu1:A.in1.units+n<cLine:=by show A.units+1+n<cLine;lia
  cases a with
  | int i=>
   cases b with
   | int j=>
    cases rx;cases ry;obtain ⟨t,rfl⟩:=ru;obtain ⟨t',rfl⟩:=rv;rw [n6] at hk;have:=Option.some.inj hk;subst this;cases o with
    | lt=>exact fun prog w E Q h=>(PyProof.Rows.lt_int h:wpAny (model prog w) A (compareOp .Lt (.int i t) (.int j t')) Q E s)
    | le=>exact fun prog w E Q h=>(PyProof.Rows.le_int h:wpAny (model prog w) A (compareOp .LtE (.int i t) (.int j t')) Q E s)
    | gt=>exact fun prog w E Q h=>(PyProof.Rows.gt_int h:wpAny (model prog w) A (compareOp .Gt (.int i t) (.int j t')) Q E s)
    | ge=>exact fun prog w E Q h=>(PyProof.Rows.ge_int h:wpAny (model prog w) A (compareOp .GtE (.int i t) (.int j t')) Q E s)
   | _=>simp [n6] at hk
  | str i=>
   cases b with
   | str j=>
    cases rx;cases ry;obtain ⟨t,rfl⟩:=ru;obtain ⟨t',rfl⟩:=rv;rw [n6] at hk;have:=Option.some.inj hk;subst this;cases o with
    | lt=>exact fun prog w E Q h=>(PyProof.Rows.lt_str h:wpAny (model prog w) A (compareOp .Lt (.str i t) (.str j t')) Q E s)
    | le=>exact fun prog w E Q h=>(PySem.P.le_str h:wpAny (model prog w) A (compareOp .LtE (.str i t) (.str j t')) Q E s)
    | gt=>exact fun prog w E Q h=>(PySem.P.gt_str h:wpAny (model prog w) A (compareOp .Gt (.str i t) (.str j t')) Q E s)
    | ge=>exact fun prog w E Q h=>(PySem.P.ge_str h:wpAny (model prog w) A (compareOp .GtE (.str i t) (.str j t')) Q E s)
   | _=>simp [n6] at hk
  | tup ds=>
   cases b with
   | tup es=>
    obtain ⟨p,xs,rfl,e1,r1⟩:=rx.eZ;cases ru;obtain ⟨its1,vr1,h1⟩:=gZ I e1;obtain ⟨q,ys,rfl,e2,r2⟩:=ry.eZ;cases rv;obtain ⟨its2,vr2,h2⟩:=gZ I e2;rw [D.bJ] at ha hb;rw [n6] at hk;have hC:∀o',o'=o->C2 o' A.in1 s its1.toArray.toList its2.toArray.toList ds es:=by
     rintro o' rfl;refine ⟨by rw [List.toList_toArray,<-vr1.length,r1.length],by rw [List.toList_toArray,<-vr2.length,r2.length],fun j v w x y a1 a2 a3 a4=>?_⟩;rw [List.toList_toArray] at a1 a2;obtain ⟨v1,w1,rr1⟩:=r1.get a3;obtain ⟨v2,w2,rr2⟩:=r2.get a4;obtain ⟨u1,k1,l1⟩:=vr1.get w1;obtain ⟨u2,k2,l2⟩:=vr2.get w2;rw [a1] at k1;cases k1;rw [a2] at k2;cases k2;have g1:x.bJ n=true:=by
      have:=fJ (j:=j) ha (List.getElem?_eq_some_iff.mp a3).1;rwa [List.getD_eq_getElem?_getD,a3] at this
     have g2:y.bJ n=true:=by
      have:=fJ (j:=j) hb (List.getElem?_eq_some_iff.mp a4).1;rwa [List.getD_eq_getElem?_getD,a4] at this
     exact ⟨(yQ I n A.in1 hu1 g1 g2 rr1 rr2 l1 l2).2.2,fun _ k hk=>ih A.in1 hu1 g1 g2 rr1 rr2 l1 l2 hk⟩
    cases o with
    | lt=>exact yR.aAp h1 h2 (hC .lt rfl) hk hu0
    | le=>exact yR.aAq h1 h2 (hC .le rfl) hk hu0
    | gt=>exact yR.aAr h1 h2 (hC .gt rfl) hk hu0
    | ge=>exact yR.aAs h1 h2 (hC .ge rfl) hk hu0
   | _=>simp [n6] at hk
  | _=>cases b <;> simp [n6] at hk
end
end Mi
end
section
namespace TS
open PySem PyProof.Rows
end TS
end
section
namespace Mi
open PySem L2 PySem.SeqAt
open PyProof.Rows (Keyed lt' keyLt' oneLt' SortKind SortSt kindOf tuples' oneType' pairsOf wpS wpS_bind wpS_pure wpS_get wpS_lift keyKind')
variable [KFrag]
section
variable {X:Cx} {pins:List (Addr×Obj)} {σ:L2.St} {H:Hp} {s:Shared}
end
end Mi
end
section
namespace Mi
open PySem L2 PySem.SeqAt PySem.Spec PyProof.Rows
variable [KFrag]
noncomputable def kR (H:Hp) (d:D) (fr:Bool) (Q:VK):Prop:=∀v H',bQ H H'->Rep All H' v d->(fr=true->Rep (New H) H' v d)->Q v H'
def gE (f:FE) (fr:Bool):TE:=fun σ H Q=>∃ρ d,ER H σ ρ/\f ρ=.ok d/\kR H d fr Q
def gT (f:FT):TT:=fun σ H Q=>∃ρ b,ER H σ ρ/\f ρ=.ok b/\∀H',bQ H H'->Q b H'
noncomputable def gA (f:FA) (fr:Bool):TA:=fun σ H Q=>∃ρ ds,ER H σ ρ/\f ρ=.ok ds/\∀vs H',bQ H H'->a_ All H' vs ds->(fr=true->a_ (New H) H' vs ds)->Q vs H'
theorem kR.self {H:Hp} {d:D} {fr:Bool} {Q:VK} {v:V} (q:kR H d fr Q) (r:Rep All H v d) (r2:fr=true->Rep (New H) H v d):Q v H:=q v H (bQ.refl H) r r2
theorem kR.imp {H H':Hp} {d:D} {fr fr':Bool} {Q:VK} (q:kR H d fr Q) (s:bQ H H') (h:fr=true->fr'=true):kR H' d fr' Q:=fun v H2 s2 r n=>q v H2 (s.trans s2) r fun hf=>(n (h hf)).mono (bQ.new s)
theorem kR.int {H:Hp} {i:Int} {fr:Bool} {Q:VK} (q:kR H (.int i) fr Q):Q (.int i) H:=q.self (.int i) fun _=>.int i
theorem kR.bl {H:Hp} {i:Bool} {fr:Bool} {Q:VK} (q:kR H (.bl i) fr Q):Q (.bl i) H:=q.self (.bl i) fun _=>.bl i
theorem kR.str {H:Hp} {i:Str} {fr:Bool} {Q:VK} (q:kR H (.str i) fr Q):Q (.str i) H:=q.self (.str i) fun _=>.str i
noncomputable def r2 (f:D->D->Res D) (fr:Bool):R2:=fun x y H Q=>∃a b d,Rep All H x a/\Rep All H y b/\f a b=.ok d/\kR H d fr Q
noncomputable def r1 (f:D->Res D) (fr:Bool):V->Hp->VK->Prop:=fun x H Q=>∃a d,Rep All H x a/\f a=.ok d/\kR H d fr Q
noncomputable def rs (f:List D->Res D) (fr:Bool):List V->Hp->VK->Prop:=fun xs H Q=>∃ds d,a_ All H xs ds/\f ds=.ok d/\kR H d fr Q
noncomputable def rm (f:D->List D->Res D) (fr:Bool):V->List V->Hp->VK->Prop:=fun x xs H Q=>∃a ds d,Rep All H x a/\a_ All H xs ds/\f a ds=.ok d/\kR H d fr Q
theorem aR {α β:Type} {m:Res α} {f:α->Res β} {b:β} (h:(do let x <- m;f x)=.ok b):∃a,m=.ok a/\f a=.ok b:=Res.W5 h
section
variable {X:Cx} {a b c e:Expr} {pos:Pos} {fa fb fc fe:FE} {ra rb rc re:Bool} {ga gb gc:FT}
theorem ER.var {H:Hp} {σ:L2.St} {ρ:List D} {i:Nat} {d:D} (E:ER H σ ρ) (h:cL i ρ=.ok d):∃v,σ[i]?=some (some v)/\Rep All H v d/\ρ.getD i .uD=d:=by
 have:ρ.getD i .uD=d/\d≠.uD:=by
  unfold cL at h;split at h
  ·cases h
  ·cases h;refine ⟨rfl,fun z=>?_⟩;rename_i q;exact q z
 obtain ⟨e1,e2⟩:=this;obtain ⟨v,h1,h2⟩:=E i (by rw [e1];exact e2);exact ⟨v,h1,by rw [e1] at h2;exact h2,e1⟩
theorem aA {i:Nat} {x:Str} (hN:X.N[i]?=some x:=by exact rfl) (hv:Vis X.env.scope x:=by trivial) (hd:nDb x:=by decide) (hcd:nCd x:=by decide):PE X (.Name x pos) (gE (cL i) false):=
 PE.imp (bN hN hv hd hcd) fun σ H Q ⟨ρ,d,E,h,q⟩=>by
  obtain ⟨v,h1,h2,_⟩:=E.var h;exact ⟨v,h1,q.self h2 (fun z=>by cases z)⟩
theorem aF {i j}:PE X (.Constant (.int i) j pos) (gE (bC (.int i)) true):=PE.imp qF fun σ H Q ⟨ρ,d,E,h,q⟩=>by cases h;exact q.int
theorem E_ {i j}:PE X (.Constant (.bool i) j pos) (gE (bC (.bl i)) true):=PE.imp aDq fun σ H Q ⟨ρ,d,E,h,q⟩=>by cases h;exact q.bl
theorem tX {i j}:PE X (.Constant (.str i) j pos) (gE (bC (.str i)) true):=PE.imp Z8 fun σ H Q ⟨ρ,d,E,h,q⟩=>by cases h;exact q.str
theorem two {f:D->D->Res D} {fr:Bool} {σ:L2.St} {H:Hp} {Q:VK} (h:gE (b2 f fa fb) fr σ H Q):tOp (r2 f fr) (gE fa ra) (gE fb rb) σ H Q:=by
 obtain ⟨ρ,d,E,h,q⟩:=h;obtain ⟨x,h1,h⟩:=aR h;obtain ⟨y,h2,h⟩:=aR h;refine ⟨ρ,x,E,h1,fun v H1 s1 rp1 _=>⟨ρ,y,E.same s1,h2,fun u H2 s2 rp2 _=>⟨x,y,d,rp1.same s2,rp2,h,q.imp (s1.trans s2) id⟩⟩⟩
theorem aW {o:Operator} {f:D->D->Res D} {fr:Bool} (ho:OpR X (binaryOp o) (r2 f fr)) (ha:PE X a (gE fa ra)) (hb:PE X b (gE fb rb)):PE X (.BinOp a o b pos) (gE (b2 f fa fb) fr):=PE.imp (aA6 ho ha hb) fun _ _ _=>two
theorem aAt {o:CmpOp} {f:D->D->Res D} {fr:Bool} (ho:OpR X (compareOp o) (r2 f fr)) (ha:PE X a (gE fa ra)) (hb:PE X b (gE fb rb)) (hm:behindInMarks o b=false):PE X (.Compare a [o] [b] pos) (gE (b2 f fa fb) fr):=PE.imp (V_ ho ha hb hm) fun _ _ _=>two
theorem dM {o:CmpOp} {f:D->D->Res D} {fr:Bool} (ho:OpR X (compareOp o) (r2 f fr)) (ha:PE X a (gE fa ra)) (hb:PE X b (gE fb rb)) (hm:behindInMarks o b=false):PT X (.Compare a [o] [b] pos) (gT (bTB (b2 f fa fb))):=
 PT.imp (JC ho ha hb hm) fun σ H Q ⟨ρ,k,E,h,q⟩=>by
  obtain ⟨d,h1,h2⟩:=aR h;refine two ⟨ρ,d,E,h1,fun v H' s r _=>?_⟩;cases d <;> simp only [asB] at h2 <;> cases h2
  cases r;exact ⟨_,rfl,q H' s⟩
theorem W9 {o:UnaryOp} {f:D->Res D} {fr:Bool} (ho:UnR X (unaryOp o) (r1 f fr)) (ha:PE X a (gE fa ra)):PE X (.UnaryOp o a pos) (gE (b1 f fa) fr):=
 PE.imp (V8 ho ha) fun σ H Q ⟨ρ,d,E,h,q⟩=>by
  obtain ⟨x,h1,h⟩:=aR h;exact ⟨ρ,x,E,h1,fun v H1 s1 rp1 _=>⟨x,d,rp1,h,q.imp s1 id⟩⟩
theorem bH {f:D->D->Res D} {fr:Bool} (ho:IxR X (r2 f fr)) (ha:PE X a (gE fa ra)) (hb:PE X b (gE fb rb)) (hs:v8 b):PE X (.Subscript a b pos) (gE (b2 f fa fb) fr):=PE.imp (JP ho ha hb hs) fun _ _ _=>two
theorem aGj {H:Hp} {v:V} {d:D} {k:Bool} (r:Rep All H v d) (h:aE5 d=.ok k) (hd:∀kvs,d≠.dct kvs) (hs:∀xs,d≠.scr xs):aDd X.K v H k:=by
 cases r with
 | non=>cases h;rfl
 | bl b=>cases h;rfl
 | int i=>cases h;rfl
 | str x=>
  simp only [aE5] at h;split at h
  ·rename_i hl;cases h;exact ⟨Nat.le_trans (of_decide_eq_true hl) (by rw [sizeLine_eq];decide),rfl⟩
  ·cases h
 | tup e rr=>cases h;exact .inr (.inl ⟨_,.of e,by cases rr <;> rfl⟩)
 | lst e p rr=>cases h;exact .inl ⟨_,.of e,by cases rr <;> rfl⟩
 | frz e rr=>exact absurd rfl (hs _)
 | dK e p rr n=>exact absurd rfl (hd _)
 | dT e p rr n=>exact absurd rfl (hd _)
 | fdK e rr n=>cases h
 | fdT e rr n=>cases h
 | exc n e q=>cases h
 | ins n e q=>cases h
 | cel e p rr=>cases h
theorem pA (ha:PE X a (gE fa ra)) (he:∀whole,isTrue a X.env whole=(do let v <- whole;standAt a.pos;holding [v] (truthy v)):=by intro _;rfl):PT X a (gT (bTr fa)):=
 PT.imp (yC ha he) fun σ H Q ⟨ρ,k,E,h,q⟩=>by
  obtain ⟨d,h1,h2⟩:=aR h;refine ⟨ρ,d,E,h1,fun v H' s r _=>⟨k,aGj r ?_ ?_ ?_,q H' s⟩⟩
  ·cases d <;> first|exact h2|cases h2
  ·rintro kvs rfl;cases h2
  ·rintro kvs rfl;cases h2
theorem yS (ha:PT X a (gT ga)):PT X (.UnaryOp .Not a pos) (gT (J4 ga)):=PT.imp (aA3 ha) fun σ H Q ⟨ρ,k,E,h,q⟩=>by
  obtain ⟨d,h1,h2⟩:=aR h;cases h2;exact ⟨ρ,d,E,h1,fun H' s=>q H' s⟩
theorem aAu {d:D} {k:Bool} (h:asB d=.ok k):d=.bl k:=by cases d <;> simp only [asB] at h <;> cases h;rfl
theorem aAv {d:D} {k:Int} (h:asI d=.ok k):d=.int k:=by cases d <;> simp only [asI] at h <;> cases h;rfl
theorem aO:PA X [] (gA aU true):=PA.imp jJ fun σ H Q ⟨ρ,ds,E,h,q⟩=>by cases h;exact q [] H (bQ.refl H) .nil fun _=>.nil
theorem aC {es:List Expr} {f:FA} {r:Bool} (he:PE X e (gE fe re)) (hes:PA X es (gA f r)) (hs:starEach (e::es) X.env=(false,eval e X.env)::starEach es X.env:=by rfl):PA X (e::es) (gA (aB fe f) (re&&r)):=PA.imp (c7 he hes hs) fun σ H Q ⟨ρ,ds,E,h,q⟩=>by
  obtain ⟨x,h1,h⟩:=aR h;obtain ⟨xs,h2,h⟩:=aR h;cases h;refine ⟨ρ,x,E,h1,fun v H1 s1 r1 n1=>⟨ρ,xs,E.same s1,h2,fun vs H2 s2 r2 n2=>q _ _ (s1.trans s2) (.cons (r1.same s2) r2) fun hf=>?_⟩⟩;obtain ⟨f1,f2⟩:=(Bool.and_eq_true _ _▸hf:re=true/\r=true)
  exact .cons ((n1 f1).same s2) ((n2 f2).mono (bQ.new s1))
theorem fK {es:List Expr} {f:FA} {r:Bool} {x1} (h:PA X es (gA f r)):PE X (.Tuple es x1 pos) (gE (jL f) r):=PE.imp (aAd h) fun σ H Q ⟨ρ,d,E,h,q⟩=>by
  obtain ⟨xs,h1,h⟩:=aR h;split at h
  ·rename_i hl;cases h;refine ⟨ρ,xs,E,h1,fun vs H1 s1 r1 n1=>⟨?_,fun p hp=>?_⟩⟩
   ·rw [r1.length];exact Nat.le_trans (of_decide_eq_true hl) (by rw [sizeLine_eq];decide)
   ·have sp:bQ H1 (upd H1 p (.tup vs)):=bQ.upd hp;exact q _ _ (s1.trans sp) (.tup aK (r1.same sp)) fun hf=>.tup aK ((n1 hf).same sp)
  ·cases h
theorem gG {es:List Expr} {f:FA} {r:Bool} (h:PA X es (gA f r)):PE X (.List es pos) (gE (jU f) r):=PE.imp (yE h) fun σ H Q ⟨ρ,d,E,h,q⟩=>by
  obtain ⟨xs,h1,h⟩:=aR h;split at h
  ·rename_i hl;cases h;refine ⟨ρ,xs,E,h1,fun vs H1 s1 r1 n1=>⟨?_,fun p hp=>?_⟩⟩
   ·rw [r1.length];exact Nat.le_trans (of_decide_eq_true hl) (by rw [sizeLine_eq];decide)
   ·have sp:bQ H1 (upd H1 p (.lst vs)):=bQ.upd hp;exact q _ _ (s1.trans sp) (.lst aK trivial (r1.same sp)) fun hf=>.lst aK (s1.free hp) ((n1 hf).same sp)
  ·cases h
theorem RJ:PE X (.Dict [] [] pos) (gE (bC (.dct [])) true):=PE.imp yJ fun σ H Q ⟨ρ,d,E,h,q⟩=>by
  cases h;exact fun p hp=>q _ _ (bQ.upd hp) (.dK aK trivial .nil List.nodup_nil) fun _=>.dK aK hp .nil List.nodup_nil
end
end Mi
end
section
namespace Mi
open PySem L2 PySem.SeqAt PySem.Spec PyProof.Rows
variable [KFrag]
section
variable {X:Cx} {a b c e:Expr} {pos:Pos} {fa fb fc fe:FE} {ra rb rc re:Bool} {ga gb gc:FT}
theorem jB {n:Nat} (h:decide (n<=lim)=true):n<=sizeLine:=Nat.le_trans (of_decide_eq_true h) (by rw [sizeLine_eq];decide)
theorem J_ {n:Nat} (h:decide (n<lim)=true):n<sizeLine:=Nat.lt_of_lt_of_le (of_decide_eq_true h) (by rw [sizeLine_eq];decide)
theorem Rep.aAw {P:Addr->Prop} {H:Hp} {v:V} {ds:List D} (r:Rep P H v (.lst ds)):∃a xs,v=.ref a/\Rd H a (.lst xs)/\a_ P H xs ds:=by
 cases r with
 | lst e p rr=>exact ⟨_,_,rfl,.inl e,rr⟩
theorem PW.imp {X:Cx} {e:PySem.Expr} {t t':TT} (h:PW X e t) (i:∀σ H Q,t' σ H Q->t σ H Q):PW X e t':=fun wh pins s σ H Q I q=>h wh pins s σ H Q I (i σ H Q q)
theorem KC (ha:PT X a (gT ga)):PW X (.BoolOp .And [a] pos) (gT ga):=HS ha
theorem tY (ha:PT X a (gT ga)):PW X (.BoolOp .Or [a] pos) (gT ga):=aA2 ha
theorem UT {rest:List Expr} (ha:PT X a (gT ga)) (hb:PW X (.BoolOp .And (b::rest) pos) (gT gb)):PW X (.BoolOp .And (a::b::rest) pos) (gT (QH ga gb)):=PW.imp (T5 ha hb) fun σ H Q ⟨ρ,k,E,h,q⟩=>by
 obtain ⟨z,h1,h3⟩:=aR h;refine ⟨ρ,z,E,h1,fun H' s=>?_⟩;cases z with
 | true=>rw [if_pos rfl];rw [if_pos rfl] at h3;exact ⟨ρ,k,E.same s,h3,fun H2 s2=>q H2 (s.trans s2)⟩
 | false=>rw [if_neg (by simp)];rw [if_neg (by simp)] at h3;cases h3;exact q H' s
theorem FJ {rest:List Expr} (ha:PT X a (gT ga)) (hb:PW X (.BoolOp .Or (b::rest) pos) (gT gb)):PW X (.BoolOp .Or (a::b::rest) pos) (gT (bOr ga gb)):=PW.imp (aDr ha hb) fun σ H Q ⟨ρ,k,E,h,q⟩=>by
 obtain ⟨z,h1,h3⟩:=aR h;refine ⟨ρ,z,E,h1,fun H' s=>?_⟩;cases z with
 | true=>rw [if_pos rfl];rw [if_pos rfl] at h3;cases h3;exact q H' s
 | false=>rw [if_neg (by simp)];rw [if_neg (by simp)] at h3;exact ⟨ρ,k,E.same s,h3,fun H2 s2=>q H2 (s.trans s2)⟩
theorem bZ:OpR X (binaryOp .Add) (r2 (aQ .add) true):=by
 intro pins s σ H x y v u Q I rx ry h;obtain ⟨a,b,d,p,q,e,k⟩:=h;cases p with
 | int i=>
  cases q with
  | int j=>cases e;exact aA7 pins s σ H _ _ v u Q I rx ry ⟨i,j,rfl,rfl,k.int⟩
  | _=>simp [aQ] at e
 | str i=>
  cases q with
  | str j=>
   simp only [aQ] at e;split at e
   ·rename_i hl;cases e;exact CG pins s σ H _ _ v u Q I rx ry ⟨i,j,rfl,rfl,jB hl,k.str⟩
   ·cases e
  | _=>simp [aQ] at e
 | non=>simp [aQ] at e
 | bl _=>simp [aQ] at e
 | tup _ _=>simp [aQ] at e
 | dK _ _ _ _=>simp [aQ] at e
 | dT _ _ _ _=>simp [aQ] at e
 | fdK _ _ _=>simp [aQ] at e
 | fdT _ _ _=>simp [aQ] at e
 | exc _ _ _=>simp [aQ] at e
 | ins _ _ _=>simp [aQ] at e
 | cel _ _ _=>simp [aQ] at e
 | @lst a1 xs ds e1 p1 r1=>
  have hR:Rep All H (.ref a1) (.lst ds):=.lst e1 p1 r1;cases b with
  | lst es=>
   simp only [aQ] at e;split at e
   ·rename_i hl;cases e;rw [Bool.and_eq_true,Bool.and_eq_true] at hl;obtain ⟨⟨hl,hp1⟩,hp2⟩:=hl;obtain ⟨l1,xs1,e1',rd1,rr1⟩:=hR.aAw;obtain ⟨l2,xs2,rfl,rd2,rr2⟩:=q.aAw;cases e1';cases rx;cases ry;obtain ⟨z,its,n,vr1,ee1⟩:=rd1.ok I.hok;obtain ⟨z2,its2,n2,vr2,ee2⟩:=rd2.ok I.hok;have hz:xs1.length+xs2.length<=sizeLine:=by rw [rr1.length,rr2.length];exact jB hl
    have t1:=vr1.length;have t2:=vr2.length;refine PySem.P.add_list ee1 ee2 ?_ (by rw [List.size_toArray,List.size_toArray];lia);have ea:its.toArray++its2.toArray=(its++its2).toArray:=by simp
    rw [ea];refine ⟨.ref _,_,I.aGf (t':=s.toks) (vr1.append vr2) (by rw [List.length_append];lia),rfl,?_⟩;have sp:bQ H (upd H s.heap.objs.size (.lst (xs1++xs2))):=bQ.upd I.fresh;exact k _ _ sp (.lst aK trivial ((rr1.append rr2).same sp)) fun _=>.lst aK I.fresh (((rr1.bI hp1).append (rr2.bI hp2)).same sp)
   ·cases e
  | _=>simp [aQ] at e
 | frz _ _=>simp [aQ] at e
theorem wH {f:Value->Value->Sem Value} {C:Int->Int->Prop} {g:Int->Int->V} {op:D->D->Res D} (h:OpR X f (rI C g))
  (hi:∀i j d,op (.int i) (.int j)=.ok d->C i j/\∃k,d=.int k/\g i j=.int k) (hn:∀a b d,op a b=.ok d->(∃i,a=.int i)/\∃j,b=.int j):OpR X f (r2 op true):=by
 intro pins s σ H x y v u Q I rx ry ⟨a,b,d,p,q,e,k⟩;obtain ⟨⟨i,rfl⟩,⟨j,rfl⟩⟩:=hn a b d e;cases p;cases q;obtain ⟨hc,m,rfl,hm⟩:=hi i j d e;exact h pins s σ H _ _ v u Q I rx ry ⟨i,j,rfl,rfl,hc,by rw [hm];exact k.int⟩
theorem tZ:OpR X (binaryOp .Sub) (r2 (aQ .sub) true):=by
 intro pins s σ H x y v u Q I rx ry ⟨a,b,d,p,q,e,k⟩;cases a <;> cases b <;> simp [aQ] at e
 cases p;cases q;subst e;exact aA8 pins s σ H _ _ v u Q I rx ry ⟨_,_,rfl,rfl,k.int⟩
theorem aAx:OpR X (binaryOp .Mult) (r2 (aQ .mul) true):=by
 refine wH aA9 (fun i j d e=>?_) fun a b d e=>?_
 ·simp only [aQ] at e;split at e
  ·rename_i hl;cases e;refine ⟨?_,_,rfl,rfl⟩;simp only [jK,Bool.or_eq_true,Bool.and_eq_true,decide_eq_true_eq] at hl;exact hl
  ·cases e
 ·cases a <;> cases b <;> first|exact ⟨⟨_,rfl⟩,_,rfl⟩|simp [aQ] at e
theorem dB:OpR X (binaryOp .FloorDiv) (r2 (aQ .fdiv) true):=by
 refine wH V9 (fun i j d e=>?_) fun a b d e=>?_
 ·simp only [aQ] at e;split at e
  ·rename_i hl;cases e;refine ⟨?_,_,rfl,rfl⟩;simp only [Bool.and_eq_true,decide_eq_true_eq] at hl;exact hl
  ·cases e
 ·cases a <;> cases b <;> first|exact ⟨⟨_,rfl⟩,_,rfl⟩|simp [aQ] at e
theorem bR:OpR X (binaryOp .Mod) (r2 (aQ .mod) true):=by
 refine wH aAa (fun i j d e=>?_) fun a b d e=>?_
 ·simp only [aQ] at e;split at e
  ·rename_i hl;cases e;refine ⟨?_,_,rfl,rfl⟩;simp only [Bool.and_eq_true,decide_eq_true_eq] at hl;exact hl
  ·cases e
 ·cases a <;> cases b <;> first|exact ⟨⟨_,rfl⟩,_,rfl⟩|simp [aQ] at e
theorem KD:UnR X (unaryOp .USub) (r1 G_ true):=by
 intro pins s σ H x v Q I rx ⟨a,d,p,e,k⟩;cases a <;> simp [G_] at e
 subst e;cases p;exact I_ pins s σ H _ v Q I rx ⟨_,rfl,k.int⟩
theorem pY (hu:X.A.units+20<cLine):OpR X (compareOp .Eq) (r2 (dG .eq) true):=by
 intro pins s σ H x y v u Q I rx ry ⟨a,b,d,p,q,e,k⟩;simp only [dG] at e;split at e
 ·rename_i hl;cases e;rw [Bool.and_eq_true] at hl;exact (yQ I aV X.A (by have:aV=12:=rfl;lia) hl.1 hl.2 p q rx ry).1 X.prog X.w X.xe _ ⟨.bl _,H,I,rfl,k.bl⟩
 ·cases e
theorem FN (hu:X.A.units+20<cLine):OpR X (compareOp .NotEq) (r2 (dG .ne) true):=by
 intro pins s σ H x y v u Q I rx ry ⟨a,b,d,p,q,e,k⟩;simp only [dG] at e;split at e
 ·rename_i hl;cases e;rw [Bool.and_eq_true] at hl;exact (yQ I aV X.A (by have:aV=12:=rfl;lia) hl.1 hl.2 p q rx ry).2.1 X.prog X.w X.xe _ ⟨.bl _,H,I,rfl,k.bl⟩
 ·cases e
theorem KH (o:j0) (hu:X.A.units+20<cLine):OpR X (compareOp o.op) (r2 (dG (.ord o)) true):=by
 intro pins s σ H x y v u Q I rx ry ⟨a,b,d,p,q,e,k⟩;simp only [dG] at e;split at e
 ·rename_i hl;rw [Bool.and_eq_true] at hl;split at e
  ·rename_i m hm;cases e;have:=J9 I o aV X.A (by have:aV=12:=rfl;lia) hl.1 hl.2 p q rx ry hm X.prog X.w X.xe _ (show EP X pins σ Q (.bool m) s from ⟨.bl _,H,I,rfl,k.bl⟩);cases o <;> exact this
  ·cases e
 ·cases e
theorem aE6 (hu:X.A.units+20<cLine):OpR X (compareOp .Lt) (r2 (dG (.ord .lt)) true):=KH .lt hu
theorem aE7 (hu:X.A.units+20<cLine):OpR X (compareOp .LtE) (r2 (dG (.ord .le)) true):=KH .le hu
theorem aE8 (hu:X.A.units+20<cLine):OpR X (compareOp .Gt) (r2 (dG (.ord .gt)) true):=KH .gt hu
end
end Mi
end
section
namespace Mi
open PySem L2 PySem.SeqAt PySem.Spec PyProof.Rows
variable [KFrag]
theorem KJ (k q:Key):eqD (kD k) (kD q)=decide (k=q):=by
 cases k <;> cases q <;> simp [kD,eqD,Bool.beq_eq_decide_eq]
theorem UV:∀(k q:List Key),tR (k.map kD) (q.map kD)=decide (k=q)
 | [],[]=>by simp [tR]
 | [],_::_=>by simp [tR]
 | _::_,[]=>by simp [tR]
 | a::k,b::q=>by
  rw [List.map_cons,List.map_cons,tR,KJ,UV k q];by_cases h:a=b <;> by_cases h':k=q <;> simp [h,h']
theorem W_ (k q:List Key):eqD (.tup (k.map kD)) (.tup (q.map kD))=decide (k=q):=by rw [eqD,UV]
theorem XC {P:Addr->Prop} {H:Hp} {k:Key}:∀{kvs:List (Key×V)} {ds:List (D×D)},jA P H kvs ds->(∃v d,qK kvs k=some v/\eO ds (kD k)=some d/\Rep P H v d)\/(qK kvs k=none/\eO ds (kD k)=none)
 | _,_,.nil=>.inr ⟨rfl,rfl⟩
 | _,_,.cons (k:=k') r t=>by
  by_cases h:k'=k
  ·subst h;exact .inl ⟨_,_,mF rfl,by rw [eO,KJ,if_pos (by simp)],r⟩
  ·rw [eO,KJ,if_neg (by simpa using h),mG (p:=(k',_)) h];exact XC t
theorem XF {P:Addr->Prop} {H:Hp} {k:List Key}:∀{kvs:List (List Key×V)} {ds:List (D×D)},jR P H kvs ds->(∃v d,qK kvs k=some v/\eO ds (.tup (k.map kD))=some d/\Rep P H v d)\/(qK kvs k=none/\eO ds (.tup (k.map kD))=none)
 | _,_,.nil=>.inr ⟨rfl,rfl⟩
 | _,_,.cons (k:=k') r t=>by
  by_cases h:k'=k
  ·subst h;exact .inl ⟨_,_,mF rfl,by rw [eO,W_,if_pos (by simp)],r⟩
  ·rw [eO,W_,if_neg (by simpa using h),mG (p:=(k',_)) h];exact XF t
theorem rE {H:Hp} {v:V} {d:D} (h:j4 d=true) (r:Rep All H v d):∃k,v=kV k/\d=kD k:=by
 cases r <;> simp [j4] at h
 ·exact ⟨.inl _,rfl,rfl⟩
 ·exact ⟨.inr _,rfl,rfl⟩
theorem flat_keys {H:Hp}:∀{vs:List V} {ds:List D},ds.all j4=true->a_ All H vs ds->∃ks:List Key,vs=ks.map kV/\ds=ks.map kD
 | _,_,_,.nil=>⟨[],rfl,rfl⟩
 | _,_,h,.cons r t=>by
  rw [List.all_cons,Bool.and_eq_true] at h;obtain ⟨k,rfl,rfl⟩:=rE h.1 r;obtain ⟨ks,rfl,rfl⟩:=flat_keys h.2 t;exact ⟨k::ks,rfl,rfl⟩
theorem gH {H:Hp} {y:V} {k:D} (h:keyOk k=true) (r:Rep All H y k):(∃q,y=kV q/\k=kD q)\/∃(b:Addr) (ks:List Key),y=.ref b/\H b=some (.tup (ks.map kV))/\k=.tup (ks.map kD):=by
 cases k <;> simp [keyOk] at h
 ·exact .inl (rE rfl r)
 ·exact .inl (rE rfl r)
 ·obtain ⟨a,xs,rfl,e,rr⟩:=r.eZ;obtain ⟨ks,rfl,rfl⟩:=flat_keys (List.all_eq_true.mpr h) rr;exact .inr ⟨a,ks,rfl,e,rfl⟩
theorem kY (k:Key):isTup (kD k)=false:=by cases k <;> rfl
section
variable {X:Cx} {pins:List (Addr×Obj)} {σ:L2.St} {H:Hp} {s:Shared} {a:Addr}
theorem yU {o o':HO} (e:H a=some o):upd (upd H a o') a o=H:=by
 rw [vW]
 funext b
 by_cases h:b=a
 ·subst h;rw [aK,e]
 ·rw [bG h]
theorem mZ (I:Inv X pins σ H s) (e:H a=some (.dK [])):Inv X pins σ (upd H a (.dT [])) s:=by
 obtain ⟨z,hd,vs,rel,o,es,ep,h1,h2,h3,h4,h5,h6⟩:=W0 I.hok e;cases rel;refine I.write (t':=s.toks) (x:=a) (e:=a) (h':=s.heap) (by rw [e];trivial) (.inl rfl) (fun _ _ _ q=>q) ⟨o,h1⟩ ?_;refine ⟨Nat.zero_le _,hd,[],.nil,o,es,ep,h1,h2,h3,?_,List.nodup_nil⟩;cases h5':es.toList with
 | nil=>rfl
 | cons _ _=>rw [h5'] at h5;cases h5
theorem m5 (I:Inv X pins σ H s) (e:H a=some (.dT [])):Inv X pins σ (upd H a (.dK [])) s:=by
 obtain ⟨z,hd,vs,rel,o,es,ep,h1,h2,h3,h4,h5,h6⟩:=W2 I.hok e;cases rel;refine I.write (t':=s.toks) (x:=a) (e:=a) (h':=s.heap) (by rw [e];trivial) (.inl rfl) (fun _ _ _ q=>q) ⟨o,h1⟩ ?_;have h0:es.toList=[]:=h4;refine ⟨Nat.zero_le _,hd,[],.nil,o,es,ep,h1,h2,h3,?_,?_,List.nodup_nil⟩
 ·intro x hx;have:x∈es.toList:=by simpa using hx
  rw [h0] at this;cases this
 ·rw [h0];exact .nil
theorem yV {P:Addr->Prop}:∀{kvs:List (Key×V)} {ds:List (D×D)},jA P H kvs ds->∀p∈ds,isTup p.1=false
 | _,_,.nil,_,h=>by cases h
 | _,_,.cons r t,p,h=>by
  rcases List.mem_cons.mp h with rfl|h
  ·exact kY _
  ·exact yV t p h
theorem yW {P:Addr->Prop}:∀{kvs:List (List Key×V)} {ds:List (D×D)},jR P H kvs ds->∀p∈ds,isTup p.1=true
 | _,_,.nil,_,h=>by cases h
 | _,_,.cons r t,p,h=>by
  rcases List.mem_cons.mp h with rfl|h
  ·rfl
  ·exact yW t p h
theorem aAy {x y:V} {ds:List (D×D)} {k:D} (I:Inv X pins σ H s) (rd:Rep All H x (.dct ds)) (rk:Rep All H y k) (hk:DN ds k=true) :
  ∃H1 a o,x=.ref a/\Inv X pins σ H1 s/\(∀s',Inv X pins σ H1 s'->Inv X pins σ H s')/\QG H1 a y o/\((o=none/\eO ds k=none)\/∃v d,o=some v/\eO ds k=some d/\Rep All H v d):=by
 unfold DN at hk;rw [Bool.and_eq_true] at hk;obtain ⟨h1,h2⟩:=hk;cases rd with
 | @dK a kvs ds e _ r n=>
  rcases gH h1 rk with ⟨q,rfl,rfl⟩|⟨b,ks,rfl,eb,rfl⟩
  ·refine ⟨H,a,_,rfl,I,fun _ h=>h,.k e,?_⟩;rcases XC (k:=q) r with ⟨v,d,g1,g2,g3⟩|⟨g1,g2⟩
   ·exact .inr ⟨v,d,g1,g2,g3⟩
   ·exact .inl ⟨g1,g2⟩
  ·cases r with
   | nil=>
    have e2:=yU (o':=.dT []) e;refine ⟨upd H a (.dT []),a,none,rfl,mZ I e,fun s' I'=>?_,.t (k:=ks) aK (by rw [bG (lZ eb e (by intro z;cases z))];exact eb),.inl ⟨rfl,rfl⟩⟩;have:=m5 I' aK;rwa [e2] at this
   | cons r t=>
    rw [List.all_cons,kY] at h2;simp [isTup] at h2
 | @dT a kvs ds e _ r n=>
  rcases gH h1 rk with ⟨q,rfl,rfl⟩|⟨b,ks,rfl,eb,rfl⟩
  ·cases r with
   | nil=>
    have e2:=yU (o':=.dK []) e;refine ⟨upd H a (.dK []),a,none,rfl,m5 I e,fun s' I'=>?_,.k (k:=q) aK,.inl ⟨rfl,rfl⟩⟩;have:=mZ I' aK;rwa [e2] at this
   | cons r t=>
    rw [List.all_cons,kY] at h2;simp [isTup] at h2
  ·refine ⟨H,a,_,rfl,I,fun _ h=>h,.t e eb,?_⟩;rcases XF (k:=ks) r with ⟨v,d,g1,g2,g3⟩|⟨g1,g2⟩
   ·exact .inr ⟨v,d,g1,g2,g3⟩
   ·exact .inl ⟨g1,g2⟩
theorem RK {x:V} {ds:List (D×D)} {k d:D} (rd:Rep All H x (.dct ds)) (hk:keyOk k=true) (h:eO ds k=some d):DN ds k=true:=by
 have one:∀{ds:List (D×D)},eO ds k=some d->∃p∈ds,eqD p.1 k=true:=by
  intro ds;induction ds with
  | nil=>intro h;cases h
  | cons p ds ih=>
   intro h;obtain ⟨p1,p2⟩:=p;rw [eO] at h;by_cases hq:eqD p1 k=true
   ·exact ⟨_,List.mem_cons_self ..,hq⟩
   ·rw [if_neg hq] at h;obtain ⟨p,hp,e⟩:=ih h;exact ⟨p,List.mem_cons_of_mem _ hp,e⟩
 obtain ⟨p,hp,he⟩:=one h;unfold DN;rw [hk,Bool.true_and,List.all_eq_true];intro q hq;have same:isTup p.1=isTup k:=by
  obtain ⟨p1,p2⟩:=p;cases p1 <;> cases k <;> simp [eqD,keyOk,isTup] at he hk ⊢
 cases rd with
 | dK e _ r n=>rw [yV r q hq,<-same,yV r p hp];rfl
 | dT e _ r n=>rw [yW r q hq,<-same,yW r p hp];rfl
end
section
variable {X:Cx} {a b c e:Expr} {pos:Pos} {fa fb fc fe:FE} {ra rb rc re:Bool} {ga gb gc:FT}
noncomputable def FP (H:Hp) (u:Value):D:=by
 classical
 exact if h:∃d,d.bJ aV=true/\∃v,RelV v u/\Rep All H v d then Classical.choose h else .non
theorem rF {H:Hp} {u:Value} {v:V} {d:D} (hq:d.bJ aV=true) (rv:RelV v u) (r:Rep All H v d):FP H u=d:=by
 unfold FP;have h:∃d,d.bJ aV=true/\∃v,RelV v u/\Rep All H v d:=⟨d,hq,v,rv,r⟩
 rw [dif_pos h];obtain ⟨h2,v',rv',r'⟩:=Classical.choose_spec h;have:=rv'.inj rv;subst this;exact Rep.inj aV h2 hq r' r
theorem wI {H:Hp} {a:D}:∀{xs:List V} {ds:List D} {its:List Value},D.cG aV ds=true->a_ All H xs ds->Vals xs its->(its.any fun u=>eqD (FP H u) a)=ds.any fun y=>eqD y a
 | _,_,_,_,.nil,.nil=>rfl
 | _,_,_,h,.cons r t,.cons v vt=>by
  rw [D.cG,Bool.and_eq_true] at h;rw [List.any_cons,List.any_cons,rF h.1 v r,wI h.2 t vt]
theorem wJ {pins:List (Addr×Obj)} {σ:L2.St} {H:Hp} {s:Shared} (I:Inv X pins σ H s) (hu:X.A.units+20<cLine) {a:D} {x:V} {v:Value} (ha:a.bJ aV=true) (rx:Rep All H x a) (rv:RelV x v)
  {xs:List V} {ds:List D} {its:List Value} (h:D.cG aV ds=true) (r:a_ All H xs ds) (vr:Vals xs its) (u:Value) (hm:u∈its):EqAt X.A.in1 s u v (eqD (FP H u) a):=by
 obtain ⟨j,hj,e⟩:=List.getElem_of_mem hm;have hj':j<ds.length:=by rw [<-r.length,vr.length];exact hj
 obtain ⟨w,h1,h2⟩:=r.get (i:=j) (d:=ds[j]) (by simp [hj']);obtain ⟨u',h3,h4⟩:=vr.get h1;rw [List.getElem?_eq_getElem hj,e] at h3;cases h3;have hd:ds[j].bJ aV=true:=by
  have:=fJ (j:=j) h hj';rwa [List.getD_eq_getElem?_getD,List.getElem?_eq_getElem hj'] at this
 rw [rF hd h4 h2];exact (yQ I aV X.A.in1 (by show X.A.units+1+12<cLine;lia) hd ha h2 rx h4 rv).2.2
theorem aE9 (hu:X.A.units+20<cLine):OpR X (compareOp .In) (r2 (dG .isin) true):=by
 intro pins s σ H x y v u Q I rx ry ⟨a,b,d,p,q,e,k⟩;cases b with
 | tup ys=>
  simp only [dG] at e;split at e
  ·rename_i hl;cases e;rw [Bool.and_eq_true] at hl;obtain ⟨l,xs,rfl,ee,rr⟩:=q.eZ;cases ry;obtain ⟨its,vr,pl⟩:=gZ I ee;refine in_tupleAt (fun u=>eqD (FP H u) a) pl (fun w hw=>wJ I hu hl.1 p rx hl.2 rr vr w (by simpa using hw)) ⟨.bl _,H,I,rfl,?_⟩;rw [show its.toArray.any (fun u=>eqD (FP H u) a)=its.any (fun u=>eqD (FP H u) a) by simp,wI hl.2 rr vr];exact k.bl
  ·cases e
 | lst ys=>
  simp only [dG] at e;split at e
  ·rename_i hl;cases e;rw [Bool.and_eq_true] at hl;obtain ⟨l,xs,rfl,ee,rr⟩:=q.fU (K:=X.K);cases ry;obtain ⟨its,vr,pl⟩:=j7 I ee;refine in_listAt (fun u=>eqD (FP H u) a) pl (fun w hw=>wJ I hu hl.1 p rx hl.2 rr vr w (by simpa using hw)) ⟨.bl _,H,I,rfl,?_⟩;rw [show its.toArray.any (fun u=>eqD (FP H u) a)=its.any (fun u=>eqD (FP H u) a) by simp,wI hl.2 rr vr];exact k.bl
  ·cases e
 | dct kvs=>
  simp only [dG] at e;split at e
  ·rename_i hl;cases e;obtain ⟨H1,a1,o,rfl,I1,bk,g,hc⟩:=aAy I q p hl;cases ry;refine aGg (by lia) I1 g rx fun s' I'=>⟨.bl _,H,bk s' I',rfl,?_⟩
   rcases hc with ⟨rfl,h2⟩|⟨w,dd,rfl,h2,_⟩
   ·rw [h2] at k;exact k.bl
   ·rw [h2] at k;exact k.bl
  ·cases e
 | _=>simp [dG] at e
theorem aAz {α:Type} (xs:List α) (i:Int):L2.atI xs i=(ixD xs.length i).bind fun j=>xs[j]?:=rfl
theorem a_.atI {P:Addr->Prop} {H:Hp} {xs:List V} {ds:List D} {i:Int} {d:D} (r:a_ P H xs ds) (h:((ixD ds.length i).bind fun j=>ds[j]?)=some d):∃v,L2.atI xs i=some v/\Rep P H v d:=by
 rw [aAz,r.length];cases hi:ixD ds.length i with
 | none=>rw [hi] at h;cases h
 | some j=>
  rw [hi] at h;obtain ⟨v,h1,h2⟩:=r.get h;exact ⟨v,h1,h2⟩
theorem t_ {X:Cx} {value slice:Expr} {pins:List (Addr×Obj)} {s:Shared} {σ:L2.St} {H:Hp} {a:Addr} {y v':V} {u:Value} {Q:VK} (hu:X.A.units+20<cLine) (I:Inv X pins σ H s) (g:QG H a y (some v')) (ry:RelV y u) {H':Hp}
  (hs:subscripted slice false (.ref a) u=operate [.ref a,u] (getItem (.ref a) u)) (bk:∀s',Inv X pins σ H s'->Inv X pins σ H' s') (q:Q v' H') :
  wpAny (model X.prog X.w) X.A (subscriptTail value slice (.ref a) u) (EP X pins σ Q) X.xe s:=by
 have hT:=v9 I g;unfold subscriptTail;refine wpAny_bind ?_;rw [getitemInPython_of_ne hT.not_modules];refine wpAny_bind (wpAny_specialOf hT PySem.F.slot_dict_getitem.lookup ?_);have fin:wpAny (model X.prog X.w) X.A (subscripted slice false (.ref a) u) (fun r s₃=>wpAny (model X.prog X.w) X.A (letTemporaryGo value (.ref a) r >>= fun _=>pure r) (EP X pins σ Q) X.xe s₃) X.xe s:=by
  rw [hs];exact wpAny_operating (JV (by lia) I g ry fun w' s3 I3 rw'=>wpAny_bind (wpAny_letTemporaryGo (wpAny_pure ⟨v',H',bk s3 I3,rw',q⟩)))
 first
  | exact wpAny_pure (wpAny_bind fin)
  | exact wpAny_bind (wpAny_pure (wpAny_bind fin))
  | exact wpAny_bind fin
theorem yX {k d:D}:∀{ds:List (D×D)},keyOk k=true->eO ds k=some d->∃p∈ds,isTup p.1=isTup k
 | [],_,h=>by cases h
 | (p1,p2)::ds,hk,h=>by
  rw [eO] at h;by_cases hq:eqD p1 k=true
  ·refine ⟨_,List.mem_cons_self ..,?_⟩;cases p1 <;> cases k <;> simp [eqD,keyOk,isTup] at hq hk ⊢
  ·rw [if_neg hq] at h;obtain ⟨p,hp,e⟩:=yX hk h;exact ⟨p,List.mem_cons_of_mem _ hp,e⟩
theorem aEa {H:Hp} {x y:V} {ds:List (D×D)} {k d:D} (rd:Rep All H x (.fdc ds)) (rk:Rep All H y k) (hk:keyOk k=true) (h:eO ds k=some d):∃a v,x=.ref a/\QG H a y (some v)/\Rep All H v d:=by
 obtain ⟨p,hp,et⟩:=yX hk h;cases rd with
 | @fdK a o kvs ds e r n=>
  rcases gH hk rk with ⟨q,rfl,rfl⟩|⟨b,ks,rfl,eb,rfl⟩
  ·rcases XC (k:=q) r with ⟨v,d',g1,g2,g3⟩|⟨g1,g2⟩
   ·rw [g2] at h;cases h;exact ⟨a,v,rfl,.inl ⟨kvs,q,.inr ⟨o,e⟩,rfl,g1.symm⟩,g3⟩
   ·rw [g2] at h;cases h
  ·rw [yV r p hp] at et;cases et
 | @fdT a o kvs ds e r n=>
  rcases gH hk rk with ⟨q,rfl,rfl⟩|⟨b,ks,rfl,eb,rfl⟩
  ·rw [yW r p hp,kY] at et;cases et
  ·rcases XF (k:=ks) r with ⟨v,d',g1,g2,g3⟩|⟨g1,g2⟩
   ·rw [g2] at h;cases h;exact ⟨a,v,rfl,.inr ⟨kvs,ks,b,.inr ⟨o,e⟩,rfl,eb,g1.symm⟩,g3⟩
   ·rw [g2] at h;cases h
theorem bF (hK:KFrag.K=X.K) (hu:X.A.units+20<cLine):IxR X (r2 getD false):=by
 intro value slice pins s σ H x y v u Q I rx ry ⟨a,b,d,p,q,e,k⟩ hs;cases a with
 | tup ys=>
  cases b <;> simp only [getD] at e <;> (try (cases e;done))
  have e':=Res.iZ e;obtain ⟨l,xs,rfl,ee,rr⟩:=p.eZ;cases q;obtain ⟨w,h1,h2⟩:=rr.atI e';exact aAi value slice pins s σ H _ _ v u Q I rx ry ⟨l,xs,_,w,rfl,rfl,.of ee,h1,k.self h2 fun z=>by cases z⟩ hs
 | lst ys=>
  cases b <;> simp only [getD] at e <;> (try (cases e;done))
  have e':=Res.iZ e;obtain ⟨l,xs,rfl,ee,rr⟩:=p.fU (K:=X.K);cases q;obtain ⟨w,h1,h2⟩:=rr.atI e';exact mV value slice pins s σ H _ _ v u Q I rx ry ⟨l,xs,_,w,rfl,rfl,ee,h1,k.self h2 fun z=>by cases z⟩ hs
 | cel ca ys=>
  cases b <;> simp only [getD] at e <;> (try (cases e;done))
  have e':=Res.iZ e;cases p with
  | cel ee pp rr=>
   cases q;obtain ⟨w,h1,h2⟩:=rr.atI e';exact mV value slice pins s σ H _ _ v u Q I rx ry ⟨_,_,_,w,rfl,rfl,.inl (.inl ee),h1,k.self h2 fun z=>by cases z⟩ hs
 | scr ys=>
  cases b <;> simp only [getD] at e <;> (try (cases e;done))
  have e':=Res.iZ e;cases p with
  | frz ee rr=>
   cases q;obtain ⟨w,h1,h2⟩:=rr.atI e';exact mV value slice pins s σ H _ _ v u Q I rx ry ⟨_,_,_,w,rfl,rfl,ee.sq hK,h1,k.self h2 fun z=>by cases z⟩ hs
 | str z=>
  cases b <;> simp only [getD] at e <;> (try (cases e;done))
  split at e
  ·rename_i hl;have e':=Res.iZ e;obtain ⟨cc,h1,h2⟩:=Option.map_eq_some_iff.mp e';subst h2;cases p;cases q;exact aAj value slice pins s σ H _ _ v u Q I rx ry ⟨z,_,cc,rfl,rfl,jB hl,h1,k.str⟩ hs
  ·cases e
 | dct kvs=>
  have e':keyOk b=true/\eO kvs b=some d:=by
   cases b <;> simp only [getD] at e <;> (split at e <;> first|(rename_i hl;exact ⟨hl,Res.iZ e⟩)|cases e)
  obtain ⟨H1,a1,o,rfl,I1,bk,g,hc⟩:=aAy I p q (RK p e'.1 e'.2);cases rx;rcases hc with ⟨rfl,h2⟩|⟨w,dd,rfl,h2,h3⟩
  ·rw [h2] at e';cases e'.2
  ·rw [h2] at e';cases e'.2;exact t_ hu I1 g ry hs bk (k.self h3 fun z=>by cases z)
 | fdc kvs=>
  have e':keyOk b=true/\eO kvs b=some d:=by
   cases b <;> simp only [getD] at e <;> (split at e <;> first|(rename_i hl;exact ⟨hl,Res.iZ e⟩)|cases e)
  obtain ⟨a1,w,rfl,g,h3⟩:=aEa p q e'.1 e'.2;cases rx;exact t_ hu I g ry hs (fun _ h=>h) (k.self h3 fun z=>by cases z)
 | _=>cases b <;> simp [getD] at e
noncomputable def gO (f:List D->Res (Option Int)):TO:=fun σ H Q=>∃ρ i,ER H σ ρ/\f ρ=.ok i/\∀H',bQ H H'->Q i H'
theorem PO.imp {X:Cx} {e:Option PySem.Expr} {t t':TO} (h:PO X e t) (i:∀σ H Q,t' σ H Q->t σ H Q):PO X e t':=fun pins s σ H Q I q=>h pins s σ H Q I (i σ H Q q)
theorem gJ:PO X none (gO eX):=PO.imp WQ fun σ H Q ⟨ρ,i,E,h,q⟩=>by cases h;exact q H (bQ.refl H)
theorem e_ (ha:PE X a (gE fa ra)):PO X (some a) (gO (dH fa)):=PO.imp (WR ha) fun σ H Q ⟨ρ,i,E,h,q⟩=>by
 obtain ⟨x,h1,h⟩:=aR h;obtain ⟨j,h2,h⟩:=aR h;cases h;have e:=aAv h2;subst e;exact ⟨ρ,_,E,h1,fun v H' s r _=>by cases r;exact ⟨j,rfl,q H' s⟩⟩
theorem UW (n d:Nat) (o:Option Int):HT.sIx n d o=UL n d o:=by
 cases o with
 | none=>rfl
 | some v=>
  show (if v<0 then (v+(n:Int)).toNat else min v.toNat n)=(if v<0 then (max (v+(n:Int)) 0).toNat else (min v (n:Int)).toNat);split <;> lia
theorem a_.cut {P:Addr->Prop} {H:Hp} {xs:List V} {ds:List D} (r:a_ P H xs ds) (lo hi:Option Int):a_ P H (JM xs lo hi) (cutD ds lo hi):=by
 unfold JM cutD;rw [r.length];simp only [UW];exact (r.drop _).take _
theorem dR {ds:List D}:D.aN ds=true↔∀d∈ds,d.pure=true:=by
 induction ds with
 | nil=>simp [D.aN]
 | cons d ds ih=>rw [D.aN,Bool.and_eq_true,ih];simp
noncomputable def rSl:V->Option Int->Option Int->Hp->VK->Prop:=fun x lo hi H Q=>∃a d,Rep All H x a/\Z0 a lo hi=.ok d/\kR H d true Q
theorem aEb (hK:KFrag.K=X.K):SlR X rSl:=by
 intro pins s σ H x v vl vu lo hi sl Q I rx hs pl pu ⟨a,d,p,e,k⟩;cases a <;> simp only [Z0] at e <;> (try (cases e;done))
 ·split at e
  ·cases e
  ·rename_i hw;cases e;obtain ⟨l,xs,rfl,ee,rr⟩:=p.eZ;refine aAh pins s σ H _ v vl vu lo hi sl Q I rx hs pl pu ⟨l,xs,rfl,.of ee,?_,fun p hp=>?_⟩
   ·simp only [UW,rr.length];simp only [Bool.not_eq_true',Bool.or_eq_true,not_or,Bool.not_eq_false',decide_eq_true_eq] at hw;exact hw.2
   ·have sp:bQ H (upd H p (.tup (JM xs lo hi))):=bQ.upd hp;have hp2:D.aN ‹List D›=true:=by
     simp only [Bool.or_eq_true,not_or,Bool.not_eq_true'] at hw;simpa using hw.1
    exact k _ _ sp (.tup aK ((rr.cut lo hi).same sp)) fun z=>.tup aK (((rr.bI hp2).cut lo hi).same sp)
 ·split at e
  ·rename_i hl;cases e;obtain ⟨l,xs,rfl,ee,rr⟩:=p.fU (K:=X.K);refine JQ pins s σ H _ v vl vu lo hi sl Q I rx hs pl pu ⟨l,xs,rfl,ee,fun p hp=>?_⟩;have sp:bQ H (upd H p (.lst (JM xs lo hi))):=bQ.upd hp;exact k _ _ sp (.lst aK trivial ((rr.cut lo hi).same sp)) fun z=>.lst aK hp (((rr.bI hl).cut lo hi).same sp)
  ·cases e
 ·split at e
  ·rename_i hl;cases e;cases p with
   | @frz l xs ds ee rr=>
    refine JQ pins s σ H _ v vl vu lo hi sl Q I rx hs pl pu ⟨l,xs,rfl,ee.sq hK,fun p hp=>?_⟩;have sp:bQ H (upd H p (.lst (JM xs lo hi))):=bQ.upd hp;exact k _ _ sp (.lst aK trivial ((rr.cut lo hi).same sp)) fun z=>.lst aK hp (((rr.bI hl).cut lo hi).same sp)
  ·cases e
end
end Mi
end
section
namespace PySem.Mm
open PySem
noncomputable def wdL:Bool->String
 | false => "min.loop"
 | true => "max.loop"
noncomputable def wdO:Bool->CmpOp
 | false=>.Lt
 | true=>.Gt
section
variable {prog:Program} {w:World} {A:Around} {R:Result->Shared->Prop} {I S:Addr} {fp wr:List Addr} {n:Nat} {P:Nat->Value->Prop} {St:Nat->Heap->Prop} {bt:Nat->Nat->Bool} {Gd:Shared->Prop} {op:CmpOp}
structure aB0 (prog:Program) (w:World) (A:Around) (op:CmpOp) (P:Nat->Value->Prop) (bt:Nat->Nat->Bool) (wr:List Addr) (top:Nat) (Gd:Shared->Prop):Prop where
 keep:∀s h' tk,Gd s->(∀b o,b∉wr->b<top->s.heap.get? b=some o->h'.get? b=some o)->Gd {s with heap:=h',toks:=tk}
 says:∀i j vi vj s Q E,Gd s->P i vi->P j vj->Q (.bool (bt i j)) s->wpAny (model prog w) A (richCompare op vi vj) Q E s
noncomputable def aFt (P:Nat->Value->Prop) (bt:Nat->Nat->Bool) (n:Nat):Nat->Array Value->Prop
 | 0,a=>a=#[]/\0<n
 | j+1,a=>∃v,a=#[v,v]/\P (argBest bt j) v
theorem touched (J:aB0 prog w A op P bt wr S Gd) {s:Shared} {f:Array Value->Array Value} (g:Gd s):Gd {s with heap:=s.heap.update S (Obj.mapSeq f)}:=
 J.keep s _ s.toks g fun b o _ hb e=>(Heap.get?_update_other _ _ (Nat.ne_of_gt hb)).trans e
theorem turn (m:Bool) (W:Walks prog w A.in1 I fp wr n P St) (hS:S∉fp) (J:aB0 prog w A.in1 (wdO m) P bt wr S Gd):∀(k j:Nat) (s:Shared) (a:Array Value) (c:Nat),j+k=n->St j s.heap->Gd s->aFt P bt n j a->
  s.heap.get? S=some {cls:=.type "list",dict:=none,data:=.seq a c,slots:=#[]}->
  (∀v h' tk,P (argBest bt (n-1)) v->(∀b o,b∉wr->b≠S->s.heap.get? b=some o->h'.get? b=some o)->R (.ok (.ret v)) {s with heap:=h',toks:=tk})->
  codeAny (model prog w) A (.builtin (wdL m) ⟨[.ref I,.none,.ref S],[]⟩) R s:=by
 have off:S∉wr:=fun h=>hS (W.sub _ h)
 have still:∀{j:Nat} {h:Heap} {f:Array Value->Array Value},St j h->St j (h.update S (Obj.mapSeq f)):=fun st=>
  W.frame _ _ _ st fun b hb o e=>(Heap.get?_update_other _ _ fun z:S=b=>hS (z▸hb)).trans e
 intro k;induction k with
 | zero=>
  intro j s a c hj st g hb hs fin;have hjn:j=n:=hj;subst hjn;cases j with
  | zero=>exact absurd hb.2 (Nat.lt_irrefl 0)
  | succ j=>
   obtain ⟨v,rfl,hv⟩:=hb;have last:∀(h':Heap) (tk:Nat),(∀b o,b∉wr->s.heap.get? b=some o->h'.get? b=some o)->R (.ok (.ret v)) {s with heap:=h'.update S (Obj.mapSeq fun _=>#[]),toks:=tk}:=fun h' tk kp=>
    fin v _ tk hv fun b o h1 h2 e=>(Heap.get?_update_other _ _ (Ne.symm h2)).trans (kp b o h1 e)
   cases m
   ·show codeAny (model prog w) A (.builtin "min.loop" ⟨[.ref I,.none,.ref S],[]⟩) R s;refine codeAny_builtin F.entry_min_loop ?_;rw [Around.under_plainId F.plain_min_loop];refine wpAny_bind (m:=seqItems? (.ref S)) (wpAny_seqItems hs rfl ?_);refine wpAny_bind (wpAny_tryCatch (m:=pyNext (.ref I)) (W.done s _ _ st fun h' tk kp=>?_));exact wpAny_bind (m:=updateSeq S _) (wpAny_updateSeq (kp S _ off hs) rfl (wpAny_bind (wpAny_letGo (wpAny_pure (last h' tk kp)))))
   ·show codeAny (model prog w) A (.builtin "max.loop" ⟨[.ref I,.none,.ref S],[]⟩) R s;refine codeAny_builtin F.entry_max_loop ?_;rw [Around.under_plainId F.plain_max_loop];refine wpAny_bind (m:=seqItems? (.ref S)) (wpAny_seqItems hs rfl ?_);refine wpAny_bind (wpAny_tryCatch (m:=pyNext (.ref I)) (W.done s _ _ st fun h' tk kp=>?_));exact wpAny_bind (m:=updateSeq S _) (wpAny_updateSeq (kp S _ off hs) rfl (wpAny_bind (wpAny_letGo (wpAny_pure (last h' tk kp)))))
 | succ k ih=>
  intro j s a c hj st g hb hs fin;have hjn:j<n:=by lia
  /- what is left to do behind the list's change,or without one -/
  have on:∀(v:Value) (h':Heap) (tk:Nat),P j v->St (j+1) h'->(∀b o,b∉wr->s.heap.get? b=some o->h'.get? b=some o)->(∀(a':Array Value) (c':Nat) (h2:Heap),aFt P bt n (j+1) a'->h2.get? S=some {cls:=.type "list",dict:=none,data:=.seq a' c',slots:=#[]}->(h2=h'\/∃f:Array Value->Array Value,h2=h'.update S (Obj.mapSeq f))->
    codeAny (model prog w) A (.builtin (wdL m) ⟨[.ref I,.none,.ref S],[]⟩) R {s with heap:=h2,toks:=tk}):=by
   intro v h' tk _ st' kp a' c' h2 hb' hs' hh;have g':Gd {s with heap:=h',toks:=tk}:=J.keep s h' tk g fun b o h1 _ e=>kp b o h1 e
   rcases hh with rfl|⟨f,rfl⟩
   ·exact ih (j+1) _ a' c' (by lia) st' g' hb' hs' fun u h3 t3 hu k3=>fin u h3 t3 hu fun b o h1 h2 e=>k3 b o h1 h2 (kp b o h1 e)
   ·exact ih (j+1) _ a' c' (by lia) (still st') (touched J g') hb' hs' fun u h3 t3 hu k3=>fin u h3 t3 hu fun b o h1 h2 e=>k3 b o h1 h2 ((Heap.get?_update_other _ _ (Ne.symm h2)).trans (kp b o h1 e))
  have nmn:(toString "min" ++ toString ".loop" : String) = "min.loop":=by decide
  have nmx:(toString "max" ++ toString ".loop" : String) = "max.loop":=by decide
  cases j with
  | zero=>
   obtain ⟨rfl,_⟩:=hb;cases m
   ·show codeAny (model prog w) A (.builtin "min.loop" ⟨[.ref I,.none,.ref S],[]⟩) R s;refine codeAny_builtin F.entry_min_loop ?_;rw [Around.under_plainId F.plain_min_loop];refine wpAny_bind (m:=seqItems? (.ref S)) (wpAny_seqItems hs rfl ?_);refine wpAny_bind (wpAny_tryCatch (m:=pyNext (.ref I)) (W.item 0 s _ _ hjn st fun v h' tk pv st' kp=>?_));have hs':=kp S _ off hs;refine wpAny_bind (m:=updateSeq S _) (wpAny_updateSeq hs' rfl ?_);rw [nmn];exact wpAny_pure ⟨plainId_quiet F.plain_min_loop _,on v h' tk pv st' kp #[v,v] _ _ ⟨v,rfl,pv⟩ (Heap.get?_update_self _ hs' rfl) (.inr ⟨_,rfl⟩)⟩
   ·show codeAny (model prog w) A (.builtin "max.loop" ⟨[.ref I,.none,.ref S],[]⟩) R s;refine codeAny_builtin F.entry_max_loop ?_;rw [Around.under_plainId F.plain_max_loop];refine wpAny_bind (m:=seqItems? (.ref S)) (wpAny_seqItems hs rfl ?_);refine wpAny_bind (wpAny_tryCatch (m:=pyNext (.ref I)) (W.item 0 s _ _ hjn st fun v h' tk pv st' kp=>?_));have hs':=kp S _ off hs;refine wpAny_bind (m:=updateSeq S _) (wpAny_updateSeq hs' rfl ?_);rw [nmx];exact wpAny_pure ⟨plainId_quiet F.plain_max_loop _,on v h' tk pv st' kp #[v,v] _ _ ⟨v,rfl,pv⟩ (Heap.get?_update_self _ hs' rfl) (.inr ⟨_,rfl⟩)⟩
  | succ j=>
   obtain ⟨u,rfl,hu⟩:=hb;cases m
   ·show codeAny (model prog w) A (.builtin "min.loop" ⟨[.ref I,.none,.ref S],[]⟩) R s;refine codeAny_builtin F.entry_min_loop ?_;rw [Around.under_plainId F.plain_min_loop];refine wpAny_bind (m:=seqItems? (.ref S)) (wpAny_seqItems hs rfl ?_);refine wpAny_bind (wpAny_tryCatch (m:=pyNext (.ref I)) (W.item (j+1) s _ _ hjn st fun v h' tk pv st' kp=>?_));have hs':=kp S _ off hs;refine wpAny_bind (wpAny_pure ?_);refine wpAny_bind (wpAny_tryCatch (wpAny_holding (wpAny_bind (m:=richCompare .Lt v u) (J.says (j+1) (argBest bt j) v u _ _ _ (J.keep s h' tk g fun b o h1 _ e=>kp b o h1 e) pv hu ?_))));refine wpAny_bind (wpAny_holding (wpAny_truthy_bool (wpAny_bind (wpAny_letGo (wpAny_pure ?_)))));cases hx:bt (j+1) (argBest bt j)
    ·rw [if_neg Bool.false_ne_true];refine wpAny_bind (wpAny_letGo ?_);rw [nmn];exact wpAny_pure ⟨plainId_quiet F.plain_min_loop _,on v h' tk pv st' kp _ _ _ ⟨u,rfl,by rw [argBest,hx];exact hu⟩ hs' (.inl rfl)⟩
    ·rw [if_pos rfl];refine wpAny_bind (m:=updateSeq S _) (wpAny_updateSeq hs' rfl (wpAny_bind (wpAny_letGo ?_)));rw [nmn];exact wpAny_pure ⟨plainId_quiet F.plain_min_loop _,on v h' tk pv st' kp #[v,v] _ _ ⟨v,rfl,by rw [argBest,hx];exact pv⟩ (Heap.get?_update_self _ hs' rfl) (.inr ⟨_,rfl⟩)⟩
   ·show codeAny (model prog w) A (.builtin "max.loop" ⟨[.ref I,.none,.ref S],[]⟩) R s;refine codeAny_builtin F.entry_max_loop ?_;rw [Around.under_plainId F.plain_max_loop];refine wpAny_bind (m:=seqItems? (.ref S)) (wpAny_seqItems hs rfl ?_);refine wpAny_bind (wpAny_tryCatch (m:=pyNext (.ref I)) (W.item (j+1) s _ _ hjn st fun v h' tk pv st' kp=>?_));have hs':=kp S _ off hs;refine wpAny_bind (wpAny_pure ?_);refine wpAny_bind (wpAny_tryCatch (wpAny_holding (wpAny_bind (m:=richCompare .Gt v u) (J.says (j+1) (argBest bt j) v u _ _ _ (J.keep s h' tk g fun b o h1 _ e=>kp b o h1 e) pv hu ?_))));refine wpAny_bind (wpAny_holding (wpAny_truthy_bool (wpAny_bind (wpAny_letGo (wpAny_pure ?_)))));cases hx:bt (j+1) (argBest bt j)
    ·rw [if_neg Bool.false_ne_true];refine wpAny_bind (wpAny_letGo ?_);rw [nmx];exact wpAny_pure ⟨plainId_quiet F.plain_max_loop _,on v h' tk pv st' kp _ _ _ ⟨u,rfl,by rw [argBest,hx];exact hu⟩ hs' (.inl rfl)⟩
    ·rw [if_pos rfl];refine wpAny_bind (m:=updateSeq S _) (wpAny_updateSeq hs' rfl (wpAny_bind (wpAny_letGo ?_)));rw [nmx];exact wpAny_pure ⟨plainId_quiet F.plain_max_loop _,on v h' tk pv st' kp #[v,v] _ _ ⟨v,rfl,by rw [argBest,hx];exact pv⟩ (Heap.get?_update_self _ hs' rfl) (.inr ⟨_,rfl⟩)⟩
end
section
variable {prog:Program} {w:World} {A:Around} {E:Value->Shared->Prop} {s:Shared} {Q:Value->Shared->Prop}
noncomputable abbrev Seen (prog:Program) (w:World) (A:Around) (op:CmpOp) (Q:Value->Shared->Prop) (it:Value) (t:Shared):Prop:=
 ∃(I:Addr) (fp wr:List Addr) (n:Nat) (P:Nat->Value->Prop) (St:Nat->Heap->Prop) (bt:Nat->Nat->Bool),it=.ref I/\Walks prog w A I fp wr n P St/\St 0 t.heap/\(∀b∈fp,b<t.heap.objs.size)/\0<n/\
  (∃Gd:Shared->Prop,Gd t/\(∀s h' tk,Gd s->(∀b o,b∉wr->b<t.heap.objs.size->s.heap.get? b=some o->h'.get? b=some o)->Gd {s with heap:=h',toks:=tk})/\
   ∀i j vi vj s Q E,Gd s->P i vi->P j vj->Q (.bool (bt i j)) s->wpAny (model prog w) A (richCompare op vi vj) Q E s)/\
  ∀v h' tk,P (argBest bt (n-1)) v->(∀b o,b∉wr->t.heap.get? b=some o->h'.get? b=some o)->Q v {t with heap:=h',toks:=tk}
theorem begun (m:Bool) {it:Value} {t:Shared} {R:Result->Shared->Prop} (hR:∀v s,Q v s->R (.ok (.ret v)) s) (h:Seen prog w A.in1 (wdO m) Q it t) :
  codeAny (model prog w) A (.builtin (wdL m) ⟨[it,.none,.ref t.heap.objs.size],[]⟩) R {t with heap:=t.heap.push {cls:=.type "list",data:=.seq #[]}}:=by
 obtain ⟨I,fp,wr,n,P,St,bt,rfl,W,st,hfp,hn,⟨Gd,g,gk,gs⟩,q⟩:=h;have up:∀b o,t.heap.get? b=some o->(t.heap.push {cls:=.type "list",data:=.seq #[]}).get? b=some o:=fun b o e=>Heap.get?_push_of_some _ e
 refine turn m W (fun z=>Nat.lt_irrefl _ (hfp _ z)) ⟨gk,gs⟩ n 0 _ #[] _ (Nat.zero_add n) (W.frame _ _ _ st fun b _ o e=>up b o e) (gk t _ t.toks g fun b o _ _ e=>up b o e) ⟨rfl,hn⟩ (Heap.get?_push_size _ rfl) fun v h' tk hv kp=>?_
 exact hR _ _ (q v h' tk hv fun b o h1 e=>kp b o h1 (Nat.ne_of_lt (Heap.lt_size e)) (up b o e))
theorem uA {x:Value} (h:wpAny (model prog w) A.in1 (pyIter x) (Seen prog w A.in1 .Gt Q) E s):wpAny (model prog w) A (call (.builtin "max") [x]) Q E s:=by
 have nmx:(toString "max" ++ toString ".loop" : String) = "max.loop":=by decide
 refine call_function_tree F.kind_max F.plain_max F.entry_max (F.args_max1 _) ?_;refine wpAny_bind (m:=Builtin.Builtins.bindParams "max" ["key", "default"] 0 ⟨[],[]⟩) (wpAny_of_eq (a:=[none,none]) rfl ?_);refine wpAny_bind (wpAny_pure (wpAny_bind (wpAny_mono h (fun it t ht=>wpAny_bind (wpAny_newObj_type ?_)) fun _ _ e=>e)));rw [nmx];exact wpAny_pure ⟨plainId_quiet F.plain_max_loop _,begun true (fun _ _ q=>q) ht⟩
theorem wK {a b:Value} (h:wpAny (model prog w) A.in1 (pyIter (.ref s.heap.objs.size)) (Seen prog w A.in1 .Gt Q) E {s with heap:=s.heap.push {cls:=.type "tuple",data:=.seq #[a,b]}}):wpAny (model prog w) A (call (.builtin "max") [a,b]) Q E s:=by
 have nmx:(toString "max" ++ toString ".loop" : String) = "max.loop":=by decide
 refine call_function_tree F.kind_max F.plain_max F.entry_max (F.args_max2 _ _) ?_;refine wpAny_bind (m:=Builtin.Builtins.bindParams "max" ["key", "default"] 0 ⟨[],[]⟩) (wpAny_of_eq (a:=[none,none]) rfl ?_);refine wpAny_bind (m:=newTuple [a,b]) (wpAny_newObj_type (wpAny_bind (wpAny_mono h (fun it t ht=>wpAny_bind (wpAny_newObj_type ?_)) fun _ _ e=>e)));rw [nmx];exact wpAny_pure ⟨plainId_quiet F.plain_max_loop _,begun true (fun _ _ q=>q) ht⟩
end
end PySem.Mm
end
section
namespace Mi
open PySem L2 PySem.SeqAt PySem.Spec PyProof.Rows
variable [KFrag]
theorem uB (o:j0) (x:D) (xs:List D):∀k,k<=xs.length->(xs.take k).foldl (fun m y=>if (n6 o y m).getD false then y else m) x=(x::xs).getD (argBest (btD o (x::xs)) k) .non
 | 0,_=>by simp [argBest]
 | k+1,h=>by
  have ih:=uB o x xs k (by lia);have hk:k<xs.length:=by lia
  rw [List.take_succ_eq_append_getElem hk,List.foldl_append,ih];have e:(x::xs).getD (k+1) .non=xs[k]:=by simp [hk]
  have hb:btD o (x::xs) (k+1) (argBest (btD o (x::xs)) k)=(n6 o xs[k] ((x::xs).getD (argBest (btD o (x::xs)) k) .non)).getD false:=by unfold btD;rw [e]
  show (if (n6 o xs[k] ((x::xs).getD (argBest (btD o (x::xs)) k) .non)).getD false then xs[k] else (x::xs).getD (argBest (btD o (x::xs)) k) .non)=(x::xs).getD (if btD o (x::xs) (k+1) (argBest (btD o (x::xs)) k) then k+1 else argBest (btD o (x::xs)) k) .non;rw [<-hb];cases btD o (x::xs) (k+1) (argBest (btD o (x::xs)) k) with
  | true=>rw [if_pos rfl,if_pos rfl,e]
  | false=>rw [if_neg (by simp),if_neg (by simp)]
section
variable {X:Cx} {pins:List (Addr×Obj)} {σ:L2.St} {H:Hp} {s:Shared}
noncomputable def Gds (s:Shared) (s':Shared):Prop:=∃h' tk,s'={s with heap:=h',toks:=tk}/\∀b o,s.heap.get? b=some o->h'.get? b=some o
theorem rG (I:Inv X pins σ H s) (hu:X.A.units+20<cLine) {o:j0} {xs:List V} {ds:List D} {its:List Value} {d:D} (r:a_ All H xs ds) (vr:Vals xs its) (h:mW o ds=.ok d) (i j:Nat) (vi vj:Value) (s':Shared) (Q:Value->Shared->Prop) (E:Value->Shared->Prop)
  (g:Gds s s') (hi:its.toArray[i]?=some vi) (hj:its.toArray[j]?=some vj) (q:Q (.bool (btD o ds i j)) s'):wpAny (model X.prog X.w) X.A.in1 (richCompare o.op vi vj) Q E s':=by
 obtain ⟨h',tk,rfl,hk⟩:=g;have I':Inv X pins σ H {s with heap:=h',toks:=tk}:=I.kept hk;have hi':its[i]?=some vi:=by simpa using hi
 have hj':its[j]?=some vj:=by simpa using hj
 have at_:∀{i:Nat} {v:Value},its[i]?=some v->∃d w,ds.getD i .non=d/\d∈ds/\RelV w v/\Rep All H w d:=by
  intro i v hv;have hlt:i<its.length:=(List.getElem?_eq_some_iff.mp hv).1;have hlt':i<ds.length:=by rw [<-r.length,vr.length];exact hlt
  obtain ⟨w,h1,h2⟩:=r.get (i:=i) (d:=ds[i]) (by simp [hlt']);obtain ⟨u,h3,h4⟩:=vr.get h1;rw [hv] at h3;cases h3;exact ⟨ds[i],w,by simp [hlt'],List.getElem_mem _,h4,h2⟩
 obtain ⟨d1,w1,e1,m1,v1,r1⟩:=at_ hi';obtain ⟨d2,w2,e2,m2,v2,r2⟩:=at_ hj';cases ds with
 | nil=>cases m1
 | cons x xs'=>
  simp only [mW] at h;split at h
  ·rename_i hall;have h1:=List.all_eq_true.mp hall d1 m1;have h2:=List.all_eq_true.mp hall d2 m2;rw [Bool.and_eq_true] at h1 h2;obtain ⟨k,hk⟩:=Option.isSome_iff_exists.mp (List.all_eq_true.mp h1.2 d2 m2);have:btD o (x::xs') i j=k:=by unfold btD;rw [e1,e2,hk];rfl
   rw [this] at q;exact J9 I' o aV X.A.in1 (by show X.A.units+1+12<cLine;lia) h1.1 h2.1 r1 r2 v1 v2 hk X.prog X.w E Q q
  ·cases h
theorem wL {o:j0} {xs:List V} {ds:List D} {its:List Value} {d:D} (r:a_ All H xs ds) (vr:Vals xs its) (h:mW o ds=.ok d) {v:Value} (hv:its.toArray[argBest (btD o ds) (its.length-1)]?=some v):∃w,RelV w v/\Rep All H w d:=by
 have hv':its[argBest (btD o ds) (its.length-1)]?=some v:=by simpa using hv
 cases ds with
 | nil=>cases h
 | cons x xs'=>
  simp only [mW] at h;split at h
  ·cases h;have hl:its.length-1=xs'.length:=by rw [<-vr.length,r.length];simp
   rw [hl] at hv';have fb:=uB o x xs' xs'.length (Nat.le_refl _);rw [List.take_length] at fb;have hlt:argBest (btD o (x::xs')) xs'.length<its.length:=(List.getElem?_eq_some_iff.mp hv').1;have hlt':argBest (btD o (x::xs')) xs'.length<(x::xs').length:=by rw [<-r.length,vr.length];exact hlt
   obtain ⟨w,h1,h2⟩:=r.get (i:=argBest (btD o (x::xs')) xs'.length) (d:=(x::xs')[argBest (btD o (x::xs')) xs'.length]) (by simp [hlt']);obtain ⟨u,h3,h4⟩:=vr.get h1;rw [hv'] at h3;cases h3;refine ⟨w,h4,?_⟩;rw [fb,List.getD_eq_getElem?_getD,List.getElem?_eq_getElem hlt'];exact h2
  ·cases h
theorem Gds.grow {s':Shared} {h1:Heap} {tk1:Nat} (g:Gds s s') {wq:List Addr} {n:Nat} (hw:∀b∈wq,s.heap.objs.size<=b) (hn:s.heap.objs.size<=n)
  (kk:∀b o,b∉wq->b<n->s'.heap.get? b=some o->h1.get? b=some o):Gds s {s' with heap:=h1,toks:=tk1}:=by
 obtain ⟨h',tk,rfl,hk⟩:=g;refine ⟨h1,tk1,rfl,fun b o e=>kk b o (fun hb=>?_) (Nat.lt_of_lt_of_le (Heap.lt_size e) hn) (hk b o e)⟩;exact absurd (Nat.lt_of_lt_of_le (Heap.lt_size e) (hw b hb)) (Nat.lt_irrefl _)
end
section
variable {X:Cx}
theorem yZ {o:j0} {ds:List D} {d:D} (h:mW o ds=.ok d):0<ds.length:=by
 cases ds with
 | nil=>cases h
 | cons _ _=>simp
structure Mms (o:j0) (nm:String):Prop where
 walk:∀{prog:Program} {w:World} {A:Around} {Q:Value->Shared->Prop} {E:Value->Shared->Prop} {s:Shared} {x:Value},wpAny (model prog w) A.in1 (pyIter x) (Mm.Seen prog w A.in1 o.op Q) E s->wpAny (model prog w) A (call (.builtin nm) [x]) Q E s
 two:∀{prog:Program} {w:World} {A:Around} {Q:Value->Shared->Prop} {E:Value->Shared->Prop} {s:Shared} {a b:Value},wpAny (model prog w) A.in1 (pyIter (.ref s.heap.objs.size)) (Mm.Seen prog w A.in1 o.op Q) E {s with heap:=s.heap.push {cls:=.type "tuple",data:=.seq #[a,b]}}->wpAny (model prog w) A (call (.builtin nm) [a,b]) Q E s
theorem KN {o:j0} {nm:String} (M:Mms o nm) (hu:X.A.units+20<cLine) (hc:X.calm=true) {pins:List (Addr×Obj)} {σ:L2.St} {H:Hp} {s:Shared} {l:Addr} {xs:List V} {ds:List D} {d:D} {Q:VK} (I:Inv X pins σ H s) (hl:SqL X.K H l xs) (r:a_ All H xs ds) (h:mW o ds=.ok d) (q:kR H d false Q) :
  wpAny (model X.prog X.w) X.A (call (.builtin nm) [.ref l]) (EP X pins σ Q) X.xe s:=by
 obtain ⟨its,vr,pl⟩:=j7 I hl;have hlt:l<s.heap.objs.size:=by obtain ⟨_,e,_⟩:=pl;exact Heap.lt_size e
 refine M.walk (wpAny_pyIter_list pl ?_);refine ⟨_,_,_,_,_,_,btD o ds,rfl,Walks.list (A:=X.A.in1) (I.ok.hd hc) _ l (Nat.ne_of_lt hlt) its.toArray,⟨⟨_,Heap.get?_push_size _ rfl,rfl,rfl⟩,pl.push _⟩,fun b hb=>?_,by rw [List.size_toArray,<-vr.length,r.length];exact yZ h,⟨Gds s,⟨_,s.toks,rfl,fun b o e=>Heap.get?_push_of_some _ e⟩,fun s' h' tk g kk=>g.grow (wq:=[s.heap.objs.size]) (n:=s.heap.objs.size+1) (fun b hb=>?_) (Nat.le_succ _) fun b o h1 h2 e=>kk b o h1 (by show b<(s.heap.push _).objs.size;rw [Heap.size_push];exact h2) e,fun i j vi vj s' Q E g h1 h2 q=>rG I hu r vr h i j vi vj s' Q E g h1 h2 q⟩,fun v h' tk hP hk=>?_⟩
 ·show b<(s.heap.push _).objs.size;rw [Heap.size_push];rcases List.mem_cons.mp hb with rfl|hb
  ·exact Nat.lt_succ_self _
  ·rcases List.mem_cons.mp hb with rfl|hb
   ·exact Nat.lt_succ_of_lt hlt
   ·cases hb
 ·rcases List.mem_cons.mp hb with rfl|hb
  ·exact Nat.le_refl _
  ·cases hb
 ·obtain ⟨w,v1,r1⟩:=wL r vr h (by simpa using hP);refine ⟨w,H,I.kept fun b o e=>hk b o (fun hb=>?_) (Heap.get?_push_of_some _ e),v1,q.self r1 fun z=>by cases z⟩;rcases List.mem_cons.mp hb with rfl|hb
  ·exact absurd (Heap.lt_size e) (Nat.lt_irrefl _)
  ·cases hb
theorem KQ {o:j0} {nm:String} (M:Mms o nm) (hu:X.A.units+20<cLine) (hc:X.calm=true) {pins:List (Addr×Obj)} {σ:L2.St} {H:Hp} {s:Shared} {l:Addr} {xs:List V} {ds:List D} {d:D} {Q:VK} (I:Inv X pins σ H s) (hl:H l=some (.tup xs)) (r:a_ All H xs ds) (h:mW o ds=.ok d) (q:kR H d false Q) :
  wpAny (model X.prog X.w) X.A (call (.builtin nm) [.ref l]) (EP X pins σ Q) X.xe s:=by
 obtain ⟨its,vr,pl⟩:=gZ I hl;have hlt:l<s.heap.objs.size:=by obtain ⟨_,e,_⟩:=pl;exact Heap.lt_size e
 refine M.walk (wpAny_pyIter_tuple pl ?_);refine ⟨_,_,_,_,_,_,btD o ds,rfl,Walks.tuple (A:=X.A.in1) (I.ok.hd hc) _ l (Nat.ne_of_lt hlt) its.toArray,⟨⟨_,Heap.get?_push_size _ rfl,rfl,rfl⟩,pl.push _⟩,fun b hb=>?_,by rw [List.size_toArray,<-vr.length,r.length];exact yZ h,⟨Gds s,⟨_,s.toks,rfl,fun b o e=>Heap.get?_push_of_some _ e⟩,fun s' h' tk g kk=>g.grow (wq:=[s.heap.objs.size]) (n:=s.heap.objs.size+1) (fun b hb=>?_) (Nat.le_succ _) fun b o h1 h2 e=>kk b o h1 (by show b<(s.heap.push _).objs.size;rw [Heap.size_push];exact h2) e,fun i j vi vj s' Q E g h1 h2 q=>rG I hu r vr h i j vi vj s' Q E g h1 h2 q⟩,fun v h' tk hP hk=>?_⟩
 ·show b<(s.heap.push _).objs.size;rw [Heap.size_push];rcases List.mem_cons.mp hb with rfl|hb
  ·exact Nat.lt_succ_self _
  ·rcases List.mem_cons.mp hb with rfl|hb
   ·exact Nat.lt_succ_of_lt hlt
   ·cases hb
 ·rcases List.mem_cons.mp hb with rfl|hb
  ·exact Nat.le_refl _
  ·cases hb
 ·obtain ⟨w,v1,r1⟩:=wL r vr h (by simpa using hP);refine ⟨w,H,I.kept fun b o e=>hk b o (fun hb=>?_) (Heap.get?_push_of_some _ e),v1,q.self r1 fun z=>by cases z⟩;rcases List.mem_cons.mp hb with rfl|hb
  ·exact absurd (Heap.lt_size e) (Nat.lt_irrefl _)
  ·cases hb
theorem KR {o:j0} {nm:String} (M:Mms o nm) (hu:X.A.units+20<cLine) (hc:X.calm=true) {pins:List (Addr×Obj)} {σ:L2.St} {H:Hp} {s:Shared} {x y:V} {u w:Value} {a b d:D} {Q:VK} (I:Inv X pins σ H s) (rx:Rep All H x a) (ry:Rep All H y b) (ru:RelV x u) (rw':RelV y w) (h:mW o [a,b]=.ok d) (q:kR H d false Q) :
  wpAny (model X.prog X.w) X.A (call (.builtin nm) [u,w]) (EP X pins σ Q) X.xe s:=by
 have r:a_ All H [x,y] [a,b]:=.cons rx (.cons ry .nil);have vr:Vals [x,y] [u,w]:=.cons ru (.cons rw' .nil);have pl:(s.heap.push {cls:=.type "tuple",data:=.seq #[u,w]}).IsTuple s.heap.objs.size [u,w].toArray:=⟨_,Heap.get?_push_size _ rfl,rfl,0,rfl⟩
 have hsz:(s.heap.push {cls:=.type "tuple",data:=.seq #[u,w]}).objs.size=s.heap.objs.size+1:=Heap.size_push ..;refine M.two (wpAny_pyIter_tuple pl ?_);refine ⟨_,_,_,_,_,_,btD o [a,b],rfl,Walks.tuple (A:=X.A.in1) (I.ok.hd hc) _ s.heap.objs.size (by rw [hsz];exact Nat.ne_of_lt (Nat.lt_succ_self _)) [u,w].toArray,⟨⟨_,Heap.get?_push_size _ rfl,rfl,rfl⟩,pl.push _⟩,fun b hb=>?_,by simp,⟨Gds s,⟨_,s.toks,rfl,fun b o e=>Heap.get?_push_of_some _ (Heap.get?_push_of_some _ e)⟩,fun s' h' tk g kk=>g.grow (wq:=[s.heap.objs.size+1]) (n:=s.heap.objs.size+2) (fun b hb=>?_) (by lia) fun b o h1 h2 e=>kk b o (by rw [hsz];exact h1) (by show b<((s.heap.push _).push _).objs.size;rw [Heap.size_push,hsz];exact h2) e,fun i j vi vj s' Q E g h1 h2 q=>rG I hu r vr h i j vi vj s' Q E g h1 h2 q⟩,fun v h' tk hP hk=>?_⟩
 ·show b<((s.heap.push _).push _).objs.size;rw [Heap.size_push,hsz];rcases List.mem_cons.mp hb with rfl|hb
  ·rw [hsz];exact Nat.lt_succ_self _
  ·rcases List.mem_cons.mp hb with rfl|hb
   ·exact Nat.lt_succ_of_lt (Nat.lt_succ_self _)
   ·cases hb
 ·rcases List.mem_cons.mp hb with rfl|hb
  ·lia
  ·cases hb
 ·obtain ⟨w,v1,r1⟩:=wL r vr h (by simpa using hP);refine ⟨w,H,I.kept fun b o e=>hk b o (fun hb=>?_) (Heap.get?_push_of_some _ (Heap.get?_push_of_some _ e)),v1,q.self r1 fun z=>by cases z⟩;rcases List.mem_cons.mp hb with hb|hb
  ·have:=Heap.lt_size e;rw [hb,hsz] at this;exact absurd this (Nat.not_lt.mpr (Nat.le_succ _))
  ·cases hb
theorem aEc {o:j0} {nm:String} (M:Mms o nm) (hu:X.A.units+20<cLine) (hc:X.calm=true):mR X (.builtin nm) (rs (tV o) false):=by
 intro pins s σ H xs us Q I vr ⟨ds,d,r,e,k⟩;unfold tV at e;split at e
 ·cases r with
  | cons r t=>
   cases t;cases vr with
   | cons v vt=>
    cases vt;obtain ⟨l,ys,rfl,hl,rr⟩:=r.fU (K:=X.K);cases v;exact KN M hu hc I hl rr e k
 ·cases r with
  | cons r t=>
   cases t;cases vr with
   | cons v vt=>
    cases vt;obtain ⟨l,ys,rfl,hl,rr⟩:=r.eZ;cases v;exact KQ M hu hc I hl rr e k
 ·cases r with
  | cons r t=>
   cases t with
   | cons r' t=>
    cases t;cases vr with
    | cons v vt=>
     cases vt with
     | cons v' vt=>
      cases vt;exact KR M hu hc I r r' v v' e k
 ·cases e
theorem aB1 (hu:X.A.units+20<cLine) (hc:X.calm=true):mR X (.builtin "max") (rs (tV .gt) false):=aEc ⟨Mm.uA,Mm.wK⟩ hu hc
end
end Mi
end
section
namespace PySem.Mm
open PySem PyProof.Rows PySem.W
end PySem.Mm
end
section
namespace Mi
open PySem L2 PySem.SeqAt PySem.Spec PyProof.Rows
variable [KFrag]
section
variable {X:Cx} {a b c e:Expr} {es:List Expr} {pos p:Pos} {fa fb fc fe:FE} {ra rb rc re:Bool} {fs:FA} {rr:Bool} {x:Str} {id T:String}
theorem lF {P:Addr->Prop} {H:Hp} {xs:List V} {us:List Value} {d:D} (r:a_ P H xs [d]) (vr:Vals xs us):∃v u,xs=[v]/\us=[u]/\Rep P H v d/\RelV v u:=by
 cases r with
 | cons r t=>
  cases t;cases vr with
  | cons v vt=>
   cases vt;exact ⟨_,_,rfl,rfl,r,v⟩
theorem y_ {f:List D->Res D} {fr:Bool} {σ:L2.St} {H:Hp} {Q:VK} (h:gE (aY f fs) fr σ H Q):tCB (rs f fr) (gA fs rr) σ H Q:=by
 obtain ⟨ρ,d,E,h,q⟩:=h;obtain ⟨ds,h1,h2⟩:=aR h;exact ⟨ρ,ds,E,h1,fun vs H1 s1 r1 _=>⟨ds,d,r1,h2,q.imp s1 id⟩⟩
theorem cA {f:List D->Res D} {fr:Bool} (hc:mR X (.builtin id) (rs f fr)) (hg:Gl X x) (hm:X.mg x=none) (hv:bootBuiltins x=some (.builtin id)) (ha:PA X (e::es) (gA fs rr)) (hn:x ≠ "__name__":=by decide) (hdb:nDb x:=by decide)
  (he:starEach (e::es) X.env=(false,eval e X.env)::starEach es X.env:=by rfl) (hpl:(backTo pos (starEach es X.env)).any (·.1)=false:=by rfl):PE X (.Call (.Name x p) (e::es) [] pos) (gE (aY f fs) fr):=
 PE.imp (yG hc hg hm hv ha hn hdb he hpl) fun _ _ _=>y_
theorem cP {f:List D->Res D} {fr:Bool} (hc:mR X (.type T) (rs f fr)) (hg:Gl X x) (hm:X.mg x=none) (hv:bootBuiltins x=some (.type T)) (ha:PA X (e::es) (gA fs rr)) (hn:x ≠ "__name__":=by decide) (hdb:nDb x:=by decide)
  (he:starEach (e::es) X.env=(false,eval e X.env)::starEach es X.env:=by rfl) (hpl:(backTo pos (starEach es X.env)).any (·.1)=false:=by rfl):PE X (.Call (.Name x p) (e::es) [] pos) (gE (aY f fs) fr):=
 PE.imp (JK hc hg hm hv ha hn hdb he hpl) fun _ _ _=>y_
theorem g_ (hK:KFrag.K=X.K):mR X (.builtin "len") (rs j6 true):=by
 intro pins s σ H xs us Q I vr ⟨ds,d,r,e,k⟩;unfold j6 at e;split at e
 ·cases e;obtain ⟨vv,uu,rfl,rfl,r,v⟩:=lF r vr;obtain ⟨l,ys,rfl,hl,rr⟩:=r.eZ;cases v;exact gY pins s σ H [.ref l] [.ref l] Q I (.cons rfl .nil) ⟨l,ys,rfl,.inr (.of hl),by rw [rr.length];exact k.int⟩
 ·cases e;obtain ⟨vv,uu,rfl,rfl,r,v⟩:=lF r vr;obtain ⟨l,ys,rfl,hl,rr⟩:=r.fU (K:=X.K);cases v;exact gY pins s σ H [.ref l] [.ref l] Q I (.cons rfl .nil) ⟨l,ys,rfl,.inl hl,by rw [rr.length];exact k.int⟩
 ·cases e;obtain ⟨vv,uu,rfl,rfl,r,v⟩:=lF r vr;cases r with
  | @frz l xs ds ee rr=>
   cases v;exact gY pins s σ H [.ref l] [.ref l] Q I (.cons rfl .nil) ⟨l,xs,rfl,.inl (ee.sq hK),by rw [rr.length];exact k.int⟩
 ·cases e;obtain ⟨vv,uu,rfl,rfl,r,v⟩:=lF r vr;cases r with
  | cel ee pp rr=>
   cases v;exact gY pins s σ H [.ref _] [.ref _] Q I (.cons rfl .nil) ⟨_,_,rfl,.inl (.inl (.inl ee)),by rw [rr.length];exact k.int⟩
 ·split at e
  ·rename_i hl;cases e;obtain ⟨vv,uu,rfl,rfl,r,v⟩:=lF r vr;cases r;exact tM pins s σ H _ _ Q I (.cons v .nil) ⟨_,rfl,jB hl,k.int⟩
  ·cases e
 ·cases e
theorem dI:mR X (.type "tuple") (rs b_ false):=by
 intro pins s σ H xs us Q I vr ⟨ds,d,r,e,k⟩;unfold b_ at e;split at e
 ·cases e;obtain ⟨vv,uu,rfl,rfl,r,v⟩:=lF r vr;obtain ⟨l,ys,rfl,hl',rr⟩:=r.eZ;cases v;exact mD pins s σ H [.ref l] [.ref l] Q I (.cons rfl .nil) ⟨l,ys,rfl,.inr ⟨.of hl',k.self (.tup hl' rr) fun z=>by cases z⟩⟩
 ·cases e;obtain ⟨vv,uu,rfl,rfl,r,v⟩:=lF r vr;obtain ⟨l,ys,rfl,hl',rr⟩:=r.fU (K:=X.K);cases v;refine mD pins s σ H [.ref l] [.ref l] Q I (.cons rfl .nil) ⟨l,ys,rfl,.inl ⟨hl',fun p hp=>?_⟩⟩;have sp:bQ H (upd H p (.tup ys)):=bQ.upd hp;exact k _ _ sp (.tup aK (rr.same sp)) fun z=>by cases z
 ·cases e
theorem isi {pins:List (Addr×Obj)} {s:Shared} {σ:L2.St} {H:Hp} {v:V} {u:Value} {d:D} {t:Ty} {k:Bool} (I:Inv X pins σ H s) (r:Rep All H v d) (ru:RelV v u) (h:J2 t d=.ok k) {Q:Value->Shared->Prop}
  (q:∀tk,Q (.bool k) {s with toks:=tk}):wpAny (model X.prog X.w) X.A (call (.builtin "isinstance") [u,.type t.nm]) Q X.xe s:=by
 have q0:Q (.bool k) s:=q s.toks;cases r with
 | non=>cases ru;cases t <;> simp only [J2] at h <;> cases h <;> first|exact IsiPair.NoneType_int (q _)|exact IsiPair.NoneType_str (q _)|exact IsiPair.NoneType_bool (q _)|exact IsiPair.NoneType_list (q _)|exact IsiPair.NoneType_tuple (q _)|exact IsiPair.NoneType_dict (q _)
 | bl b=>cases ru;cases t <;> simp only [J2] at h <;> cases h <;> first|exact IsiPair.bool_int q0|exact IsiPair.bool_str (q _)|exact IsiPair.bool_bool q0|exact IsiPair.bool_list (q _)|exact IsiPair.bool_tuple (q _)|exact IsiPair.bool_dict (q _)
 | int b=>obtain ⟨tt,rfl⟩:=ru;cases t <;> simp only [J2] at h <;> cases h <;> first|exact IsiPair.int_int q0|exact IsiPair.int_str (q _)|exact IsiPair.int_bool (q _)|exact IsiPair.int_list (q _)|exact IsiPair.int_tuple (q _)|exact IsiPair.int_dict (q _)
 | str b=>obtain ⟨tt,rfl⟩:=ru;cases t <;> simp only [J2] at h <;> cases h <;> first|exact IsiPair.str_int (q _)|exact IsiPair.str_str q0|exact IsiPair.str_bool (q _)|exact IsiPair.str_list (q _)|exact IsiPair.str_tuple (q _)|exact IsiPair.str_dict (q _)
 | tup e rr=>
  cases ru;obtain ⟨its,vr,o,ho,hc,_⟩:=gZ I e;cases t <;> simp only [J2] at h <;> cases h <;> first|exact IsiPair.tuple_int ho hc (q _)|exact IsiPair.tuple_str ho hc (q _)|exact IsiPair.tuple_bool ho hc (q _)|exact IsiPair.tuple_list ho hc (q _)|exact IsiPair.tuple_tuple ho hc q0|exact IsiPair.tuple_dict ho hc (q _)
 | lst e p rr=>
  cases ru;obtain ⟨its,vr,o,ho,hc,_⟩:=j7 I (.of e);cases t <;> simp only [J2] at h <;> cases h <;> first|exact IsiPair.list_int ho hc (q _)|exact IsiPair.list_str ho hc (q _)|exact IsiPair.list_bool ho hc (q _)|exact IsiPair.list_list ho hc q0|exact IsiPair.list_tuple ho hc (q _)|exact IsiPair.list_dict ho hc (q _)
 | frz e rr=>cases t <;> cases h
 | fdK e rr n=>cases t <;> cases h
 | fdT e rr n=>cases t <;> cases h
 | exc n e q=>cases t <;> cases h
 | ins n e q=>cases t <;> cases h
 | cel e p rr=>cases t <;> cases h
 | dK e p rr n=>
  cases ru;obtain ⟨_,_,_,_,o,_,_,ho,hx,_⟩:=W0 I.hok e;have hc:=hx.1;cases t <;> simp only [J2] at h <;> cases h <;> first|exact IsiPair.dict_int ho hc (q _)|exact IsiPair.dict_str ho hc (q _)|exact IsiPair.dict_bool ho hc (q _)|exact IsiPair.dict_list ho hc (q _)|exact IsiPair.dict_tuple ho hc (q _)|exact IsiPair.dict_dict ho hc q0
 | dT e p rr n=>
  cases ru;obtain ⟨_,_,_,_,o,_,_,ho,hx,_⟩:=W2 I.hok e;have hc:=hx.1;cases t <;> simp only [J2] at h <;> cases h <;> first|exact IsiPair.dict_int ho hc (q _)|exact IsiPair.dict_str ho hc (q _)|exact IsiPair.dict_bool ho hc (q _)|exact IsiPair.dict_list ho hc (q _)|exact IsiPair.dict_tuple ho hc (q _)|exact IsiPair.dict_dict ho hc q0
noncomputable def aGk (t:Ty):List V->Hp->VK->Prop:=fun xs H Q=>∃v d k,xs=[v,.ty t.nm]/\Rep All H v d/\J2 t d=.ok k/\Q (.bl k) H
theorem aB2 (t:Ty):mR X (.builtin "isinstance") (aGk t):=by
 intro pins s σ H xs us Q I vr ⟨v,d,k,e,r,h,q⟩;subst e;cases vr with
 | cons rv vt=>
  cases vt with
  | cons rt vt=>
   cases vt;cases rt;exact isi I r rv h fun tk=>⟨.bl k,H,I.tok tk,rfl,q⟩
theorem uC (t:Ty) {y:Str} {p2:Pos} (ha:PE X a (gE fa ra)) (hg:Gl X "isinstance") (hm:X.mg "isinstance" = none) (hv:bootBuiltins "isinstance" = some (.builtin "isinstance")) (gy:Gl X y) (my:X.mg y=none) (vy:bootBuiltins y=some (.type t.nm))
  (hy:y ≠ "__name__":=by decide) (hyd:(y==("__debug__" : Str))=false:=by decide)
  (he:starEach [a,.Name y p2] X.env=(false,eval a X.env)::starEach [.Name y p2] X.env:=by rfl) (he2:starEach [.Name y p2] X.env=(false,eval (.Name y p2) X.env)::starEach [] X.env:=by rfl)
  (hpl:(backTo pos (starEach [.Name y p2] X.env)).any (·.1)=false:=by rfl):PE X (.Call (.Name "isinstance" p) [a,.Name y p2] [] pos) (gE (b1 (o5 t) fa) true):=
 PE.imp (yG (aB2 t) hg hm hv (c7 ha (c7 (V5 gy my vy (v:=.ty t.nm) rfl hy hyd) jJ he2) he) (by decide) (by decide) he hpl) fun σ H Q ⟨ρ,d,E,h,q⟩=>by
  obtain ⟨x,h1,h⟩:=aR h;obtain ⟨k,h2,h⟩:=aR h;cases h;exact ⟨ρ,x,E,h1,fun v H1 s1 r1 _=>⟨v,x,k,rfl,r1,h2,(q.imp s1 id).bl⟩⟩
theorem XH {o:Expr} {fo:FE} {ro fr:Bool} {name:Str} {apos cpos:Pos} {f:D->List D->Res D} (pa:PlainAttrs T) (slot:Slot T name id) (hty:typeOf (.builtin id)=pure (.type "method_descriptor")) (hm:MtR X id (rm f fr)) (ho:PE X o (gE fo ro)) (ha:PA X (e::es) (gA fs rr))
  (hT:∀(d:D) (ds:List D) (r:D) (v:V) (H:Hp),f d ds=.ok r->Rep All H v d->tyV X.K T v H)
  (hbase:attributeBase o name X.env (eval o X.env)=eval o X.env:=by rfl)
  (hfew:((backTo cpos (starEach (e::es) X.env)).all (fun x=>!x.1)&&(backToKw cpos (keywordEach [] X.env)).all (fun x=>x.1.isSome)
   && decide ((e::es).length+([]:List Keyword).length+(if ([]:List Keyword).isEmpty then 0 else 1)<30))=true:=by rfl)
  (hline:(apos.endLine==cpos.line)=true:=by rfl) (hs:starEach (e::es) X.env=(false,eval e X.env)::starEach es X.env:=by rfl) (hplain:(backTo cpos (starEach es X.env)).any (·.1)=false:=by rfl) :
  PE X (.Call (.Attribute o name apos) (e::es) [] cpos) (gE (bM f fo fs) fr):=
 PE.imp (Q3 pa slot hty hm ho ha hbase hfew hline hs hplain) fun σ H Q ⟨ρ,d,E,h,q⟩=>by
  obtain ⟨x,h1,h⟩:=aR h;obtain ⟨ds,h2,h⟩:=aR h;exact ⟨ρ,x,E,h1,fun v H1 s1 r1 _=>⟨hT x ds d v H1 h r1,ρ,ds,E.same s1,h2,fun vs H2 s2 r2 _=>⟨x,ds,d,r1.same s2,r2,h,q.imp (s1.trans s2) fun z=>z⟩⟩⟩
noncomputable def spD (f:List D->Res D) (n:Nat):Sp:=fun vs H Q _=>∃ds d,ds.length=n/\a_ All H vs ds/\f ds=.ok d/\kR H d true Q
theorem wM {f:List D->Res D} {n:Nat} {vs:List V} {H:Hp} {Q:VK} {E:XK} (h:spD f n vs H Q E):vs.length=n:=by
 obtain ⟨ds,d,h1,r,_⟩:=h;rw [r.length,h1]
theorem XJ {k:Nat} {fad:Addr} {fd:FuncData} {ps:List Str} {f:List D->Res D} {n:Nat} (F:mC X.prog X.w X.K X.mg X.base CX0 k fad fd ps (spD f n)) (hr:jH k X.A) (hg:Gl X x) (hm:X.mg x=some (.ref fad)) (hk:PySem.W.keepIn X.K (.ref fad)=true) (hb:Binds X.K fd ps [])
  (ha:PA X (e::es) (gA fs rr)) (hdb:nDb x:=by decide) (he:starEach (e::es) X.env=(false,eval e X.env)::starEach es X.env:=by rfl) (hpl:(backTo pos (starEach es X.env)).any (·.1)=false:=by rfl) :
  PE X (.Call (.Name x p) (e::es) [] pos) (gE (aY (o6 n f) fs) true):=
 PE.imp (v6 F hr hg hm hk hb .nil DK ha hdb he hpl) fun σ H Q ⟨ρ,d,E,h,q⟩=>by
  obtain ⟨ds,h1,h⟩:=aR h;unfold o6 at h;split at h
  ·rename_i hl;exact ⟨ρ,ds,E,h1,fun vs H1 s1 r1 _=>⟨ds,d,of_decide_eq_true hl,by rw [List.append_nil];exact r1,h,q.imp s1 id⟩⟩
  ·cases h
end
end Mi
end
section
namespace Mi
open PySem L2 PySem.SeqAt PySem.Spec PyProof.Rows
def uE (x:Str):List D:=x.cps.toList.map fun c=>D.str ⟨#[c]⟩
def KY (xs:List D):List D:=xs.zipIdx.map fun p=>.tup [.int p.2,p.1]
def aDj (xs ys:List D):List D:=(xs.zip ys).map fun p=>.tup [p.1,p.2]
noncomputable def RL (m:Nat) (xs:List D):List D:=xs.zipIdx.map fun p=>.tup [.int ((m+p.2:Nat):Int),p.1]
variable [KFrag]
noncomputable def aEd (x:Str):It:=⟨fun i _=>i<x.cps.size,fun i H v H'=>H'=H/\∃c,x.cps[i]?=some c/\v=.str ⟨#[c]⟩,fun i _=>x.cps.size<=i⟩
noncomputable def Ite (K:PySem.W.Frag) (a:Addr):It:=
 ⟨fun i H=>∃xs x,SqL K H a xs/\xs[i]?=some x,fun i H v H'=>∃t x,(∀xs,SqL K H a xs->xs[i]?=some x)/\v=.ref t/\H t=none/\H'=upd H t (.tup [.int i,x]),fun i H=>∃xs,SqL K H a xs/\xs.length<=i⟩
noncomputable def aGl (K:PySem.W.Frag) (m:Nat) (a:Addr):It:=
 ⟨fun i H=>∃xs x,SqL K H a xs/\xs[i]?=some x,fun i H v H'=>∃t x,(∀xs,SqL K H a xs->xs[i]?=some x)/\v=.ref t/\H t=none/\H'=upd H t (.tup [.int ((m+i:Nat):Int),x]),fun i H=>∃xs,SqL K H a xs/\xs.length<=i⟩
noncomputable def Itz (a b:Addr):It :=
  ⟨fun i H => ∃xs ys x y, H a=some (.tup xs) /\ H b=some (.tup ys) /\ xs[i]?=some x /\ ys[i]?=some y, fun i H v H' => ∃t x y, (∀xs, H a=some (.tup xs) -> xs[i]?=some x) /\ (∀ys, H b=some (.tup ys) -> ys[i]?=some y) /\ v=.ref t /\ H t=none /\ H'=upd H t (.tup [x, y]),
   fun i H => ∃xs ys, H a=some (.tup xs) /\ H b=some (.tup ys) /\ ys.length=xs.length /\ xs.length <= i⟩
theorem RM {m:Nat} {xs:List D} {i:Nat}:(RL m xs)[i]?=(xs[i]?).map fun d=>.tup [.int ((m+i:Nat):Int),d]:=by
 unfold RL;rw [List.getElem?_map,List.getElem?_zipIdx,Nat.zero_add];cases xs[i]? <;> rfl
theorem RN {xs:List D} {i:Nat}:(KY xs)[i]?=(xs[i]?).map fun d=>.tup [.int i,d]:=by
 unfold KY;rw [List.getElem?_map,List.getElem?_zipIdx,Nat.zero_add];cases xs[i]? <;> rfl
theorem KZ (xs:List D):(KY xs).length=xs.length:=by simp [KY]
inductive ItQ (K:PySem.W.Frag) (P:Addr->Prop) (J:It) (H:Hp) (items:List D):Prop
 | lst (a:Addr) (e:J=Itl K a) (r:Rep P H (.ref a) (.lst items))
 | tup (a:Addr) (e:J=Itt K a) (r:Rep P H (.ref a) (.tup items))
 | rng (lo:Int) (n:Nat) (e:J=Itr lo n) (r:items=(List.range n).map fun (k:Nat)=>D.int (lo+k))
 | chs (x:Str) (e:J=aEd x) (r:items=uE x)
 | enm (a:Addr) (ds:List D) (e:J=Ite K a) (r:Rep P H (.ref a) (.lst ds)) (h:items=KY ds)
 | enf (m:Nat) (a:Addr) (ds:List D) (e:J=aGl K m a) (r:Rep P H (.ref a) (.lst ds)) (h:items=RL m ds)
 | scr (a:Addr) (hK:KFrag.K=K) (e:J=Itl K a) (r:Rep P H (.ref a) (.scr items))
 | zip (a b:Addr) (ds es:List D) (e:J=Itz a b) (r:Rep P H (.ref a) (.tup ds)) (q:Rep P H (.ref b) (.tup es)) (n:es.length=ds.length) (h:items=aDj ds es)
theorem ItQ.keep {K:PySem.W.Frag} {P P':Addr->Prop} {J:It} {H H':Hp} {items:List D} (h:ItQ K P J H items) (k:J5 P H H') (m:∀a,P a->P' a):ItQ K P' J H' items:=by
 cases h with
 | lst a e r=>exact .lst a e (r.keep k m)
 | tup a e r=>exact .tup a e (r.keep k m)
 | rng lo n e r=>exact .rng lo n e r
 | chs x e r=>exact .chs x e r
 | enm a ds e r h=>exact .enm a ds e (r.keep k m) h
 | enf m' a ds e r h=>exact .enf m' a ds e (r.keep k m) h
 | zip a b ds es e r q n h=>exact .zip a b ds es e (r.keep k m) (q.keep k m) n h
 | scr a hK e r=>exact .scr a hK e (r.keep k m)
theorem ItQ.stop {K:PySem.W.Frag} {P:Addr->Prop} {J:It} {H:Hp} {items:List D} {i:Nat} (h:ItQ K P J H items) (hi:items.length<=i):J.stop i H:=by
 cases h with
 | lst a e r=>
  subst e;obtain ⟨a',xs,e,hq,rr⟩:=r.fU (K:=K);cases e;exact ⟨xs,hq,by rw [rr.length];exact hi⟩
 | tup a e r=>
  subst e;obtain ⟨a',xs,e,hq,rr⟩:=r.eZ;cases e;exact ⟨xs,.of hq,by rw [rr.length];exact hi⟩
 | rng lo n e r=>
  subst e r;show n<=i;simpa using hi
 | chs x e r=>
  subst e r;show x.cps.size<=i;simpa [uE] using hi
 | enm a ds e r h=>
  subst e h;obtain ⟨a',xs,e,hq,rr⟩:=r.fU (K:=K);cases e;exact ⟨xs,hq,by rw [rr.length,<-KZ];exact hi⟩
 | enf m a ds e r h=>
  subst e h;obtain ⟨a',xs,e,hq,rr⟩:=r.fU (K:=K);cases e;exact ⟨xs,hq,by rw [rr.length];simpa [RL] using hi⟩
 | zip a b ds es e r q n h=>
  subst e h;obtain ⟨a',xs,e,hq,rr⟩:=r.eZ;cases e;obtain ⟨b',ys,e,hq2,rr2⟩:=q.eZ;cases e;have:(aDj ds es).length=ds.length:=by simp [aDj,n]
  exact ⟨xs,ys,hq,hq2,by rw [rr.length,rr2.length];exact n,by rw [rr.length];lia⟩
 | scr a hK e r=>
  subst e;cases r with
  | frz ee rr=>exact ⟨_,ee.sq hK,by rw [rr.length];exact hi⟩
theorem ItQ.go {K:PySem.W.Frag} {P:Addr->Prop} {J:It} {H:Hp} {items:List D} {i:Nat} {d:D} (h:ItQ K P J H items) (hi:items[i]?=some d):J.go i H/\∀x H',J.yld i H x H'->bQ H H'/\Rep P H' x d:=by
 cases h with
 | lst a e r=>
  subst e;obtain ⟨a',xs,e,hq,rr⟩:=r.fU (K:=K);cases e;obtain ⟨v,h1,h2⟩:=rr.get hi;refine ⟨⟨xs,v,hq,h1⟩,fun x H' ⟨e,hy⟩=>?_⟩;subst e;refine ⟨bQ.refl _,?_⟩;have:=hy xs hq;rw [h1] at this;cases this;exact h2
 | tup a e r=>
  subst e;obtain ⟨a',xs,e,hq,rr⟩:=r.eZ;cases e;obtain ⟨v,h1,h2⟩:=rr.get hi;refine ⟨⟨xs,v,.of hq,h1⟩,fun x H' ⟨e,hy⟩=>?_⟩;subst e;refine ⟨bQ.refl _,?_⟩;have:=hy xs (.of hq);rw [h1] at this;cases this;exact h2
 | rng lo n e r=>
  subst e r;have hlt:i<n:=by
   have:=(List.getElem?_eq_some_iff.mp hi).1;simpa using this
  refine ⟨hlt,fun x H' ⟨e,hy⟩=>?_⟩;subst e;have e2:D.int (lo+(i:Int))=d:=by simpa [hlt] using hi
  rw [hy,<-e2];exact ⟨bQ.refl _,.int _⟩
 | chs z e r=>
  subst e r;have hlt:i<z.cps.size:=by
   have:=(List.getElem?_eq_some_iff.mp hi).1;simpa [uE] using this
  refine ⟨hlt,fun x H' ⟨e,c,hc,hv⟩=>?_⟩;subst e hv;refine ⟨bQ.refl _,?_⟩;have e2:D.str ⟨#[c]⟩=d:=by
   unfold uE at hi;rw [List.getElem?_map,Array.getElem?_toList,hc] at hi;simpa using hi
  rw [<-e2];exact .str _
 | enm a ds e r h=>
  subst e h;obtain ⟨a',xs,e,hq,rr⟩:=r.fU (K:=K);cases e;rw [RN] at hi;cases hd:ds[i]? with
  | none=>rw [hd] at hi;cases hi
  | some y=>
   rw [hd] at hi;cases hi;obtain ⟨v,h1,h2⟩:=rr.get hd;refine ⟨⟨xs,v,hq,h1⟩,fun x H' ⟨t,u,hy,e1,e2,e3⟩=>?_⟩;subst e1 e3;have:=hy xs hq;rw [h1] at this;cases this;have sp:bQ H (upd H t (.tup [.int i,v])):=bQ.upd e2;exact ⟨sp,.tup aK (.cons (.int _) (.cons (h2.same sp) .nil))⟩
 | enf m a ds e r h=>
  subst e h;obtain ⟨a',xs,e,hq,rr⟩:=r.fU (K:=K);cases e;rw [RM] at hi;obtain ⟨y,hd,rfl⟩:=Option.map_eq_some_iff.mp hi;obtain ⟨v,h1,h2⟩:=rr.get hd;refine ⟨⟨xs,v,hq,h1⟩,fun x H' ⟨t,u,hy,e1,e2,e3⟩=>?_⟩;subst e1 e3;have:=hy xs hq;rw [h1] at this;cases this;have sp:bQ H (upd H t (.tup [.int ((m+i:Nat):Int),v])):=bQ.upd e2;exact ⟨sp,.tup aK (.cons (.int _) (.cons (h2.same sp) .nil))⟩
 | zip a b ds es e r q n h=>
  subst e h;obtain ⟨a',xs,e,hq,rr⟩:=r.eZ;cases e;obtain ⟨b',ys,e,hq2,rr2⟩:=q.eZ;cases e;unfold aDj at hi;rw [List.getElem?_map] at hi;obtain ⟨⟨x,y⟩,hd,rfl⟩:=Option.map_eq_some_iff.mp hi;rw [List.getElem?_zip_eq_some] at hd;obtain ⟨v,h1,h2⟩:=rr.get hd.1;obtain ⟨v',h3,h4⟩:=rr2.get hd.2;refine ⟨⟨xs,ys,v,v',hq,hq2,h1,h3⟩,fun x H' ⟨t,u,u',hy,hy',e1,e2,e3⟩=>?_⟩;subst e1 e3;have z:=hy xs hq;rw [h1] at z;cases z;have z:=hy' ys hq2;rw [h3] at z;cases z;have sp:bQ H (upd H t (.tup [v,v'])):=bQ.upd e2;exact ⟨sp,.tup aK (.cons (h2.same sp) (.cons (h4.same sp) .nil))⟩
 | scr a hK e r=>
  subst e;cases r with
  | @frz _ xs _ ee rr=>
   obtain ⟨v,h1,h2⟩:=rr.get hi;refine ⟨⟨xs,v,ee.sq hK,h1⟩,fun x H' ⟨e,hy⟩=>?_⟩;subst e;refine ⟨bQ.refl _,?_⟩;have:=hy xs (ee.sq hK);rw [h1] at this;cases this;exact h2
noncomputable def gI (K:PySem.W.Frag) (f:FI):TI:=fun σ H R=>∃ρ items k,ER H σ ρ/\f ρ=.ok (items,k)/\∀J H1,bQ H H1->ItQ K All J H1 items->(k=true->ItQ K (New H) J H1 items)->R J H1
noncomputable def gIV (K:PySem.W.Frag) (i:Nat):TI:=fun σ H R=>∃v d items,σ[i]?=some (some v)/\Rep All H v d/\o7 d=.ok items/\∀J,(∀P:Addr->Prop,Rep P H v d->ItQ K P J H items)->R J H
section
variable {X:Cx} {tg l a b:Expr} {fl fa:FE} {rl ra rr:Bool} {fs:FA} {p pos:Pos}
theorem zA {pins:List (Addr×Obj)} {s1:Shared} {σ:L2.St} {H1:Hp} {R:It->Hp->Prop} {v:V} {u:Value} {d:D} {items:List D} (I1:Inv X pins σ H1 s1) (r:Rep All H1 v d) (ru:RelV v u) (hi:o7 d=.ok items)
  (q:∀J,(∀P:Addr->Prop,Rep P H1 v d->ItQ X.K P J H1 items)->R J H1):wpAny (model X.prog X.w) X.A (pyIter u) (PIE X pins σ tg R) X.xe s1:=by
 cases d <;> simp only [o7] at hi <;> cases hi
 ·obtain ⟨a,xs,rfl,e,rr⟩:=r.eZ;cases ru;obtain ⟨its,rv,p,hz⟩:=I1.tuple (.of e);refine wpAny_pyIter_tuple (show s1.heap.IsTuple a its.toArray from p) ?_;refine ⟨s1.heap.objs.size,[s1.heap.objs.size],_,_,H1,rfl,I1.kept (t':=s1.toks) fun b o e=>Heap.get?_push_of_some _ e,BX a _,⟨_,Heap.get?_push_size _ rfl,rfl,rfl⟩,fun b hb=>?_,q _ fun P r=>.tup a rfl r⟩;have e:b=s1.heap.objs.size:=by simpa using hb
  subst e;exact I1.aDc (Nat.le_refl _) (I1.hok.fresh (Nat.le_refl _))
 ·obtain ⟨a,xs,rfl,e,rr⟩:=r.fU (K:=X.K);cases ru;obtain ⟨its,rv,p,hz⟩:=I1.list e;refine wpAny_pyIter_list p.isList ?_;refine ⟨s1.heap.objs.size,[s1.heap.objs.size],_,_,H1,rfl,I1.kept (t':=s1.toks) fun b o e=>Heap.get?_push_of_some _ e,IK a _,⟨_,Heap.get?_push_size _ rfl,rfl,rfl⟩,fun b hb=>?_,q _ fun P r=>.lst a rfl r⟩;have e:b=s1.heap.objs.size:=by simpa using hb
  subst e;exact I1.aDc (Nat.le_refl _) (I1.hok.fresh (Nat.le_refl _))
theorem aB3 {i:Nat} {x:Str} (hN:X.N[i]?=some x) (hv:Vis X.env.scope x) (hd:nDb x:=by decide) (hcd:nCd x:=by decide):PI X tg (.Name x pos) (gIV X.K i):=by
 intro pins s σ H R I ⟨v,d,items,hσ,r,hi,q⟩;exact thn (bN hN hv hd hcd pins s σ H (fun w H1=>w=v/\H1=H) I ⟨v,hσ,rfl,rfl⟩) fun u s1 ⟨w,H1,I1,ru,e1,e2⟩=>by
  subst e1 e2;exact zA I1 r ru hi q
theorem qM {i:Int} (h:lK i=true):-(2 ^ 62)<=i/\i<2 ^ 62:=by
 simp only [lK,Bool.and_eq_true,decide_eq_true_eq] at h;exact h
theorem PI.imp {w w':TI} (h:PI X tg l w) (i:∀σ H R,w' σ H R->w σ H R):PI X tg l w':=fun pins s σ H R I q=>h pins s σ H R I (i σ H R q)
theorem lO (hg:Gl X "range") (hm:X.mg "range" = none) (ha:PA X [a] (gA fs rr)) (hs:starEach [a] X.env=[(false,eval a X.env)]:=by rfl):PI X tg (.Call (.Name "range" p) [a] [] pos) (gI X.K (jQ fs gW)):=
 PI.imp (tD hg hm ha hs) fun σ H R ⟨ρ,items,k,E,h,q⟩=>by
  obtain ⟨xs,h1,h⟩:=aR h;unfold gW at h;split at h
  ·split at h
   ·rename_i hb;cases h;obtain ⟨b1,b2⟩:=qM hb;refine ⟨ρ,_,E,h1,fun vs H1 s1 r1 _=>?_⟩;cases r1 with
    | cons r t=>
     cases t;cases r;exact ⟨_,rfl,b1,b2,q _ H1 s1 (.rng 0 _ rfl rfl) fun _=>.rng 0 _ rfl rfl⟩
   ·cases h
  ·cases h
end
theorem RQ (n:Nat) (ρ bs:List D) (i:Nat) (h:i<n):(yM n ρ++bs).getD i .uD=ρ.getD i .uD:=by
 rw [List.getD_eq_getElem?_getD,List.getElem?_append_left (by simp [yM];exact h)];simp [yM,h]
theorem zB (n:Nat) (ρ:List D):(yM n ρ).length=n:=by simp [yM]
noncomputable def TgC (g:TG) (t:D->Res (List D)) (n m:Nat):Prop:=∀(v:V) (d:D) (bs:List D) (σ:L2.St) (H:Hp) (Q:L2.St->Hp->Prop),σ.length=n->Rep All H v d->t d=.ok bs->
 (∀σ2,Ext (σ++List.replicate m none) σ2->(∀j b,bs[j]?=some b->∃w,σ2[n+j]?=some (some w)/\Rep All H w b)->Q σ2 H)->g v (σ++List.replicate m none) H Q
theorem ER.ext {H:Hp} {σ σ2:L2.St} {ρ bs:List D} {n m:Nat} (E:ER H σ ρ) (hn:σ.length=n) (x:Ext (σ++List.replicate m none) σ2) (hb:∀j b,bs[j]?=some b->∃w,σ2[n+j]?=some (some w)/\Rep All H w b):ER H σ2 (yM n ρ++bs):=by
 intro i hi;by_cases h:i<n
 ·rw [RQ n ρ bs i h] at hi ⊢;obtain ⟨v,h1,h2⟩:=E i hi;exact ⟨v,x.2 i v (by rw [List.getElem?_append_left (by rw [hn];exact h)];exact h1),h2⟩
 ·have e:(yM n ρ++bs).getD i .uD=bs.getD (i-n) .uD:=by
   rw [List.getD_eq_getElem?_getD,List.getElem?_append_right (by rw [zB];lia),zB,<-List.getD_eq_getElem?_getD]
  rw [e] at hi ⊢;cases hq:bs[i-n]? with
  | none=>rw [List.getD_eq_getElem?_getD,hq] at hi;exact absurd rfl hi
  | some b=>
   obtain ⟨w,h1,h2⟩:=hb (i-n) b hq;rw [List.getD_eq_getElem?_getD,hq];exact ⟨w,by rw [<-h1];congr 1;lia,h2⟩
theorem mK {K:PySem.W.Frag} {it:FI} {t:D->Res (List D)} {c:FT} {f:FE} {k:Bool} {n m:Nat} {g:TG} {tc:TT} (tg:TgC g t n m) (hc:∀σ H Q,gT c σ H Q->tc σ H Q) {σ:L2.St} {H:Hp} {Q:VK} (hn:σ.length=n) (h:gE (cH n it t c f k) true σ H Q) :
  tW (gI K it) g tc (gE f k) m σ H Q:=by
 obtain ⟨ρ,d,E,h,q⟩:=h;obtain ⟨⟨items,kk⟩,h1,h⟩:=aR h;split at h
 ·rename_i hlim;obtain ⟨ys,h2,h⟩:=aR h;cases h;refine ⟨ρ,items,kk,E,h1,fun J H1 s1 hJ _ p hp=>?_⟩;have hp0:H p=none:=s1.free hp;refine ⟨fun i n' vs H'=>n'=items.length-i/\i<=items.length/\H' p=some (.lst vs)/\bQ H1 H'/\∃acc,acc.length<=i/\a_ (fun a=>H a=none/\a≠p) H' vs acc/\nY (wA n t c f k ρ) acc (items.drop i)=.ok ys,⟨items.length,?_⟩,?_⟩
  ·exact ⟨rfl,Nat.zero_le _,aK,bQ.upd hp,[],Nat.zero_le _,.nil,h2⟩
  ·rintro i n' vs H' ⟨rfl,hi,hH,sm,acc,hal,racc,hf⟩;refine ⟨hH,?_⟩;have hJ':ItQ K All J H' items:=hJ.keep (.same sm) fun _ z=>z
   rcases Nat.lt_or_ge i items.length with hlt|hge
   ·refine .inr ?_;have e:items[i]?=some items[i]:=List.getElem?_eq_getElem hlt;obtain ⟨g1,g2⟩:=hJ'.go e;have hl1:items.length<=lim:=of_decide_eq_true hlim;refine ⟨g1,?_,fun x H2 hy=>?_⟩
    ·rw [racc.length];exact Nat.lt_of_le_of_lt hal (Nat.lt_of_lt_of_le hlt (Nat.le_trans hl1 (by rw [sizeLine_eq];decide)))
    ·obtain ⟨sH,rx⟩:=g2 x H2 hy;have hH:=sH p _ hH;have sm:=sm.trans sH;have racc:=racc.same sH;rw [List.drop_eq_getElem_cons hlt] at hf;obtain ⟨acc2,hs,hf⟩:=aR hf;obtain ⟨bs,hb,hs⟩:=aR hs;obtain ⟨ok,hok,hs⟩:=aR hs;refine tg x items[i] bs σ H2 _ hn rx hb fun σ2 hx hbs=>⟨hx,hc _ _ _ ?_⟩
     have E2:ER H2 σ2 (yM n ρ++bs):=(E.same (s1.trans sm)).ext hn hx hbs;refine ⟨_,ok,E2,hok,fun H4 s4=>?_⟩;cases ok with
     | true=>
      rw [if_pos rfl];rw [if_pos rfl] at hs;obtain ⟨y,hy2,hs⟩:=aR hs;split at hs
      ·rename_i hk;cases hs;refine ⟨_,y,E2.same s4,hy2,fun w H5 s5 r5 n5=>⟨s5 p _ (s4 p _ hH),items.length-(i+1),by lia,rfl,hlt,aK,?_,acc++[y],?_,?_,hf⟩⟩
       ·exact fun b o e=>by
         rw [bG (b8 e hp)];exact s5 b o (s4 b o (sm b o e))
       ·rw [List.length_append,List.length_singleton];lia
       ·have hp5:H5 p=some (.lst vs):=s5 p _ (s4 p _ hH);have ry:Rep (fun a=>H a=none/\a≠p) H5 w y:=by
         rw [Bool.or_eq_true] at hk;rcases hk with hk|hk
         ·exact (n5 hk).mono fun a ha=>⟨((s1.trans sm).trans s4).free ha,fun z=>by subst z;have h0:=s4 _ _ hH;rw [show H4 _=none from ha] at h0;cases h0⟩
         ·exact r5.bI hk
        have all:a_ (fun a=>H a=none/\a≠p) H5 (vs++[w]) (acc++[y]):=(racc.same (s4.trans s5)).snoc ry;refine all.keep (fun b o e hb=>?_) fun _ z=>z
        rw [bG]
        ·exact e
        ·rcases hb with hb|hb
         ·exact hb.2
         ·intro z;subst z;rw [hp5] at e;cases e;cases hb
      ·cases hs
     | false=>
      rw [if_neg (by simp)];rw [if_neg (by simp)] at hs;cases hs;exact ⟨items.length-(i+1),by lia,rfl,hlt,s4 p _ hH,sm.trans s4,acc,by lia,racc.same s4,hf⟩
   ·refine .inl ⟨hJ'.stop hge,?_⟩;rw [List.drop_eq_nil_of_le hge] at hf;cases hf;exact q _ _ (s1.trans sm) (.lst hH trivial racc.all) fun _=>.lst hH hp0 (racc.mono fun a z=>z.1)
 ·cases h
noncomputable def gIx:List Nat->TGs
 | []=>aFo
 | i::is=>aA5 (jW i) (gIx is)
noncomputable def FQ:List Nat->List V->L2.St->L2.St
 | i::is,v::vs,σ=>FQ is vs (σ.set i (some v))
 | _,_,σ=>σ
theorem wN {H:Hp} {Q:L2.St->Hp->Prop}:∀(is:List Nat) (vs:List V) (σ:L2.St),vs.length=is.length->Q (FQ is vs σ) H->gIx is vs σ H Q
 | [],[],σ,_,q=>⟨rfl,q⟩
 | i::is,v::vs,σ,h,q=>⟨v,vs,rfl,wN is vs (σ.set i (some v)) (by simpa using h) q⟩
 | [],_::_,_,h,_=>by simp at h
 | _::_,[],_,h,_=>by simp at h
theorem dU (n:Nat):TgC (jW n) jV n 1:=by
 intro v d bs σ H Q hn r h q;cases h;have hl:(σ++List.replicate 1 (none:Option V)).length=n+1:=by simp [hn]
 refine q _ ⟨by simp,fun i w hi=>?_⟩ fun j b hj=>?_
 ·have:i≠n:=fun z=>by
   subst z;rw [List.getElem?_append_right (by lia)] at hi;simp [hn] at hi
  rw [List.getElem?_set_ne (Ne.symm this)];exact hi
 ·have e:j=0:=by
   have:=(List.getElem?_eq_some_iff.mp hj).1;simp at this;exact this
  subst e;have e:d=b:=by simpa using hj
  subst e;exact ⟨v,by rw [Nat.add_zero,List.getElem?_set_self (by lia)],r⟩
section
variable {X:Cx} {scope:Scope} {ownN:List Str} {elt iter tg c:Expr} {it:FI} {t:D->Res (List D)} {g:TG} {gc:FT} {fe:FE} {re:Bool} {pos:Pos}
theorem XM {n m:Nat} (S:bY X.N X.env.scope scope ownN) (hn:X.N.length=n) (hm:ownN.length=m) (hcalm:X.calm=true) (hi:PI X tg iter (gI X.K it)) (ht:TgC g t n m) (hg:∀X',cC X X' scope ownN->PG X' tg g) (he:∀X',cC X X' scope ownN->PE X' elt (gE fe re))
  (hs:∀x,foldedSetIterable iter X.env x=pure x):PE X (.ListComp elt [⟨tg,iter,[],0⟩] scope pos) (gE (cH n it t d_ fe re) true):=by
 intro pins s σ H Q I h;subst hm;exact RG S hcalm hi hg he hs pins s σ H Q I (mK ht (fun σ H Q h=>by obtain ⟨ρ,b,E,h,q⟩:=h;cases h;exact q H (bQ.refl H)) (I.len.trans hn) h)
theorem K1 {n m:Nat} (S:bY X.N X.env.scope scope ownN) (hn:X.N.length=n) (hm:ownN.length=m) (hcalm:X.calm=true) (hi:PI X tg iter (gI X.K it)) (ht:TgC g t n m) (hg:∀X',cC X X' scope ownN->PG X' tg g) (hc:∀X',cC X X' scope ownN->PT X' c (gT gc)) (he:∀X',cC X X' scope ownN->PE X' elt (gE fe re))
  (hs:∀x,foldedSetIterable iter X.env x=pure x):PE X (.ListComp elt [⟨tg,iter,[c],0⟩] scope pos) (gE (cH n it t gc fe re) true):=by
 intro pins s σ H Q I h;subst hm;exact J8 S hcalm hi hg hc he hs pins s σ H Q I (mK ht (fun σ H Q h=>h) (I.len.trans hn) h)
end
end Mi
end
section
namespace Mi
open PySem L2 PySem.SeqAt PySem.Spec PyProof.Rows
variable [KFrag]
mutual
theorem Rep.dom {P:Addr->Prop} {H:Hp}:∀{v:V} {d:D},Rep P H v d->Rep (fun a=>P a/\H a≠none) H v d
 | _,_,.non=>.non
 | _,_,.bl b=>.bl b
 | _,_,.int i=>.int i
 | _,_,.str x=>.str x
 | _,_,.tup e r=>.tup e (a_.dom r)
 | _,_,.lst e p r=>.lst e ⟨p,by rw [e];simp⟩ (a_.dom r)
 | _,_,.cel e p r=>.cel e ⟨p,by rw [e];simp⟩ (a_.dom r)
 | _,_,.frz e r=>.frz e (a_.dom r)
 | _,_,.dK e p r n=>.dK e ⟨p,by rw [e];simp⟩ (jA.dom r) n
 | _,_,.dT e p r n=>.dT e ⟨p,by rw [e];simp⟩ (jR.dom r) n
 | _,_,.fdK e r n=>.fdK e (jA.dom r) n
 | _,_,.fdT e r n=>.fdT e (jR.dom r) n
 | _,_,.exc n e q=>.exc n e q
 | _,_,.ins n e q=>.ins n e (lN.dom q)
theorem lN.dom {P:Addr->Prop} {H:Hp}:∀{v:List (Str×V)} {d:List (Str×D)},lN P H v d->lN (fun a=>P a/\H a≠none) H v d
 | _,_,.nil=>.nil
 | _,_,.cons r t=>.cons (Rep.dom r) (lN.dom t)
theorem a_.dom {P:Addr->Prop} {H:Hp}:∀{v:List V} {d:List D},a_ P H v d->a_ (fun a=>P a/\H a≠none) H v d
 | _,_,.nil=>.nil
 | _,_,.cons r t=>.cons (Rep.dom r) (a_.dom t)
theorem jA.dom {P:Addr->Prop} {H:Hp}:∀{v:List (Key×V)} {d:List (D×D)},jA P H v d->jA (fun a=>P a/\H a≠none) H v d
 | _,_,.nil=>.nil
 | _,_,.cons r t=>.cons (Rep.dom r) (jA.dom t)
theorem jR.dom {P:Addr->Prop} {H:Hp}:∀{v:List (List Key×V)} {d:List (D×D)},jR P H v d->jR (fun a=>P a/\H a≠none) H v d
 | _,_,.nil=>.nil
 | _,_,.cons r t=>.cons (Rep.dom r) (jR.dom t)
end
theorem jA.bI {P P':Addr->Prop} {H:Hp}:∀{v:List (Key×V)} {d:List (D×D)},jA P H v d->D.aN (d.map (·.2))=true->jA P' H v d
 | _,_,.nil,_=>.nil
 | _,_,.cons r t,h=>by
  rw [List.map_cons,D.aN,Bool.and_eq_true] at h;exact .cons (r.bI h.1) (t.bI h.2)
theorem jR.bI {P P':Addr->Prop} {H:Hp}:∀{v:List (List Key×V)} {d:List (D×D)},jR P H v d->D.aN (d.map (·.2))=true->jR P' H v d
 | _,_,.nil,_=>.nil
 | _,_,.cons r t,h=>by
  rw [List.map_cons,D.aN,Bool.and_eq_true] at h;exact .cons (r.bI h.1) (t.bI h.2)
theorem Rep.n_ {P P':Addr->Prop} {H:Hp} {a:Addr} {d:D} (r:Rep P H (.ref a) d) (h:inner d=true) (hp:P' a):Rep P' H (.ref a) d:=by
 cases r with
 | tup e r=>cases h
 | lst e p r=>exact .lst e hp (r.bI h)
 | cel e p r=>exact .cel e hp (r.bI h)
 | frz e r=>cases h
 | dK e p r n=>exact .dK e hp (r.bI h) n
 | dT e p r n=>exact .dT e hp (r.bI h) n
 | fdK e r n=>cases h
 | fdT e r n=>cases h
 | exc n e q=>cases h
 | ins n e q=>cases h
noncomputable def Own (own:Nat->Bool) (σ:L2.St) (a:Addr):Prop:=∃i,own i=true/\σ[i]?=some (some (.ref a))
structure ES (own:Nat->Bool) (H:Hp) (σ:L2.St) (ρ:List D):Prop where
 len:σ.length=ρ.length
 at_:∀i,ρ.getD i .uD≠.uD->∃v,σ[i]?=some (some v)/\(own i=false->Rep (fun a=>¬Own own σ a) H v (ρ.getD i .uD))
 own:∀i v,own i=true->σ[i]?=some (some v)->∃a o,v=.ref a/\Rep All H v (ρ.getD i .uD)/\inner (ρ.getD i .uD)=true/\H a=some o/\HB o=true/\∀j,own j=true->σ[j]?=some (some (.ref a))->j=i
variable {own:Nat->Bool}
theorem ES.er {H:Hp} {σ:L2.St} {ρ:List D} (e:ES own H σ ρ):ER H σ ρ:=fun i hi=>by
 obtain ⟨v,h1,h2⟩:=e.at_ i hi;cases ho:own i with
 | false=>exact ⟨v,h1,(h2 ho).all⟩
 | true=>
  obtain ⟨a,o,_,h3,_⟩:=e.own i v ho h1;exact ⟨v,h1,h3⟩
theorem ES.live {H:Hp} {σ:L2.St} {ρ:List D} (e:ES own H σ ρ) {a:Addr} (h:Own own σ a):∃o,H a=some o/\HB o=true:=by
 obtain ⟨i,hi,hs⟩:=h;obtain ⟨b,o,eb,_,_,h3,h4,_⟩:=e.own i _ hi hs;cases eb;exact ⟨o,h3,h4⟩
theorem ES.same {H H':Hp} {σ:L2.St} {ρ:List D} (e:ES own H σ ρ) (s:bQ H H'):ES own H' σ ρ:=by
 refine ⟨e.len,fun i hi=>?_,fun i v hi hv=>?_⟩
 ·obtain ⟨v,h1,h2⟩:=e.at_ i hi;exact ⟨v,h1,fun ho=>(h2 ho).same s⟩
 ·obtain ⟨a,o,h1,h2,h3,h4,h5,h6⟩:=e.own i v hi hv;exact ⟨a,o,h1,h2.same s,h3,s _ _ h4,h5,h6⟩
noncomputable def KU (own:Nat->Bool) (σ:L2.St) (H:Hp) (σ':L2.St) (H':Hp):Prop:=∀a o,H a=some o->¬Own own σ a->H' a=some o/\¬Own own σ' a
theorem KU.trans {σ σ1 σ2:L2.St} {H H1 H2:Hp} (a:KU own σ H σ1 H1) (b:KU own σ1 H1 σ2 H2):KU own σ H σ2 H2:=fun c o e n=>let ⟨e1,n1⟩:=a c o e n;b c o e1 n1
theorem KU.same {σ:L2.St} {H H':Hp} (s:bQ H H'):KU own σ H σ H':=fun a o e n=>⟨s a o e,n⟩
theorem KU.keep {σ σ':L2.St} {H H':Hp} {ρ:List D} (k:KU own σ H σ' H') (e:ES own H σ ρ):J5 (fun a=>¬Own own σ a) H H':=fun a o h hp=>by
 by_cases ho:Own own σ a
 ·obtain ⟨o',h1,h2⟩:=e.live ho;rw [h] at h1;cases h1;rcases hp with hp|hp
  ·exact absurd ho hp
  ·rw [h2] at hp;cases hp
 ·exact (k a o h ho).1
theorem KU.rep {σ σ':L2.St} {H H':Hp} {ρ:List D} (k:KU own σ H σ' H') (e:ES own H σ ρ) {v:V} {d:D} (r:Rep (fun a=>¬Own own σ a) H v d):Rep (fun a=>¬Own own σ' a) H' v d:=by
 refine r.dom.keep (P':=fun a=>¬Own own σ' a) (fun a o h hp=>?_) fun a ⟨h1,h2⟩=>?_
 ·refine k.keep e a o h (hp.imp (fun z=>z.1) id)
 ·cases q:H a with
  | none=>exact absurd q h2
  | some o=>exact (k a o q h1).2
noncomputable def kRt (own:Nat->Bool) (D:Ends) (σ:L2.St) (H:Hp) (d:Mi.D):Prop:=if own rtX=true then ∃d0 ρ',d=.tup (d0::ρ')/\∀v σ' H',KU own σ H σ' H'->ES own H' σ' ρ'->Rep (fun a=>(Own own σ a\/H a=none)/\∀i b xs,ρ'.getD i .uD=.cel b xs->a≠b) H' v d0->D.rt v H'
  else ∀v H',(∀a o,H a=some o->¬Own own σ a->H' a=some o)->Rep (fun a=>Own own σ a\/H a=none) H' v d->D.rt v H'
theorem kRt.old {own:Nat->Bool} {D:Ends} {σ:L2.St} {H:Hp} {d:Mi.D} (h:kRt own D σ H d) (hx:own rtX=false):∀v H',(∀a o,H a=some o->¬Own own σ a->H' a=some o)->Rep (fun a=>Own own σ a\/H a=none) H' v d->D.rt v H':=by
 unfold kRt at h;rw [if_neg (by rw [hx];simp)] at h;exact h
theorem kRt.mk {own:Nat->Bool} {D:Ends} {σ:L2.St} {H:Hp} {d:Mi.D} (hx:own rtX=false) (h:∀v H',(∀a o,H a=some o->¬Own own σ a->H' a=some o)->Rep (fun a=>Own own σ a\/H a=none) H' v d->D.rt v H'):kRt own D σ H d:=by
 unfold kRt;rw [if_neg (by rw [hx];simp)];exact h
noncomputable def kS (own:Nat->Bool) (D:Ends) (σ:L2.St) (H:Hp):Fl->Prop
 | .nx ρ=>∀σ' H',KU own σ H σ' H'->ES own H' σ' ρ->D.nx σ' H'
 | .bk ρ=>∀σ' H',KU own σ H σ' H'->ES own H' σ' ρ->D.bk σ' H'
 | .ct ρ=>∀σ' H',KU own σ H σ' H'->ES own H' σ' ρ->D.ct σ' H'
 | .rt d=>kRt own D σ H d
theorem kS.step {D:Ends} {σ σ':L2.St} {H H':Hp} {fl:Fl} (k:KU own σ H σ' H') (h:kS own D σ H fl):kS own D σ' H' fl:=by
 cases fl with
 | nx ρ=>exact fun σ2 H2 k2 e=>h σ2 H2 (k.trans k2) e
 | bk ρ=>exact fun σ2 H2 k2 e=>h σ2 H2 (k.trans k2) e
 | ct ρ=>exact fun σ2 H2 k2 e=>h σ2 H2 (k.trans k2) e
 | rt d=>
  have old:∀a,(Own own σ' a\/H' a=none)->Own own σ a\/H a=none:=fun a ha=>by
   cases q:H a with
   | none=>exact .inr rfl
   | some o=>
    refine .inl (Classical.byContradiction fun n=>?_);obtain ⟨e1,n1⟩:=k a o q n;rcases ha with ha|ha
    ·exact n1 ha
    ·rw [e1] at ha;cases ha
  have h:kRt own D σ H d:=h;show kRt own D σ' H' d;unfold kRt at h ⊢;by_cases hx:own rtX=true
  ·rw [if_pos hx] at h ⊢;obtain ⟨d0,ρ',e,g⟩:=h;exact ⟨d0,ρ',e,fun v σ2 H2 k2 E2 r=>g v σ2 H2 (k.trans k2) E2 (r.mono fun a ha=>⟨old a ha.1,ha.2⟩)⟩
  ·rw [if_neg hx] at h ⊢;exact fun v H2 hk r=>h v H2 (fun a o e n=>let ⟨e1,n1⟩:=k a o e n;hk a o e1 n1) (r.mono fun a ha=>old a ha)
noncomputable def tS (own:Nat->Bool) (f:FS):TS:=fun D σ H=>∃ρ fl,ES own H σ ρ/\f ρ=.ok fl/\kS own D σ H fl
theorem PS.imp {X:Cx} {st:Stmt} {t t':TS} (h:PS X st t) (i:∀D σ H,t' D σ H->t D σ H):PS X st t':=fun pins s σ H D I q=>h pins s σ H D I (i D σ H q)
theorem PSs.imp {X:Cx} {st:List Stmt} {t t':TS} (h:PSs X st t) (i:∀D σ H,t' D σ H->t D σ H):PSs X st t':=fun pins s σ H D I q=>h pins s σ H D I (i D σ H q)
section
variable {X:Cx} {a b c e:Expr} {pos pos':Pos} {fa fb fc fe:FE} {ra rb rc re:Bool} {ga gb gc:FT} {f g:FS} {st:Stmt} {rest s1 s2:List Stmt}
theorem fV:PSs X [] (tS own o8):=PSs.imp vY fun D σ H ⟨ρ,fl,E,h,q⟩=>by
 cases h;exact q σ H (fun a o e n=>⟨e,n⟩) E
theorem XN {D:Ends} {σ:L2.St} {H:Hp} (h:tS own (bA f g) D σ H):T6 (tS own f) (tS own g) D σ H:=by
 obtain ⟨ρ,fl,E,h,q⟩:=h;obtain ⟨r,h1,h2⟩:=aR h;refine ⟨ρ,r,E,h1,?_⟩;cases r with
 | nx ρ'=>exact fun σ' H' k E'=>⟨ρ',fl,E',h2,q.step k⟩
 | bk ρ'=>cases h2;exact q
 | ct ρ'=>cases h2;exact q
 | rt d=>cases h2;exact q
theorem aG (h1:PS X st (tS own f)) (h2:PSs X rest (tS own g)):PSs X (st::rest) (tS own (bA f g)):=PSs.imp (cN h1 h2) fun _ _ _=>XN
theorem aX (h1:PS X st (tS own f)):PSs X [st] (tS own f):=oG h1
theorem lU (hc:PT X c (gT gc)) (ha:PSs X s1 (tS own f)) (hb:PSs X s2 (tS own g)):PS X (.If c s1 s2 pos) (tS own (sIf gc f g)):=PS.imp (V7 hc ha hb) fun D σ H ⟨ρ,fl,E,h,q⟩=>by
 obtain ⟨k,h1,h2⟩:=aR h;refine ⟨ρ,k,E.er,h1,fun H' s=>?_⟩;cases k with
 | true=>rw [if_pos rfl];rw [if_pos rfl] at h2;exact ⟨ρ,fl,E.same s,h2,q.step (.same s)⟩
 | false=>rw [if_neg (by simp)];rw [if_neg (by simp)] at h2;exact ⟨ρ,fl,E.same s,h2,q.step (.same s)⟩
theorem j8 (he:PE X e (gE fe re)) (hx:own rtX=false:=by rfl):PS X (.Return (some e) pos) (tS own (o9 fe re)):=PS.imp (qG he) fun D σ H ⟨ρ,fl,E,h,q⟩=>by
 obtain ⟨d,h1,h2⟩:=aR h;split at h2
 ·rename_i hk;cases h2;refine ⟨ρ,d,E.er,h1,fun v H' s r n=>q.old hx v H' (fun a o e _=>s a o e) ?_⟩;rw [Bool.or_eq_true] at hk;rcases hk with hk|hk
  ·exact (n hk).mono fun a ha=>.inr ha
  ·exact r.bI hk
 ·cases h2
theorem XQ {i:Nat} {x:Str} (ho:own i=true) (hN:X.N[i]?=some x) (hv:Vis X.env.scope x) (hd:nDb x:=by decide) (hcd:nCd x:=by decide) (hx:own rtX=false:=by rfl):PS X (.Return (some (.Name x pos')) pos) (tS own (aAo i)):=
 PS.imp (qG (bN hN hv hd hcd)) fun D σ H ⟨ρ,fl,E,h,q⟩=>by
 obtain ⟨d,h1,h2⟩:=aR h;cases h2;obtain ⟨v,hv,r,e⟩:=E.er.var h1;obtain ⟨a,o,rfl,r2,hin,_⟩:=E.own i v ho hv;rw [e] at hin;exact ⟨_,hv,q.old hx _ H (fun a o e _=>e) (r.n_ hin (.inl ⟨i,ho,hv⟩))⟩
theorem jC {σ:L2.St} {i:Nat} {v:V} (ho:own i=false) (a:Addr):Own own (σ.set i (some v)) a↔Own own σ a:=by
 constructor
 ·rintro ⟨j,hj,e⟩;have:i≠j:=fun z=>by subst z;rw [ho] at hj;cases hj
  rw [List.getElem?_set_ne this] at e;exact ⟨j,hj,e⟩
 ·rintro ⟨j,hj,e⟩;have:i≠j:=fun z=>by subst z;rw [ho] at hj;cases hj
  exact ⟨j,hj,by rw [List.getElem?_set_ne this];exact e⟩
theorem cW {ρ:List D} {i j:Nat} {d:D}:(ρ.set i d).getD j .uD=if i=j/\i<ρ.length then d else ρ.getD j .uD:=by
 rw [List.getD_eq_getElem?_getD,List.getD_eq_getElem?_getD,List.getElem?_set];by_cases h:i=j
 ·subst h;by_cases h2:i<ρ.length
  ·simp [h2]
  ·simp [h2]
 ·simp [h]
theorem ES.set {H:Hp} {σ:L2.St} {ρ:List D} {i:Nat} {v:V} {d:D} (E:ES own H σ ρ) (ho:own i=false) (r:Rep (fun a=>¬Own own σ a) H v d):ES own H (σ.set i (some v)) (ρ.set i d):=by
 have hO:(fun a=>¬Own own (σ.set i (some v)) a)=fun a=>¬Own own σ a:=funext fun a=>by rw [jC ho]
 refine ⟨by simp [E.len],fun j hj=>?_,fun j w hj hw=>?_⟩
 ·rw [cW] at hj ⊢;rw [hO];by_cases h:i=j/\i<ρ.length
  ·rw [if_pos h];obtain ⟨rfl,hl⟩:=h;exact ⟨v,by rw [List.getElem?_set_self (by rw [E.len];exact hl)],fun _=>r⟩
  ·rw [if_neg h] at hj ⊢;obtain ⟨w,h1,h2⟩:=E.at_ j hj;by_cases hij:i=j
   ·subst hij;have:i<σ.length:=(List.getElem?_eq_some_iff.mp h1).1;rw [E.len] at this;exact absurd ⟨rfl,this⟩ h
   ·exact ⟨w,by rw [List.getElem?_set_ne hij];exact h1,h2⟩
 ·have hij:i≠j:=fun z=>by subst z;rw [ho] at hj;cases hj
  rw [List.getElem?_set_ne hij] at hw;rw [cW,if_neg fun z=>hij z.1];obtain ⟨a,o,h1,h2,h3,h4,h5,h6⟩:=E.own j w hj hw;refine ⟨a,o,h1,h2,h3,h4,h5,fun k hk hs=>h6 k hk ?_⟩;have hik:i≠k:=fun z=>by subst z;rw [ho] at hk;cases hk
  rwa [List.getElem?_set_ne hik] at hs
theorem ES.aGm {H H':Hp} {σ:L2.St} {ρ:List D} {i:Nat} {a:Addr} {o:HO} {d:D} (E:ES own H σ ρ) (s:bQ H H') (ho:own i=true) (hn:H a=none) (r:Rep All H' (.ref a) d) (hin:inner d=true) (ha:H' a=some o) (hm:HB o=true) :
  ES own H' (σ.set i (some (.ref a))) (ρ.set i d)/\KU own σ H (σ.set i (some (.ref a))) H':=by
 have hO:∀b,H b≠none->¬Own own σ b->¬Own own (σ.set i (some (.ref a))) b:=fun b hb n ⟨j,hj,e⟩=>by
  by_cases hij:i=j
  ·subst hij;by_cases hl:i<σ.length
   ·rw [List.getElem?_set_self hl] at e;cases e;exact hb hn
   ·rw [List.getElem?_set,if_pos rfl,if_neg hl] at e;cases e
  ·rw [List.getElem?_set_ne hij] at e;exact n ⟨j,hj,e⟩
 refine ⟨⟨by simp [E.len],fun j hj=>?_,fun j w hj hw=>?_⟩,fun b ob e n=>⟨s b ob e,hO b (by rw [e];simp) n⟩⟩
 ·rw [cW] at hj ⊢;by_cases h:i=j/\i<ρ.length
  ·rw [if_pos h];obtain ⟨rfl,hl⟩:=h;exact ⟨.ref a,by rw [List.getElem?_set_self (by rw [E.len];exact hl)],fun z=>by rw [ho] at z;cases z⟩
  ·rw [if_neg h] at hj ⊢;obtain ⟨w,h1,h2⟩:=E.at_ j hj;by_cases hij:i=j
   ·subst hij;have:i<σ.length:=(List.getElem?_eq_some_iff.mp h1).1;rw [E.len] at this;exact absurd ⟨rfl,this⟩ h
   ·exact ⟨w,by rw [List.getElem?_set_ne hij];exact h1,fun hj=>((h2 hj).dom.same s).mono fun b ⟨n,hb⟩=>hO b hb n⟩
 ·by_cases hij:i=j
  ·subst hij;have hl:i<σ.length:=by
    have:=(List.getElem?_eq_some_iff.mp hw).1;simpa using this
   rw [List.getElem?_set_self hl] at hw;cases hw;rw [cW,if_pos ⟨rfl,by rw [<-E.len];exact hl⟩];refine ⟨a,o,rfl,r,hin,ha,hm,fun k hk hs=>?_⟩;by_cases hik:i=k
   ·exact hik.symm
   ·rw [List.getElem?_set_ne hik] at hs;obtain ⟨o',h1,_⟩:=E.live ⟨k,hk,hs⟩;rw [hn] at h1;cases h1
  ·rw [List.getElem?_set_ne hij] at hw;rw [cW,if_neg fun z=>hij z.1];obtain ⟨b,ob,h1,h2,h3,h4,h5,h6⟩:=E.own j w hj hw;refine ⟨b,ob,h1,h2.same s,h3,s _ _ h4,h5,fun k hk hs=>?_⟩;by_cases hik:i=k
   ·subst hik;by_cases hl:i<σ.length
    ·rw [List.getElem?_set_self hl] at hs;cases hs;rw [hn] at h4;cases h4
    ·rw [List.getElem?_set,if_pos rfl,if_neg hl] at hs;cases hs
   ·rw [List.getElem?_set_ne hik] at hs;exact h6 k hk hs
theorem U0 {P:Addr->Prop} {H:Hp} {v:V} {d:D} (r:Rep P H v d) (hin:inner d=true):∃a o,v=.ref a/\P a/\H a=some o/\HB o=true:=by
 cases r with
 | lst e p r=>exact ⟨_,_,rfl,p,e,rfl⟩
 | cel e p r=>exact ⟨_,_,rfl,p,e,rfl⟩
 | dK e p r n=>exact ⟨_,_,rfl,p,e,rfl⟩
 | dT e p r n=>exact ⟨_,_,rfl,p,e,rfl⟩
 | fdK e r n=>cases hin
 | fdT e r n=>cases hin
 | _=>cases hin
theorem wO {H H':Hp} {σ:L2.St} {ρ:List D} (E:ES own H σ ρ) {v:V} {d:D} (r:Rep (New H) H' v d):Rep (fun a=>¬Own own σ a) H' v d:=r.mono fun a ha ho=>by
 obtain ⟨o,h1,_⟩:=E.live ho;rw [show H a=none from ha] at h1;cases h1
theorem wQ {o:Bool} {i:Nat} {D':Ends} {σ:L2.St} {H:Hp} (ho:own i=o) (h:tS own (cM o i fe re) D' σ H):HX (gE fe re) (jW i) D' σ H:=by
 obtain ⟨ρ,fl,E,h,q⟩:=h;obtain ⟨d,h1,h2⟩:=aR h;cases o with
 | true=>
  simp only [if_true] at h2;split at h2
  ·rename_i hk;cases h2;refine ⟨ρ,d,E.er,h1,fun v H' s r n=>?_⟩;rw [Bool.and_eq_true] at hk;obtain ⟨a,ob,rfl,hn,ha,hm⟩:=U0 (n hk.1) hk.2;obtain ⟨E2,k⟩:=E.aGm s ho hn r hk.2 ha hm;exact q _ H' k E2
  ·cases h2
 | false=>
  simp only [Bool.false_eq_true,if_false] at h2;split at h2
  ·rename_i hk;cases h2;refine ⟨ρ,d,E.er,h1,fun v H' s r n=>?_⟩;rw [Bool.or_eq_true] at hk;have r2:Rep (fun a=>¬Own own σ a) H' v d:=by
    rcases hk with hk|hk
    ·exact wO E (n hk)
    ·exact r.bI hk
   exact q _ H' (fun a ob e hn=>⟨s a ob e,by rw [jC ho];exact hn⟩) ((E.same s).set ho r2)
  ·cases h2
theorem bU {i:Nat} {x:Str} {o:Bool} (ho:own i=o) (hN:X.N.Nodup) (hi:X.N[i]?=some x) (hx:Loc X.env.scope x) (he:PE X e (gE fe re)) (hs:swapsWith e (some (.Name x pos')) pos.line X.env=pure false:=by rfl) (hf:X.fn x=true\/X.env.scope.names.lookup x=some .local:=by first|exact .inl rfl|exact .inr rfl|assumption) :
  PS X (.Assign [.Name x pos'] e pos) (tS own (cM o i fe re)):=PS.imp (sZ hN hi hx he hs hf) fun _ _ _=>wQ ho
theorem aEe {i j:Nat} {x y:Str} {py:Pos} (ho:own i=false) (hoj:own j=false) (hN:X.N.Nodup) (hi:X.N[i]?=some x) (hx:Loc X.env.scope x) (hj:X.N[j]?=some y) (hy:Vis X.env.scope y) (hs:swapsWith (.Name y py) (some (.Name x pos')) pos.line X.env=pure false:=by rfl) (hf:X.fn x=true\/X.env.scope.names.lookup x=some .local:=by first|exact .inl rfl|exact .inr rfl|assumption)
  (hd:(y==("__debug__" : Str))=false:=by decide) (hcd:(y==("__classdict__" : Str))=false:=by decide):PS X (.Assign [.Name x pos'] (.Name y py) pos) (tS own (sAl i j)):=PS.imp (sZ hN hi hx (bN hj hy hd hcd) hs hf) fun D' σ H ⟨ρ,fl,E,h,q⟩=>by
 obtain ⟨d,h1,h2⟩:=aR h;cases h2;obtain ⟨v,hv,r,e⟩:=E.er.var h1;have hne:ρ.getD j .uD≠.uD:=fun z=>by
  rw [z] at e;subst e;exact Rep.uD r
 obtain ⟨w,hw,hr⟩:=E.at_ j hne;rw [hv] at hw;cases hw;have r2:=hr hoj;rw [e] at r2;exact ⟨v,hv,q _ H (fun a ob e hn=>⟨e,by rw [jC ho];exact hn⟩) (E.set ho r2)⟩
theorem ES.mut {H:Hp} {σ:L2.St} {ρ:List D} {i:Nat} {a:Addr} {o:HO} {d:D} (E:ES own H σ ρ) (ho:own i=true) (hi:σ[i]?=some (some (.ref a))) (hm:HB o=true) (r:Rep All (upd H a o) (.ref a) d) (hin:inner d=true) :
  ES own (upd H a o) σ (ρ.set i d)/\KU own σ H σ (upd H a o):=by
 have hOa:Own own σ a:=⟨i,ho,hi⟩
 obtain ⟨a',oa,ea,_,_,hHa,hma,huq⟩:=E.own i _ ho hi;cases ea;have k:KU own σ H σ (upd H a o):=fun b ob e n=>⟨by rw [bG (fun z=>by subst z;exact n hOa)];exact e,n⟩
 have hl:i<ρ.length:=by rw [<-E.len];exact (List.getElem?_eq_some_iff.mp hi).1
 refine ⟨⟨by simp [E.len],fun j hj=>?_,fun j w hj hw=>?_⟩,k⟩
 ·rw [cW] at hj ⊢;by_cases h:i=j/\i<ρ.length
  ·obtain ⟨rfl,_⟩:=h;exact ⟨_,hi,fun z=>by rw [ho] at z;cases z⟩
  ·rw [if_neg h] at hj ⊢;obtain ⟨w,h1,h2⟩:=E.at_ j hj;exact ⟨w,h1,fun hj=>k.rep E (h2 hj)⟩
 ·by_cases hij:i=j
  ·subst hij;rw [hi] at hw;cases hw;rw [cW,if_pos ⟨rfl,hl⟩];exact ⟨a,o,rfl,r,hin,aK,hm,huq⟩
  ·rw [cW,if_neg fun z=>hij z.1];obtain ⟨b,ob,h1,h2,h3,h4,h5,h6⟩:=E.own j w hj hw;subst h1;have hba:b≠a:=fun z=>by subst z;exact hij (h6 i ho hi)
   refine ⟨b,ob,rfl,?_,h3,by rw [bG hba];exact h4,h5,h6⟩;refine (h2.n_ (P':=fun c=>c=b) h3 rfl).keep (fun c oc hc hp=>?_) fun _ _=>trivial
   rw [bG]
   ·exact hc
   ·intro z;subst z;rcases hp with hp|hp
    ·exact hba hp.symm
    ·rw [hHa] at hc;cases hc;rw [hma] at hp;cases hp
theorem ES.ownAt {H:Hp} {σ:L2.St} {ρ:List D} {i:Nat} (E:ES own H σ ρ) (ho:own i=true) (hd:ρ.getD i .uD≠.uD):∃a o,σ[i]?=some (some (.ref a))/\Rep All H (.ref a) (ρ.getD i .uD)/\inner (ρ.getD i .uD)=true/\H a=some o/\HB o=true:=by
 obtain ⟨v,h1,_⟩:=E.at_ i hd;obtain ⟨a,o,rfl,h2,h3,h4,h5,_⟩:=E.own i v ho h1;exact ⟨a,o,h1,h2,h3,h4,h5⟩
theorem K3 {H:Hp} {a:Addr} {xs:List D} (r:Rep All H (.ref a) (.lst xs)):∃vs,H a=some (.lst vs)/\a_ All H vs xs:=by
 cases r with
 | lst e _ r=>exact ⟨_,e,r⟩
theorem a_.upd {H:Hp} {a:Addr} {vs:List V} {xs:List D} {o:HO} {ob:HO} (r:a_ All H vs xs) (hp:D.aN xs=true) (ha:H a=some ob) (hm:HB ob=true):a_ All (upd H a o) vs xs:=by
 refine (r.bI (P':=fun _=>False) hp).keep (fun c oc hc h=>?_) fun _ h=>h.elim
 rw [bG]
 ·exact hc
 ·intro z;subst z;rcases h with h|h
  ·exact h
  ·rw [ha] at hc;cases hc;rw [hm] at h;cases h
theorem j9 {xs ys:List D}:D.aN (xs++ys)=(D.aN xs&&D.aN ys):=by
 induction xs with
 | nil=>simp [D.aN]
 | cons x xs ih=>rw [List.cons_append,D.aN,D.aN,ih,Bool.and_assoc]
theorem nP {i:Nat} {x:Str} {p1 apos cpos:Pos} (ho:own i=true) (hN:X.N[i]?=some x) (hv:Vis X.env.scope x) (he:PE X e (gE fe re)) (hd:nDb x:=by decide) (hcd:nCd x:=by decide)
  (hbase:attributeBase (.Name x p1) "append" X.env (eval (.Name x p1) X.env)=eval (.Name x p1) X.env:=by rfl)
  (hs1:starEach [e] X.env=(false,eval e X.env)::starEach [] X.env:=by rfl)
  (hfew:((backTo cpos (starEach [e] X.env)).all (fun x=>!x.1)&&(backToKw cpos (keywordEach [] X.env)).all (fun x=>x.1.isSome)
   && decide (([e]:List Expr).length+([]:List Keyword).length+(if ([]:List Keyword).isEmpty then 0 else 1)<30))=true:=by rfl)
  (hline:(apos.endLine==cpos.line)=true:=by rfl)
  (hs:swapsWith (.Call (.Attribute (.Name x p1) "append" apos) [e] [] cpos) none pos.line X.env=pure false:=by rfl) :
  PS X (.Expr (.Call (.Attribute (.Name x p1) "append" apos) [e] [] cpos) pos) (tS own (rC i fe)):=
 PS.imp (oH (Q3 PySem.F.plainAttrs_list PySem.F.slot_list_append PySem.F.type_list_append oX (bN hN hv hd hcd) (c7 he jJ hs1) hbase hfew hline hs1 rfl) hs) fun D' σ H ⟨ρ,fl,E,h,q⟩=>by
 obtain ⟨d,h1,h2⟩:=aR h;split at h2
 ·rename_i xs hx;split at h2
  ·rename_i hk;cases h2;rw [Bool.and_eq_true] at hk;obtain ⟨a,o,hσ,r,hin,ha,hm⟩:=E.ownAt ho (by rw [hx];intro z;cases z);rw [hx] at r hin;obtain ⟨vs,hl,rr⟩:=K3 r;refine ⟨_,hσ,.inl ⟨rfl,vs,.of hl⟩,ρ,d,E.er,h1,fun v H' s rv _=>⟨a,vs,v,rfl,rfl,s _ _ hl,by rw [rr.length];exact J_ hk.1,?_⟩⟩;have E':=E.same s;have hl':=s _ _ hl;obtain ⟨E2,k2⟩:=E'.mut (o:=.lst (vs++[v])) (d:=.lst (xs++[d])) ho hσ rfl (.lst aK trivial (((rr.same s).snoc rv).upd (by rw [j9];simp only [Bool.and_eq_true];exact ⟨hin,by simp [D.aN,hk.2]⟩) hl' rfl)) (by show D.aN (xs++[d])=true;rw [j9];simp only [Bool.and_eq_true];exact ⟨hin,by simp [D.aN,hk.2]⟩);exact q _ _ ((KU.same s).trans k2) E2
  ·cases h2
 ·cases h2
end
end Mi
end
section
namespace L2
open PySem PySem.Spec PyProof.Rows
section
variable {X:Cx} {scope:Scope} {own:List Str}
theorem RT {y:Str} {py:Pos} {iy:Nat} (hNn:X.N.Nodup) (hiy:X.N[iy]?=some y) (hxy:Loc X.env.scope y) (hfy:X.fn y=true\/X.env.scope.names.lookup y=some .local) {pins:List (Addr×Obj)} {σ:St} {D:Ends} {p C:Addr} {H5:Hp} {s6:Shared} {m6:Str->Option Value} (f:Inv X pins σ H5 s6) (k:H_ X pins H5 C) (n:s6.heap.Ns C m6) (q:jW iy (.ref p) σ H5 D.nx):compPost (model X.prog X.w) X.A X.xe (some (assign (.Name y py) X.env)) (fun _ s'=>SP X pins D .next s') (.ref p) C (.ok .next) s6:=by
 obtain ⟨oC,esC,epC,hoC,hdC,_⟩:=id n;have finP:=f.vX (pins':=pins++[(C,oC)]) fun p hp=>(List.mem_append.mp hp).elim (fun z=>f.pin p (List.mem_append_right _ z)) fun z=>by
  have z':p=(C,oC):=by simpa using z
  subst z';exact ⟨hoC,k.1,k.2.1,k.2.2.1,fun v z=>by rw [hdC] at z;cases z⟩
 refine thn (aZ (pos:=py) hNn hiy hxy hfy _ _ σ H5 (.ref p) (.ref p) D.nx finP rfl q) fun _ s7 ⟨σ7,H7,I7,q7⟩=>?_
 obtain ⟨g7,hC7,_⟩:=I7.pin (C,oC) (List.mem_append_right _ (List.mem_append_right _ (by simp)));refine ⟨m6,n.at' fun o e=>?_,fun h' sb=>⟨σ7,H7,Inv.turned (t':=s7.toks) I7.l_ (fun b o hb e=>sb.extBut b o hb e) hC7 k.2.1 k.2.2.2.1 k.2.2.2.2.1 k.2.2.2.2.2,q7⟩⟩;rw [hoC] at e;cases e;exact g7
theorem aB4 {elt iter tg:Expr} {ifs:List Expr} {wi:TI} {g:TG} {tc:TT} {te:TE} {pos:Pos} (S:bY X.N X.env.scope scope own) (hcalm:X.calm=true) (hi:PI X tg iter wi)
  (hg:∀X',cC X X' scope own->PG X' tg g) (hc:(ifs=[]/\tc=fun _ H Q=>Q true H)\/∃c,ifs=[c]/\∀X',cC X X' scope own->PT X' c tc) (he:∀X',cC X X' scope own->PE X' elt te)
  (hs:∀x,foldedSetIterable iter X.env x=pure x) {y:Str} {py pos2:Pos} {iy:Nat} (hNn:X.N.Nodup) (hiy:X.N[iy]?=some y) (hxy:Loc X.env.scope y) (hfy:X.fn y=true\/X.env.scope.names.lookup y=some .local) (hsw:swapsWith (.ListComp elt [⟨tg,iter,ifs,0⟩] scope pos) (some (.Name y py)) pos2.line X.env=pure true):PS X (.Assign [.Name y py] (.ListComp elt [⟨tg,iter,ifs,0⟩] scope pos) pos2) (HX (tW wi g tc te own.length) (jW iy)):=by
 intro pins s σ H D I h;rw [exec_Assign_Name_used _ _ _ _ hsw];refine wpAny_bind (wpAny_standAt (wpAny_bind ?_));show wpAny _ X.A (do let _ <- comprehension (.ListComp elt [⟨tg,iter,ifs,0⟩] scope pos) scope X.env _ (newList []) false (eval iter X.env) (some (assign (.Name y py) X.env))) _ _ s;exact wpAny_bind (wpAny_mono (wG (QQ:=fun _ s'=>SP X pins D .next s') S hcalm hi hg hc he hs I h (RT hNn hiy hxy hfy)) (fun _ s' hq=>wpAny_pure (wpAny_pure hq)) fun _ _ e=>e)
theorem K4 {elt iter tg c:Expr} {wi:TI} {g:TG} {tc:TT} {te:TE} {pos:Pos} (S:bY X.N X.env.scope scope own) (hcalm:X.calm=true) (hi:PI X tg iter wi)
  (hg:∀X',cC X X' scope own->PG X' tg g) (hc:∀X',cC X X' scope own->PT X' c tc) (he:∀X',cC X X' scope own->PE X' elt te)
  (hs:∀x,foldedSetIterable iter X.env x=pure x) {y:Str} {py pos2:Pos} {iy:Nat} (hNn:X.N.Nodup) (hiy:X.N[iy]?=some y) (hxy:Loc X.env.scope y) (hfy:X.fn y=true\/X.env.scope.names.lookup y=some .local) (hsw:swapsWith (.ListComp elt [⟨tg,iter,[c],0⟩] scope pos) (some (.Name y py)) pos2.line X.env=pure true):PS X (.Assign [.Name y py] (.ListComp elt [⟨tg,iter,[c],0⟩] scope pos) pos2) (HX (tW wi g tc te own.length) (jW iy)):=
 aB4 S hcalm hi hg (.inr ⟨c,rfl,hc⟩) he hs hNn hiy hxy hfy hsw
theorem zE {elt iter tg:Expr} {wi:TI} {g:TG} {te:TE} {pos:Pos} (S:bY X.N X.env.scope scope own) (hcalm:X.calm=true) (hi:PI X tg iter wi)
  (hg:∀X',cC X X' scope own->PG X' tg g) (he:∀X',cC X X' scope own->PE X' elt te)
  (hs:∀x,foldedSetIterable iter X.env x=pure x) {y:Str} {py pos2:Pos} {iy:Nat} (hNn:X.N.Nodup) (hiy:X.N[iy]?=some y) (hxy:Loc X.env.scope y) (hfy:X.fn y=true\/X.env.scope.names.lookup y=some .local) (hsw:swapsWith (.ListComp elt [⟨tg,iter,[],0⟩] scope pos) (some (.Name y py)) pos2.line X.env=pure true):PS X (.Assign [.Name y py] (.ListComp elt [⟨tg,iter,[],0⟩] scope pos) pos2) (HX (tW wi g (fun _ H Q=>Q true H) te own.length) (jW iy)):=
 aB4 S hcalm hi hg (.inl ⟨rfl,rfl⟩) he hs hNn hiy hxy hfy hsw
end
end L2
end
section
namespace Mi
open PySem L2 PySem.SeqAt PySem.Spec PyProof.Rows
variable [KFrag]
variable {own:Nat->Bool}
section
variable {X:Cx} {a b c e:Expr} {pos pos':Pos} {fa fb fc fe:FE} {ra rb rc re:Bool} {ga gb gc:FT} {f g:FS} {st:Stmt} {rest s1 s2:List Stmt}
variable {scope:Scope} {ownN:List Str} {elt iter tg:Expr} {it:FI} {t:D->Res (List D)} {gt:TG}
theorem XR {n m:Nat} {y:Str} {py pos2:Pos} {iy:Nat} {o:Bool} (S:bY X.N X.env.scope scope ownN) (hn:X.N.length=n) (hm:ownN.length=m) (hcalm:X.calm=true) (hi:PI X tg iter (gI X.K it)) (ht:TgC gt t n m) (hg:∀X',cC X X' scope ownN->PG X' tg gt) (he:∀X',cC X X' scope ownN->PE X' elt (gE fe re))
  (hs:∀x,foldedSetIterable iter X.env x=pure x) (ho:own iy=o) (hNn:X.N.Nodup) (hiy:X.N[iy]?=some y) (hxy:Loc X.env.scope y) (hfy:X.fn y=true\/X.env.scope.names.lookup y=some .local) (hsw:swapsWith (.ListComp elt [⟨tg,iter,[],0⟩] scope pos) (some (.Name y py)) pos2.line X.env=pure true) :
  PS X (.Assign [.Name y py] (.ListComp elt [⟨tg,iter,[],0⟩] scope pos) pos2) (tS own (cM o iy (cH n it t d_ fe re) true)):=by
 intro pins s σ H D I h;subst hm;refine zE S hcalm hi hg he hs hNn hiy hxy hfy hsw pins s σ H D I ?_;exact mK ht (fun σ H Q h=>by obtain ⟨ρ,b,E,h,q⟩:=h;cases h;exact q H (bQ.refl H)) (I.len.trans hn) (wQ ho h)
theorem K5 {n m:Nat} {y:Str} {py pos2:Pos} {iy:Nat} {o:Bool} (S:bY X.N X.env.scope scope ownN) (hn:X.N.length=n) (hm:ownN.length=m) (hcalm:X.calm=true) (hi:PI X tg iter (gI X.K it)) (ht:TgC gt t n m) (hg:∀X',cC X X' scope ownN->PG X' tg gt) (hc:∀X',cC X X' scope ownN->PT X' c (gT gc)) (he:∀X',cC X X' scope ownN->PE X' elt (gE fe re))
  (hs:∀x,foldedSetIterable iter X.env x=pure x) (ho:own iy=o) (hNn:X.N.Nodup) (hiy:X.N[iy]?=some y) (hxy:Loc X.env.scope y) (hfy:X.fn y=true\/X.env.scope.names.lookup y=some .local) (hsw:swapsWith (.ListComp elt [⟨tg,iter,[c],0⟩] scope pos) (some (.Name y py)) pos2.line X.env=pure true) :
  PS X (.Assign [.Name y py] (.ListComp elt [⟨tg,iter,[c],0⟩] scope pos) pos2) (tS own (cM o iy (cH n it t gc fe re) true)):=by
 intro pins s σ H D I h;subst hm;refine K4 S hcalm hi hg hc he hs hNn hiy hxy hfy hsw pins s σ H D I ?_;exact mK ht (fun σ H Q h=>h) (I.len.trans hn) (wQ ho h)
theorem rH {κ:Type} [DecidableEq κ] {p:κ×V} {r:List (κ×V)} {k:κ} {v:V} (e:p.1=k) (h:k∉r.map (·.1)):putK (p::r) k v=(k,v)::r:=by
 unfold putK;rw [if_pos (by simp [e]),List.map_cons,if_pos e,e]
 congr 1
 have:∀q∈r,(fun kv:κ×V=>if kv.1=k then (kv.1,v) else kv) q=id q:=fun q hq=>by
  have:q.1≠k:=fun z=>h (List.mem_map.mpr ⟨q,hq,z⟩)
  simp [this]
 rw [List.map_congr_left this,List.map_id]
theorem rJ {κ:Type} [DecidableEq κ] {p:κ×V} {r:List (κ×V)} {k:κ} {v:V} (e:¬p.1=k):putK (p::r) k v=p::putK r k v:=by
 unfold putK;rw [List.any_cons,decide_eq_false e,Bool.false_or];split
 ·rw [List.map_cons,if_neg e]
 ·rfl
theorem iR {κ:Type} [DecidableEq κ] {k:κ} {v:V}:∀{kvs:List (κ×V)},(kvs.map (·.1)).Nodup->((putK kvs k v).map (·.1)).Nodup:=fun {kvs} h=>by
 by_cases hk:qK kvs k=none
 ·exact W4 v h hk
 ·unfold putK;rw [if_pos (by rw [mH];exact Option.isSome_iff_ne_none.mpr hk),List.map_map];have:(fun x:κ×V=>x.1) ∘ (fun kv:κ×V=>if kv.1=k then (kv.1,v) else kv)=fun x=>x.1:=by
   funext q
   simp only [Function.comp];split <;> rfl
  rw [this];exact h
theorem rK {P:Addr->Prop} {H:Hp} {k:Key} {v:V} {d:D} (rv:Rep P H v d):∀{kvs:List (Key×V)} {ds:List (D×D)},jA P H kvs ds->(kvs.map (·.1)).Nodup->jA P H (putK kvs k v) (putD ds (kD k) d)
 | _,_,.nil,_=>.cons rv .nil
 | _,_,.cons (k:=k') (v:=v') (r:=rs) r t,hn=>by
  rw [List.map_cons] at hn;obtain ⟨h1,h2⟩:=List.nodup_cons.mp hn;rw [putD,KJ];by_cases h:k'=k
  ·subst h;rw [if_pos (by simp),rH rfl h1];exact .cons rv t
  ·rw [if_neg (by simpa using h),rJ (p:=(k',v')) h];exact .cons r (rK rv t h2)
theorem oA {P:Addr->Prop} {H:Hp} {k:List Key} {v:V} {d:D} (rv:Rep P H v d):∀{kvs:List (List Key×V)} {ds:List (D×D)},jR P H kvs ds->(kvs.map (·.1)).Nodup->jR P H (putK kvs k v) (putD ds (.tup (k.map kD)) d)
 | _,_,.nil,_=>.cons rv .nil
 | _,_,.cons (k:=k') (v:=v') (r:=rs) r t,hn=>by
  rw [List.map_cons] at hn;obtain ⟨h1,h2⟩:=List.nodup_cons.mp hn;rw [putD,W_];by_cases h:k'=k
  ·subst h;rw [if_pos (by simp),rH rfl h1];exact .cons rv t
  ·rw [if_neg (by simpa using h),rJ (p:=(k',v')) h];exact .cons r (oA rv t h2)
theorem jA.length {P:Addr->Prop} {H:Hp}:∀{kvs:List (Key×V)} {ds:List (D×D)},jA P H kvs ds->kvs.length=ds.length
 | _,_,.nil=>rfl
 | _,_,.cons _ t=>by rw [List.length_cons,List.length_cons,jA.length t]
theorem jR.length {P:Addr->Prop} {H:Hp}:∀{kvs:List (List Key×V)} {ds:List (D×D)},jR P H kvs ds->kvs.length=ds.length
 | _,_,.nil=>rfl
 | _,_,.cons _ t=>by rw [List.length_cons,List.length_cons,jR.length t]
theorem pB {H:Hp} {a:Addr} {o ob:HO} (ha:H a=some ob) (hm:HB ob=true):J5 (fun _=>False) H (L2.upd H a o):=fun c oc hc h=>by
 rw [bG]
 ·exact hc
 ·intro z;subst z;rcases h with h|h
  ·exact h.elim
  ·rw [ha] at hc;cases hc;rw [hm] at h;cases h
theorem m7 {d:D} {k:D} (hd:d.pure=true):∀{ds:List (D×D)},D.aN (ds.map (·.2))=true->D.aN ((putD ds k d).map (·.2))=true
 | [],_=>by simp [putD,D.aN,hd]
 | (q,w)::r,h=>by
  rw [List.map_cons,D.aN,Bool.and_eq_true] at h;rw [putD];split
  ·rw [List.map_cons,D.aN,Bool.and_eq_true];exact ⟨hd,h.2⟩
  ·rw [List.map_cons,D.aN,Bool.and_eq_true];exact ⟨h.1,m7 hd h.2⟩
theorem aEf {pins:List (Addr×Obj)} {s:Shared} {σ:L2.St} {H:Hp} {ad:Addr} {y v:V} {ds:List (D×D)} {k d:D} (I:Inv X pins σ H s) (rd:Rep All H (.ref ad) (.dct ds)) (hin:D.aN (ds.map (·.2))=true) (rk:Rep All H y k) (hk:DN ds k=true) (hl:ds.length<sizeLine) (rv:Rep All H v d) (hd:d.pure=true) :
  ∃H1 o,Inv X pins σ H1 s/\UG H1 ad y v (L2.upd H ad o)/\HB o=true/\Rep All (L2.upd H ad o) (.ref ad) (.dct (putD ds k d)):=by
 unfold DN at hk;rw [Bool.and_eq_true] at hk;obtain ⟨h1,h2⟩:=hk;have rv':Rep (fun _=>False) H v d:=rv.bI hd;cases rd with
 | @dK _ kvs ds e _ r n=>
  have hlen:=r.length;rcases gH h1 rk with ⟨q,rfl,rfl⟩|⟨b,ks,rfl,eb,rfl⟩
  ·refine ⟨H,.dK (putK kvs q v),I,.k e (by lia),rfl,.dK aK trivial ?_ (iR n)⟩;exact (rK rv' (r.bI hin) n).keep (pB e rfl) fun _ z=>z.elim
  ·cases r with
   | nil=>
    refine ⟨L2.upd H ad (.dT []),.dT (putK [] ks v),mZ I e,?_,rfl,.dT aK trivial ?_ (iR List.nodup_nil)⟩
    ·have:=UG.t (H:=L2.upd H ad (.dT [])) (a:=ad) (b:=b) (kvs:=[]) (k:=ks) (v:=v) aK (by rw [bG (lZ eb e (by intro z;cases z))];exact eb) hl;rwa [vW] at this
    ·exact (oA (k:=ks) rv' .nil List.nodup_nil).keep (pB e rfl) fun _ z=>z.elim
   | cons r t=>
    rw [List.all_cons,kY] at h2;simp [isTup] at h2
 | @dT _ kvs ds e _ r n=>
  have hlen:=r.length;rcases gH h1 rk with ⟨q,rfl,rfl⟩|⟨b,ks,rfl,eb,rfl⟩
  ·cases r with
   | nil=>
    refine ⟨L2.upd H ad (.dK []),.dK (putK [] q v),m5 I e,?_,rfl,.dK aK trivial ?_ (iR List.nodup_nil)⟩
    ·have:=UG.k (H:=L2.upd H ad (.dK [])) (a:=ad) (kvs:=[]) (k:=q) (v:=v) aK hl;rwa [vW] at this
    ·exact (rK (k:=q) rv' .nil List.nodup_nil).keep (pB e rfl) fun _ z=>z.elim
   | cons r t=>
    rw [List.all_cons,kY] at h2;simp [isTup] at h2
  ·refine ⟨H,.dT (putK kvs ks v),I,.t e eb (by lia),rfl,.dT aK trivial ?_ (iR n)⟩;exact (oA rv' (r.bI hin) n).keep (pB e rfl) fun _ z=>z.elim
theorem K6 {i:Nat} {x:Str} {p1:Pos} {value k:Expr} {fv fk:FE} {rv rk:Bool} (hu:X.A.units+20<cLine) (ho:own i=true) (hN:X.N[i]?=some x) (hvi:Vis X.env.scope x) (hk:PE X k (gE fk rk)) (hv:PE X value (gE fv rv))
  (hs:swapsWith value (some (.Subscript (.Name x p1) k pos')) pos.line X.env=pure false:=by rfl) (hd:nDb x:=by decide) (hcd:nCd x:=by decide) :
  PS X (.Assign [.Subscript (.Name x p1) k pos'] value pos) (tS own (RD i fk fv)):=by
 intro pins s σ H D' I ⟨ρ,fl,E,h,q⟩;obtain ⟨d,h0,h⟩:=aR h;obtain ⟨kd,h1,h2⟩:=aR h;split at h2
 ·rename_i kvs hx;split at h2
  ·rename_i hg;cases h2;simp only [Bool.and_eq_true] at hg;obtain ⟨⟨hg1,hg2⟩,hg3⟩:=hg;obtain ⟨a,o,hσ,r,hin,ha,hm⟩:=E.ownAt ho (by rw [hx];intro z;cases z);rw [hx] at r hin;refine wpAny_Assign_Subscript (thn (hv pins s σ H (fun v H1=>bQ H H1/\Rep All H1 v d) I ⟨ρ,d,E.er,h0,fun v H1 s1 r1 _=>⟨s1,r1⟩⟩) fun rr s1 ⟨v,H1,I1,rv1,sm1,rp1⟩=>
    thn (bN hN hvi hd hcd pins s1 σ H1 (fun w H2=>w=.ref a/\H2=H1) I1 ⟨_,hσ,rfl,rfl⟩) fun u s2 ⟨xx,H2,I2,rx,ex,eH⟩=>
    thn (hk pins s2 σ H2 (fun w H3=>bQ H2 H3/\Rep All H3 w kd) I2 ⟨ρ,kd,by rw [eH];exact E.er.same sm1,h1,fun v H1 s1 r1 _=>⟨s1,r1⟩⟩) fun iv s3 ⟨y,H3,I3,ry,sm3,rp3⟩=>?_) hs
   subst ex eH;obtain rfl:u=Value.ref a:=rx;have sm:=sm1.trans sm3;obtain ⟨H4,o4,I4,g,hmo,rp⟩:=aEf I3 (r.same sm) hin rp3 hg2 (J_ hg1) (rp1.same sm3) hg3;obtain ⟨E2,k2⟩:=(E.same sm).mut ho hσ hmo rp (m7 hg3 hin);exact JX (by lia) I4 g ry rv1 fun s4 I5=>⟨σ,_,I5,q _ _ ((KU.same sm).trans k2) E2⟩
  ·cases h2
 ·cases h2
noncomputable def TgS (own:Nat->Bool) (g:TG) (t:D->List D->Res (List D)):Prop:=∀(v:V) (d:D) (ρ ρ':List D) (σ:L2.St) (H:Hp) (Q:L2.St->Hp->Prop),ES own H σ ρ->Rep (fun a=>¬Own own σ a) H v d->t d ρ=.ok ρ'->
 (∀σ',ES own H σ' ρ'->(∀a,Own own σ' a↔Own own σ a)->Q σ' H)->g v σ H Q
theorem lW {i:Nat} (ho:own i=false):TgS own (jW i) (tg1 i):=fun v d ρ ρ' σ H Q E r h q=>by
 cases h;exact q _ (E.set ho r) fun a=>jC ho a
theorem ES.sets {H:Hp}:∀{is:List Nat} {vs:List V} {ds:List D} {σ:L2.St} {ρ:List D},(∀i∈is,own i=false)->ES own H σ ρ->a_ (fun a=>¬Own own σ a) H vs ds->ES own H (FQ is vs σ) (wC is ds ρ)/\∀a,Own own (FQ is vs σ) a↔Own own σ a
 | [],_,_,_,_,_,E,_=>by simp only [FQ,wC];exact ⟨E,fun _=>trivial⟩
 | i::is,_,_,σ,ρ,h,E,.nil=>by simp only [FQ,wC];exact ⟨E,fun _=>trivial⟩
 | i::is,_,_,σ,ρ,h,E,.cons (v:=v) r t=>by
  have ho:=h i (List.mem_cons_self ..);have hO:(fun a=>¬Own own (σ.set i (some v)) a)=fun a=>¬Own own σ a:=funext fun a=>by rw [jC ho]
  obtain ⟨h1,h2⟩:=ES.sets (is:=is) (fun j hj=>h j (List.mem_cons_of_mem _ hj)) (E.set ho r) (by rw [hO];exact t);exact ⟨h1,fun a=>(h2 a).trans (jC ho a)⟩
theorem K7 (K:PySem.W.Frag) {is:List Nat} (ho:∀i∈is,own i=false):TgS own (aFp K is.length (gIx is)) (tgN is):=fun v d ρ ρ' σ H Q E r h q=>by
 cases d <;> simp only [tgN] at h <;> (try (cases h;done))
 split at h
 ·rename_i hl;cases h;have hl':=of_decide_eq_true hl;obtain ⟨a,xs,rfl,e,rr⟩:=r.eZ;obtain ⟨h1,h2⟩:=E.sets ho rr;exact ⟨a,xs,rfl,.of e,by rw [rr.length];exact hl',wN _ _ _ (by rw [rr.length];exact hl') (q _ h1 h2)⟩
 ·cases h
theorem ItQ.ku {K:PySem.W.Frag} {J:It} {items:List D} {σ σ':L2.St} {H H':Hp} {ρ:List D} (h:ItQ K (fun a=>¬Own own σ a) J H items) (k:KU own σ H σ' H') (E:ES own H σ ρ):ItQ K (fun a=>¬Own own σ' a) J H' items:=by
 cases h with
 | lst a e r=>exact .lst a e (k.rep E r)
 | tup a e r=>exact .tup a e (k.rep E r)
 | rng lo n e r=>exact .rng lo n e r
 | chs x e r=>exact .chs x e r
 | enm a ds e r h=>exact .enm a ds e (k.rep E r) h
 | enf m a ds e r h=>exact .enf m a ds e (k.rep E r) h
 | zip a b ds es e r q n h=>exact .zip a b ds es e (k.rep E r) (k.rep E q) n h
 | scr a hK e r=>exact .scr a hK e (k.rep E r)
theorem rM {K:PySem.W.Frag} {g:TG} {t:D->List D->Res (List D)} {body:FS} {D':Ends} {J:It} {items:List D} {σ:L2.St} {H1:Hp} {ρ:List D} {fl:Fl} (tg:TgS own g t) (E:ES own H1 σ ρ) (hJ:ItQ K (fun a=>¬Own own σ a) J H1 items) (hf:pW t body items ρ=.ok fl) (q:kS own D' σ H1 fl) :
  ∃W:Nat->Nat->L2.St->Hp->Prop,(∃m,W 0 m σ H1)/\∀i m σ H,W i m σ H->
   (J.stop i H/\D'.nx σ H)\/(J.go i H/\∃N:L2.St->Hp->Prop,(∀σ' H',N σ' H'->∃m',m'<m/\W (i+1) m' σ' H')/\∀x H',J.yld i H x H'->g x σ H' fun σ2 H2=>tS own body {D' with nx:=N,ct:=N,bk:=D'.nx} σ2 H2):=by
 refine ⟨fun i m σ' H'=>m=items.length-i/\i<=items.length/\ItQ K (fun a=>¬Own own σ' a) J H' items/\∃ρ',ES own H' σ' ρ'/\pW t body (items.drop i) ρ'=.ok fl/\kS own D' σ' H' fl,⟨items.length,rfl,Nat.zero_le _,hJ,ρ,E,hf,q⟩,?_⟩;rintro i m σ' H' ⟨rfl,hi,hJ',ρ',E',hf',q'⟩;rcases Nat.lt_or_ge i items.length with hlt|hge
 ·refine .inr ?_;have e:items[i]?=some items[i]:=List.getElem?_eq_getElem hlt;obtain ⟨g1,g2⟩:=hJ'.go e;rw [List.drop_eq_getElem_cons hlt] at hf';obtain ⟨ρ1,h1,hf2⟩:=aR hf';obtain ⟨r,h2,hf3⟩:=aR hf2;refine ⟨g1,fun σ2 H2=>ItQ K (fun a=>¬Own own σ2 a) J H2 items/\∃ρ',ES own H2 σ2 ρ'/\pW t body (items.drop (i+1)) ρ'=.ok fl/\kS own D' σ2 H2 fl,fun σ2 H2 ⟨n1,n2⟩=>⟨items.length-(i+1),by lia,rfl,hlt,n1,n2⟩,fun x H2 hy=>?_⟩;obtain ⟨sH,rx⟩:=g2 x H2 hy;have ks:KU own σ' H' σ' H2:=fun a o e n=>⟨sH a o e,n⟩
  have hJ':=hJ'.ku ks E';have q':=q'.step ks;have E':=E'.same sH;refine tg x items[i] ρ' ρ1 σ' H2 _ E' rx h1 fun σ2 E2 hO=>?_
  have k0:KU own σ' H2 σ2 H2:=fun a o e n=>⟨e,by rw [hO];exact n⟩
  have hJ2:=hJ'.ku k0 E';have q2:=q'.step k0;refine ⟨ρ1,r,E2,h2,?_⟩;cases r with
  | nx ρ2=>exact fun σ3 H3 k3 E3=>⟨hJ2.ku k3 E2,ρ2,E3,hf3,q2.step k3⟩
  | ct ρ2=>exact fun σ3 H3 k3 E3=>⟨hJ2.ku k3 E2,ρ2,E3,hf3,q2.step k3⟩
  | bk ρ2=>cases hf3;exact fun σ3 H3 k3 E3=>q2 σ3 H3 k3 E3
  | rt d=>cases hf3;exact q2
 ·refine .inl ⟨hJ'.stop hge,?_⟩;rw [List.drop_eq_nil_of_le hge] at hf';cases hf';exact q' σ' H' (fun a o e n=>⟨e,n⟩) E'
theorem qN {tg iter:Expr} {body:List Stmt} {g:TG} {t:D->List D->Res (List D)} {it:FI} {fb:FS} (hp:PassesOwn (model X.prog X.w) X.A X.env X.xe) (hc:X.calm=true) (hi:PI X tg iter (gI X.K it)) (ht:TgS own g t) (hg:PG X tg g) (hb:PSs X body (tS own fb))
  (hs:∀x,foldedSetIterable iter X.env x=pure x:=by intro _;rfl):PS X (.For tg iter body [] pos) (tS own (DQ it t fb)):=PS.imp (IW hp hc hi hg hb hs) fun D' σ H ⟨ρ,fl,E,h,q⟩=>by
 obtain ⟨⟨items,k⟩,h1,h2⟩:=aR h;split at h2
 ·rename_i hk;exact ⟨ρ,items,k,E.er,h1,fun J H1 s1 _ hJ=>rM ht (E.same s1) ((hJ hk).keep (fun _ _ e _=>e) fun a ha ho=>by
   obtain ⟨o,e1,_⟩:=E.live ho;rw [show H a=none from ha] at e1;cases e1) h2 (q.step (.same s1))⟩
 ·cases h2
theorem K8 {tg:Expr} {body:List Stmt} {g:TG} {t:D->List D->Res (List D)} {i:Nat} {x:Str} {px:Pos} {fb:FS} (ho:own i=false) (hp:PassesOwn (model X.prog X.w) X.A X.env X.xe) (hc:X.calm=true) (hN:X.N[i]?=some x) (hv:Vis X.env.scope x) (ht:TgS own g t) (hg:PG X tg g) (hb:PSs X body (tS own fb))
  (hs:∀z,foldedSetIterable (.Name x px) X.env z=pure z:=by intro _;rfl) (hd:nDb x:=by decide) (hcd:nCd x:=by decide):PS X (.For tg (.Name x px) body [] pos) (tS own (DR i t fb)):=PS.imp (IW hp hc (aB3 hN hv hd hcd) hg hb hs) fun D' σ H ⟨ρ,fl,E,h,q⟩=>by
 obtain ⟨d,h1,h⟩:=aR h;obtain ⟨items,h2,h3⟩:=aR h;obtain ⟨v,hv,r,e⟩:=E.er.var h1;have hne:ρ.getD i .uD≠.uD:=fun z=>by
  rw [z] at e;subst e;exact Rep.uD r
 obtain ⟨w,hw,hr⟩:=E.at_ i hne;rw [hv] at hw;cases hw;have r2:=hr ho;rw [e] at r2;exact ⟨v,d,items,hv,r,h2,fun J hJ=>rM ht E (hJ _ r2) h3 q⟩
theorem RW {own:Nat->Bool} {N ps:List Str} {vs:List V} {ds:List D} {H:Hp} (hst:start N vs=vs.map some++List.replicate (N.length-ps.length) none) (hl:ds.length=ps.length) (r:a_ All H vs ds) (hown:∀i,i<ps.length->own i=false) (noown:∀a,¬Own own (start N vs) a):ES own H (start N vs) (ds++List.replicate (N.length-ps.length) .uD):=by
 refine ⟨by rw [hst];simp [r.length],fun i hi=>?_,fun i v hi hv=>?_⟩
 ·have hlt:i<ds.length:=Nat.lt_of_not_le fun hge=>hi (by
   rw [List.getD_eq_getElem?_getD,List.getElem?_append_right hge,List.getElem?_replicate];split <;> rfl)
  have e:(ds++List.replicate (N.length-ps.length) D.uD).getD i .uD=ds[i]:=by
   rw [List.getD_eq_getElem?_getD,List.getElem?_append_left hlt,List.getElem?_eq_getElem hlt];rfl
  obtain ⟨v,g1,g2⟩:=r.get (i:=i) (d:=ds[i]) (by simp [hlt]);refine ⟨v,by rw [hst,List.getElem?_append_left (by simp [r.length,hlt])];simp [g1],fun _=>?_⟩;rw [e];exact g2.mono fun a _=>noown a
 ·exfalso;rw [hst] at hv;by_cases h:i<ps.length
  ·rw [hown i h] at hi;cases hi
  ·rw [List.getElem?_append_right (by simp [r.length,hl];lia)] at hv;rw [List.getElem?_replicate] at hv;split at hv <;> cases hv
theorem K9 {own:Nat->Bool} {N ps:List Str} {f:FS} {vs:List V} {H:Hp} {Q:VK} {E:XK} (hx:own rtX=false) (hown:∀i,i<ps.length->own i=false) (h0:spD (fnS ps.length N.length f) ps.length vs H Q E):tS own f {nx:=fun _ H'=>Q .non H',rt:=Q} (start N vs) H:=by
 obtain ⟨ds,d,hl,r,h,q⟩:=h0
 ·obtain ⟨fl,h1,h2⟩:=aR h;have hst:start N vs=vs.map some++List.replicate (N.length-ps.length) none:=by
   show vs.map some++List.replicate (N.length-vs.length) none=_;rw [r.length,hl]
  have noown:∀a,¬Own own (start N vs) a:=fun a ⟨i,hi,e⟩=>by
   rw [hst] at e;by_cases h:i<ps.length
   ·rw [hown i h] at hi;cases hi
   ·rw [List.getElem?_append_right (by simp [r.length,hl];lia)] at e;rw [List.getElem?_replicate] at e;split at e <;> cases e
  have E0:ES own H (start N vs) (ds++List.replicate (N.length-ps.length) .uD):=RW hst hl r hown noown;refine ⟨_,fl,E0,h1,?_⟩;have sm:∀{σ':L2.St} {H':Hp},KU own (start N vs) H σ' H'->bQ H H':=fun k a o e=>(k a o e (noown a)).1
  cases fl with
  | nx ρ'=>cases h2;exact fun σ' H' k E'=>q .non H' (sm k) .non fun _=>.non
  | rt d'=>
   cases h2;refine kRt.mk hx fun v H' hk rp=>q v H' (fun a o e=>hk a o e (noown a)) rp.all fun _=>rp.mono fun a ha=>?_
   rcases ha with ha|ha
   ·exact absurd ha (noown a)
   ·exact ha
  | bk ρ'=>cases h2
  | ct ρ'=>cases h2
theorem aB5 {P:Program} {w:World} {K:PySem.W.Frag} {mg:Str->Option Value} {base:Heap} {x qual:Str} {st:Stmt} {fad:Addr} {fd:FuncData} {N ps:List Str} {k:Nat} {f:FS} (F:Fun K x qual st fad fd) (S:bW N ps (aJ st)) (own:Nat->Bool) (hown:∀i,i<ps.length->own i=false) (hNl:ps.length<=N.length)
  (hbody:∀(cdv:Value) (A:Around) (outer:List Env) (s:Shared) (H:Hp) (E:XK),jH k (A.deeper (envOfC qual (aJ st) s.heap.objs.size fad cdv))->PSs (CT CX0 P w K mg base N qual (aJ st) fad cdv A outer s H E).nox (cF st) (tS own f)) (hx:own rtX=false:=by rfl):mC P w K mg base CX0 (k+1) fad fd ps (spD (fnS ps.length N.length f) ps.length):=
 F.ok S (fun vs H Q E h=>wM h) fun cdv A outer s H vs Q E hr h=>⟨_,hbody cdv A outer s H E hr,K9 hx hown h⟩
end
end Mi
end
section
namespace Mi
open PySem L2 PySem.SeqAt PySem.Spec PyProof.Rows
variable [KFrag]
structure aEg where
 s₀:Shared
 H₀:Hp
 env:Env
 outer:List Env
 stack:List Env
 ex:List Addr
 fn:Str->Bool
 pn:List (Addr×Obj)
noncomputable abbrev mkC (X:Cx) (scope:Scope) (ownN:List Str) (y:aEg):Cx:=
 {X with N:=X.N.map (fH ownN)++ownN,s₀:=y.s₀,H₀:=y.H₀,env:={y.env with scope:=relabel scope X.env},outer:=y.outer,stack:=y.stack,ex:=y.ex,fn:=y.fn,pn:=y.pn,xe:=fun _ _=>False}
theorem jM {X X':Cx} {scope:Scope} {ownN:List Str} (cc:cC X X' scope ownN):∃y,X'=mkC X scope ownN y:=by
 refine ⟨⟨X'.s₀,X'.H₀,X'.env,X'.outer,X'.stack,X'.ex,X'.fn,X'.pn⟩,?_⟩;obtain ⟨h1,h2,h3,h4,h5,h6,h7,h8,h9,h10⟩:=cc;cases X' with
 | mk a b c d e f g h i j k l m n o p q=>
  cases j;dsimp only at *;subst h1 h2 h3 h4 h5 h6 h7 h8 h9 h10;rfl
section
variable {own:Nat->Bool} {X:Cx} {scope:Scope} {ownN:List Str} {elt iter tg c:Expr} {it:FI} {t:D->Res (List D)} {g:TG} {gc:FT} {fe:FE} {re:Bool} {pos:Pos} {n m:Nat}
theorem h_ (S:bY X.N X.env.scope scope ownN) (hn:X.N.length=n) (hm:ownN.length=m) (hcalm:X.calm=true) (hi:PI X tg iter (gI X.K it)) (ht:TgC g t n m) (hg:∀y,PG (mkC X scope ownN y) tg g) (he:∀y,PE (mkC X scope ownN y) elt (gE fe re))
  (hs:∀x,foldedSetIterable iter X.env x=pure x):PE X (.ListComp elt [⟨tg,iter,[],0⟩] scope pos) (gE (cH n it t d_ fe re) true):=
 XM S hn hm hcalm hi ht (fun X' cc=>by obtain ⟨y,rfl⟩:=jM cc;exact hg y) (fun X' cc=>by obtain ⟨y,rfl⟩:=jM cc;exact he y) hs
theorem FW (S:bY X.N X.env.scope scope ownN) (hn:X.N.length=n) (hm:ownN.length=m) (hcalm:X.calm=true) (hi:PI X tg iter (gI X.K it)) (ht:TgC g t n m) (hg:∀y,PG (mkC X scope ownN y) tg g) (hc:∀y,PT (mkC X scope ownN y) c (gT gc)) (he:∀y,PE (mkC X scope ownN y) elt (gE fe re))
  (hs:∀x,foldedSetIterable iter X.env x=pure x):PE X (.ListComp elt [⟨tg,iter,[c],0⟩] scope pos) (gE (cH n it t gc fe re) true):=
 K1 S hn hm hcalm hi ht (fun X' cc=>by obtain ⟨y,rfl⟩:=jM cc;exact hg y) (fun X' cc=>by obtain ⟨y,rfl⟩:=jM cc;exact hc y) (fun X' cc=>by obtain ⟨y,rfl⟩:=jM cc;exact he y) hs
theorem oE {y:Str} {py pos2:Pos} {iy:Nat} {o:Bool} (S:bY X.N X.env.scope scope ownN) (hn:X.N.length=n) (hm:ownN.length=m) (hcalm:X.calm=true) (hi:PI X tg iter (gI X.K it)) (ht:TgC g t n m) (hg:∀y,PG (mkC X scope ownN y) tg g) (he:∀y,PE (mkC X scope ownN y) elt (gE fe re))
  (hs:∀x,foldedSetIterable iter X.env x=pure x) (ho:own iy=o) (hNn:X.N.Nodup) (hiy:X.N[iy]?=some y) (hxy:Loc X.env.scope y) (hfy:X.fn y=true\/X.env.scope.names.lookup y=some .local) (hsw:swapsWith (.ListComp elt [⟨tg,iter,[],0⟩] scope pos) (some (.Name y py)) pos2.line X.env=pure true) :
  PS X (.Assign [.Name y py] (.ListComp elt [⟨tg,iter,[],0⟩] scope pos) pos2) (tS own (cM o iy (cH n it t d_ fe re) true)):=
 XR S hn hm hcalm hi ht (fun X' cc=>by obtain ⟨y,rfl⟩:=jM cc;exact hg y) (fun X' cc=>by obtain ⟨y,rfl⟩:=jM cc;exact he y) hs ho hNn hiy hxy hfy hsw
theorem qO {y:Str} {py pos2:Pos} {iy:Nat} {o:Bool} (S:bY X.N X.env.scope scope ownN) (hn:X.N.length=n) (hm:ownN.length=m) (hcalm:X.calm=true) (hi:PI X tg iter (gI X.K it)) (ht:TgC g t n m) (hg:∀y,PG (mkC X scope ownN y) tg g) (hc:∀y,PT (mkC X scope ownN y) c (gT gc)) (he:∀y,PE (mkC X scope ownN y) elt (gE fe re))
  (hs:∀x,foldedSetIterable iter X.env x=pure x) (ho:own iy=o) (hNn:X.N.Nodup) (hiy:X.N[iy]?=some y) (hxy:Loc X.env.scope y) (hfy:X.fn y=true\/X.env.scope.names.lookup y=some .local) (hsw:swapsWith (.ListComp elt [⟨tg,iter,[c],0⟩] scope pos) (some (.Name y py)) pos2.line X.env=pure true) :
  PS X (.Assign [.Name y py] (.ListComp elt [⟨tg,iter,[c],0⟩] scope pos) pos2) (tS own (cM o iy (cH n it t gc fe re) true)):=
 K5 S hn hm hcalm hi ht (fun X' cc=>by obtain ⟨y,rfl⟩:=jM cc;exact hg y) (fun X' cc=>by obtain ⟨y,rfl⟩:=jM cc;exact hc y) (fun X' cc=>by obtain ⟨y,rfl⟩:=jM cc;exact he y) hs ho hNn hiy hxy hfy hsw
end
def aEh:FS:=fun _=>.bad
theorem aB6 {X:Cx} {own:Nat->Bool} {st:Stmt}:PS X st (tS own aEh):=fun pins s σ H D I h=>by
 obtain ⟨_,_,_,h,_⟩:=h;cases h
noncomputable def m8 (P:Program) (w:World) (K:PySem.W.Frag) (mg:Str->Option Value) (base:Heap) (k:Nat) (x:Str) (n:Nat) (f:List D->Res D):Prop:=
 ∃(fad:Addr) (fd:FuncData) (ps:List Str),mC P w K mg base CX0 k fad fd ps (spD f n)/\mg x=some (.ref fad)/\PySem.W.keepIn K (.ref fad)=true/\Binds K fd ps []
section
variable {X:Cx} {e:Expr} {es:List Expr} {pos p:Pos} {fs:FA} {rr:Bool} {x:Str} {k n:Nat} {f:List D->Res D}
theorem jD {k':Nat} (C:m8 X.prog X.w X.K X.mg X.base k x n f) (hr:jH k' X.A) (hkk:k<=k') (hg:Gl X x) (ha:PA X (e::es) (gA fs rr)) (hdb:nDb x:=by decide) (he:starEach (e::es) X.env=(false,eval e X.env)::starEach es X.env:=by rfl) (hpl:(backTo pos (starEach es X.env)).any (·.1)=false:=by rfl) :
  PE X (.Call (.Name x p) (e::es) [] pos) (gE (aY (o6 n f) fs) true):=by
 obtain ⟨fad,fd,ps,F,hm,hk,hb⟩:=C;exact XJ F (hr.mono hkk) hg hm hk hb ha hdb he hpl
theorem uF {P:Program} {w:World} {K:PySem.W.Frag} {mg:Str->Option Value} {base:Heap} {st:Stmt} {fad:Addr} {fd:FuncData} {N ps:List Str} {fs:FS} (F:Fun K x x st fad fd) (hm:mg x=some (.ref fad)) (hb:Binds K fd ps []) (S:bW N ps (aJ st)) (own:Nat->Bool) (hown:∀i,i<ps.length->own i=false) (hNl:ps.length<=N.length)
  (hbody:∀(cdv:Value) (A:Around) (outer:List Env) (s:Shared) (H:Hp) (E:XK),jH k (A.deeper (envOfC x (aJ st) s.heap.objs.size fad cdv))->PSs (CT CX0 P w K mg base N x (aJ st) fad cdv A outer s H E).nox (cF st) (tS own fs)) (hx:own rtX=false:=by rfl):m8 P w K mg base (k+1) x ps.length (fnS ps.length N.length fs):=
 ⟨fad,fd,ps,aB5 F S own hown hNl hbody hx,hm,F.kp,hb⟩
end
theorem wR {A:Around} {k:Nat} (hr:jH k A):A.units+20<cLine:=Nat.lt_of_le_of_lt (Nat.add_le_add_left (by decide:20<=64) _) hr.units
structure Bt (mg:Str->Option Value):Prop where
 len:mg "len" = none
 min:mg "min" = none
 max:mg "max" = none
 list:mg "list" = none
 tuple:mg "tuple" = none
 sorted:mg "sorted" = none
 range:mg "range" = none
 isi:mg "isinstance" = none
 int:mg "int" = none
 bool:mg "bool" = none
 str:mg "str" = none
 dict:mg "dict" = none
 all:mg "all" = none
 enum:mg "enumerate" = none
 sum:mg "sum" = none
 zip:mg "zip" = none
 abs:mg "abs" = none
 reversed:mg "reversed" = none
theorem iB:bootBuiltins "len" = some (.builtin "len"):=by decide +kernel
theorem aB7:bootBuiltins "max" = some (.builtin "max"):=by decide +kernel
theorem eQ:bootBuiltins "isinstance" = some (.builtin "isinstance"):=by decide +kernel
theorem XS:bootBuiltins "list" = some (.type "list"):=by decide +kernel
theorem cX:bootBuiltins "tuple" = some (.type "tuple"):=by decide +kernel
theorem aB8:bootBuiltins "int" = some (.type "int"):=by decide +kernel
theorem XX:bootBuiltins "bool" = some (.type "bool"):=by decide +kernel
theorem aB9:bootBuiltins "str" = some (.type "str"):=by decide +kernel
theorem ints_rep {P:Addr->Prop} {H:Hp}:∀ns:List Int,a_ P H (ns.map V.int) (ns.map D.int)
 | []=>.nil
 | n::ns=>.cons (.int n) (ints_rep ns)
end Mi
namespace Mi
open PySem L2
theorem K_ {K:PySem.W.Frag} {f:List D->Res D} {H:Hp} {a:Addr} {ns:List Int} {E:XK} (main:∀ns:List Int,ns.length<=63->f [.scr (ns.map D.int)]=.ok (.bl true)) (hl:ns.length<=63) (hO:Only H) (hS:SqL K H a (ns.map V.int)):@spD ⟨K⟩ f 1 [.ref a] H (fun v _=>v=.bl true) E:=by
 letI:KFrag:=⟨K⟩
 refine ⟨[.scr (ns.map D.int)],.bl true,rfl,.cons (.frz ?_ (ints_rep ns)) .nil,main ns hl,fun v H' s r n=>by cases r;rfl⟩;rcases hS with (h|⟨o,h⟩)|h
 ·rcases hO a with z|⟨o,xs,z⟩
  ·rw [h] at z;cases z
  ·rw [h] at z;cases z
 ·exact .inl ⟨o,h⟩
 ·exact .inr h
end Mi
end
section
namespace Mi
open PySem L2 PySem.SeqAt PySem.Spec PyProof.Rows
noncomputable def uG:D->D->Res D
 | .str x,.int n=>if decide (0<=n)&&decide (n<=100000)&&decide (x.length*n.toNat<=lim) then .ok (.str (Txt.mul x n)) else .bad
 | a,b=>aQ .mul a b
noncomputable def inX:D->D->Res D
 | .str c,.str x=>.ok (.bl (!(Builtin.Str.occurrences x c 0 x.length 1).isEmpty))
 | a,b=>dG .isin a b
noncomputable def Z1:D->Option Int->Option Int->Res D
 | .str x,lo,hi=>if decide (x.length<=lim) then .ok (.str (Txt.slice x lo hi)) else .bad
 | d,lo,hi=>Z0 d lo hi
noncomputable def kZ (a:FE) (lo hi:List D->Res (Option Int)):FE:=fun ρ=>do let x <- a ρ;let l <- lo ρ;let h <- hi ρ;Z1 x l h
noncomputable def uH:D->Res (List D)
 | .str x=>if decide (x.length<=lim) then .ok (uE x) else .bad
 | d=>o7 d
noncomputable def bD (a:FE) (fr:Bool):FI:=fun ρ=>do let x <- a ρ;let xs <- uH x;pure (xs,fr||x.pure)
noncomputable def pC:List D->Option (List Str)
 | []=>some []
 | .str x::r=>(pC r).map (x::·)
 | _::_=>none
noncomputable def joinM:D->List D->Res D
 | .str sep,[.lst ds]=>match pC ds with
  | some ts=>if JoinOk sep ts then .ok (.str (Txt.join sep ts)) else .bad
  | none=>.bad
 | _,_=>.bad
variable [KFrag]
section
variable {X:Cx}
theorem m9:OpR X (binaryOp .Mult) (r2 uG true):=by
 intro pins s σ H x y v u Q I rx ry ⟨a,b,d,p,q,e,k⟩;by_cases hs:∃z n,a=.str z/\b=.int n
 ·obtain ⟨z,n,rfl,rfl⟩:=hs;simp only [uG] at e;split at e
  ·rename_i hl;cases e;simp only [Bool.and_eq_true,decide_eq_true_eq] at hl;obtain ⟨⟨h0,h1⟩,h2⟩:=hl;cases p;cases q;obtain ⟨t,rfl⟩:=rx;obtain ⟨t',rfl⟩:=ry;have hz:z.length*n.toNat<=sizeLine:=Nat.le_trans h2 (by rw [sizeLine_eq];decide);refine SB.mul ⟨?_,fun h3 _=>?_,fun _ _=>?_⟩ fun t2 k2=>⟨.str _,H,I.tok k2,⟨t2,rfl⟩,k.str⟩
   ·rw [decide_eq_false (by lia),decide_eq_false (by lia)];rfl
   ·have hn:0<n:=by lia
    have h4:(z.length:Int)*n<=2 ^ 63-1:=by
     have h5:((z.length*n.toNat:Nat):Int)<=1000000:=by
      have:lim=1000000:=by unfold lim;exact Eq.refl _
      lia
     rw [Int.natCast_mul,Int.toNat_of_nonneg h0] at h5;lia
    have h6:=(Int.le_ediv_iff_mul_le hn).mpr h4;lia
   ·unfold Builtin.Str.tooLong;exact decide_eq_false (by lia)
  ·cases e
 ·have he:uG a b=aQ .mul a b:=by
   unfold uG;split
   ·exact absurd ⟨_,_,rfl,rfl⟩ hs
   ·rfl
  rw [he] at e;exact aAx pins s σ H x y v u Q I rx ry ⟨a,b,d,p,q,e,k⟩
theorem uI (hu:X.A.units+20<cLine):OpR X (compareOp .In) (r2 inX true):=by
 intro pins s σ H x y v u Q I rx ry ⟨a,b,d,p,q,e,k⟩;by_cases hs:∃z n,a=.str z/\b=.str n
 ·obtain ⟨z,n,rfl,rfl⟩:=hs;cases e;cases p;cases q;exact JB pins s σ H _ _ v u Q I rx ry ⟨_,_,rfl,rfl,k.bl⟩
 ·have he:inX a b=dG .isin a b:=by
   unfold inX;split
   ·exact absurd ⟨_,_,rfl,rfl⟩ hs
   ·rfl
  rw [he] at e;exact aE9 hu pins s σ H x y v u Q I rx ry ⟨a,b,d,p,q,e,k⟩
theorem part_of {v:Value} {o:Option Int} (h:IsPart v o):∃l:Option (Int×Tok),partValue l=v/\l.map (·.1)=o:=by
 cases h with
 | none=>exact ⟨none,rfl,rfl⟩
 | int i t=>exact ⟨some (i,t),rfl,rfl⟩
theorem aBa (hK:KFrag.K=X.K):SlR X (fun x lo hi H Q=>∃a d,Rep All H x a/\Z1 a lo hi=.ok d/\kR H d true Q):=by
 intro pins s σ H x v vl vu lo hi sl Q I rx hs pl pu ⟨a,d,p,e,k⟩;by_cases hz:∃z,a=.str z
 ·obtain ⟨z,rfl⟩:=hz;simp only [Z1] at e;split at e
  ·rename_i hl;cases e;cases p;obtain ⟨t,rfl⟩:=rx;obtain ⟨l,e1,e2⟩:=part_of pl;obtain ⟨m,e3,e4⟩:=part_of pu;subst e1 e2 e3 e4;refine ⟨"str",_,F.slot_str_getitem.lookup,typeIs_str _ _ _,?_⟩;obtain ⟨o,ho,hc,hd⟩:=hs;refine wpAny_getItem_str_slice (l:=l) (u:=m) (st:=none) ⟨o,ho,hc,hd⟩ rfl ?_;have hle:(Txt.slice z (l.map (·.1)) (m.map (·.1))).length<=sizeLine:=Nat.le_trans (Txt.slice_le ..) (jB hl);have q:∀(t':Tok) (k2:Nat),EP X pins σ Q (.str (Txt.slice z (l.map (·.1)) (m.map (·.1))) t') {s with toks:=k2}:=fun t' k2=>⟨.str _,H,I.tok k2,⟨t',rfl⟩,k.str⟩
   show Made.post (if ((1:Int)==1&&(Builtin.Str.strSliceIndices (l.map (·.1)) (m.map (·.1)) 1 z.length).length==z.length)=true then .val (.str z t) else .str ⟨((Builtin.Str.strSliceIndices (l.map (·.1)) (m.map (·.1)) 1 z.length).filterMap (z.cps[·]?)).toArray⟩) _ s;unfold Txt.slice at hle q;split
   ·rename_i hh;have:=q t s.toks;rw [if_pos hh] at this;exact this
   ·rename_i hh;rw [if_neg hh] at hle;have:=q s.toks (s.toks+1);rw [if_neg hh] at this;exact ⟨hle,this⟩
  ·cases e
 ·have he:Z1 a lo hi=Z0 a lo hi:=by
   unfold Z1;split
   ·exact absurd ⟨_,rfl⟩ hz
   ·rfl
  rw [he] at e;exact aEb hK pins s σ H x v vl vu lo hi sl Q I rx hs pl pu ⟨a,d,p,e,k⟩
theorem jN {e:Expr} {fe:FE} {re:Bool} {pos:Pos} {lo hi:Option Expr} {p2:Pos} {fl fh:List D->Res (Option Int)} (hK:KFrag.K=X.K) (he:PE X e (gE fe re)) (hl:PO X lo (gO fl)) (hh:PO X hi (gO fh)):PE X (.Subscript e (.Slice lo hi none p2) pos) (gE (kZ fe fl fh) true):=
 PE.imp (Q0 (aBa hK) he hl hh) fun σ H Q ⟨ρ,d,E,h,q⟩=>by
  obtain ⟨x,h1,h⟩:=aR h;obtain ⟨l,h2,h⟩:=aR h;obtain ⟨u,h3,h⟩:=aR h;exact ⟨ρ,x,E,h1,fun v H1 s1 r1 _=>⟨ρ,l,E.same s1,h2,fun H2 s2=>⟨ρ,u,E.same (s1.trans s2),h3,fun H3 s3=>⟨x,d,r1.same (s2.trans s3),h,q.imp ((s1.trans s2).trans s3) id⟩⟩⟩⟩
theorem zF {P:Addr->Prop} {H:Hp}:∀{xs:List V} {ds:List D} {its:List Value} {ts:List Str},a_ P H xs ds->Vals xs its->pC ds=some ts->∃l:List (Str×Tok),its=strValues l/\l.map (·.1)=ts
 | [],[],[],_,_,_,h=>by cases h;exact ⟨[],rfl,rfl⟩
 | _,_,_,_,.cons (d:=d) r t,.cons rv tv,h=>by
  cases d with
  | str z=>
   obtain ⟨ts,h1,h2⟩:=Option.map_eq_some_iff.mp h;cases r;obtain ⟨tk,rfl⟩:=rv;obtain ⟨l,e1,e2⟩:=zF t tv h1;refine ⟨(z,tk)::l,?_,?_⟩
   ·rw [e1];rfl
   ·rw [<-h2,<-e2];rfl
  | _=>simp only [pC] at h;cases h
theorem X3:MtR X "str.join" (rm joinM true):=by
 intro pins s σ H x xs v us Q I rv vr ⟨a,ds,d,ra,rs,h,k⟩;unfold joinM at h;split at h
 ·split at h
  ·rename_i ts hts;split at h
   ·rename_i hok;cases h;obtain ⟨vv,uu,rfl,rfl,r,rk⟩:=lF rs vr;obtain ⟨l,ys,rfl,hl,rr⟩:=r.fU (K:=X.K);cases rk;cases ra;obtain ⟨t,rfl⟩:=rv;obtain ⟨its,vr',pl⟩:=j7 I hl;obtain ⟨l2,e1,e2⟩:=zF rr vr' hts;subst e1;exact SC.join pl e2 hok fun t' k2=>⟨.str _,H,I.tok k2,⟨t',rfl⟩,k.str⟩
   ·cases h
  ·cases h
 ·cases h
theorem RX {d:D} {ds:List D} {r:D} {v:V} {H:Hp} (h:joinM d ds=.ok r) (rp:Rep All H v d):tyV X.K "str" v H:=by
 have:∃z,d=.str z:=by
  unfold joinM at h;split at h
  ·exact ⟨_,rfl⟩
  ·cases h
 obtain ⟨z,rfl⟩:=this;cases rp;rfl
theorem RZ {P:Program} {w:World} {K:PySem.W.Frag} {tg:Expr} (x:Str) (t:Tok) (it:Addr):Turn P w K tg (aEd x) [it] it (fun i h=>h.IsStrIter it (strIterType x) x t i) where
 mem:=by simp
 obj:=fun i h st b hb=>by
  have e:b=it:=by simpa using hb
  subst e;obtain ⟨o,e,c,d⟩:=st;exact ⟨o,e,fun v z=>by rw [d] at z;cases z⟩
 keep:=fun i h h' st k=>by
  obtain ⟨o,e,r⟩:=st;exact ⟨o,k it (by simp) o e,r⟩
 item:=by
  intro Y hP hw hK hc i pins s σ H E I hf st hg;subst hP hw hK;obtain ⟨f0,f1,f2,f3,f4,f5⟩:=hf it (by simp);have hx:x.cps[i]?=some x.cps[i]:=Array.getElem?_eq_getElem hg;have fin:∀(h':Heap) (ty:String),(["enumerate", "zip", "dict_itemiterator", "dict_reverseitemiterator", "odict_iterator", "itertools.zip_longest", "itertools.pairwise"].contains ty=false)->strIterType x=ty->h'.IsStrIter it ty x t (i+1)->Heap.SameBut it s.heap h'->
    ∃u,some (Value.str ⟨#[x.cps[i]]⟩ s.toks)=some u/\wpAny (model Y.prog Y.w) Y.A (letOwnedTupleGo tg (.ref it) u) (fun _ s2=>∃v H',Inv Y pins σ H' s2/\RelV v u/\(aEd x).yld i H v H'/\s2.heap.IsStrIter it (strIterType x) x t (i+1)/\∀b∈[it],H' b=none) E {s with heap:=h',toks:=s.toks+1}:=by
   intro h' ty hn hty st' sb;have I1:Inv Y pins σ H {s with heap:=h',toks:=s.toks+1}:=I.turned (fun b o hb e=>(sb.2 b hb).trans e) f0 f1 f3 f4 f5;obtain ⟨o,e,c,d⟩:=id st';exact ⟨_,rfl,QS (s:={s with heap:=h',toks:=s.toks+1}) e c d hn ⟨.str ⟨#[x.cps[i]]⟩,H,I1,⟨_,rfl⟩,⟨rfl,_,hx,rfl⟩,by rw [hty];exact st',fun b hb=>(hf b hb).1⟩⟩
  cases ha:x.cps.all (·<128)
  ·have hty:strIterType x = "str_iterator":=by simp [strIterType,ha]
   rw [hty] at st;exact wpAny_pyNext_wide_item st hx fun h' st' sb=>fin h' _ (by decide) hty st' sb
  ·have hty:strIterType x = "str_ascii_iterator":=by simp [strIterType,ha]
   rw [hty] at st;exact wpAny_pyNext_ascii_item st hx fun h' st' sb=>fin h' _ (by decide) hty st' sb
 done:=by
  intro Y hP hw hK hc i pins s σ H E I hf st hg;subst hP hw hK;obtain ⟨f0,f1,f2,f3,f4,f5⟩:=hf it (by simp);have hx:x.cps[i]?=none:=Array.getElem?_eq_none hg;cases ha:x.cps.all (·<128)
  ·have hty:strIterType x = "str_iterator":=by simp [strIterType,ha]
   rw [hty] at st;exact wpAny_pyNext_wide_end (I.ok.hd hc) st hx fun h' eb=>⟨rfl,I.turned (t':=s.toks) (fun b o hb e=>eb b o hb e) f0 f1 f3 f4 f5⟩
  ·have hty:strIterType x = "str_ascii_iterator":=by simp [strIterType,ha]
   rw [hty] at st;exact wpAny_pyNext_ascii_end (I.ok.hd hc) st hx fun h' eb=>⟨rfl,I.turned (t':=s.toks) (fun b o hb e=>eb b o hb e) f0 f1 f3 f4 f5⟩
 self:=fun _ _ _ _ _ st h=>by
  cases ha:x.cps.all (·<128)
  ·have hty:strIterType x = "str_iterator":=by simp [strIterType,ha]
   rw [hty] at st;exact wpAny_pyIter_striter_wide st h
  ·have hty:strIterType x = "str_ascii_iterator":=by simp [strIterType,ha]
   rw [hty] at st;exact wpAny_pyIter_striter_ascii st h
section
variable {tg l a:Expr} {fl fa:FE} {rl ra:Bool} {p pos:Pos}
theorem LC {pins:List (Addr×Obj)} {s1:Shared} {σ:L2.St} {H1:Hp} {R:It->Hp->Prop} {v:V} {u:Value} {d:D} {items:List D} (I1:Inv X pins σ H1 s1) (r:Rep All H1 v d) (ru:RelV v u) (hi:uH d=.ok items)
  (q:∀J,(∀P:Addr->Prop,Rep P H1 v d->ItQ X.K P J H1 items)->R J H1):wpAny (model X.prog X.w) X.A (pyIter u) (PIE X pins σ tg R) X.xe s1:=by
 by_cases hz:∃z,d=.str z
 ·obtain ⟨z,rfl⟩:=hz;simp only [uH] at hi;split at hi
  ·cases hi;cases r;obtain ⟨t,rfl⟩:=ru;refine wpAny_pyIter_strU ?_;refine ⟨s1.heap.objs.size,[s1.heap.objs.size],_,_,H1,rfl,I1.kept (t':=s1.toks) fun b o e=>Heap.get?_push_of_some _ e,RZ z t _,⟨_,Heap.get?_push_size _ rfl,rfl,rfl⟩,fun b hb=>?_,q _ fun P r=>.chs z rfl rfl⟩;have e:b=s1.heap.objs.size:=by simpa using hb
   subst e;exact I1.aDc (Nat.le_refl _) (I1.hok.fresh (Nat.le_refl _))
  ·cases hi
 ·have he:uH d=o7 d:=by
   unfold uH;split
   ·exact absurd ⟨_,rfl⟩ hz
   ·rfl
  rw [he] at hi;exact zA I1 r ru hi q
theorem dW (hl:PE X l (gE fl rl)):PI X tg l (gI X.K (bD fl rl)):=by
 intro pins s σ H R I ⟨ρ,items,k,E,h,q⟩;obtain ⟨d,h1,h⟩:=aR h;obtain ⟨its,h2,h⟩:=aR h;cases h;refine thn (hl pins s σ H _ I ⟨ρ,d,E,h1,fun v H1 s1 r1 n1=>(show (∃d',Rep All H1 v d/\d'=d/\∀J,(∀P:Addr->Prop,Rep P H1 v d->ItQ X.K P J H1 items)->R J H1) from ⟨d,r1,rfl,fun J hJ=>q J H1 s1 (hJ _ r1) fun hk=>hJ _ ?_⟩)⟩) fun u s1 ⟨v,H1,I1,ru,d',r1,e,q1⟩=>LC I1 r1 ru h2 q1
 rw [Bool.or_eq_true] at hk;rcases hk with hk|hk
 ·exact n1 hk
 ·exact r1.bI hk
end
end
section
variable {X:Cx} {pos p:Pos} {x:Str} {k:Nat} {f:List D->Res D}
end
end Mi
end
section
namespace Mi
open PySem L2
theorem bK:lim=1000000:=by unfold lim;exact Eq.refl _
theorem LK {n:Nat} {ρ:List D} (h:ρ.length=n):yM n ρ=ρ:=by
 subst h;apply List.ext_getElem
 ·simp [yM]
 ·intro i h1 h2;simp [yM,h2]
theorem j_ {n:Nat} {f:List D->Res D} {ds:List D} (h:ds.length=n):o6 n f ds=f ds:=by
 unfold o6;rw [if_pos (by simp [h])]
theorem aH {f:D->D->Res D} {a b:FE} {ρ:List D} {x y z:D} (h1:a ρ=.ok x) (h2:b ρ=.ok y) (h3:f x y=.ok z):b2 f a b ρ=.ok z:=by
 unfold b2;rw [h1,Res.aM,h2,Res.aM,h3]
theorem eU {i:Nat} {f:FE} {ρ:List D} {d:D} (h:f ρ=.ok d):cM false i f true ρ=.ok (.nx (ρ.set i d)):=by
 unfold cM;rw [h,Res.aM];rfl
theorem jE {i:Nat} {f:FE} {ρ:List D} {d:D} (h:f ρ=.ok d) (hp:d.pure=true):cM false i f false ρ=.ok (.nx (ρ.set i d)):=by
 unfold cM;rw [h,Res.aM];simp only [hp,Bool.false_or,Bool.false_eq_true,if_false,if_true]
theorem gK {i:Nat} {f:FE} {ρ:List D} {d:D} (h:f ρ=.ok d) (hp:inner d=true):cM true i f true ρ=.ok (.nx (ρ.set i d)):=by
 unfold cM;rw [h,Res.aM];simp only [hp,Bool.and_self,if_true]
theorem aEi {i j:Nat} {ρ:List D} {d:D} (h:cL j ρ=.ok d):sAl i j ρ=.ok (.nx (ρ.set i d)):=by
 unfold sAl;rw [h,Res.aM]
theorem aP {f g:FS} {ρ ρ':List D} {r:Res Fl} (h1:f ρ=.ok (.nx ρ')) (h2:g ρ'=r):bA f g ρ=r:=by
 unfold bA;rw [h1,Res.aM];exact h2
theorem LQ {c:FT} {f g:FS} {ρ:List D} {k:Bool} {r:Res Fl} (h1:c ρ=.ok k) (h2:(if k then f ρ else g ρ)=r):sIf c f g ρ=r:=by
 unfold sIf;rw [h1,Res.aM];exact h2
theorem U3 {c:FT} {f g:FS} {ρ:List D} {r:Res Fl} (h1:c ρ=.ok true) (h2:f ρ=r):sIf c f g ρ=r:=LQ h1 (by rw [if_pos rfl];exact h2)
theorem LR {c:FT} {f g:FS} {ρ:List D} {r:Res Fl} (h1:c ρ=.ok false) (h2:g ρ=r):sIf c f g ρ=r:=LQ h1 (by rw [if_neg (by simp)];exact h2)
theorem gB {f:FE} {ρ:List D} {k:Bool} (h1:f ρ=.ok (.bl k)):bTB f ρ=.ok k:=by
 unfold bTB;rw [h1,Res.aM];rfl
theorem aBb {a b:FT} {ρ:List D} {r:Res Bool} (h1:a ρ=.ok true) (h2:b ρ=r):QH a b ρ=r:=by
 unfold QH;rw [h1,Res.aM,if_pos rfl,h2]
theorem aBc {a b:FT} {ρ:List D} (h1:a ρ=.ok false):QH a b ρ=.ok false:=by
 unfold QH;rw [h1,Res.aM,if_neg (by simp)];rfl
theorem aD {a:FE} {b:FA} {ρ:List D} {x:D} {xs:List D} (h1:a ρ=.ok x) (h2:b ρ=.ok xs):aB a b ρ=.ok (x::xs):=by
 unfold aB;rw [h1,Res.aM,h2,Res.aM];rfl
theorem bB {f:List D->Res D} {a:FA} {ρ:List D} {xs:List D} {d:D} (h1:a ρ=.ok xs) (h2:f xs=.ok d):aY f a ρ=.ok d:=by
 unfold aY;rw [h1,Res.aM,h2]
theorem fL {a:FA} {ρ:List D} {xs:List D} (h:a ρ=.ok xs) (hl:xs.length<=lim):jL a ρ=.ok (.tup xs):=by
 unfold jL;rw [h,Res.aM,if_pos (decide_eq_true hl)];rfl
theorem uJ {f:FE} {ρ:List D} {d:D} {k:Bool} (h:f ρ=.ok d) (hp:(k||d.pure)=true):o9 f k ρ=.ok (.rt d):=by
 unfold o9;rw [h,Res.aM,if_pos hp]
theorem qP {it:FI} {t:D->List D->Res (List D)} {body:FS} {ρ:List D} {xs:List D} {r:Res Fl} (h1:it ρ=.ok (xs,true)) (h2:pW t body xs ρ=r):DQ it t body ρ=r:=by
 unfold DQ;rw [h1,Res.aM];exact h2
theorem L_ {i:Nat} {t:D->List D->Res (List D)} {body:FS} {ρ:List D} {d:D} {xs:List D} {r:Res Fl} (h1:cL i ρ=.ok d) (h2:o7 d=.ok xs) (h3:pW t body xs ρ=r):DR i t body ρ=r:=by
 unfold DR;rw [h1,Res.aM,h2,Res.aM];exact h3
theorem pD {f:FA} {ρ:List D} {n:Int} (h:f ρ=.ok [.int n]) (h1:0<=n) (h2:n<=1000000):jQ f gW ρ=.ok ((List.range n.toNat).map fun (k:Nat)=>D.int (0+(k:Int)),true):=by
 unfold jQ;rw [h,Res.aM];have:lK n=true:=by
  simp only [lK,Bool.and_eq_true,decide_eq_true_eq];lia
 simp only [gW,this,if_true]
theorem MF {i:Nat} {f g:FE} {ρ:List D} {kvs:List (D×D)} {k d:D} (h1:g ρ=.ok d) (h2:f ρ=.ok k) (h3:ρ.getD i .uD=.dct kvs) (h4:kvs.length<lim) (h5:DN kvs k=true) (h6:d.pure=true):RD i f g ρ=.ok (.nx (ρ.set i (.dct (putD kvs k d)))):=by
 unfold RD;rw [h1,Res.aM,h2,Res.aM,h3];simp only [decide_eq_true h4,h5,h6,Bool.and_self,if_true]
theorem nQ {i:Nat} {f:FE} {ρ:List D} {xs:List D} {d:D} (h1:f ρ=.ok d) (h3:ρ.getD i .uD=.lst xs) (h4:xs.length<lim) (h5:d.pure=true):rC i f ρ=.ok (.nx (ρ.set i (.lst (xs++[d])))):=by
 unfold rC;rw [h1,Res.aM,h3];simp only [decide_eq_true h4,h5,Bool.and_self,if_true]
theorem fM {t:D->List D->Res (List D)} {body:FS} {x:D} {xs:List D} {ρ ρ1 ρ2:List D} {r:Res Fl} (h1:t x ρ=.ok ρ1) (h2:body ρ1=.ok (.nx ρ2)) (h3:pW t body xs ρ2=r):pW t body (x::xs) ρ=r:=by
 rw [pW,h1,Res.aM,h2,Res.aM];exact h3
theorem MJ {n:Nat} {it:FI} {t:D->Res (List D)} {c:FT} {f:FE} {k kk:Bool} {ρ:List D} {xs ys:List D} (h1:it ρ=.ok (xs,kk)) (h2:xs.length<=lim) (h3:nY (wA n t c f k ρ) [] xs=.ok ys):cH n it t c f k ρ=.ok (.lst ys):=by
 unfold cH;rw [h1,Res.aM];simp only [decide_eq_true h2,if_true];rw [h3];rfl
theorem uK {n:Nat} {c:FT} {f:FE} {k:Bool} {ρ acc:List D} {x y:D} {b:Bool} (hρ:ρ.length=n) (h1:c (ρ++[x])=.ok b) (h2:b=true->f (ρ++[x])=.ok y/\(k||y.pure)=true):wA n jV c f k ρ acc x=.ok (if b then acc++[y] else acc):=by
 unfold wA;show (do let ok <- c (yM n ρ++[x]);_)=_;rw [LK hρ,h1,Res.aM];cases b with
 | true=>
  obtain ⟨e1,e2⟩:=h2 rfl;rw [if_pos rfl,e1,Res.aM,if_pos e2,if_pos rfl];rfl
 | false=>
  rw [if_neg (by simp),if_neg (by simp)];rfl
theorem dN (a b:Int):aQ .add (.int a) (.int b)=.ok (.int (a+b)):=rfl
theorem zG (a b:Int):aQ .sub (.int a) (.int b)=.ok (.int (a-b)):=rfl
theorem aBd (a b:Int) (h:jK b=true):aQ .mul (.int a) (.int b)=.ok (.int (a*b)):=by
 simp only [aQ,h,Bool.or_true,if_true]
theorem dC (a b:Int) (h1:0<b) (h2:b<1073741824):aQ .fdiv (.int a) (.int b)=.ok (.int (a / b)):=by
 simp only [aQ,decide_eq_true h1,decide_eq_true h2,Bool.and_self,if_true]
theorem bO (a b:Int) (h1:0<b):aQ .mod (.int a) (.int b)=.ok (.int (a % b)):=by
 simp only [aQ,decide_eq_true h1,if_true]
theorem zH (a:Int) (h1:-1000000<=a) (h2:a<=1000000):jK a=true:=by
 simp only [jK,Bool.and_eq_true,decide_eq_true_eq];lia
theorem MK (a b:Str) (h:a.length+b.length<=lim):aQ .add (.str a) (.str b)=.ok (.str (a++b)):=by
 simp only [aQ,decide_eq_true h,if_true]
theorem X4 (a b:List D) (h:a.length+b.length<=lim) (ha:D.aN a=true) (hb:D.aN b=true):aQ .add (.lst a) (.lst b)=.ok (.lst (a++b)):=by
 simp only [aQ,decide_eq_true h,ha,hb,Bool.and_self,if_true]
theorem m_ (S:List Int):D.aN (S.map D.int)=true:=by
 induction S with
 | nil=>rfl
 | cons q Q ih=>rw [List.map_cons,D.aN,ih];rfl
theorem X5 (ns:List Int) (lo hi:Option Int):cutD (ns.map D.int) lo hi=(cutD ns lo hi).map D.int:=by
 unfold cutD;rw [List.length_map,List.map_take,List.map_drop]
end Mi
end
section
namespace Mi
open PySem L2 PySem.SeqAt PySem.Spec PyProof.Rows
section
variable {P:Program} {w:World} {K:PySem.W.Frag} {mg:Str->Option Value} {base:Heap} {N:List Str} {qual:Str} {scope:Scope} {f C:Addr} {cd:Value} {A:Around} {outer:List Env} {s:Shared} {H:Hp} {E:XK}
end
section
variable [KFrag]
end
end Mi
end
section
namespace Mi
open PySem L2 PySem.W PySem.SeqAt PySem.Spec PyProof.Rows PySem.Builtin PySem.Builtin.ObjectAttr PySem.Builtin.Getset_descriptor
section
variable {prog:Program} {w:World} {A:Around} {E:Value->Shared->Prop} {s:Shared} {K:Frag} {x C:Addr}
end
end Mi
end
section
namespace Mi
open PySem L2 PySem.W PySem.SeqAt PySem.Spec PyProof.Rows
section
variable {X:Cx} {pins:List (Addr×Obj)} {σ:L2.St} {H H1 H2:Hp} {s:Shared} {h h6:Heap} {a:Addr}
end
end Mi
end
section
namespace Mi
open PySem L2 PySem.W PySem.SeqAt PySem.Spec PyProof.Rows
variable [KFrag]
section
variable {X:Cx} {C:Addr} {i:Nat} {cs:List Addr} {b:Bool} {y:Str} {p np tpos pos:Pos} {es:List Expr} {kk:Nat} {ce:Expr} {v:V} {u:Value}
end
end Mi
end
section
namespace Mi
open PySem L2 PySem.SeqAt PySem.Spec PyProof.Rows
noncomputable def intsOf:List D->Option (List Int)
 | []=>some []
 | .int i::r=>(intsOf r).map (i::·)
 | _::_=>none
noncomputable def pZ:List D->Res D
 | [.lst ds]=>match intsOf ds with
  | some ns=>if ns.all (fun i=>decide (-1000<=i)&&decide (i<=1000))&&decide (ns.length<=100000) then .ok (.int ns.sum) else .bad
  | none=>.bad
 | _=>.bad
theorem uL:∀{ds:List D} {ns:List Int},intsOf ds=some ns->ds=ns.map D.int
 | [],ns,h=>by cases h;rfl
 | d::ds,ns,h=>by
  unfold intsOf at h;split at h
  ·rename_i e;cases e
  ·rename_i i r e;cases e;obtain ⟨ms,h1,h2⟩:=Option.map_eq_some_iff.mp h;subst h2;rw [List.map_cons,<-uL h1]
  ·cases h
theorem MN (ps:List (Int×Tok)):∀j,j<=ps.length->preSum (numAt ps.toArray) j=((ps.map (·.1)).take j).sum:=by
 intro j;induction j with
 | zero=>intro _;simp [preSum]
 | succ j ih=>
  intro hj;have hlt:j<ps.length:=by lia
  have e:numAt ps.toArray j=(ps.map (·.1))[j]'(by simpa using hlt):=by simp [numAt,hlt]
  rw [preSum,ih (by lia),e,<-List.take_append_getElem (by simpa using hlt),List.sum_append];simp
theorem uM (c:Int) (hc:0<=c):∀(l:List Int),(∀i∈l,-c<=i/\i<=c)->-(c*l.length)<=l.sum/\l.sum<=c*l.length
 | [],_=>by simp
 | x::l,h=>by
  have h1:=h x (List.mem_cons_self ..);have h2:=uM c hc l fun i hi=>h i (List.mem_cons_of_mem _ hi)
  simp only [List.sum_cons,List.length_cons,Int.natCast_add,Int.mul_add];simp only [Int.natCast_one,Int.mul_one];lia
variable [KFrag]
section
variable {X:Cx} {a e:Expr} {es:List Expr} {p p2 pos pos2:Pos} {fs:FA} {rr:Bool}
end
section
variable {X:Cx} {own:Nat->Bool} {a b e:Expr} {pos:Pos} {fs:FA} {rr re:Bool} {fe:FE}
theorem jZ {P:Addr->Prop} {H:Hp}:∀{ns:List Int} {ys:List V} {its:List Value},a_ P H ys (ns.map D.int)->Vals ys its->∃ps:List (Int×Tok),its=ps.map (fun p=>Value.int p.1 p.2)/\ps.map (·.1)=ns
 | [],_,_,.nil,.nil=>⟨[],rfl,rfl⟩
 | n::ns,_,_,.cons r t,.cons v vs=>by
  obtain ⟨ps,h1,h2⟩:=jZ t vs;cases r;obtain ⟨tk,rfl⟩:=v;exact ⟨(n,tk)::ps,by rw [h1];rfl,by rw [List.map_cons,h2]⟩
theorem MP (hc:X.calm=true):mR X (.builtin "sum") (rs pZ true):=by
 intro pins s σ H xs us Q I vr ⟨ds,d,r,e,k⟩;unfold pZ at e;split at e
 ·split at e
  ·rename_i ns hns;split at e
   ·rename_i hb;rw [Bool.and_eq_true] at hb;cases e;obtain ⟨vv,uu,rfl,rfl,r,v⟩:=lF r vr;obtain ⟨l,ys,rfl,hl',rr⟩:=r.fU (K:=X.K);cases v;rw [uL hns] at rr;obtain ⟨its,vi,il,_⟩:=I.list hl';obtain ⟨ps,h1,h2⟩:=jZ rr vi;subst h1;have hlen:ps.length=ns.length:=by rw [<-h2,List.length_map]
    have hn:ns.length<=100000:=of_decide_eq_true hb.2;have hall:∀i∈ns,-1000<=i/\i<=1000:=fun i hi=>by
     have:=List.all_eq_true.mp hb.1 i hi;rw [Bool.and_eq_true,decide_eq_true_eq,decide_eq_true_eq] at this;exact this
    have ia:s.heap.IsList l (intItems ps.toArray):=by
     obtain ⟨o,n,e1,e2,e3,e4⟩:=il;exact ⟨o,e1,e2,n,by simpa [intItems] using e4⟩
    refine sum_intList (I.ok.hd hc) ia (fun j hj=>?_) fun h' tk t' kp=>⟨.int ns.sum,H,I.kept (t':=tk) kp,⟨t',?_⟩,k _ _ (bQ.refl H) (.int _) fun _=>.int _⟩
    ·have hj':j<ps.length:=by simpa using hj
     refine ⟨?_,?_⟩
     ·have hm:numAt ps.toArray j∈ns:=by
       have e:numAt ps.toArray j=(ps.map (·.1))[j]'(by simpa using hj'):=by simp [numAt,hj']
       rw [e,<-h2];exact List.getElem_mem _
      have:=hall _ hm;unfold InLong;lia
     ·rw [MN ps (j+1) (by lia),h2];have:=uM 1000 (by decide) (ns.take (j+1)) fun i hi=>hall i (List.mem_of_mem_take hi)
      have hl:(ns.take (j+1)).length<=100000:=Nat.le_trans (List.length_take_le' ..) hn;unfold InLong;lia
    ·have:=MN ps ps.length (Nat.le_refl _);rw [h2,hlen,List.take_length] at this;rw [List.size_toArray,hlen,this]
   ·cases e
  ·cases e
 ·cases e
theorem MT:bootBuiltins "sum" = some (.builtin "sum"):=by decide +kernel
end
end Mi
end
section
namespace Mi
open PySem L2 PySem.SeqAt PySem.Spec PyProof.Rows
variable [KFrag]
section
variable {X:Cx} {pins:List (Addr×Obj)} {σ:L2.St} {H:Hp} {s:Shared} {a:Addr} {kvs:List (Key×V)}
end
noncomputable def aDk:HO->Bool
 | .tup _=>false
 | .frz _ (.lst _)=>false
 | _=>true
mutual
theorem zJ {P:Addr->Prop} {H:Hp} {a:Addr} {u:HO} (ea:∀ob,H a=some ob->aDk ob=true):∀{v:V} {d:D},Rep P H v d->d.pure=true->Rep P (upd H a u) v d
 | _,_,.non,_=>.non
 | _,_,.bl b,_=>.bl b
 | _,_,.int i,_=>.int i
 | _,_,.str x,_=>.str x
 | _,_,.tup (a:=b) e r,h=>.tup (by rw [bG (fun z=>by rw [z] at e;have:=ea _ e;cases this)];exact e) (kE ea r (by rw [D.pure] at h;exact h))
 | _,_,.lst _ _ _,h=>by rw [D.pure] at h;cases h
 | _,_,.frz e r,h=>.frz (e.imp (fun ⟨o,e⟩=>⟨o,by rw [bG (fun z=>by rw [z] at e;have:=ea _ e;cases this)];exact e⟩) id) (kE ea r (by rw [D.pure] at h;exact h))
 | _,_,.cel _ _ _,h=>by rw [D.pure] at h;cases h
 | _,_,.dK _ _ _ _,h=>by rw [D.pure] at h;cases h
 | _,_,.dT _ _ _ _,h=>by rw [D.pure] at h;cases h
 | _,_,.fdK _ _ _,h=>by rw [D.pure] at h;cases h
 | _,_,.fdT _ _ _,h=>by rw [D.pure] at h;cases h
 | _,_,.exc _ _ _,h=>by rw [D.pure] at h;cases h
 | _,_,.ins _ _ _,h=>by rw [D.pure] at h;cases h
theorem kE {P:Addr->Prop} {H:Hp} {a:Addr} {u:HO} (ea:∀ob,H a=some ob->aDk ob=true):∀{v:List V} {d:List D},a_ P H v d->D.aN d=true->a_ P (upd H a u) v d
 | _,_,.nil,_=>.nil
 | _,_,.cons r t,h=>by
  rw [D.aN,Bool.and_eq_true] at h;exact .cons (zJ ea r h.1) (kE ea t h.2)
end
section
variable {X:Cx} {scope:Scope} {x c:Str} {i n:Nat} {elt:Expr} {fe:FE} {re:Bool} {np ap cp cpos pos:Pos}
end
end Mi
end
section
namespace Mi
open PySem L2 PySem.SeqAt PySem.Spec PyProof.Rows AutoSeq1 MeetsSeq MeetsSeq2 MeetsSeq3
section
variable {P:Program} {w:World} {l b:Addr} {xs ys:Array Value} {n m:Nat} {dd de:Option Addr} {sl sm:Array (Option Value)} {e:Nat->Bool}
end
variable [KFrag]
section
variable {X:Cx} {pins:List (Addr×Obj)} {σ:L2.St} {H:Hp} {s:Shared}
end
end Mi
end
section
namespace Mi
open PySem L2 PySem.SeqAt PySem.Spec PyProof.Rows
variable [KFrag]
structure aEj (K:PySem.W.Frag) (x qual:Str) (st:Stmt) (f:Addr) (fd:FuncData) (T:Addr) (its:Array Value):Prop where
 ex:∃(oc:Value) (od:Option Addr) (kV doc pm:Value) (an:Option Addr) (cdv ct:Value) (osl:Array (Option Value)),
  fd=PySem.W.fnOf x qual (eY st) (cF st) (aJ st) (.ref T) kV doc pm an cdv ct/\K.lookup f=some ⟨oc,od,.func fd,osl⟩/\PySem.W.codeIn K cdv qual=true
 kp:PySem.W.keepIn K (.ref f)=true
 df:∃(tc:Value) (td:Option Addr) (tn:Nat) (tl:Array (Option Value)),K.lookup T=some ⟨tc,td,.seq its tn,tl⟩
section
variable {P:Program} {w:World} {K:PySem.W.Frag} {mg:Str->Option Value} {base:Heap} {x qual:Str} {st:Stmt} {fad T:Addr} {its:Array Value} {fd:FuncData} {N ps:List Str} {k:Nat} {f:FS}
theorem aBe (F:aEj K x qual st fad fd T its) (S:bW N ps (aJ st)) (own:Nat->Bool) (hown:∀i,i<ps.length->own i=false)
  (hbody:∀(cdv:Value) (A:Around) (outer:List Env) (s:Shared) (H:Hp) (E:XK),jH k (A.deeper (envOfC qual (aJ st) s.heap.objs.size fad cdv))->PSs (CT CX0 P w K mg base N qual (aJ st) fad cdv A outer s H E).nox (cF st) (tS own f)) (hx:own rtX=false:=by rfl):mC P w K mg base CX0 (k+1) fad fd ps (spD (fnS ps.length N.length f) ps.length):=by
 obtain ⟨oc,od,kV,doc,pm,an,cdv,ct,osl,rfl,lk,hcd⟩:=F.ex;exact aAf lk hcd S (fun vs H Q E h=>wM h) fun A outer s H vs Q E hr h=>⟨_,(hbody cdv A outer s H E hr).nox,K9 hx hown h⟩
end
structure aBf (P:Program) (w:World) (K:PySem.W.Frag) (mg:Str->Option Value) (base:Heap) (k:Nat) (x kw:Str) (n:Nat) (df:D) (f:List D->Res D):Prop where
 ex:∃(fad:Addr) (fd:FuncData) (ps:List Str) (u:Value) (v:V),mC P w K mg base CX0 k fad fd ps (spD f (n+1))/\mg x=some (.ref fad)/\PySem.W.keepIn K (.ref fad)=true/\Binds K fd ps []/\Binds K fd ps [u]/\RelV v u/\(∀H:Hp,Rep All H v df)/\
  ∀(s:Shared) (us:List Value) (y:Value),K.In s.heap->us.length=n->BindsTo s fd ⟨us,[(kw,y)]⟩ (ps.zip (us++[y]))
theorem aBf.cal {P:Program} {w:World} {K:PySem.W.Frag} {mg:Str->Option Value} {base:Heap} {k:Nat} {x kw:Str} {n:Nat} {df:D} {f:List D->Res D} (C:aBf P w K mg base k x kw n df f):m8 P w K mg base k x (n+1) f:=by
 obtain ⟨fad,fd,ps,u,v,F,hm,hk,hb,_⟩:=C.ex;exact ⟨fad,fd,ps,F,hm,hk,hb⟩
section
variable {X:Cx} {e ke:Expr} {es:List Expr} {pos p kp:Pos} {fs:FA} {rr re:Bool} {fk:FE} {x kw:Str} {k k' n:Nat} {df:D} {f:List D->Res D}
theorem M3 (C:aBf X.prog X.w X.K X.mg X.base k x kw n df f) (hr:jH k' X.A) (hkk:k<=k') (hg:Gl X x) (ha:PA X (e::es) (gA fs rr)) (hdb:nDb x:=by decide) (he:starEach (e::es) X.env=(false,eval e X.env)::starEach es X.env:=by rfl) (hpl:(backTo pos (starEach es X.env)).any (·.1)=false:=by rfl) :
  PE X (.Call (.Name x p) (e::es) [] pos) (gE (aY (fun ds=>o6 (n+1) f (ds++[df])) fs) true):=by
 obtain ⟨fad,fd,ps,u,v,F,hm,hk,hb,hb1,ru,rv,_⟩:=C.ex;refine PE.imp (v6 F (hr.mono hkk) hg hm hk hb1 (.cons ru .nil) DK ha hdb he hpl) fun σ H Q h0=>?_
 obtain ⟨ρ,d,E,h,q⟩:=h0;obtain ⟨ds,h1,h⟩:=aR h;unfold o6 at h;split at h
 ·rename_i hl;exact ⟨ρ,ds,E,h1,fun vs H1 s1 r1 _=>⟨ds++[df],d,of_decide_eq_true hl,r1.append (.cons (rv H1) .nil),h,q.imp s1 id⟩⟩
 ·cases h
end
end Mi
end
section
namespace Mi
open PySem L2 PySem.SeqAt PySem.Spec PyProof.Rows
noncomputable def Z2:D->D->Res D
 | .tup a,.tup b=>if decide (a.length+b.length<=lim) then .ok (.tup (a++b)) else .bad
 | _,_=>.bad
noncomputable def FZ (c:FT) (body:FS):Nat->List D->Res Fl
 | 0,_=>.bad
 | n+1,ρ=>do
  let k <- c ρ
  if k then (do
   let r <- body ρ
   match r with
   | .nx ρ'=>FZ c body n ρ'
   | .ct ρ'=>FZ c body n ρ'
   | .bk ρ'=>.ok (.nx ρ')
   | .rt d=>.ok (.rt d))
  else .ok (.nx ρ)
def aDl (c:FT) (body:FS):FS:=fun ρ=>FZ c body 1000 ρ
variable [KFrag]
section
variable {X:Cx} {pos:Pos}
theorem M4:OpR X (binaryOp .Add) (r2 Z2 false):=by
 intro pins s σ H x y v u Q I rx ry h;obtain ⟨a,b,d,p,q,e,k⟩:=h;unfold Z2 at e;split at e
 ·rename_i da db;split at e
  ·rename_i hl;cases e;cases p with
   | @tup l1 xs1 _ e1 r1=>
    cases q with
    | @tup l2 xs2 _ e2 r2=>
     cases rx;cases ry;have hz:xs1.length+xs2.length<=sizeLine:=by rw [r1.length,r2.length];exact jB hl
     obtain ⟨its,w1,p1,_⟩:=I.tuple (.of e1);obtain ⟨its2,w2,p2,_⟩:=I.tuple (.of e2);obtain ⟨⟨cls,dd,data,sl⟩,ho,hc,n,hd⟩:=id p1;obtain ⟨⟨cls2,dd2,data2,sl2⟩,ho2,hc2,n2,hd2⟩:=id p2;simp only at hc hd hc2 hd2;by_cases hv:its=[]
     ·have:xs1=[]:=w1.oW.mp hv;subst this;cases r1;refine concat_meets ⟨_,ho,hc⟩ ⟨_,ho2,hc2⟩ noFill_tuple_add seq_tuple_add PySem.F.slot_tuple_add PySem.F.entry_tuple_add (PySem.F.args_tuple_add_2 _ _)
       (tuple_addW0 l1 l2 its.toArray its2.toArray n n2 dd dd2 sl sl2 (by simp [hv])) ⟨by subst hc hd;exact ho,by subst hc2 hd2;exact ho2,.ref l2,H,I,rfl,?_⟩
      exact k.self (.tup e2 r2) (fun z=>by cases z)
     ·refine WT pins s σ H (.ref l1) (.ref l2) _ _ Q I rfl rfl ⟨l1,l2,xs1,xs2,rfl,rfl,.of e1,.of e2,fun z=>hv (w1.oW.mpr z),hz,fun z=>?_,fun z p hp=>?_⟩
      ·subst z;cases r2;rw [List.append_nil] at k;exact k.self (.tup e1 r1) (fun z=>by cases z)
      ·have sp:bQ H (upd H p (.tup (xs1++xs2))):=bQ.upd hp;exact k _ _ sp (.tup aK ((r1.append r2).same sp)) fun z=>by cases z
  ·cases e
 ·cases e
theorem U4 {own:Nat->Bool} {c:Expr} {body:List Stmt} {gc:FT} {fb:FS} (hp:PassesOwn (model X.prog X.w) X.A X.env X.xe) (hc:PT X c (gT gc)) (hb:PSs X body (tS own fb)):PS X (.While c body [] pos) (tS own (aDl gc fb)):=
 PS.imp (x_ hp hc hb) fun D σ H ⟨ρ,fl,E,h,q⟩=>by
 refine ⟨fun m σ' H'=>∃ρ' ,ES own H' σ' ρ'/\FZ gc fb m ρ'=.ok fl/\kS own D σ' H' fl,⟨1000,ρ,E,h,q⟩,?_⟩;rintro m σ H ⟨ρ,E,h,q⟩;cases m with
 | zero=>cases h
 | succ m=>
  rw [FZ] at h;obtain ⟨k,h1,h2⟩:=aR h;refine ⟨ρ,k,E.er,h1,fun H1 s=>?_⟩;cases k with
  | true=>
   rw [if_pos rfl];rw [if_pos rfl] at h2;obtain ⟨r,h3,h4⟩:=aR h2;refine ⟨fun σ' H'=>∃ρ',ES own H' σ' ρ'/\FZ gc fb m ρ'=.ok fl/\kS own D σ' H' fl,fun σ' H' w=>⟨m,Nat.lt_succ_self m,w⟩,ρ,r,E.same s,h3,?_⟩;have q1:=q.step (.same s);cases r with
   | nx ρ'=>exact fun σ' H' ku E'=>⟨ρ',E',h4,q1.step ku⟩
   | ct ρ'=>exact fun σ' H' ku E'=>⟨ρ',E',h4,q1.step ku⟩
   | bk ρ'=>cases h4;exact fun σ' H' ku E'=>q1 σ' H' ku E'
   | rt d=>cases h4;exact q1
  | false=>
   rw [if_neg (by simp)];rw [if_neg (by simp)] at h2;cases h2;exact (q.step (.same s)) σ H1 (fun a o e n=>⟨e,n⟩) (E.same s)
end
end Mi
end
section
namespace Mi
open PySem L2 PySem.SeqAt PySem.Spec PyProof.Rows
variable [KFrag]
section
variable {X:Cx} {own:Nat->Bool} {e:Expr} {fe:FE} {re:Bool} {pos:Pos}
end
end Mi
end
section
namespace Mi
open PySem L2 PySem.SeqAt PySem.Spec PyProof.Rows
variable [KFrag]
section
variable {X:Cx} {pins:List (Addr×Obj)} {σ:L2.St} {H:Hp} {s:Shared} {a:Addr} {kvs:List (Key×V)}
end
end Mi
end
section
namespace Mi
open PySem L2 PySem.SeqAt PySem.Spec PyProof.Rows
variable [KFrag]
section
variable {X:Cx} {scope:Scope} {own:Nat->Bool} {x c y:Str} {i n iy:Nat} {elt cnd:Expr} {fe:FE} {gc:FT} {re o:Bool} {np cpos pos py pos2:Pos}
end
section
variable {own:Nat->Bool}
end
end Mi
end
section
namespace Wz
open PySem PySem.Spec
section
variable {prog:Program} {w:World} {A:Around} {E:Value->Shared->Prop} {s:Shared} {it t:Addr} {i:Nat} {xs:Array Value} {x:Value} {n:Nat} {dd:Option Addr} {sl:Array (Option Value)}
end
section
variable {z TI TO i1 i2 l1 l2:Addr} {o1 o2:Obj} {f0 f1 g0 g1 a b c d:Value} {k1 k2:Nat} {h h':Heap}
end
section
variable {prog:Program} {w:World} {A:Around} {E:Value->Shared->Prop} {s:Shared} {z TI TO i1 i2 l1 l2:Addr} {n1 n2:Nat} {d1 d2:Option Addr} {s1 s2:Array (Option Value)} {f0 f1 a b x y:Value} {k:Nat} {xs ys:Array Value}
end
end Wz
end
section
namespace Wz
open PySem PySem.Spec
section
variable {prog:Program} {w:World} {A:Around} {E:Value->Shared->Prop} {s:Shared} {z TI TO i1 i2 l1 l2:Addr} {n1 n2:Nat} {d1 d2:Option Addr} {s1 s2:Array (Option Value)} {f0 f1 a b x y:Value} {k:Nat} {xs ys:Array Value}
end
end Wz
end
section
namespace Wz
open PySem PySem.Spec
section
variable {prog:Program} {w:World} {A:Around} {E:Value->Shared->Prop} {s:Shared}
end
section
variable {prog:Program} {w:World} {A:Around} {E:Value->Shared->Prop} {hp:Heap} {g:Array GenState} {d:Drawn} {tk:Nat} {os:OsState} {a TI TO:Addr} {f0 f1:Value}
end
end Wz
end
section
namespace Wz
open PySem PySem.Spec
section
variable {prog:Program} {w:World} {A:Around} {E:Value->Shared->Prop} {s:Shared} {z TI TO i1 i2 l1 l2 d:Addr} {n1 n2:Nat} {d1 d2:Option Addr} {s1 s2:Array (Option Value)} {x y:Value} {k:Nat} {xs ys:Array Value}
end
theorem mL:entryFor table "dict.update.loop" = some Builtin.«dict.update.loop»:=entryFor_of_tree (by kernel_rfl)
section
variable {prog:Program} {w:World} {K:Type} [DecidableEq K] {knd:KeyKind prog w K} {A:Around} {R:Except Value Flow->Shared->Prop} {z TI TO i1 i2 l1 l2 d:Addr} {n1 n2:Nat} {d1 d2:Option Addr} {s1 s2:Array (Option Value)} {xs ys:Array Value} {ks:List K}
end
section
variable {prog:Program} {w:World} {K:Type} [DecidableEq K] {knd:KeyKind prog w K} {A:Around} {E:Value->Shared->Prop} {hp:Heap} {g:Array GenState} {dr:Drawn} {tk:Nat} {os:OsState} {z TI TO i1 i2 l1 l2:Addr} {n1 n2:Nat} {d1 d2:Option Addr} {s1 s2:Array (Option Value)} {xs ys:Array Value} {ks:List K}
end
end Wz
end
section
namespace Mi
open PySem L2 PySem.SeqAt PySem.Spec PyProof.Rows
variable [KFrag]
theorem zK:bootBuiltins "dict" = some (.type "dict"):=by decide +kernel
theorem zL {P:Addr->Prop} {H:Hp} {k:Key} {v:V} {d:D} (r:Rep P H v d):∀{kvs:List (Key×V)} {ds:List (D×D)},jA P H kvs ds->(kvs.map (·.1)).Nodup->jA P H (putK kvs k v) (putD ds (kD k) d)
 | _,_,.nil,_=>.cons r .nil
 | _,_,.cons (k:=k') (v:=v') (r:=kvs) (ds:=ds) r' t,hn=>by
  rw [List.map_cons,List.nodup_cons] at hn;rw [putD,KJ];by_cases h:k'=k
  ·rw [rH h (by rw [<-h];exact hn.1),if_pos (decide_eq_true h),h];exact .cons r t
  ·rw [rJ h,if_neg (by simpa using h)];exact .cons r' (zL r t hn.2)
section
variable {X:Cx} {a b:Expr} {fs:FA} {rr:Bool} {p p2 pos pos2:Pos}
end
end Mi
end
section
namespace Mi
open PySem L2 PySem.SeqAt PySem.Spec PyProof.Rows
noncomputable def uN (i j:Nat):FS:=fun ρ=>match ρ.getD i .uD with
 | .lst xs=>(match xs[xs.length-1]? with|some x=>.ok (.nx ((ρ.set i (.lst xs.dropLast)).set j x))|none=>.bad)
 | _=>.bad
noncomputable def X6 (i:Nat) (f:FE):FS:=fun ρ=>do
 let d <- f ρ
 match ρ.getD i .uD,d with
 | .lst xs,.lst ys=>if decide (xs.length+ys.length<=lim)&&D.aN ys then .ok (.nx (ρ.set i (.lst (xs++ys)))) else .bad
 | _,_=>.bad
variable [KFrag]
section
variable {X:Cx} {own:Nat->Bool} {e:Expr} {fe:FE} {re:Bool} {pos:Pos}
theorem M5 {i j:Nat} {x y:Str} {p1 py apos cpos:Pos} (ho:own i=true) (hN:X.N[i]?=some x) (hv:Vis X.env.scope x) (hnd:X.N.Nodup) (hj:X.N[j]?=some y) (hy:Loc X.env.scope y) (hoj:own j=false) (hd:nDb x:=by decide) (hcd:nCd x:=by decide)
  (hbase:attributeBase (.Name x p1) "pop" X.env (eval (.Name x p1) X.env)=eval (.Name x p1) X.env:=by rfl)
  (hline:(apos.endLine==cpos.line)=true:=by rfl)
  (hs:swapsWith (.Call (.Attribute (.Name x p1) "pop" apos) [] [] cpos) (some (.Name y py)) pos.line X.env=pure false:=by rfl) (hf:X.fn y=true\/X.env.scope.names.lookup y=some .local:=by first|exact .inl rfl|exact .inr rfl|assumption) :
  PS X (.Assign [.Name y py] (.Call (.Attribute (.Name x p1) "pop" apos) [] [] cpos) pos) (tS own (uN i j)):=
 PS.imp (sZ hnd hj hy (JR PySem.F.plainAttrs_list PySem.F.slot_list_pop PySem.F.type_list_pop JT (bN hN hv hd hcd) hbase hline) hs hf) fun D' σ H ⟨ρ,fl,E,h,q⟩=>by
 unfold uN at h;split at h
 ·rename_i xs hx;split at h
  ·rename_i dx hdx;cases h;obtain ⟨a,o,hσ,r,hin,ha,hm⟩:=E.ownAt ho (by rw [hx];intro z;cases z);rw [hx] at r hin;obtain ⟨vs,hl,rr⟩:=K3 r;obtain ⟨v,hvx,rv⟩:=rr.get hdx;have hlen:=rr.length;refine ⟨_,hσ,.inl ⟨rfl,vs,.of hl⟩,a,vs,v,rfl,rfl,hl,by rw [hlen];exact hvx,?_⟩;have hin':D.aN xs=true:=hin;have pall:∀y∈xs,y.pure=true:=fun y hy=>dR.mp hin' y hy
   have pdx:dx.pure=true:=pall dx (List.mem_of_getElem? hdx);have pe:D.aN xs.dropLast=true:=dR.mpr fun y hy=>pall y (List.dropLast_subset _ hy)
   have er:a_ All H vs.dropLast xs.dropLast:=by
    rw [List.dropLast_eq_take,List.dropLast_eq_take,hlen];exact rr.take _
   obtain ⟨E2,k2⟩:=E.mut (o:=.lst vs.dropLast) (d:=.lst xs.dropLast) ho hσ rfl (.lst aK trivial (er.upd pe hl rfl)) pe;have r1:=(a_.cons rv .nil).upd (o:=.lst vs.dropLast) (by rw [D.aN,pdx];rfl) hl rfl;cases r1 with
   | cons r1 _=>
    have E3:=E2.set hoj (v:=v) (d:=dx) (r1.bI pdx);exact q _ _ (k2.trans fun b ob eb nb=>⟨eb,by rw [jC hoj];exact nb⟩) E3
  ·cases h
 ·cases h
theorem U5 {i:Nat} {x:Str} {p1 apos cpos:Pos} (ho:own i=true) (hN:X.N[i]?=some x) (hv:Vis X.env.scope x) (he:PE X e (gE fe re)) (hd:nDb x:=by decide) (hcd:nCd x:=by decide)
  (hbase:attributeBase (.Name x p1) "extend" X.env (eval (.Name x p1) X.env)=eval (.Name x p1) X.env:=by rfl)
  (hs1:starEach [e] X.env=(false,eval e X.env)::starEach [] X.env:=by rfl)
  (hfew:((backTo cpos (starEach [e] X.env)).all (fun x=>!x.1)&&(backToKw cpos (keywordEach [] X.env)).all (fun x=>x.1.isSome)
   && decide (([e]:List Expr).length+([]:List Keyword).length+(if ([]:List Keyword).isEmpty then 0 else 1)<30))=true:=by rfl)
  (hline:(apos.endLine==cpos.line)=true:=by rfl)
  (hs:swapsWith (.Call (.Attribute (.Name x p1) "extend" apos) [e] [] cpos) none pos.line X.env=pure false:=by rfl) :
  PS X (.Expr (.Call (.Attribute (.Name x p1) "extend" apos) [e] [] cpos) pos) (tS own (X6 i fe)):=
 PS.imp (oH (Q3 PySem.F.plainAttrs_list PySem.F.slot_list_extend PySem.F.type_list_extend JS (bN hN hv hd hcd) (c7 he jJ hs1) hbase hfew hline hs1 rfl) hs) fun D' σ H ⟨ρ,fl,E,h,q⟩=>by
 obtain ⟨d,h1,h2⟩:=aR h;split at h2
 ·rename_i xs ys hx;split at h2
  ·rename_i hk;cases h2;rw [Bool.and_eq_true,decide_eq_true_eq] at hk;obtain ⟨a,o,hσ,r,hin,ha,hm⟩:=E.ownAt ho (by rw [hx];intro z;cases z);rw [hx] at r hin;obtain ⟨vs,hl,rr⟩:=K3 r;refine ⟨_,hσ,.inl ⟨rfl,vs,.of hl⟩,ρ,_,E.er,h1,fun v H' s rv _=>?_⟩;cases rv with
   | @lst b zs _ hb _ rz=>
    have E':=E.same s;have hl':=s _ _ hl;refine ⟨a,b,vs,zs,rfl,rfl,hl',hb,by rw [rr.length,rz.length];exact Nat.le_trans hk.1 (by rw [sizeLine_eq];decide),?_⟩;have hp:D.aN (xs++ys)=true:=by rw [j9,Bool.and_eq_true];exact ⟨hin,hk.2⟩
    obtain ⟨E2,k2⟩:=E'.mut (o:=.lst (vs++zs)) (d:=.lst (xs++ys)) ho hσ rfl (.lst aK trivial (((rr.same s).append rz).upd hp hl' rfl)) hp;exact q _ _ ((KU.same s).trans k2) E2
  ·cases h2
 ·cases h2
end
end Mi
end
section
namespace Ws
open PySem PySem.Spec PySem.Builtin PySem.Builtin.Str
end Ws
namespace Mi
open PySem L2 PySem.SeqAt PySem.Spec PyProof.Rows
variable [KFrag]
end Mi
end
section
namespace Ws
open PySem PySem.Spec PySem.Builtin PySem.SeqAt PyProof.Rows
section
variable {prog:Program} {w:World} {A:Around} {E:Value->Shared->Prop} {s:Shared}
end
end Ws
namespace Mi
open PySem L2 PySem.SeqAt PySem.Spec PyProof.Rows
noncomputable def X7 (y:D):List D->Option Nat
 | []=>none
 | z::r=>if eqD z y then some 0 else (X7 y r).map (·+1)
noncomputable def lG:D->List D->Res D
 | .lst xs,[y]=>if y.bJ aV&&D.cG aV xs then (match X7 y xs with|some j=>.ok (.int j)|none=>.bad) else .bad
 | _,_=>.bad
variable [KFrag]
theorem M6 {H:Hp} {a:D}:∀{xs:List V} {ds:List D} {its:List Value} {j:Nat},D.cG aV ds=true->a_ All H xs ds->Vals xs its->X7 a ds=some j->∃hj:j<its.length,eqD (FP H its[j]) a=true/\∀m (hm:m<its.length),m<j->eqD (FP H its[m]) a=false
 | _,_,_,_,_,.nil,.nil,h=>by cases h
 | _,_,_,j,hq,.cons r t,.cons v vt,h=>by
  rw [D.cG,Bool.and_eq_true] at hq;rw [X7] at h;split at h
  ·rename_i he;cases h;refine ⟨Nat.zero_lt_succ _,?_,fun m hm z=>absurd z (Nat.not_lt_zero _)⟩;rw [List.getElem_cons_zero,rF hq.1 v r];exact he
  ·rename_i he;obtain ⟨k,h1,rfl⟩:=Option.map_eq_some_iff.mp h;obtain ⟨hj,h2,h3⟩:=M6 hq.2 t vt h1;refine ⟨Nat.succ_lt_succ hj,by rw [List.getElem_cons_succ];exact h2,fun m hm z=>?_⟩;cases m with
   | zero=>rw [List.getElem_cons_zero,rF hq.1 v r];exact Bool.eq_false_iff.mpr he
   | succ m=>rw [List.getElem_cons_succ];exact h3 m (Nat.lt_of_succ_lt_succ hm) (Nat.lt_of_succ_lt_succ z)
section
variable {X:Cx}
theorem uO (hu:X.A.units+20<cLine):MtR X "list.index" (rm lG true):=by
 intro pins s σ H x xs v us Q I rv vr ⟨a,ds,d,ra,rs,h,k⟩;unfold lG at h;split at h
 ·rename_i ys y;split at h
  ·rename_i hl;rw [Bool.and_eq_true] at hl;split at h
   ·rename_i j hj;cases h;obtain ⟨vv,uu,rfl,rfl,r,rk⟩:=lF rs vr;obtain ⟨l,zs,rfl,ee,rr⟩:=ra.fU (K:=X.K);cases rv;obtain ⟨its,vr',pl,hz⟩:=I.list ee;obtain ⟨h1,h2,h3⟩:=M6 hl.2 rr vr' hj;have mm:=fun w hw=>wJ I hu hl.1 r rk hl.2 rr vr' w hw
    obtain ⟨⟨cls,dd,data,sl⟩,ho,hc,n,hd⟩:=id pl.isList;simp only at hc hd;subst hc hd;have hls:(j:Int)<2 ^ 63-1:=by
     have:its.length=zs.length:=vr'.length.symm;have hz':zs.length<=sizeLine:=hz;rw [sizeLine_eq] at hz';lia
    exact call_meets F.slot_list_index ⟨_,ho,rfl⟩ F.entry_list_index (F.args_list_index_2 _ _) (list_indexAt l its.toArray n dd sl uu (fun u=>eqD (FP H u) y) j (by simpa using h1) hls (by simpa using h2) (fun m hm hmj=>by simpa using h3 m (by simpa using hm) hmj)) ⟨ho,fun w hw=>mm w (by simpa using hw),⟨.int j,H,I.tok _,⟨_,rfl⟩,k.int⟩⟩
   ·cases h
  ·cases h
 ·cases h
theorem uP {d:D} {ds:List D} {r:D} {v:V} {H:Hp} (h:lG d ds=.ok r) (rp:Rep All H v d):tyV X.K "list" v H:=by
 unfold lG at h;split at h
 ·obtain ⟨a,xs,rfl,e,_⟩:=rp.fU (K:=X.K);exact .inl ⟨rfl,_,e⟩
 ·cases h
end
end Mi
end
section
namespace Wz
open PySem PySem.Spec
section
variable {prog:Program} {w:World} {A:Around} {E:Value->Shared->Prop} {s:Shared} {z TI TO i1 i2 l1 l2:Addr} {o1 o2:Obj} {a b:Value} {k1 k2:Nat}
end
end Wz
namespace Mi
open PySem L2 PySem.SeqAt PySem.Spec PyProof.Rows
variable [KFrag]
section
variable {X:Cx}
end
section
variable {X:Cx} {a b:Expr} {fs:FA} {rr:Bool} {p pos:Pos}
end
end Mi
end
section
namespace Mi
open PySem L2 PySem.SeqAt PySem.Spec PyProof.Rows
abbrev FX:=List D->Res (D×List D)
abbrev FXT:=List D->Res (Bool×List D)
noncomputable def sY:D->Option (List D)
 | .lst xs=>some xs
 | .cel _ xs=>some xs
 | _=>none
noncomputable def F_:D->List D->D
 | .cel a _,xs=>.cel a xs
 | _,xs=>.lst xs
def n_ (k:Nat):Nat->Bool:=fun i=>decide (i<k)
open Classical in
noncomputable def ch1 (f:List D->Res D) (xs rest:List D):Res (D×List D):=
 if h:∃p:D×List D,∀b,f (.cel b xs::rest)=.ok (.tup [p.1,.cel b p.2]) then .ok h.choose else .bad
theorem aBg {f:List D->Res D} {xs rest:List D} {p:D×List D} (h:ch1 f xs rest=.ok p):∀b,f (.cel b xs::rest)=.ok (.tup [p.1,.cel b p.2]):=by
 unfold ch1 at h;split at h
 ·rename_i e;cases h;exact e.choose_spec
 ·cases h
theorem zM {f:List D->Res D} {xs rest xs':List D} {r:D} (h:∀b,f (.cel b xs::rest)=.ok (.tup [r,.cel b xs'])):ch1 f xs rest=.ok (r,xs'):=by
 have e:∃p:D×List D,∀b,f (.cel b xs::rest)=.ok (.tup [p.1,.cel b p.2]):=⟨(r,xs'),h⟩
 have q:ch1 f xs rest=.ok e.choose:=by unfold ch1;rw [dif_pos e]
 rw [q];have z:=e.choose_spec 0;rw [h 0] at z;injection z with z
 injection z with z
 injection z with z1 z2
 injection z2 with z2
 injection z2 with _ z2
 rw [z1,z2]
noncomputable def aEk (k:Nat):Fl->Res D
 | .rt (.tup (d::ρ))=>.ok (.tup (d::ρ.take k))
 | .nx ρ=>.ok (.tup (.non::ρ.take k))
 | _=>.bad
noncomputable def fnX (k n m:Nat) (f:FS):List D->Res D:=fun ds=>do
 let r <- f (ds++List.replicate (m-n) .uD)
 aEk k r
noncomputable def bV (f:List D->Res D) (n i:Nat) (fs:FA):FX:=fun ρ=>do
 let rest <- fs ρ
 match sY (ρ.getD i .uD) with
 | some xs=>if decide (rest.length+1=n) then (do
   let p <- ch1 f xs rest
   if D.aN p.2 then .ok (p.1,ρ.set i (F_ (ρ.getD i .uD) p.2)) else .bad) else .bad
 | none=>.bad
noncomputable def x2L (f:D->D->Res D) (fa:FX) (fb:FE):FX:=fun ρ=>do
 let p <- fa ρ
 if p.1.pure then (do
  let y <- fb p.2
  let d <- f p.1 y
  if d.pure then .ok (d,p.2) else .bad) else .bad
noncomputable def x2R (f:D->D->Res D) (fa:FE) (fb:FX):FX:=fun ρ=>do
 let x <- fa ρ
 let p <- fb ρ
 let d <- f x p.1
 if d.pure then .ok (d,p.2) else .bad
noncomputable def xTB (f:FX):FXT:=fun ρ=>do
 let p <- f ρ
 let b <- asB p.1
 .ok (b,p.2)
noncomputable def eE (o:Bool) (i:Nat) (f:FX):FS:=fun ρ=>do
 let p <- f ρ
 if (if o then inner p.1 else true) then .ok (.nx (p.2.set i p.1)) else .bad
noncomputable def aBh (c:FXT) (f g:FS):FS:=fun ρ=>do
 let p <- c ρ
 if p.1 then f p.2 else g p.2
noncomputable def wU (i:Nat) (fk fv:FE):FS:=fun ρ=>do
 let d <- fv ρ
 let k <- fk ρ
 match sY (ρ.getD i .uD),k with
 | some xs,.int k=>if d.pure then (match ixD xs.length k with|some j=>.ok (.nx (ρ.set i (F_ (ρ.getD i .uD) (xs.set j d))))|none=>.bad) else .bad
 | _,_=>.bad
noncomputable def bPu (f:FE):FE:=fun ρ=>do
 let d <- f ρ
 if d.pure then .ok d else .bad
noncomputable def isI:D->Bool
 | .int _=>true
 | _=>false
noncomputable def X8:List D->Res (List D)
 | []=>.bad
 | .lst ys::xs=>if ys.all isI&&D.aN xs then .ok (.scr ys::xs) else .bad
 | x::xs=>if x.pure then (do let r <- X8 xs;.ok (x::r)) else .bad
noncomputable def aDm (f:FE):FE:=fun ρ=>do
 let d <- f ρ
 match d with
 | .lst xs=>(do let r <- X8 xs;.ok (.lst r))
 | _=>.bad
variable [KFrag]
section
variable {own:Nat->Bool}
theorem U6 {P:Addr->Prop} {H:Hp} {a:Addr} {d:D} {xs:List D} (r:Rep P H (.ref a) d) (h:sY d=some xs):∃vs,H a=some (.lst vs)/\P a/\a_ P H vs xs:=by
 cases d <;> simp only [sY] at h <;> cases h <;> cases r
 ·exact ⟨_,by assumption,by assumption,by assumption⟩
 ·exact ⟨_,by assumption,by assumption,by assumption⟩
theorem rN {P:Addr->Prop} {H:Hp} {v:V} {b:Nat} {xs:List D} (r:Rep P H v (.cel b xs)):v=.ref b:=by cases r;rfl
theorem zN {P P':Addr->Prop} {H H':Hp} {a:Addr} {d:D} {xs xs':List D} {vs':List V} (r:Rep P H (.ref a) d) (h:sY d=some xs) (e:H' a=some (.lst vs')) (p:P' a) (r':a_ P' H' vs' xs'):Rep P' H' (.ref a) (F_ d xs'):=by
 cases d <;> simp only [sY] at h <;> cases h <;> cases r
 ·exact .lst e p r'
 ·exact .cel e p r'
theorem aBi {d:D} {xs:List D} (h:sY d=some xs):inner d=D.aN xs:=by
 cases d <;> simp only [sY] at h <;> cases h <;> rfl
theorem rO {d:D} {xs xs':List D} (h:sY d=some xs):inner (F_ d xs')=D.aN xs':=by
 cases d <;> simp only [sY] at h <;> cases h <;> rfl
theorem aBj {d:D} {xs:List D} (h:sY d=some xs):d≠.uD:=fun z=>by subst z;cases h
theorem ES.aFu {H H':Hp} {σ:L2.St} {ρ:List D} {i:Nat} {a:Addr} {o:HO} {d:D} (E:ES own H σ ρ) (ho:own i=true) (hi:σ[i]?=some (some (.ref a))) (hk:∀b ob,H b=some ob->b≠a->H' b=some ob) (e:H' a=some o) (hm:HB o=true) (r:Rep All H' (.ref a) d) (hin:inner d=true) :
  ES own H' σ (ρ.set i d)/\KU own σ H σ H':=by
 have hOa:Own own σ a:=⟨i,ho,hi⟩
 obtain ⟨a',oa,ea,_,_,hHa,hma,huq⟩:=E.own i _ ho hi;cases ea;have k:KU own σ H σ H':=fun b ob e n=>⟨hk b ob e (fun z=>by subst z;exact n hOa),n⟩
 have hl:i<ρ.length:=by rw [<-E.len];exact (List.getElem?_eq_some_iff.mp hi).1
 refine ⟨⟨by simp [E.len],fun j hj=>?_,fun j w hj hw=>?_⟩,k⟩
 ·rw [cW] at hj ⊢;by_cases h:i=j/\i<ρ.length
  ·obtain ⟨rfl,_⟩:=h;exact ⟨_,hi,fun z=>by rw [ho] at z;cases z⟩
  ·rw [if_neg h] at hj ⊢;obtain ⟨w,h1,h2⟩:=E.at_ j hj;exact ⟨w,h1,fun hj=>k.rep E (h2 hj)⟩
 ·by_cases hij:i=j
  ·subst hij;rw [hi] at hw;cases hw;rw [cW,if_pos ⟨rfl,hl⟩];exact ⟨a,o,rfl,r,hin,e,hm,huq⟩
  ·rw [cW,if_neg fun z=>hij z.1];obtain ⟨b,ob,h1,h2,h3,h4,h5,h6⟩:=E.own j w hj hw;subst h1;have hba:b≠a:=fun z=>by subst z;exact hij (h6 i ho hi)
   refine ⟨b,ob,rfl,?_,h3,hk _ _ h4 hba,h5,h6⟩;refine (h2.n_ (P':=fun c=>c=b) h3 rfl).keep (fun c oc hc hp=>?_) fun _ _=>trivial
   refine hk _ _ hc fun z=>?_
   subst z;rcases hp with hp|hp
   ·exact hba hp.symm
   ·rw [hHa] at hc;cases hc;rw [hma] at hp;cases hp
noncomputable def NS (own:Nat->Bool) (ρ ρ':List D):Prop:=∀i,own i=false->ρ'.getD i .uD=ρ.getD i .uD
theorem NS.refl {ρ:List D}:NS own ρ ρ:=fun _ _=>rfl
theorem NS.set {ρ:List D} {i:Nat} {d:D} (ho:own i=true):NS own ρ (ρ.set i d):=fun j hj=>by
 rw [cW,if_neg];rintro ⟨rfl,_⟩;rw [ho] at hj;cases hj
noncomputable def kX (own:Nat->Bool) (σ:L2.St) (H:Hp) (ρ:List D) (d:D) (ρ':List D) (Q:VK):Prop:=∀v H',KU own σ H σ H'->ES own H' σ ρ'->NS own ρ ρ'->Rep (New H) H' v d->Q v H'
noncomputable def gX (own:Nat->Bool) (f:FX):TE:=fun σ H Q=>∃ρ d ρ',ES own H σ ρ/\f ρ=.ok (d,ρ')/\kX own σ H ρ d ρ' Q
noncomputable def gXT (own:Nat->Bool) (f:FXT):TT:=fun σ H Q=>∃ρ d ρ',ES own H σ ρ/\f ρ=.ok (d,ρ')/\∀H',KU own σ H σ H'->ES own H' σ ρ'->NS own ρ ρ'->Q d H'
noncomputable def gAO (own:Nat->Bool) (f:FA):TA:=fun σ H Q=>∃ρ ds,ES own H σ ρ/\f ρ=.ok ds/\∀vs H',bQ H H'->a_ (fun a=>¬Own own σ a) H' vs ds->Q vs H'
theorem rP {σ:L2.St} {H:Hp} {ρ:List D} (E:ES own H σ ρ) {a:Addr} (h:H a=none):¬Own own σ a:=fun n=>by
 obtain ⟨o',e,_⟩:=E.live n;rw [h] at e;cases e
theorem ES.aGn {H H':Hp} {σ:L2.St} {ρ ρ':List D} {i:Nat} {a:Addr} {o:HO} {d:D} (E:ES own H σ ρ) (k:KU own σ H σ H') (E':ES own H' σ ρ') (ns:NS own ρ ρ') (ho:own i=true) (hn:H a=none) (r:Rep All H' (.ref a) d) (hin:inner d=true) (ha:H' a=some o) (hm:HB o=true) :
  ES own H' (σ.set i (some (.ref a))) (ρ'.set i d)/\KU own σ H (σ.set i (some (.ref a))) H':=by
 have hO:∀b,H b≠none->¬Own own σ b->¬Own own (σ.set i (some (.ref a))) b:=fun b hb n ⟨j,hj,e⟩=>by
  by_cases hij:i=j
  ·subst hij;by_cases hl:i<σ.length
   ·rw [List.getElem?_set_self hl] at e;cases e;exact hb hn
   ·rw [List.getElem?_set,if_pos rfl,if_neg hl] at e;cases e
  ·rw [List.getElem?_set_ne hij] at e;exact n ⟨j,hj,e⟩
 have hna:¬Own own σ a:=rP E hn;refine ⟨⟨by simp [E'.len],fun j hj=>?_,fun j w hj hw=>?_⟩,fun b ob e n=>⟨(k b ob e n).1,hO b (by rw [e];simp) n⟩⟩
 ·rw [cW] at hj ⊢;by_cases h:i=j/\i<ρ'.length
  ·rw [if_pos h];obtain ⟨rfl,hl⟩:=h;exact ⟨.ref a,by rw [List.getElem?_set_self (by rw [E'.len];exact hl)],fun z=>by rw [ho] at z;cases z⟩
  ·rw [if_neg h] at hj ⊢;obtain ⟨w,h1,h2⟩:=E'.at_ j hj;by_cases hij:i=j
   ·subst hij;have:i<σ.length:=(List.getElem?_eq_some_iff.mp h1).1;rw [E'.len] at this;exact absurd ⟨rfl,this⟩ h
   ·refine ⟨w,by rw [List.getElem?_set_ne hij];exact h1,fun hoj=>?_⟩;rw [ns j hoj] at hj ⊢;obtain ⟨w',h1',h2'⟩:=E.at_ j hj;rw [h1] at h1';cases h1';exact (h2' hoj).dom.keep (fun c oc hc hp=>k.keep E c oc hc (hp.imp And.left id)) fun b ⟨n,hb⟩=>hO b hb n
 ·by_cases hij:i=j
  ·subst hij;have hl:i<σ.length:=by
    have:=(List.getElem?_eq_some_iff.mp hw).1;simpa using this
   rw [List.getElem?_set_self hl] at hw;cases hw;rw [cW,if_pos ⟨rfl,by rw [<-E'.len];exact hl⟩];refine ⟨a,o,rfl,r,hin,ha,hm,fun k hk hs=>?_⟩;by_cases hik:i=k
   ·exact hik.symm
   ·rw [List.getElem?_set_ne hik] at hs;exact absurd ⟨k,hk,hs⟩ hna
  ·rw [List.getElem?_set_ne hij] at hw;rw [cW,if_neg fun z=>hij z.1];obtain ⟨b,ob,h1,h2,h3,h4,h5,h6⟩:=E'.own j w hj hw;refine ⟨b,ob,h1,h2,h3,h4,h5,fun k hk hs=>?_⟩;by_cases hik:i=k
   ·subst hik;by_cases hl:i<σ.length
    ·rw [List.getElem?_set_self hl] at hs;cases hs;subst h1;exact absurd ⟨j,hj,hw⟩ hna
    ·rw [List.getElem?_set,if_pos rfl,if_neg hl] at hs;cases hs
   ·rw [List.getElem?_set_ne hik] at hs;exact h6 k hk hs
end
section
variable {own:Nat->Bool} {X:Cx} {a b c e:Expr} {pos pos':Pos} {fa fb fe:FE} {ra rb re:Bool} {xa xb xe:FX}
theorem aFv {f:D->D->Res D} {fr:Bool} {σ:L2.St} {H:Hp} {Q:VK} (h:gX own (x2L f xa fb) σ H Q):tOp (r2 f fr) (gX own xa) (gE fb rb) σ H Q:=by
 obtain ⟨ρ,d,ρ',E,h,q⟩:=h;obtain ⟨⟨x,ρ1⟩,h1,h⟩:=aR h;split at h
 ·rename_i hp;obtain ⟨y,h2,h⟩:=aR h;obtain ⟨z,h3,h⟩:=aR h;split at h
  ·rename_i hz;cases h;refine ⟨ρ,x,ρ1,E,h1,fun v H1 k1 E1 ns r1=>⟨ρ1,y,E1.er,h2,fun w H2 s2 r2 _=>⟨x,y,_,(r1.same s2).all,r2,h3,fun u H3 s3 r3 _=>?_⟩⟩⟩;exact q u H3 (k1.trans (.same (s2.trans s3))) (E1.same (s2.trans s3)) ns (r3.bI hz)
  ·cases h
 ·cases h
theorem uQ {o:Operator} {f:D->D->Res D} {fr:Bool} (ho:OpR X (binaryOp o) (r2 f fr)) (ha:PE X a (gX own xa)) (hb:PE X b (gE fb rb)):PE X (.BinOp a o b pos) (gX own (x2L f xa fb)):=PE.imp (aA6 ho ha hb) fun _ _ _=>aFv
theorem X_ {o:CmpOp} {f:D->D->Res D} {fr:Bool} (ho:OpR X (compareOp o) (r2 f fr)) (ha:PE X a (gX own xa)) (hb:PE X b (gE fb rb)) (hm:behindInMarks o b=false):PT X (.Compare a [o] [b] pos) (gXT own (xTB (x2L f xa fb))):=
 PT.imp (JC ho ha hb hm) fun σ H Q ⟨ρ,k,ρ',E,h,q⟩=>by
  obtain ⟨⟨d,ρ1⟩,h1,h2⟩:=aR h;obtain ⟨b,h3,h4⟩:=aR h2;cases h4;refine aFv ⟨ρ,d,_,E,h1,fun v H' k1 E1 ns r=>?_⟩;cases aAu h3;cases r;exact ⟨_,rfl,q H' k1 E1 ns⟩
theorem aBk {σ:L2.St} {H:Hp} {ρ:List D} {i:Nat} {d:D} (E:ES own H σ ρ) (ho:own i=false) (h:cL i ρ=.ok d):∃v,σ[i]?=some (some v)/\Rep (fun a=>¬Own own σ a) H v d:=by
 obtain ⟨v,hv,r,e⟩:=E.er.var h;have hne:ρ.getD i .uD≠.uD:=fun z=>by
  rw [z] at e;subst e;exact Rep.uD r
 obtain ⟨w,hw,hr⟩:=E.at_ i hne;rw [hv] at hw;cases hw;have r2:=hr ho;rw [e] at r2;exact ⟨v,hv,r2⟩
theorem aGo {i:Nat} {f:D->D->Res D} {fr:Bool} {σ:L2.St} {H:Hp} {Q:VK} (ho:own i=false) (h:gX own (x2R f (cL i) xb) σ H Q):tOp (r2 f fr) (sX i) (gX own xb) σ H Q:=by
 obtain ⟨ρ,d,ρ',E,h,q⟩:=h;obtain ⟨x,h1,h⟩:=aR h;obtain ⟨⟨y,ρ1⟩,h2,h⟩:=aR h;obtain ⟨z,h3,h⟩:=aR h;obtain ⟨v,hv,rv⟩:=aBk E ho h1;split at h
 ·rename_i hz;cases h;refine ⟨v,hv,ρ,y,ρ1,E,h2,fun w H2 k2 E2 ns r2=>⟨x,y,_,(k2.rep E rv).all,r2.all,h3,fun u H3 s3 r3 _=>?_⟩⟩;exact q u H3 (k2.trans (.same s3)) (E2.same s3) ns (r3.bI hz)
 ·cases h
theorem aBl {i:Nat} {x:Str} {pv:Pos} {f:D->D->Res D} {fr:Bool} (ho:IxR X (r2 f fr)) (hoi:own i=false) (hN:X.N[i]?=some x) (hv:Vis X.env.scope x) (hb:PE X b (gX own xb)) (hs:v8 b) (hd:nDb x:=by decide) (hcd:nCd x:=by decide):PE X (.Subscript (.Name x pv) b pos) (gX own (x2R f (cL i) xb)):=PE.imp (JP ho (bN hN hv hd hcd) hb hs) fun _ _ _=>aGo hoi
theorem zO {o:Bool} {i:Nat} {D':Ends} {σ:L2.St} {H:Hp} (ho:own i=o) (h:tS own (eE o i xe) D' σ H):HX (gX own xe) (jW i) D' σ H:=by
 obtain ⟨ρ,fl,E,h,q⟩:=h;obtain ⟨⟨d,ρ1⟩,h1,h2⟩:=aR h;cases o with
 | true=>
  simp only [if_true] at h2;split at h2
  ·rename_i hk;cases h2;refine ⟨ρ,d,ρ1,E,h1,fun v H' k E1 ns r=>?_⟩;obtain ⟨a,ob,rfl,hn,ha,hm⟩:=U0 r hk;obtain ⟨E2,k2⟩:=E.aGn k E1 ns ho hn r.all hk ha hm;exact q _ H' k2 E2
  ·cases h2
 | false=>
  simp only [Bool.false_eq_true,if_false,if_true] at h2;cases h2;refine ⟨ρ,d,ρ1,E,h1,fun v H' k E1 ns r=>?_⟩;exact q _ H' (fun a ob e hn=>⟨(k a ob e hn).1,by rw [jC ho];exact hn⟩) (E1.set ho (wO E r))
theorem kI {i:Nat} {x:Str} {o:Bool} (ho:own i=o) (hN:X.N.Nodup) (hi:X.N[i]?=some x) (hx:Loc X.env.scope x) (he:PE X e (gX own xe)) (hs:swapsWith e (some (.Name x pos')) pos.line X.env=pure false:=by rfl) (hf:X.fn x=true\/X.env.scope.names.lookup x=some .local:=by first|exact .inl rfl|exact .inr rfl|assumption) :
  PS X (.Assign [.Name x pos'] e pos) (tS own (eE o i xe)):=PS.imp (sZ hN hi hx he hs hf) fun _ _ _=>zO ho
theorem aEm {s1 s2:List Stmt} {f g:FS} {xc:FXT} (hc:PT X c (gXT own xc)) (ha:PSs X s1 (tS own f)) (hb:PSs X s2 (tS own g)):PS X (.If c s1 s2 pos) (tS own (aBh xc f g)):=PS.imp (V7 hc ha hb) fun D σ H ⟨ρ,fl,E,h,q⟩=>by
 obtain ⟨⟨k,ρ1⟩,h1,h2⟩:=aR h;refine ⟨ρ,k,ρ1,E,h1,fun H' ku E1 ns=>?_⟩;cases k with
 | true=>rw [if_pos rfl];rw [if_pos rfl] at h2;exact ⟨ρ1,fl,E1,h2,q.step ku⟩
 | false=>rw [if_neg (by simp)];rw [if_neg (by simp)] at h2;exact ⟨ρ1,fl,E1,h2,q.step ku⟩
end
end Mi
end
section
namespace Mi
open PySem L2 PySem.SeqAt PySem.Spec PyProof.Rows
variable [KFrag]
section
variable {own:Nat->Bool} {X:Cx} {a b c e:Expr} {pos pos':Pos} {fa fb fe:FE} {ra rb re:Bool} {xa xb xe:FX}
theorem kRt.new {D:Ends} {σ:L2.St} {H:Hp} {d0:Mi.D} {ρ':List Mi.D} (h:kRt own D σ H (.tup (d0::ρ'))) (hx:own rtX=true):∀v σ' H',KU own σ H σ' H'->ES own H' σ' ρ'->Rep (fun a=>(Own own σ a\/H a=none)/\∀i b xs,ρ'.getD i .uD=.cel b xs->a≠b) H' v d0->D.rt v H':=by
 unfold kRt at h;rw [if_pos hx] at h;obtain ⟨d1,ρ1,e,g⟩:=h;cases e;exact g
theorem iT {σ:L2.St} {H:Hp} {ρ:List D} (E:ES own H σ ρ) {i b:Nat} {xs:List D} (h:ρ.getD i .uD=.cel b xs):∃vs,σ[i]?=some (some (.ref b))/\H b=some (.lst vs):=by
 obtain ⟨v,h1,h2⟩:=E.er i (by rw [h];intro z;cases z);rw [h] at h2;cases h2 with
 | cel e _ _=>exact ⟨_,h1,e⟩
theorem wV (he:PE X e (gE fe re)) (hx:own rtX=true:=by rfl):PS X (.Return (some e) pos) (tS own (wB fe re)):=PS.imp (qG he) fun D σ H ⟨ρ,fl,E,h,q⟩=>by
 obtain ⟨d,h1,h2⟩:=aR h;split at h2
 ·rename_i hk;cases h2;refine ⟨ρ,d,E.er,h1,fun v H' s r n=>kRt.new q hx v σ H' (.same s) (E.same s) ?_⟩;rw [Bool.or_eq_true] at hk;rcases hk with hk|hk
  ·refine (n hk).mono fun a ha=>⟨.inr ha,fun i b xs hb z=>?_⟩
   obtain ⟨vs,_,e⟩:=iT E hb;subst z;rw [show H a=none from ha] at e;cases e
  ·exact r.bI hk
 ·cases h2
theorem zP {i:Nat} {x:Str} (ho:own i=true) (hN:X.N[i]?=some x) (hv:Vis X.env.scope x) (hd:nDb x:=by decide) (hcd:nCd x:=by decide) (hx:own rtX=true:=by rfl):PS X (.Return (some (.Name x pos')) pos) (tS own (qL i)):=
 PS.imp (qG (bN hN hv hd hcd)) fun D σ H ⟨ρ,fl,E,h,q⟩=>by
 obtain ⟨d,h1,h2⟩:=aR h;split at h2
 ·rename_i hc;cases h2;obtain ⟨v,hv,r,e⟩:=E.er.var h1;obtain ⟨a,o,rfl,r2,hin,_,_,huq⟩:=E.own i v ho hv;rw [e] at hin;refine ⟨_,hv,kRt.new q hx _ σ H (.same (bQ.refl H)) E (r.n_ hin ⟨.inl ⟨i,ho,hv⟩,fun j b xs hb z=>?_⟩)⟩;obtain ⟨vs,hj,eb⟩:=iT E hb;subst z;cases hoj:own j with
  | true=>
   have:=huq j hoj hj;subst this;rw [hb] at e;subst e;cases hc
  | false=>
   obtain ⟨w,hw,hr⟩:=E.at_ j (by rw [hb];intro z;cases z);have r3:=hr hoj;rw [hb] at r3;cases r3 with
   | cel e p r=>exact p ⟨i,ho,hv⟩
 ·cases h2
noncomputable def spV (k:Nat) (f:List D->Res D) (n:Nat):Sp:=fun vs H Q _=>∃ds d ds',ds.length=n/\vs.length=n/\ES (n_ k) H (vs.map some) ds/\(∀i,i<k->∃b xs xs',ds.getD i .uD=.cel b xs/\ds'.getD i .uD=.cel b xs')/\f ds=.ok (.tup (d::ds'))/\
 ∀v H',(∀a o,H a=some o->¬Own (n_ k) (vs.map some) a->H' a=some o)->(∀i v,i<k->vs[i]?=some v->Rep All H' v (ds'.getD i .uD)/\inner (ds'.getD i .uD)=true)->Rep (New H) H' v d->Q v H'
theorem YB {k:Nat} {f:List D->Res D} {n:Nat} {vs:List V} {H:Hp} {Q:VK} {E:XK} (h:spV k f n vs H Q E):vs.length=n:=by
 obtain ⟨ds,d,ds',h1,h2,_⟩:=h;exact h2
theorem uR {ρ:List D} {k i:Nat} (h:i<k):(ρ.take k).getD i .uD=ρ.getD i .uD:=by
 rw [List.getD_eq_getElem?_getD,List.getD_eq_getElem?_getD,List.getElem?_take,if_pos h]
theorem R0 {k:Nat} {N ps:List Str} {f:FS} {vs:List V} {H:Hp} {Q:VK} {E:XK} (hx:own rtX=true) (hown:∀i,i<ps.length->own i=n_ k i) (hkn:k<=ps.length) (h0:spV k (fnX k ps.length N.length f) ps.length vs H Q E):tS own f {nx:=fun _ H'=>Q .non H',rt:=Q} (start N vs) H:=by
 obtain ⟨ds,d,ds',hl,hvl,E0,hc,h,q⟩:=h0;obtain ⟨fl,h1,h2⟩:=aR h;have hst:start N vs=vs.map some++List.replicate (N.length-ps.length) none:=by
  show vs.map some++List.replicate (N.length-vs.length) none=_;rw [hvl]
 have low:∀i,i<ps.length->(start N vs)[i]?=(vs.map some)[i]?:=fun i hi=>by rw [hst,List.getElem?_append_left (by simp [hvl,hi])]
 have high:∀i v,ps.length<=i->(start N vs)[i]?≠some (some v):=fun i v hi e=>by
  rw [hst,List.getElem?_append_right (by simp [hvl];lia),List.getElem?_replicate] at e;split at e <;> cases e
 have hO:∀a,Own own (start N vs) a↔Own (n_ k) (vs.map some) a:=fun a=>by
  constructor
  ·rintro ⟨i,hi,e⟩;by_cases hlt:i<ps.length
   ·exact ⟨i,by rw [<-hown i hlt];exact hi,by rw [<-low i hlt];exact e⟩
   ·exact absurd e (high i _ (by lia))
  ·rintro ⟨i,hi,e⟩;have hik:i<k:=by simpa [n_] using hi
   have hlt:i<ps.length:=by lia
   exact ⟨i,by rw [hown i hlt];exact hi,by rw [low i hlt];exact e⟩
 have hOf:(fun a=>¬Own own (start N vs) a)=fun a=>¬Own (n_ k) (vs.map some) a:=funext fun a=>by rw [hO]
 have gd:∀i,i<ps.length->(ds++List.replicate (N.length-ps.length) D.uD).getD i .uD=ds.getD i .uD:=fun i hi=>by
  rw [List.getD_eq_getElem?_getD,List.getElem?_append_left (by lia),List.getD_eq_getElem?_getD]
 have ES0:ES own H (start N vs) (ds++List.replicate (N.length-ps.length) .uD):=by
  refine ⟨by rw [hst];simp [hvl,hl],fun i hi=>?_,fun i v hi hv=>?_⟩
  ·have hlt:i<ps.length:=Nat.lt_of_not_le fun hge=>hi (by
    rw [List.getD_eq_getElem?_getD,List.getElem?_append_right (by lia),List.getElem?_replicate];split <;> rfl)
   rw [gd i hlt] at hi ⊢;obtain ⟨v,g1,g2⟩:=E0.at_ i hi;exact ⟨v,by rw [low i hlt];exact g1,fun ho=>by rw [hOf];exact g2 (by rw [<-hown i hlt];exact ho)⟩
  ·have hlt:i<ps.length:=Nat.lt_of_not_le fun hge=>high i v hge hv
   rw [low i hlt] at hv;rw [gd i hlt];obtain ⟨a,o,g1,g2,g3,g4,g5,g6⟩:=E0.own i v (by rw [<-hown i hlt];exact hi) hv;refine ⟨a,o,g1,g2,g3,g4,g5,fun j hj hs=>?_⟩;have hjl:j<ps.length:=Nat.lt_of_not_le fun hge=>high j _ hge hs
   exact g6 j (by rw [<-hown j hjl];exact hj) (by rw [<-low j hjl];exact hs)
 have fin:∀v σ' H' ρ',ds'=ρ'.take k->KU own (start N vs) H σ' H'->ES own H' σ' ρ'->Rep (New H) H' v d->Q v H':=fun v σ' H' ρ' ed ku E' r=>by
  refine q v H' (fun a o e n=>(ku a o e (by rw [hO];exact n)).1) (fun i w hi hw=>?_) r;have hlt:i<ps.length:=by lia
  obtain ⟨b,xs,xs',g1,g2⟩:=hc i hi;have hoi:own i=true:=by rw [hown i hlt];simp [n_,hi]
  have g3:ρ'.getD i .uD=.cel b xs':=by rw [ed,uR hi] at g2;exact g2
  obtain ⟨vs0,z1,_⟩:=iT E0 g1;rw [List.getElem?_map,hw] at z1;cases z1;obtain ⟨w',z2,_⟩:=E'.at_ i (by rw [g3];intro z;cases z);obtain ⟨a,o,rfl,g4,g5,_⟩:=E'.own i w' hoi z2;rw [g3] at g4 g5;have:=rN g4;cases this;rw [g2];exact ⟨g4,g5⟩
 refine ⟨_,fl,ES0,h1,?_⟩;cases fl with
 | nx ρ'=>
  simp only [aEk] at h2;injection h2 with h2
  injection h2 with h2
  injection h2 with z1 z2
  subst z1;exact fun σ' H' ku E'=>fin .non σ' H' ρ' z2.symm ku E' .non
 | bk ρ'=>cases h2
 | ct ρ'=>cases h2
 | rt d'=>
  show kRt own _ _ _ d';unfold kRt;rw [if_pos hx];unfold aEk at h2;split at h2
  ·rename_i d1 ρ' heq;cases heq;injection h2 with h2
   injection h2 with h2
   injection h2 with z1 z2
   subst z1;refine ⟨_,_,rfl,fun v σ' H' ku E' r=>fin v σ' H' ρ' z2.symm ku E' (r.mono fun a ha=>?_)⟩;rcases ha.1 with ⟨i,hi,e⟩|hn
   ·exfalso;have hlt:i<ps.length:=Nat.lt_of_not_le fun hge=>high i _ hge e
    have hik:i<k:=by rw [hown i hlt] at hi;simpa [n_] using hi
    obtain ⟨b,xs,xs',g1,g2⟩:=hc i hik;obtain ⟨vs0,q1,_⟩:=iT E0 g1;rw [low i hlt,q1] at e;cases e;rw [<-z2,uR hik] at g2;exact ha.2 i _ xs' g2 rfl
   ·exact hn
  ·rename_i heq;cases heq
  ·cases h2
theorem aBm {P:Program} {w:World} {K:PySem.W.Frag} {mg:Str->Option Value} {base:Heap} {x qual:Str} {st:Stmt} {fad:Addr} {fd:FuncData} {N ps:List Str} {k c:Nat} {f:FS} (F:Fun K x qual st fad fd) (S:bW N ps (aJ st)) (own:Nat->Bool) (hx:own rtX=true) (hown:∀i,i<ps.length->own i=n_ c i) (hkn:c<=ps.length)
  (hbody:∀(cdv:Value) (A:Around) (outer:List Env) (s:Shared) (H:Hp) (E:XK),jH k (A.deeper (envOfC qual (aJ st) s.heap.objs.size fad cdv))->PSs (CT CX0 P w K mg base N qual (aJ st) fad cdv A outer s H E).nox (cF st) (tS own f)):mC P w K mg base CX0 (k+1) fad fd ps (spV c (fnX c ps.length N.length f) ps.length):=
 F.ok S (fun vs H Q E h=>YB h) fun cdv A outer s H vs Q E hr h=>⟨_,hbody cdv A outer s H E hr,R0 hx hown hkn h⟩
noncomputable def GC (P:Program) (w:World) (K:PySem.W.Frag) (mg:Str->Option Value) (base:Heap) (k:Nat) (x:Str) (n c:Nat) (f:List D->Res D):Prop:=
 ∃(fad:Addr) (fd:FuncData) (ps:List Str),mC P w K mg base CX0 k fad fd ps (spV c f n)/\mg x=some (.ref fad)/\PySem.W.keepIn K (.ref fad)=true/\Binds K fd ps []
theorem rQ {P:Program} {w:World} {K:PySem.W.Frag} {mg:Str->Option Value} {base:Heap} {x:Str} {k:Nat} {st:Stmt} {fad:Addr} {fd:FuncData} {N ps:List Str} {fs:FS} (c:Nat) (F:Fun K x x st fad fd) (hm:mg x=some (.ref fad)) (hb:Binds K fd ps []) (S:bW N ps (aJ st)) (own:Nat->Bool) (hown:∀i,i<ps.length->own i=n_ c i) (hkn:c<=ps.length)
  (hbody:∀(cdv:Value) (A:Around) (outer:List Env) (s:Shared) (H:Hp) (E:XK),jH k (A.deeper (envOfC x (aJ st) s.heap.objs.size fad cdv))->PSs (CT CX0 P w K mg base N x (aJ st) fad cdv A outer s H E).nox (cF st) (tS own fs)) (hx:own rtX=true:=by rfl):GC P w K mg base (k+1) x ps.length c (fnX c ps.length N.length fs):=
 ⟨fad,fd,ps,aBm F S own hx hown hkn hbody,hm,F.kp,hb⟩
theorem iC:PA X [] (gAO own aU):=PA.imp jJ fun σ H Q ⟨ρ,ds,E,h,q⟩=>by cases h;exact q [] H (bQ.refl H) .nil
theorem zQ {i:Nat} {x:Str} {es:List Expr} {f:FA} (ho:own i=false) (hN:X.N[i]?=some x) (hv:Vis X.env.scope x) (hes:PA X es (gAO own f)) (hd:nDb x:=by decide) (hcd:nCd x:=by decide) (hs:starEach (.Name x pos::es) X.env=(false,eval (.Name x pos) X.env)::starEach es X.env:=by rfl):PA X (.Name x pos::es) (gAO own (aB (cL i) f)):=PA.imp (c7 (bN hN hv hd hcd) hes hs) fun σ H Q ⟨ρ,ds,E,h,q⟩=>by
 obtain ⟨x,h1,h⟩:=aR h;obtain ⟨xs,h2,h⟩:=aR h;cases h;obtain ⟨v,hv,rv⟩:=aBk E ho h1;exact ⟨v,hv,ρ,xs,E,h2,fun vs H2 s2 r2=>q _ _ s2 (.cons (rv.same s2) r2)⟩
theorem aBn {es:List Expr} {f:FA} (he:PE X e (gE fe re)) (hes:PA X es (gAO own f)) (hs:starEach (e::es) X.env=(false,eval e X.env)::starEach es X.env:=by rfl):PA X (e::es) (gAO own (aB (bPu fe) f)):=PA.imp (c7 he hes hs) fun σ H Q ⟨ρ,ds,E,h,q⟩=>by
 obtain ⟨x,h1,h⟩:=aR h;obtain ⟨xs,h2,h⟩:=aR h;cases h;obtain ⟨y,h3,h1⟩:=aR h1;split at h1
 ·rename_i hp;cases h1;exact ⟨ρ,_,E.er,h3,fun v H1 s1 r1 _=>⟨ρ,xs,E.same s1,h2,fun vs H2 s2 r2=>q _ _ (s1.trans s2) (.cons ((r1.bI hp).same s2) r2)⟩⟩
 ·cases h1
theorem aEn {H:Hp} {a:Addr} {xs:List D} {vs0:List V} {vs:List V} {rest:List D} (ha:H a=some (.lst vs0)) (ra:a_ All H vs0 xs) (hp:D.aN xs=true) (rs:a_ (fun b=>b≠a) H vs rest):ES (n_ 1) H ((V.ref a::vs).map some) (.cel a xs::rest):=by
 have hO:∀b,Own (n_ 1) ((V.ref a::vs).map some) b->b=a:=fun b ⟨j,hj,e⟩=>by
  have:j=0:=by simp [n_] at hj;lia
  subst this;simp at e;exact e.symm
 refine ⟨by simp [rs.length],fun i hi=>?_,fun i v hi hv=>?_⟩
 ·cases i with
  | zero=>exact ⟨.ref a,rfl,fun z=>by simp [n_] at z⟩
  | succ i=>
   have e:(D.cel a xs::rest).getD (i+1) .uD=rest.getD i .uD:=rfl;rw [e] at hi ⊢;cases hq:rest[i]? with
   | none=>rw [List.getD_eq_getElem?_getD,hq] at hi;exact absurd rfl hi
   | some d=>
    obtain ⟨v,g1,g2⟩:=rs.get hq;rw [List.getD_eq_getElem?_getD,hq];exact ⟨v,by simp [g1],fun _=>g2.mono fun b hb ho=>hb (hO b ho)⟩
 ·have:i=0:=by simp [n_] at hi;lia
  subst this;simp at hv;subst hv;exact ⟨a,.lst vs0,rfl,.cel ha trivial ra,hp,ha,rfl,fun j hj _=>by simp [n_] at hj;lia⟩
theorem rR {σ:L2.St} {H:Hp} {ρ:List D} {i:Nat} {xs:List D} (E:ES own H σ ρ) (ho:own i=true) (h:sY (ρ.getD i .uD)=some xs):∃a vs,σ[i]?=some (some (.ref a))/\H a=some (.lst vs)/\a_ All H vs xs/\D.aN xs=true/\Rep All H (.ref a) (ρ.getD i .uD)/\∀b,ρ.getD i .uD=.cel b xs->b=a:=by
 obtain ⟨a,o,hσ,r,hin,ha,hm⟩:=E.ownAt ho (aBj h);obtain ⟨vs,e,_,rr⟩:=U6 r h;exact ⟨a,vs,hσ,e,rr,by rw [aBi h] at hin;exact hin,r,fun b hb=>by rw [hb] at r;have:=rN r;cases this;rfl⟩
theorem aBo {H H':Hp} {a:Addr} {d:D} {xs xs':List D} (r:Rep All H (.ref a) d) (h:sY d=some xs) (r':Rep All H' (.ref a) (.cel a xs')):∃vs,H' a=some (.lst vs)/\Rep All H' (.ref a) (F_ d xs'):=by
 obtain ⟨vs,e,_,rr⟩:=U6 r' rfl;exact ⟨vs,e,zN r h e trivial rr⟩
theorem dF {x y:Str} {p py:Pos} {es:List Expr} {fs:FA} {k k' n i:Nat} {f:List D->Res D} (C:GC X.prog X.w X.K X.mg X.base k x n 1 f) (hr:jH k' X.A) (hkk:k<=k') (hg:Gl X x) (ho:own i=true) (hN:X.N[i]?=some y) (hv:Vis X.env.scope y) (ha:PA X es (gAO own fs)) (hdb:nDb x:=by decide) (hd:(y==("__debug__" : Str))=false:=by decide) (hcd:(y==("__classdict__" : Str))=false:=by decide)
  (he:starEach (.Name y py::es) X.env=(false,eval (.Name y py) X.env)::starEach es X.env:=by rfl) (hpl:(backTo pos (starEach es X.env)).any (·.1)=false:=by rfl):PE X (.Call (.Name x p) (.Name y py::es) [] pos) (gX own (bV f n i fs)):=by
 obtain ⟨fad,fd,ps,F,hm,hk,hb⟩:=C;refine PE.imp (v6 F (hr.mono hkk) hg hm hk hb .nil DK (c7 (bN hN hv hd hcd) ha he) hdb he hpl) fun σ H Q ⟨ρ,d,ρ',E,h,q⟩=>?_
 obtain ⟨rest,h1,h⟩:=aR h;split at h
 ·rename_i xs hx;split at h
  ·rename_i hn;obtain ⟨⟨r0,xs'⟩,h2,h⟩:=aR h;split at h
   ·rename_i hp';cases h;obtain ⟨a,vs0,hσ,e0,rr0,hp0,rp0,_⟩:=rR E ho hx;refine ⟨_,hσ,ρ,rest,E,h1,fun vs H1 s1 rs=>?_⟩;have hOa:Own own σ a:=⟨i,ho,hσ⟩
    have hl:rest.length+1=n:=of_decide_eq_true hn;dsimp only;rw [List.append_nil];refine ⟨.cel a xs::rest,_,[.cel a xs'],by simp;lia,by simp [rs.length];lia,aEn (s1 _ _ e0) (rr0.same s1) hp0 (rs.mono fun b hb z=>by subst z;exact hb hOa),fun j hj=>?_,aBg h2 a,fun v H' k1 own1 rn=>?_⟩
    ·have:j=0:=by lia
     subst this;exact ⟨a,xs,xs',rfl,rfl⟩
    ·obtain ⟨r1,hin⟩:=own1 0 _ (by lia) rfl;have r1:Rep All H' (.ref a) (.cel a xs'):=r1;obtain ⟨vs1,e1,r2⟩:=aBo (rp0.same s1) hx r1;have hk1:∀b ob,H1 b=some ob->b≠a->H' b=some ob:=fun b ob e n=>k1 b ob e fun ⟨j,hj,ej⟩=>by
      have:j=0:=by simp [n_] at hj;lia
      subst this;simp at ej;exact n ej.symm
     obtain ⟨E2,k2⟩:=(E.same s1).aFu ho hσ hk1 e1 rfl r2 (by rw [rO hx];exact hp');exact q v H' ((KU.same s1).trans k2) E2 (.set ho) (rn.mono fun b hb=>s1.free hb)
   ·cases h
  ·cases h
 ·cases h
end
end Mi
end
section
namespace Mi
open PySem L2 PySem.SeqAt PySem.Spec PyProof.Rows
noncomputable def xcf (f:FX):List D->List D->List D->Res (List D×List D)
 | acc,[],ρ=>.ok (acc,ρ)
 | acc,x::xs,ρ=>do
  let p <- f (ρ++[x])
  if p.1.pure then xcf f (acc++[p.1]) xs p.2.dropLast else .bad
noncomputable def M7 (it:FI) (f:FX):FX:=fun ρ=>do
 let xs <- it ρ
 if xs.2&&decide (xs.1.length<=lim) then (do
  let p <- xcf f [] xs.1 ρ
  .ok (.lst p.1,p.2)) else .bad
variable [KFrag]
section
variable {own:Nat->Bool} {X:Cx} {a b c e:Expr} {pos pos':Pos} {fa fb fe:FE} {ra rb re:Bool} {xa xb xe:FX}
theorem M8 {i:Nat} {x:Str} {p1:Pos} {value k:Expr} {fv fk:FE} {rv rk:Bool} (ho:own i=true) (hN:X.N[i]?=some x) (hvi:Vis X.env.scope x) (hk:PE X k (gE fk rk)) (hv:PE X value (gE fv rv)) (hs:swapsWith value (some (.Subscript (.Name x p1) k pos')) pos.line X.env=pure false:=by rfl) (hd:nDb x:=by decide) (hcd:nCd x:=by decide) :
  PS X (.Assign [.Subscript (.Name x p1) k pos'] value pos) (tS own (wU i fk fv)):=by
 intro pins s σ H D' I ⟨ρ,fl,E,h,q⟩;obtain ⟨d,h0,h⟩:=aR h;obtain ⟨kd,h1,h2⟩:=aR h;split at h2
 ·rename_i xs kk hx;split at h2
  ·rename_i hp;split at h2
   ·rename_i j hj;cases h2;obtain ⟨a,vs,hσ,e0,rr,hin,rp,_⟩:=rR E ho hx;have pn:D.aN (xs.set j d)=true:=dR.mpr fun y hy=>by
     rcases List.mem_or_eq_of_mem_set hy with hy|hy
     ·exact dR.mp hin y hy
     ·subst hy;exact hp
    have go:∀{v:V} {H2:Hp},bQ H H2->Rep All H2 v d->D'.nx σ (upd H2 a (.lst (vs.set j v))):=fun {v H2} sm rv=>by
     have rn:a_ All (upd H2 a (.lst (vs.set j v))) (vs.set j v) (xs.set j d):=((rr.same sm).set rv j).upd pn (sm _ _ e0) rfl;obtain ⟨E2,k2⟩:=(E.same sm).aFu (H':=upd H2 a (.lst (vs.set j v))) (o:=.lst (vs.set j v)) (d:=F_ (ρ.getD i .uD) (xs.set j d)) ho hσ (fun b ob e n=>by rw [bG n];exact e) aK rfl (zN (rp.same sm) hx aK trivial rn) (by rw [rO hx];exact pn);exact q _ _ ((KU.same sm).trans k2) E2
    refine wpAny_Assign_Subscript (thn (hv pins s σ H (fun v H1=>bQ H H1/\Rep All H1 v d) I ⟨ρ,d,E.er,h0,fun v H1 s1 r1 _=>⟨s1,r1⟩⟩) fun u1 t1 ⟨v,H1,I1,rv1,sm1,rp1⟩=>
     thn (bN hN hvi hd hcd pins t1 σ H1 (fun w H2=>w=.ref a/\H2=H1) I1 ⟨_,hσ,rfl,rfl⟩) fun u2 t2 ⟨xx,H2,I2,rx,ex,eH⟩=>?_) hs
    subst ex;rw [eH] at I2;refine thn (hk pins t2 σ _ (fun w H3=>bQ H1 H3/\w=.int kk) I2 ⟨ρ,_,E.er.same sm1,h1,fun w H3 s3 r3 _=>⟨s3,by cases r3;rfl⟩⟩) fun u3 t3 ⟨y,H3,I3,ry,sm3,ey⟩=>?_
    subst ey;exact thn (set_list pins t3 σ H3 (.ref a) (.int kk) v u2 u3 u1 (fun H4=>D'.nx σ H4) I3 rx ry rv1 ⟨a,vs,kk,j,rfl,rfl,(sm1.trans sm3) _ _ e0,by rw [rr.length];exact hj,go (sm1.trans sm3) (rp1.same sm3)⟩) fun _ t4 ⟨H4,I4,q4⟩=>⟨σ,H4,I4,q4⟩
   ·cases h2
  ·cases h2
 ·cases h2
theorem GD {pins:List (Addr×Obj)} {σ:L2.St} {H:Hp} {s:Shared} {a:Addr} {vs:List V} (I:Inv X pins σ H s) (e:H a=some (.lst vs)):∃o,Inv X pins σ (upd H a (.frz o (.lst vs))) s:=by
 obtain ⟨its,n,r,ho,hz⟩:=I.lst e;refine ⟨_,I.write (t':=s.toks) (x:=a) (e:=a) (h':=s.heap) (o:=.frz _ (.lst vs)) (by rw [e];trivial) (.inl rfl) (fun _ _ _ q=>q) ⟨_,ho⟩ ⟨ho,hz,its,n,r,ho⟩⟩
theorem M9 {ys:List D} (h:ys.all isI=true):D.aN ys=true:=dR.mpr fun y hy=>by
 have:=List.all_eq_true.mp h y hy;cases y <;> first|rfl|cases this
theorem U7 {H H':Hp}:∀{xs r:List D} {vs:List V},X8 xs=.ok r->a_ (New H) H' vs xs->∃b ws,H b=none/\H' b=some (.lst ws)/\D.aN r=true/\(∃(k:Nat) (ys:List D),vs[k]?=some (V.ref b)/\a_ (New H) H' ws ys/\ys.all isI=true)/\∀o,a_ (fun c=>H c=none) (upd H' b (.frz o (.lst ws))) vs r
 | [],r,vs,h,_=>by cases h
 | x::xs,r,_,h,.cons (v:=v) (vs:=vs) rx t=>by
  by_cases hl:∃ys,x=.lst ys
  ·obtain ⟨ys,rfl⟩:=hl;simp only [X8] at h;split at h
   ·rename_i hp;rw [Bool.and_eq_true] at hp;cases h;have hpi:=M9 hp.1;cases rx with
    | @lst b ws _ e p rr=>
     have hne:∀ob,H' b=some ob->aDk ob=true:=fun ob z=>by rw [e] at z;cases z;rfl
     refine ⟨b,ws,p,e,by rw [D.aN,Bool.and_eq_true];exact ⟨hpi,hp.2⟩,⟨0,ys,rfl,rr,hp.1⟩,fun o=>.cons (.frz (.inl ⟨o,aK⟩) ((kE hne rr hpi).bI hpi)) ((kE hne t hp.2).bI hp.2)⟩
   ·cases h
  ·have h':(if x.pure then (do let r <- X8 xs;.ok (x::r)) else .bad)=Res.ok r:=by
    cases x <;> first|exact h|exact absurd ⟨_,rfl⟩ hl
   split at h'
   ·rename_i hp;obtain ⟨r',h1,h2⟩:=aR h';cases h2;obtain ⟨b,ws,g1,g2,g3,⟨k,ys,g5,g6,g7⟩,g4⟩:=U7 h1 t;have hne:∀ob,H' b=some ob->aDk ob=true:=fun ob z=>by rw [g2] at z;cases z;rfl
    exact ⟨b,ws,g1,g2,by rw [D.aN,Bool.and_eq_true];exact ⟨hp,g3⟩,⟨k+1,ys,by simpa using g5,g6,g7⟩,fun o=>.cons ((zJ hne rx hp).bI hp) (g4 o)⟩
   ·cases h'
theorem aBp (ha:PE X a (gE fa true)):PE X a (gE (aDm fa) true):=by
 intro pins s σ H Q I ⟨ρ,d,E,h,q⟩;obtain ⟨x,h1,h⟩:=aR h;split at h
 ·rename_i xs;obtain ⟨r,h2,h⟩:=aR h;cases h;refine thn (ha pins s σ H (fun v H'=>bQ H H'/\Rep (New H) H' v (.lst xs)) I ⟨ρ,_,E,h1,fun v H' sm rr n=>⟨sm,n rfl⟩⟩) fun u s' ⟨v,H',I',rv,sm,rn⟩=>?_
  cases rn with
  | @lst a vs _ e p rr=>
   obtain ⟨b,ws,g1,g2,g3,⟨k,ys,g5,g6,g7⟩,g4⟩:=U7 h2 rr;have hab:a≠b:=fun z=>by
    subst z;rw [e] at g2;cases g2;obtain ⟨d,hd,rd⟩:=g6.at g5;have:=List.all_eq_true.mp g7 d (List.mem_of_getElem? hd);cases d <;> first|(cases this;done)|(cases rd;done)
   obtain ⟨o,I2⟩:=GD I' g2;have s2:bQ H (upd H' b (.frz o (.lst ws))):=fun c oc hc=>by
    rw [bG (fun z=>by subst z;rw [g1] at hc;cases hc)];exact sm c oc hc
   have e2:upd H' b (.frz o (.lst ws)) a=some (.lst vs):=by rw [bG hab];exact e
   exact ⟨.ref a,_,I2,rv,q _ _ s2 (.lst e2 trivial (g4 o).all) fun _=>.lst e2 p (g4 o)⟩
 ·cases h
theorem ES.aGp {H H5:Hp} {σ:L2.St} {ρ ρ5:List D} {p:Addr} {o:HO} {vs:List V} (E:ES own H σ ρ) (k:KU own σ H σ H5) (E5:ES own H5 σ ρ5) (ns:NS own ρ ρ5) (hp:H p=none) (e5:H5 p=some (.lst vs)):ES own (upd H5 p o) σ ρ5/\KU own σ H σ (upd H5 p o):=by
 have k':KU own σ H σ (upd H5 p o):=fun b ob e n=>⟨by rw [bG (b8 e hp)];exact (k b ob e n).1,n⟩
 refine ⟨⟨E5.len,fun j hj=>?_,fun j w hj hw=>?_⟩,k'⟩
 ·obtain ⟨w,h1,h2⟩:=E5.at_ j hj;refine ⟨w,h1,fun hoj=>?_⟩;rw [ns j hoj] at hj ⊢;obtain ⟨w',h1',h2'⟩:=E.at_ j hj;rw [h1] at h1';cases h1';exact k'.rep E (h2' hoj)
 ·obtain ⟨b,ob,h1,h2,h3,h4,h5,h6⟩:=E5.own j w hj hw;subst h1;have hbp:b≠p:=fun z=>by subst z;exact rP E hp ⟨j,hj,hw⟩
  refine ⟨b,ob,rfl,?_,h3,by rw [bG hbp];exact h4,h5,h6⟩;refine (h2.n_ (P':=fun c=>c=b) h3 rfl).keep (fun c oc hc hq=>?_) fun _ _=>trivial
  rw [bG]
  ·exact hc
  ·intro z;subst z;rcases hq with hq|hq
   ·exact hbp hq.symm
   ·rw [e5] at hc;cases hc;cases hq
theorem ES.snoc {H:Hp} {σ:L2.St} {ρ:List D} {x:V} {d:D} (E:ES own H σ ρ) (ho:own σ.length=false) (r:Rep (fun a=>¬Own own σ a) H x d):ES own H (σ++[some x]) (ρ++[d])/\∀a,Own own (σ++[some x]) a↔Own own σ a:=by
 have hO:∀a,Own own (σ++[some x]) a↔Own own σ a:=fun a=>by
  constructor
  ·rintro ⟨i,hi,e⟩;by_cases hl:i<σ.length
   ·exact ⟨i,hi,by rw [List.getElem?_append_left hl] at e;exact e⟩
   ·by_cases hq:i=σ.length
    ·subst hq;rw [ho] at hi;cases hi
    ·rw [List.getElem?_append_right (by lia)] at e;rw [List.getElem?_eq_none (by simp;lia)] at e;cases e
  ·rintro ⟨i,hi,e⟩;exact ⟨i,hi,by rw [List.getElem?_append_left (List.getElem?_eq_some_iff.mp e).1];exact e⟩
 have hOf:(fun a=>¬Own own (σ++[some x]) a)=fun a=>¬Own own σ a:=funext fun a=>by rw [hO]
 refine ⟨⟨by simp [E.len],fun i hi=>?_,fun i v hi hv=>?_⟩,hO⟩
 ·rw [hOf];by_cases hl:i<σ.length
  ·have e:(ρ++[d]).getD i .uD=ρ.getD i .uD:=by rw [List.getD_eq_getElem?_getD,List.getElem?_append_left (by rw [<-E.len];exact hl),List.getD_eq_getElem?_getD]
   rw [e] at hi ⊢;obtain ⟨v,h1,h2⟩:=E.at_ i hi;exact ⟨v,by rw [List.getElem?_append_left hl];exact h1,h2⟩
  ·by_cases hq:i=σ.length
   ·subst hq;have e:(ρ++[d]).getD σ.length .uD=d:=by rw [E.len];simp
    rw [e];exact ⟨x,by simp,fun _=>r⟩
   ·exfalso;apply hi;rw [List.getD_eq_getElem?_getD,List.getElem?_eq_none (by simp;rw [<-E.len];lia)];rfl
 ·have hl:i<σ.length:=Nat.lt_of_not_le fun hge=>by
   by_cases hq:i=σ.length
   ·subst hq;rw [ho] at hi;cases hi
   ·rw [List.getElem?_eq_none (by simp;lia)] at hv;cases hv
  rw [List.getElem?_append_left hl] at hv;have e:(ρ++[d]).getD i .uD=ρ.getD i .uD:=by rw [List.getD_eq_getElem?_getD,List.getElem?_append_left (by rw [<-E.len];exact hl),List.getD_eq_getElem?_getD]
  rw [e];obtain ⟨b,ob,h1,h2,h3,h4,h5,h6⟩:=E.own i v hi hv;refine ⟨b,ob,h1,h2,h3,h4,h5,fun j hj hs=>?_⟩;have hjl:j<σ.length:=Nat.lt_of_not_le fun hge=>by
   by_cases hq:j=σ.length
   ·subst hq;rw [ho] at hj;cases hj
   ·rw [List.getElem?_eq_none (by simp;lia)] at hs;cases hs
  exact h6 j hj (by rw [List.getElem?_append_left hjl] at hs;exact hs)
theorem ES.aBq {H:Hp} {σ:L2.St} {ρ:List D} {x:Option V} (E:ES own H (σ++[x]) ρ) (hO:∀a,Own own (σ++[x]) a↔Own own σ a):ES own H σ ρ.dropLast:=by
 have hl:ρ.length=σ.length+1:=by rw [<-E.len];simp
 have gd:∀i,i<σ.length->ρ.dropLast.getD i .uD=ρ.getD i .uD:=fun i hi=>by
  rw [List.getD_eq_getElem?_getD,List.getD_eq_getElem?_getD,List.getElem?_dropLast,if_pos (by lia)]
 have hOf:(fun a=>¬Own own (σ++[x]) a)=fun a=>¬Own own σ a:=funext fun a=>by rw [hO]
 refine ⟨by simp [hl],fun i hi=>?_,fun i v hi hv=>?_⟩
 ·have hlt:i<σ.length:=Nat.lt_of_not_le fun hge=>hi (by rw [List.getD_eq_getElem?_getD,List.getElem?_eq_none (by simp;lia)];rfl)
  rw [gd i hlt] at hi ⊢;obtain ⟨v,h1,h2⟩:=E.at_ i hi;rw [hOf] at h2;exact ⟨v,by rw [List.getElem?_append_left hlt] at h1;exact h1,h2⟩
 ·have hlt:i<σ.length:=(List.getElem?_eq_some_iff.mp hv).1;rw [gd i hlt];obtain ⟨b,ob,h1,h2,h3,h4,h5,h6⟩:=E.own i v hi (by rw [List.getElem?_append_left hlt];exact hv);exact ⟨b,ob,h1,h2,h3,h4,h5,fun j hj hs=>h6 j hj (by rw [List.getElem?_append_left (List.getElem?_eq_some_iff.mp hs).1];exact hs)⟩
theorem GF {K:PySem.W.Frag} {it:FI} {f:FX} {n:Nat} (ho:own n=false) {σ:L2.St} {H:Hp} {Q:VK} (hn:σ.length=n) (h:gX own (M7 it f) σ H Q) :
  tW (gI K it) (jW n) (fun _ H Q=>Q true H) (gX own f) 1 σ H Q:=by
 obtain ⟨ρ,d,ρ',E,h,q⟩:=h;obtain ⟨⟨items,kk⟩,h1,h⟩:=aR h;split at h
 ·rename_i hk;rw [Bool.and_eq_true] at hk;obtain ⟨⟨ys,ρf⟩,h2,h⟩:=aR h;cases h;refine ⟨ρ,items,kk,E.er,h1,fun J H1 s1 _ hJ p hp=>?_⟩;have hp0:H p=none:=s1.free hp;have hJ1:ItQ K (fun a=>¬Own own σ a) J H1 items:=(hJ hk.1).keep (fun _ _ e _=>e) fun a ha=>rP E ha
  have E1:ES own H1 σ ρ:=E.same s1;refine ⟨fun i n' vs H'=>n'=items.length-i/\i<=items.length/\H' p=some (.lst vs)/\KU own σ H1 σ H'/\∃acc ρc,acc.length<=i/\D.aN acc=true/\a_ (fun _=>False) H' vs acc/\ES own H' σ ρc/\NS own ρ ρc/\xcf f acc (items.drop i) ρc=.ok (ys,ρf),⟨items.length,?_⟩,?_⟩
  ·exact ⟨rfl,Nat.zero_le _,aK,.same (bQ.upd hp),[],ρ,Nat.zero_le _,rfl,.nil,E1.same (bQ.upd hp),.refl,h2⟩
  ·rintro i n' vs H' ⟨rfl,hi,hH,ku,acc,ρc,hal,hpa,racc,Ec,ns,hf⟩;refine ⟨hH,?_⟩;have hJ':ItQ K (fun a=>¬Own own σ a) J H' items:=hJ1.ku ku E1;rcases Nat.lt_or_ge i items.length with hlt|hge
   ·refine .inr ?_;have e:items[i]?=some items[i]:=List.getElem?_eq_getElem hlt;obtain ⟨g1,g2⟩:=hJ'.go e;have hl1:items.length<=lim:=of_decide_eq_true hk.2;refine ⟨g1,?_,fun x H2 hy=>?_⟩
    ·rw [racc.length];exact Nat.lt_of_le_of_lt hal (Nat.lt_of_lt_of_le hlt (Nat.le_trans hl1 (by rw [sizeLine_eq];decide)))
    ·obtain ⟨sH,rx⟩:=g2 x H2 hy;have es:(σ++List.replicate 1 none).set n (some x)=σ++[some x]:=by
      subst hn;simp
     show Ext _ ((σ++List.replicate 1 none).set n (some x))/\_;rw [es];rw [List.drop_eq_getElem_cons hlt] at hf;obtain ⟨⟨y,ρ2⟩,hfy,hf⟩:=aR hf;split at hf
     ·rename_i hpy;have Ec2:=Ec.same sH;obtain ⟨E2,hO⟩:=Ec2.snoc (by rw [hn];exact ho) rx;refine ⟨⟨by simp,fun j v hv=>?_⟩,?_⟩
      ·by_cases hj:j<σ.length
       ·rw [List.getElem?_append_left hj] at hv ⊢;exact hv
       ·rw [List.getElem?_append_right (by lia),List.getElem?_replicate] at hv;split at hv <;> cases hv
      ·dsimp only;rw [if_pos rfl];refine ⟨_,y,ρ2,E2,hfy,fun w H5 k5 E5 ns5 r5=>?_⟩;have k5':KU own σ H2 σ H5:=fun b ob eb nb=>⟨(k5 b ob eb (by rw [hO];exact nb)).1,nb⟩
       have hpn:¬Own own σ p:=rP E hp0;have hp5:H5 p=some (.lst vs):=(k5' p _ (sH p _ hH) hpn).1;have E5':ES own H5 σ ρ2.dropLast:=E5.aBq hO;have hlc:ρc.length=σ.length:=Ec.len.symm;have nsc:NS own ρ ρ2.dropLast:=fun j hj=>by
        by_cases hjl:j<σ.length
        ·have hl2:ρ2.length=σ.length+1:=by rw [<-E5.len];simp
         rw [<-ns j hj,List.getD_eq_getElem?_getD,List.getElem?_dropLast,if_pos (by lia),<-List.getD_eq_getElem?_getD,ns5 j hj,List.getD_eq_getElem?_getD,List.getElem?_append_left (by lia),<-List.getD_eq_getElem?_getD]
        ·rw [List.getD_eq_getElem?_getD,List.getElem?_eq_none (by rw [<-E5'.len];lia),List.getD_eq_getElem?_getD,List.getElem?_eq_none (by rw [<-E.len];lia)]
       have ku5:KU own σ H1 σ H5:=ku.trans ((KU.same sH).trans k5');obtain ⟨E6,k6⟩:=E1.aGp (o:=.lst (vs++[w])) ku5 E5' nsc hp hp5;refine ⟨hp5,items.length-(i+1),by lia,rfl,hlt,aK,k6,acc++[y],ρ2.dropLast,?_,?_,?_,E6,nsc,hf⟩
       ·rw [List.length_append,List.length_singleton];lia
       ·rw [j9,hpa];simp [D.aN,hpy]
       ·have hpk:J5 (fun _=>False) H2 H5:=fun c oc hc hq=>by
         refine (k5' c oc hc fun nn=>?_).1;obtain ⟨o',e',hm⟩:=Ec2.live nn;rw [hc] at e';cases e';rcases hq with hq|hq
         ·exact hq
         ·rw [hm] at hq;cases hq
        have r1:a_ (fun _=>False) H5 vs acc:=(racc.same sH).keep hpk fun _ z=>z
        have r2:a_ (fun _=>False) H5 (vs++[w]) (acc++[y]):=r1.snoc (r5.bI hpy);exact r2.keep (pB hp5 rfl) fun _ z=>z
     ·cases hf
   ·refine .inl ⟨hJ'.stop hge,?_⟩;rw [List.drop_eq_nil_of_le hge] at hf;cases hf;exact q _ _ ((KU.same s1).trans ku) Ec ns (.lst hH hp0 (racc.mono fun _ z=>z.elim))
 ·cases h
theorem YC {scope:Scope} {elt iter:Expr} {tg:Expr} {it:FI} {f:FX} {n:Nat} {cn y:Str} {py pos2:Pos} {iy:Nat} {o:Bool} (S:bY X.N X.env.scope scope [cn]) (hn:X.N.length=n) (hcalm:X.calm=true) (hon:own n=false) (hi:PI X tg iter (gI X.K it)) (hg:∀y,PG (mkC X scope [cn] y) tg (jW n)) (he:∀y,PE (mkC X scope [cn] y) elt (gX own f))
  (hs:∀x,foldedSetIterable iter X.env x=pure x) (ho:own iy=o) (hNn:X.N.Nodup) (hiy:X.N[iy]?=some y) (hxy:Loc X.env.scope y) (hfy:X.fn y=true\/X.env.scope.names.lookup y=some .local) (hsw:swapsWith (.ListComp elt [⟨tg,iter,[],0⟩] scope pos) (some (.Name y py)) pos2.line X.env=pure true) :
  PS X (.Assign [.Name y py] (.ListComp elt [⟨tg,iter,[],0⟩] scope pos) pos2) (tS own (eE o iy (M7 it f))):=by
 intro pins s σ H D I h;refine zE S hcalm hi (fun X' cc=>by obtain ⟨y,rfl⟩:=jM cc;exact hg y) (fun X' cc=>by obtain ⟨y,rfl⟩:=jM cc;exact he y) hs hNn hiy hxy hfy hsw pins s σ H D I ?_;exact GF hon (I.len.trans hn) (zO ho h)
end
end Mi
end
section
namespace Mi
open PySem L2 PySem.SeqAt PySem.Spec PyProof.Rows
variable [KFrag]
section
variable {X:Cx} {a:Expr} {fa:FE} {ra:Bool} {pos p p1 p2 p3:Pos}
theorem YD (ha:PE X a (gE fa ra)):PE X a (gE (bPu fa) true):=PE.imp ha fun σ H Q ⟨ρ,d,E,h,q⟩=>by
 obtain ⟨x,h1,h⟩:=aR h;split at h
 ·rename_i hp;cases h;exact ⟨ρ,_,E,h1,fun v H' s r _=>q v H' s r fun _=>r.bI hp⟩
 ·cases h
end
end Mi
end
section
namespace Mi
open PySem L2 PySem.SeqAt PySem.Spec PyProof.Rows
variable [KFrag]
section
variable {own:Nat->Bool} {X:Cx} {pos:Pos}
end
end Mi
end
section
namespace Mi
open PySem L2 PySem.SeqAt PySem.Spec PyProof.Rows
noncomputable def U8 (a:FT) (b:FXT):FXT:=fun ρ=>do
 let k <- a ρ
 if k then b ρ else .ok (false,ρ)
noncomputable def aBr (f:FX):List D->Res (List D×List D):=fun ρ=>do
 let p <- f ρ
 let r <- gW [p.1]
 .ok (r.1,p.2)
noncomputable def M_ (it:List D->Res (List D×List D)) (t:D->List D->Res (List D)) (body:FS):FS:=fun ρ=>do
 let p <- it ρ
 pW t body p.1 p.2
variable [KFrag]
section
variable {X:Cx} {own:Nat->Bool} {a b e:Expr} {pos:Pos} {ga:FT} {xb:FXT} {xa:FX}
theorem YF (ha:PT X a (gXT own xb)):PW X (.BoolOp .And [a] pos) (gXT own xb):=HS ha
theorem aBs {rest:List Expr} (ha:PT X a (gT ga)) (hb:PW X (.BoolOp .And (b::rest) pos) (gXT own xb)):PW X (.BoolOp .And (a::b::rest) pos) (gXT own (U8 ga xb)):=PW.imp (T5 ha hb) fun σ H Q ⟨ρ,d,ρ',E,h,q⟩=>by
 obtain ⟨k,h1,h2⟩:=aR h;refine ⟨ρ,k,E.er,h1,fun H' s=>?_⟩;cases k with
 | true=>
  rw [if_pos rfl];rw [if_pos rfl] at h2;exact ⟨ρ,d,ρ',E.same s,h2,fun H2 k2 E2 n2=>q H2 ((KU.same s).trans k2) E2 n2⟩
 | false=>
  rw [if_neg (by simp)];rw [if_neg (by simp)] at h2;cases h2;exact q H' (.same s) (E.same s) .refl
noncomputable def gIX (K:PySem.W.Frag) (own:Nat->Bool) (f:List D->Res (List D×List D)):TI:=fun σ H R=>∃ρ items ρ',ES own H σ ρ/\f ρ=.ok (items,ρ')/\∀J H1,KU own σ H σ H1->ES own H1 σ ρ'->ItQ K (fun a=>¬Own own σ a) J H1 items->R J H1
theorem aBt {tg:Expr} {p:Pos} (hg:Gl X "range") (hm:X.mg "range" = none) (ha:PE X a (gX own xa)) (hs:starEach [a] X.env=[(false,eval a X.env)]:=by rfl):PI X tg (.Call (.Name "range" p) [a] [] pos) (gIX X.K own (aBr xa)):=
 PI.imp (tD hg hm (c7 ha jJ hs) hs) fun σ H R ⟨ρ,items,ρ',E,h,q⟩=>by
 obtain ⟨p,h1,h⟩:=aR h;obtain ⟨r,h2,h⟩:=aR h;cases h;refine ⟨ρ,p.1,p.2,E,h1,fun v H1 k1 E1 n1 r1=>?_⟩;unfold gW at h2;split at h2
 ·rename_i n he;split at h2
  ·rename_i hb;cases h2;obtain ⟨b1,b2⟩:=qM hb;injection he with he _
   rw [he] at r1;cases r1;exact ⟨_,rfl,b1,b2,q _ H1 k1 E1 (.rng 0 _ rfl rfl)⟩
  ·cases h2
 ·cases h2
theorem aBu {tg iter:Expr} {body:List Stmt} {g:TG} {t:D->List D->Res (List D)} {it:List D->Res (List D×List D)} {fb:FS} (hp:PassesOwn (model X.prog X.w) X.A X.env X.xe) (hc:X.calm=true) (hi:PI X tg iter (gIX X.K own it)) (ht:TgS own g t) (hg:PG X tg g) (hb:PSs X body (tS own fb))
  (hs:∀x,foldedSetIterable iter X.env x=pure x:=by intro _;rfl):PS X (.For tg iter body [] pos) (tS own (M_ it t fb)):=PS.imp (IW hp hc hi hg hb hs) fun D' σ H ⟨ρ,fl,E,h,q⟩=>by
 obtain ⟨⟨items,ρ1⟩,h1,h2⟩:=aR h;exact ⟨ρ,items,ρ1,E,h1,fun J H1 k1 E1 hJ=>rM ht E1 hJ h2 (q.step k1)⟩
end
end Mi
end
section
namespace Mi
open PySem L2 PySem.SeqAt PySem.Spec PyProof.Rows
noncomputable def bOw (i:Nat):FE:=fun ρ=>do
 let d <- cL i ρ
 if d.yN then .ok d else .bad
noncomputable def uT (f:FA):FS:=fun ρ=>do
 let ds <- f ρ
 if decide (ds.length<=lim) then .ok (.rt (.tup (.lst ds::ρ))) else .bad
noncomputable def NB (f:FX) (is:List Nat):FS:=fun ρ=>do
 let p <- f ρ
 match p.1 with
 | .lst xs=>if decide (xs.length=is.length) then .ok (.nx (wC is xs p.2)) else .bad
 | _=>.bad
variable [KFrag]
section
variable {prog:Program} {w:World} {A:Around} {E:Value->Shared->Prop} {s:Shared}
theorem uU {it t:Addr} {items:Array Value} (hne:t≠it):∀(n i:Nat) (s:Shared) (Q:List Value->Shared->Prop),s.heap.IsListIter it t i->s.heap.IsList t items->i+n<=items.size->
  (∀h',h'.IsListIter it t (i+n)->Heap.SameBut it s.heap h'->Q ((items.toList.drop i).take n) {s with heap:=h'})->wpAny (model prog w) A (draw (.ref it) n) Q E s
 | 0,i,s,Q,hit,_,_,hQ=>by
  show wpAny _ _ (pure []) Q E s;exact wpAny_pure (by simpa using hQ s.heap hit (Heap.SameBut.refl ..))
 | n+1,i,s,Q,hit,ht,hle,hQ=>by
  have hlt:i<items.size:=by lia
  have keep:∀{h h':Heap},h.IsList t items->Heap.SameBut it h h'->h'.IsList t items:=fun {h h'} ⟨o,e,r⟩ sb=>⟨o,(sb.2 t hne).trans e,r⟩
  show wpAny _ _ (pyNext (.ref it) >>= _) Q E s;refine wpAny_bind (wpAny_pyNext_list_item hit ht (x:=items[i]) (by simp [hlt]) fun h₁ hit₁ hs₁=>?_);refine wpAny_bind (wpAny_holding (uU hne n (i+1) _ _ hit₁ (keep ht hs₁) (by lia) fun h₂ hit₂ hs₂=>wpAny_pure ?_));have hd:items.toList.drop i=items[i]::items.toList.drop (i+1):=by simp [List.drop_eq_getElem_cons,hlt]
  have:=hQ h₂ (by rw [show i+(n+1)=i+1+n by lia];exact hit₂) (hs₁.trans hs₂);rw [hd,List.take_succ_cons] at this;exact this
theorem wW {t:Addr} {items:Array Value} {targets:List (Bool×(Value->Sem Unit))} {Q:Unit->Shared->Prop} (hh:A.handled=none) (ht:s.heap.IsList t items)
  (hn:targets.length=items.size) (hstar:targets.findIdx? (·.1)=none)
  (h:∀h',Heap.ExtBut s.heap.objs.size s.heap h'->wpAny (model prog w) A (assignInOrder (targets.map (·.2)) items.toList) Q E {s with heap:=h'}) :
  wpAny (model prog w) A (unpack (.ref t) targets) Q E s:=by
 have hlt:t≠s.heap.objs.size:=by obtain ⟨o,ho,_⟩:=ht;exact Nat.ne_of_lt (Heap.lt_size ho)
 have push:∀o,(s.heap.push o).IsList t items:=fun o=>let ⟨o',e,r⟩:=ht;⟨o',Heap.get?_push_of_some _ e,r⟩
 unfold unpack;rw [hn,hstar];refine wpAny_bind (wpAny_holding ?_);unfold unpackItems;refine wpAny_bind ?_;unfold notIterableAtAll;refine wpAny_bind (wpAny_specialOf ht.typeIs PySem.F.slot_list_iter.lookup ?_);refine wpAny_pure ?_;simp only [Bool.false_eq_true,if_false];refine wpAny_bind (wpAny_holding (wpAny_pyIter_list ht ?_));refine wpAny_bind (wpAny_holding (uU hlt items.size 0 _ _ ⟨_,Heap.get?_push_size _ rfl,rfl,rfl⟩ (push _) (by lia) fun h₁ hit₁ hs₁=>?_));have hall:List.take items.size (List.drop 0 items.toList)=items.toList:=by
  rw [List.drop_zero];exact List.take_of_length_le (by simp)
 rw [hall];rw [if_neg (by simp)];have ht₁:h₁.IsList t items:=let ⟨o,e,r⟩:=push {cls:=.type "list_iterator",data:=.fields #[.ref t,.int 0 0]};⟨o,(hs₁.2 t hlt).trans e,r⟩
 refine wpAny_bind (wpAny_holding (wpAny_pyNext_list_end hh hit₁ ht₁ (by simp) fun h₂ he₂=>?_));simp only [Option.isSome_none,Bool.false_eq_true,if_false];exact wpAny_pure (h h₂ fun b o hb e=>he₂ b o hb (hs₁.extBut b o hb (Heap.get?_push_of_some _ e)))
end
section
variable {X:Cx} {own:Nat->Bool} {e:Expr} {pos pos':Pos} {fe:FE} {re:Bool} {xe:FX}
noncomputable def aBv (K:PySem.W.Frag) (n:Nat) (t:TGs):TG:=fun v σ H Q=>∃a xs,v=.ref a/\SqL K H a xs/\xs.length=n/\t xs σ H Q
theorem YG {es:List Expr} {k:Nat} {t:TGs} {n:Nat} (hc:X.calm=true) (h:PGs X es t)
  (hn:(assignEach es X.env).length=n:=by rfl) (hst:(assignEach es X.env).findIdx? (·.1)=none:=by rfl):PG X (.Tuple es k pos) (aBv X.K n t):=by
 intro pins s σ H v u Q I r hw;obtain ⟨a,xs,e1,hq,hl,hw⟩:=hw;subst e1;cases r;obtain ⟨its,rv,ht,hz⟩:=I.list hq;rw [assign_Tuple];refine wpAny_bind (wpAny_standAt (wW (I.ok.hd hc) ht.isList (by simp [hn,<-hl,rv.length]) hst fun h' hx=>?_));have I1:Inv X pins σ H {s with heap:=h'}:=I.kept (t':=s.toks) fun b o e=>hx b o (Nat.ne_of_lt (Heap.lt_size e)) e
 exact h pins _ σ H xs _ Q I1 (by simpa using rv) hw
noncomputable def RP (own:Nat->Bool) (σ:L2.St) (H:Hp) (ρ:List D) (a:Addr):Prop:=(Own own σ a\/H a=none)/\∀i b xs,ρ.getD i .uD=.cel b xs->a≠b
theorem RP.same {σ:L2.St} {H H':Hp} {ρ:List D} {a:Addr} (s:bQ H H') (h:RP own σ H' ρ a):RP own σ H ρ a:=⟨h.1.imp id s.free,h.2⟩
theorem U9 {σ:L2.St} {H:Hp} {ρ:List D} {a:Addr} (E:ES own H σ ρ) (h:H a=none):RP own σ H ρ a:=⟨.inr h,fun i b xs hb z=>by
 obtain ⟨vs,_,e⟩:=iT E hb;subst z;rw [h] at e;cases e⟩
noncomputable def gAR (own:Nat->Bool) (f:FA):TA:=fun σ H Q=>∃ρ ds,ES own H σ ρ/\f ρ=.ok ds/\∀vs H',bQ H H'->a_ (RP own σ H ρ) H' vs ds->Q vs H'
theorem aBw:PA X [] (gAR own aU):=PA.imp jJ fun σ H Q ⟨ρ,ds,E,h,q⟩=>by cases h;exact q [] H (bQ.refl H) .nil
theorem NK {i:Nat} {x:Str} {es:List Expr} {f:FA} (ho:own i=true) (hN:X.N[i]?=some x) (hv:Vis X.env.scope x) (hes:PA X es (gAR own f)) (hd:nDb x:=by decide) (hcd:nCd x:=by decide) (hs:starEach (.Name x pos::es) X.env=(false,eval (.Name x pos) X.env)::starEach es X.env:=by rfl):PA X (.Name x pos::es) (gAR own (aB (bOw i) f)):=PA.imp (c7 (bN hN hv hd hcd) hes hs) fun σ H Q ⟨ρ,ds,E,h,q⟩=>by
 obtain ⟨y,h1,h⟩:=aR h;obtain ⟨xs,h2,h⟩:=aR h;cases h;obtain ⟨d,h3,h1⟩:=aR h1;split at h1
 ·rename_i hc;cases h1;obtain ⟨v,hv,r,e⟩:=E.er.var h3;obtain ⟨a,o,rfl,r2,hin,_,_,huq⟩:=E.own i v ho hv;rw [e] at hin;have hp:RP own σ H ρ a:=⟨.inl ⟨i,ho,hv⟩,fun j b xs hb z=>by
   obtain ⟨vs,hj,eb⟩:=iT E hb;subst z;cases hoj:own j with
   | true=>
    have:=huq j hoj hj;subst this;rw [hb] at e;subst e;cases hc
   | false=>
    obtain ⟨w,hw,hr⟩:=E.at_ j (by rw [hb];intro z;cases z);have r3:=hr hoj;rw [hb] at r3;cases r3 with
    | cel e p r=>exact p ⟨i,ho,hv⟩⟩
  exact ⟨_,hv,ρ,xs,E,h2,fun vs H2 s2 r2=>q _ _ s2 (.cons ((r.n_ hin hp).same s2) r2)⟩
 ·cases h1
theorem aBx {es:List Expr} {f:FA} (he:PE X e (gE fe true)) (hes:PA X es (gAR own f)) (hs:starEach (e::es) X.env=(false,eval e X.env)::starEach es X.env:=by rfl):PA X (e::es) (gAR own (aB fe f)):=PA.imp (c7 he hes hs) fun σ H Q ⟨ρ,ds,E,h,q⟩=>by
 obtain ⟨y,h1,h⟩:=aR h;obtain ⟨xs,h2,h⟩:=aR h;cases h;exact ⟨ρ,_,E.er,h1,fun v H1 s1 r1 n1=>⟨ρ,xs,E.same s1,h2,fun vs H2 s2 r2=>q _ _ (s1.trans s2) (.cons (((n1 rfl).mono fun a ha=>U9 E ha).same s2) (r2.mono fun a ha=>ha.same s1))⟩⟩
theorem R3 {es:List Expr} {f:FA} (h:PA X es (gAR own f)) (hx:own rtX=true:=by rfl):PS X (.Return (some (.List es pos')) pos) (tS own (uT f)):=PS.imp (qG (yE h)) fun D σ H ⟨ρ,fl,E,h,q⟩=>by
 obtain ⟨ds,h1,h2⟩:=aR h;split at h2
 ·rename_i hl;cases h2;refine ⟨ρ,ds,E,h1,fun vs H1 s1 r1=>⟨by rw [r1.length];exact jB hl,fun p hp=>?_⟩⟩;have s2:bQ H1 (upd H1 p (.lst vs)):=bQ.upd hp;have hpH:H p=none:=s1.free hp;exact kRt.new q hx _ σ _ (.same (s1.trans s2)) (E.same (s1.trans s2)) (.lst aK (U9 E hpH) (r1.same s2))
 ·cases h2
theorem aBy {es:List Expr} {k:Nat} {is:List Nat} {pt:Pos} (ho:∀i∈is,own i=false) (he:PE X e (gX own xe)) (hg:PG X (.Tuple es k pt) (aBv X.K is.length (gIx is))) (hs:swapsWithSole [.Tuple es k pt] e pos.line X.env=pure false:=by rfl) (hw:swappedStores [.Tuple es k pt] e X.env=pure none:=by rfl)
  (h1:(assignEach [.Tuple es k pt] X.env).map (·.2)=[assign (.Tuple es k pt) X.env]:=by rfl):PS X (.Assign [.Tuple es k pt] e pos) (tS own (NB xe is)):=PS.imp (xZ he hg hs hw h1) fun D' σ H ⟨ρ,fl,E,h,q⟩=>by
 obtain ⟨p,h1,h2⟩:=aR h;refine ⟨ρ,p.1,p.2,E,h1,fun v H1 k1 E1 n1 r=>?_⟩;split at h2
 ·rename_i xs hxs;split at h2
  ·rename_i hl;cases h2;have hl':=of_decide_eq_true hl;rw [hxs] at r;have r2:=wO E r;obtain ⟨a,vs,rfl,sq,rr⟩:=r2.fU (K:=X.K);refine ⟨a,vs,rfl,sq,by rw [rr.length];exact hl',wN _ _ _ (by rw [rr.length];exact hl') ?_⟩;obtain ⟨E2,hO⟩:=ES.sets ho E1 rr;exact q _ H1 (k1.trans fun a o e n=>⟨e,by rw [hO];exact n⟩) E2
  ·cases h2
 ·cases h2
end
end Mi
end
section
namespace Mi
open PySem PySem.Spec
namespace Rv
theorem GJ:typeLookup (.type "tuple") "__reversed__" = pure none:=by rw [typeLookup_type,builtinLookup_eq_fast];kernel_rfl
theorem GK:typeLookup (.type "reversed") "__len__" = pure none:=by rw [typeLookup_type,builtinLookup_eq_fast];kernel_rfl
theorem slot_next:Slot "reversed" "__next__" "reversed.__next__":=
 .of (owner := "reversed") (n := "__next__") (by rw [typeLookup_type,builtinLookup_eq_fast];kernel_rfl) (by decide +kernel) (by decide +kernel) (by decide +kernel)
  (by first|exact .inl (by decide +kernel)|exact .inr (by decide +kernel)) (by rw [isSubtype_type];kernel_rfl)
theorem pF:Slot "reversed" "__length_hint__" "reversed.__length_hint__":=
 .of (owner := "reversed") (n := "__length_hint__") (by rw [typeLookup_type,builtinLookup_eq_fast];kernel_rfl) (by decide +kernel) (by decide +kernel) (by decide +kernel)
  (by first|exact .inl (by decide +kernel)|exact .inr (by decide +kernel)) (by rw [isSubtype_type];kernel_rfl)
theorem uV:Slot "reversed" "__iter__" "reversed.__iter__":=
 .of (owner := "reversed") (n := "__iter__") (by rw [typeLookup_type,builtinLookup_eq_fast];kernel_rfl) (by decide +kernel) (by decide +kernel) (by decide +kernel)
  (by first|exact .inl (by decide +kernel)|exact .inr (by decide +kernel)) (by rw [isSubtype_type];kernel_rfl)
theorem entry_next:entryFor table "reversed.__next__" = some Builtin.«reversed.__next__»:=entryFor_of_tree (by kernel_rfl)
theorem GP:entryFor table "reversed.__length_hint__" = some Builtin.«reversed.__length_hint__»:=entryFor_of_tree (by kernel_rfl)
theorem GQ:entryFor table "reversed.__iter__" = some Builtin.«dict_keyiterator.__iter__»:=
 entryFor_alias (id' := "dict_keyiterator.__iter__") (by kernel_rfl) (by first|rfl|decide +kernel|(unfold String.splitOn;simp +decide [String.splitOnAux])) (by decide +kernel) (by kernel_rfl)
theorem owner:Manifest.owners.lookup (String.ofList ['d','e','s','r','e','v','e','r'].reverse)=some Manifest.sig_reversed:=by kernel_rfl
theorem args_next (a:Value):argsOk "reversed.__next__" ⟨[a],[]⟩:=by
 unfold argsOk;rw [signature?_of (id := "reversed.__next__") (n:=['_','_','t','x','e','n','_','_']) (o:=['d','e','s','r','e','v','e','r']) (by kernel_rfl) owner];kernel_rfl
theorem NP (a:Value):argsOk "reversed.__iter__" ⟨[a],[]⟩:=by
 unfold argsOk;rw [signature?_of (id := "reversed.__iter__") (n:=['_','_','r','e','t','i','_','_']) (o:=['d','e','s','r','e','v','e','r']) (by kernel_rfl) owner];kernel_rfl
theorem NQ (a:Value):argsOk "reversed.__length_hint__" ⟨[a],[]⟩:=by
 unfold argsOk;rw [signature?_of (id := "reversed.__length_hint__") (n:=['_','_','t','n','i','h','_','h','t','g','n','e','l','_','_']) (o:=['d','e','s','r','e','v','e','r']) (by kernel_rfl) owner];kernel_rfl
theorem NT:Slot "reversed" "__init__" "object.__init__":=
 .of (owner := "object") (n := "__init__") (by rw [typeLookup_type,builtinLookup_eq_fast];kernel_rfl) (by decide +kernel) (by decide +kernel) (by decide +kernel)
  (by first|exact .inl (by decide +kernel)|exact .inr (by decide +kernel)) (by rw [isSubtype_type];kernel_rfl)
theorem called:TypeCalled "reversed" "reversed.__new__" "object.__init__":=
 ⟨by decide +kernel,by decide +kernel,⟨_,_,PySem.F.mro_reversed⟩,PySem.F.made_reversed,by decide +kernel,by rw [isSubtype_type];kernel_rfl,NT⟩
noncomputable def obj (t:Addr) (i:Int):Obj:={cls:=.type "reversed",data:=.fields #[.ref t,rawInt i]}
theorem NZ (t:Addr) (items:Array Value) (n:Nat) (dct:Option Addr) (sl:Array (Option Value)) (hz:(items.size:Int)<2 ^ 62) :
  Meets (Builtin.«reversed.__new__» ⟨[.type "reversed",.ref t],[]⟩) (fun _ R s=>s.heap.get? t=some {cls:=.type "tuple",dict:=dct,data:=.seq items n,slots:=sl}/\
   ∀tk,R (.ok (.ret (.ref s.heap.objs.size))) {s with heap:=s.heap.push (obj t ((items.size:Int)-1)),toks:=tk}):=
 .of_wp fun prog w A R s h=>by
  obtain ⟨hp,g,d,tk,os⟩:=s;obtain ⟨hl,h⟩:=h;have hT:(Shared.mk hp g d tk os).TypeIs (.ref t) "tuple":=⟨_,hl,rfl⟩
  unfold Builtin.«reversed.__new__»;refine wpAny_bind (wpAny_of_eq (newClass_reversed _) ?_)
  try dsimp only
  refine wpAny_bind (wpAny_of_eq (a:=()) (by first|rfl|kernel_rfl) ?_);refine wpAny_bind (wpAny_of_eq (a:=()) (by first|rfl|kernel_rfl) ?_)
  try dsimp only
  refine wpAny_bind (wpAny_specialOf hT GJ ?_)
  try dsimp only
  refine wpAny_bind ?_;refine wpAny_bind (wpAny_isInstance (T := "tuple") (b:=false) hT (by rw [isSubtype_type];kernel_rfl) ?_);refine wpAny_ite_split (fun hab=>absurd hab (by decide)) (fun _=>?_);refine wpAny_bind (wpAny_specialOf hT PyProof.Rows.slot_tuple_getitem.lookup ?_);dsimp only;rw [if_pos (by decide +kernel)];refine wpAny_pure ?_;rw [if_neg (by decide)];refine wpAny_bind (PyProof.Rows.len_tuple (items:=items) ⟨_,hl,rfl,n,rfl⟩ (by lia) ?_);refine wpAny_bind (wpAny_of_eq (a:=some (items.size:Int)) rfl ?_);dsimp only;refine wpAny_bind ?_;unfold Builtin.SmallTypes.newRecord;exact wpAny_newObj_type (wpAny_pure ⟨_,rfl,h _⟩)
theorem R4 {prog:Program} {w:World} {A:Around} {E:Value->Shared->Prop} {s:Shared} {t:Addr} {items:Array Value} {Q:Value->Shared->Prop} (hL:s.heap.IsTuple t items) (hz:(items.size:Int)<2 ^ 62)
  (h:∀tk,Q (.ref s.heap.objs.size) {s with heap:=s.heap.push (obj t ((items.size:Int)-1)),toks:=tk}):wpAny (model prog w) A (call (.type "reversed") [.ref t]) Q E s:=by
 obtain ⟨⟨c,dct,dt,sl⟩,hl,hc,n,hd⟩:=hL;replace hc:c=.type "tuple":=hc;replace hd:dt=.seq items n:=hd;subst hc hd;refine callType_new called (by decide) (PySem.F.typeCall_reversed_1 _) (PySem.F.newCall_reversed_1 _) (fun obj=>PySem.F.args_object_init_2 obj _) PySem.F.entry_reversed_new (NZ t items n dct sl hz) ⟨hl,fun tk=>⟨⟨_,Heap.get?_push_size _ rfl,rfl⟩,h tk⟩⟩
noncomputable def Is (h:Heap) (a t:Addr) (i:Int):Prop:=∃o,h.get? a=some o/\o.cls=.type "reversed"/\o.data=.fields #[.ref t,rawInt i]
theorem Is.ty {s:Shared} {a t:Addr} {i:Int} (x:Is s.heap a t i):s.TypeIs (.ref a) "reversed":=let ⟨o,ho,hc,_⟩:=x;⟨o,ho,hc⟩
theorem Is.at {h h':Heap} {a t:Addr} {i:Int} (x:Is h a t i) (e:∀o,h.get? a=some o->h'.get? a=some o):Is h' a t i:=let ⟨o,ho,r⟩:=x;⟨o,e o ho,r⟩
section
variable {prog:Program} {w:World} {A:Around} {E:Value->Shared->Prop} {s:Shared}
theorem next_item {it t:Addr} {i:Nat} {items:Array Value} {x:Value} {Q:Option Value->Shared->Prop} (hit:Is s.heap it t (i:Int)) (hl:s.heap.IsTuple t items) (hx:items[i]?=some x) (hz:(items.size:Int)<2 ^ 62)
  (hQ:∀h' tk,Is h' it t ((i:Int)-1)->Heap.SameBut it s.heap h'->Q (some x) {s with heap:=h',toks:=tk}):wpAny (model prog w) A (pyNext (.ref it)) Q E s:=by
 obtain ⟨o,ho,hc,hd⟩:=id hit;have hi:i<items.size:=(Array.getElem?_eq_some_iff.mp hx).1;unfold pyNext;refine wpAny_bind (wpAny_attempt (wpAny_callSpecial?_slot (name:=Str.ofString "__next__") hit.ty slot_next
  (wpAny_call_entry slot_next hit.ty entry_next ?_ (args_next _))))
 unfold Builtin.«reversed.__next__»;refine wpAny_bind (wpAny_of_eq (a:=(Value.ref it,[])) rfl ?_)
 try dsimp only
 refine wpAny_bind (wpAny_field ho hd (x:=.ref t) rfl ?_);refine wpAny_bind (wpAny_field ho hd (x:=rawInt (i:Int)) rfl ?_);show wpAny _ _ (if (i:Int)<0 then _ else _) _ _ s;rw [if_neg (by lia)];refine wpAny_bind (wpAny_specialOf hl.typeIs PyProof.Rows.slot_tuple_getitem.lookup ?_);rw [if_neg (by simp)];refine wpAny_bind (wpAny_mkInt ?_);refine wpAny_bind (wpAny_attempt (PyProof.Rows.getItem_tuple (items:=items) (j:=i) (x:=x) hl (by lia) (by lia) (by unfold seqIndex?;simp;lia) hx ?_));dsimp only;refine wpAny_bind (wpAny_field ho hd (x:=rawInt (i:Int)) rfl ?_);show wpAny _ _ (setField (.ref it) 1 (rawInt ((i:Int)-1)) >>= _) _ _ _;refine wpAny_bind (wpAny_setField ho hd (by simp) ?_);refine wpAny_pure ⟨x,rfl,wpAny_pure (hQ _ _ ?_ (Heap.SameBut.update ..))⟩;exact ⟨_,Heap.get?_update_self _ ho (Obj.isFreed_of_fields (Obj.data_mapFields hd _)),(Obj.cls_mapFields ..).trans hc,by
  rw [Obj.data_mapFields hd];simp⟩
theorem next_end {it t:Addr} {Q:Option Value->Shared->Prop} (hh:A.handled=none) (hit:Is s.heap it t (-1))
  (hQ:∀h',Heap.ExtBut it s.heap h'->Q none {s with heap:=h'}):wpAny (model prog w) A (pyNext (.ref it)) Q E s:=by
 obtain ⟨o,ho,hc,hd⟩:=id hit;unfold pyNext;refine wpAny_bind (wpAny_attempt (wpAny_callSpecial?_slot (name:=Str.ofString "__next__") hit.ty slot_next
  (wpAny_call_entry slot_next hit.ty entry_next ?_ (args_next _))))
 unfold Builtin.«reversed.__next__»;refine wpAny_bind (wpAny_of_eq (a:=(Value.ref it,[])) rfl ?_)
 try dsimp only
 refine wpAny_bind (wpAny_field ho hd (x:=.ref t) rfl ?_);refine wpAny_bind (wpAny_field ho hd (x:=rawInt (-1)) rfl ?_);show wpAny _ _ (if (-1:Int)<0 then _ else _) _ _ s;rw [if_pos (by decide)];refine wpAny_bind (wpAny_rule ?_);refine wpAny_bind ?_;refine wpAny_bind (wpAny_setField ho hd (by simp) ?_);have h1:=Heap.get?_update_self (h:=s.heap) (a:=it) (Obj.mapFields (·.set! 1 (rawInt (-1)))) ho (Obj.isFreed_of_fields (Obj.data_mapFields hd _));have hd1:(Obj.mapFields (·.set! 1 (rawInt (-1))) o).data=.fields #[.ref t,rawInt (-1)]:=by rw [Obj.data_mapFields hd];simp
 refine wpAny_setField h1 hd1 (by simp) ?_;refine wpAny_bind ?_;unfold Builtin.SmallTypes.stopIteration;simp only [newExc,newTuple];refine wpAny_bind ?_;refine wpAny_bind (wpAny_newObj_type ?_ (by size_fits));refine wpAny_bind (m:=firstArgMember _ _) (wpAny_of_eq (a:=Value.none) (by first|rfl|(simp only [firstArgMember];rfl)) ?_);refine wpAny_newObj_type ?_ (by size_fits);simp only [raiseNew];refine wpAny_bind (wpAny_handled ?_)
 first|rw [show A.in1.handled=none from hh]|rw [hh]
 refine wpAny_bind (wpAny_pure (wpAny_throw ?_));refine wpAny_bind (wpAny_isInstance (T := "StopIteration") (b:=true) ⟨_,Heap.get?_push_size _ rfl,rfl⟩ isSubtype_stop ?_);exact wpAny_pure (hQ _ ((((Heap.SameBut.update ..).trans (Heap.SameBut.update ..)).extBut.push _).push _))
theorem uW {it t:Addr} {i:Int} {Q:Value->Shared->Prop} (hit:Is s.heap it t i) (h:Q (.ref it) s):wpAny (model prog w) A (pyIter (.ref it)) Q E s:=by
 refine wpAny_pyIter_slot hit.ty uV (wpAny_call_entry uV hit.ty GQ ?_ (NP _));show wpAny _ _ (ret (.ref it)) _ _ s;exact wpAny_pure ⟨_,rfl, "reversed",_,hit.ty,slot_next.lookup,h⟩
end
theorem walks {prog:Program} {w:World} {A:Around} (hh:A.handled=none) (I l:Addr) (hne:l≠I) (items:Array Value) (hz:(items.size:Int)<2 ^ 62) :
  Walks prog w A I [I,l] [I] items.size (fun i v=>items[items.size-1-i]?=some v) (fun i h=>i<=items.size/\Is h I l ((items.size:Int)-1-(i:Int))/\h.IsTuple l items) where
 sub:=fun b hb=>by simp at hb;simp [hb]
 frame:=fun _ _ _ x hk=>⟨x.1,x.2.1.at fun o e=>hk I (by simp) o e,let ⟨o,e,r⟩:=x.2.2;⟨o,hk l (by simp) o e,r⟩⟩
 item:=fun i s Q E hi x hQ=>by
  have e:(items.size:Int)-1-(i:Int)=((items.size-1-i:Nat):Int):=by lia
  have hit:=x.2.1;rw [e] at hit;have hx:items[items.size-1-i]?=some (items[items.size-1-i]'(by lia)):=Array.getElem?_eq_getElem (by lia);refine next_item hit x.2.2 hx hz fun h' tk hit' hs'=>?_
  have e2:((items.size-1-i:Nat):Int)-1=(items.size:Int)-1-((i+1:Nat):Int):=by lia
  rw [e2] at hit';exact hQ _ h' tk hx ⟨hi,hit',let ⟨o,eo,r⟩:=x.2.2;⟨o,(hs'.2 l hne).trans eo,r⟩⟩ fun b o hb eo=>hs'.extBut b o (fun h=>hb (by simp [h])) eo
 done:=fun s Q E x hQ=>by
  have e:(items.size:Int)-1-(items.size:Int)=-1:=by lia
  have hit:=x.2.1;rw [e] at hit;exact next_end hh hit fun h' he'=>hQ h' s.toks fun b o hb eo=>he' b o (fun h=>hb (by simp [h])) eo
 self:=fun _ _ _ _ x hQ=>uW x.2.1 hQ
section
variable {prog:Program} {w:World} {A:Around} {E:Value->Shared->Prop} {s:Shared}
theorem hint {I l:Addr} {items:Array Value} {Q:Bool->Shared->Prop} (hit:Is s.heap I l ((items.size:Int)-1)) (hl:s.heap.IsTuple l items) (hz:items.size<=sizeLine) (h:∀b tk,Q b {s with toks:=tk}):wpAny (model prog w) A (Builtin.List.listLengthHint (.ref I)) Q E s:=by
 unfold Builtin.List.listLengthHint;refine wpAny_bind (wpAny_specialOf hit.ty GK ?_);dsimp only;refine wpAny_ite_split (fun hab=>absurd hab (by decide +kernel)) (fun _=>?_);rw [if_neg (by simp)];refine wpAny_bind (wpAny_specialOf hit.ty pF.lookup ?_);generalize hid:("reversed.__length_hint__" : String)=id0
 wp_delta
 rw [show splitId id0=some ("reversed", "__length_hint__") from by subst hid;decide +kernel];subst hid;refine wpAny_bind (wpAny_isInstance (T := "reversed") (b:=true) hit.ty PySem.F.sub_reversed_self ?_);refine wpAny_ite_split (fun hab=>absurd hab (by decide)) (fun _=>?_);refine wpAny_ite_split (fun hab=>absurd hab (by decide +kernel)) (fun _=>?_);refine wpAny_bind (wpAny_rule ?_);refine wpAny_bind (wpAny_of_eq (pF.bind _) ?_);refine wpAny_bind (wpAny_attempt (wpAny_call_entry pF hit.ty GP ?_ (NQ _)));obtain ⟨o,ho,hc,hd⟩:=id hit;unfold Builtin.«reversed.__length_hint__»;refine wpAny_bind (wpAny_of_eq (a:=Value.ref I) rfl ?_);refine wpAny_bind (wpAny_field ho hd (x:=.ref l) rfl ?_);rw [if_neg (show ¬((Value.ref l==Value.none)=true) from Bool.false_ne_true)];rw [sizeLine_eq] at hz;refine wpAny_bind (PyProof.Rows.len_tuple (items:=items) hl (by lia) ?_);refine wpAny_bind (wpAny_of_eq (a:=some (items.size:Int)) rfl ?_);dsimp only;refine wpAny_bind (wpAny_field ho hd (x:=rawInt ((items.size:Int)-1)) rfl ?_);show wpAny _ _ (if (items.size:Int)<(items.size:Int)-1+1 then _ else _) _ _ _;rw [if_neg (by lia)];refine wpAny_bind (wpAny_mkInt (wpAny_pure ⟨_,rfl,?_⟩));dsimp only;refine wpAny_bind (wpAny_of_eq (a:=some ((items.size:Int)-1+1)) rfl ?_);dsimp only;rw [if_neg (by simp only [Builtin.List.listFitsIndex,Bool.not_eq_true',Bool.not_eq_false,Bool.and_eq_true,decide_eq_true_eq];lia),if_neg (by lia),if_neg (by simp only [Builtin.List.listTooLong,decide_eq_true_eq,sizeLine_eq];lia)];exact wpAny_pure (h _ _)
theorem extend {R:Result->Shared->Prop} {I l:Addr} {items:Array Value} (hh:A.handled=none) (hit:Is s.heap I l ((items.size:Int)-1)) (hl:s.heap.IsTuple l items) (hIl:l≠I) (S:Addr) (hSr:S≠I) (hSd:S≠l) (res:Value) (c₀:Nat) (hS:s.heap.get? S=some {cls:=.type "list",data:=.seq #[] c₀})
  (hR:∀h' tk acc' c',(∀b o,b≠S->b≠I->s.heap.get? b=some o->h'.get? b=some o)->h'.get? S=some {cls:=.type "list",dict:=none,data:=.seq acc' c',slots:=#[]}->ItemsOf (fun i v=>items[items.size-1-i]?=some v) acc' items.size->R (.ok (.ret res)) {s with heap:=h',toks:=tk}) (hn:items.size<=sizeLine) :
  wpAny (model prog w) A.in1 (Builtin.List.listExtendWith (.ref S) (.ref I) res)
   (fun fin s'=>match fin with|.done f=>R (.ok f) s'|.again c'=>c'.quiet=true/\codeAny (model prog w) A c' R s') (fun e s'=>R (.error e) s') s:=by
 have hz:(items.size:Int)<2 ^ 62:=by rw [sizeLine_eq] at hn;lia
 have W:=walks (prog:=prog) (w:=w) (A:=A.in1) hh I l hIl items hz;have hSf:S∉[I,l]:=by simp only [List.mem_cons,List.not_mem_nil,or_false,not_or];exact ⟨hSr,hSd⟩
 have st0:∀{h:Heap},Is h I l ((items.size:Int)-1)->h.IsTuple l items->0<=items.size/\Is h I l ((items.size:Int)-1-((0:Nat):Int))/\h.IsTuple l items:=fun {h} a b=>⟨Nat.zero_le _,by simpa using a,b⟩
 have key:∀(h:Heap) (c₁ tk:Nat),Is h I l ((items.size:Int)-1)->h.IsTuple l items->(∀b o,b≠S->s.heap.get? b=some o->h.get? b=some o)->
   h.get? S=some {cls:=.type "list",data:=.seq #[] c₁}->codeAny (model prog w) A (.builtin "list.extend.loop" ⟨[.ref S,.ref I,res],[]⟩) R {s with heap:=h,toks:=tk}:=by
  intro h c₁ tk h1 h2 hk hS₁;refine codeAny_extend_loopS W.toS hn S hSf res items.size 0 _ #[] c₁ rfl (Nat.zero_le _) (st0 h1 h2) hS₁ (ItemsOf.nil _) fun s' acc' c' hm hS' hacc=>?_
  rw [Moved.eq_with hm];refine hR s'.heap s'.toks acc' c' (fun b o hb hbI e=>hm.heap b o (fun hmem=>?_) (hk b o hb e)) hS' hacc;rcases List.mem_cons.mp hmem with e'|hmem
  ·exact hb e'
  ·exact hbI (List.mem_singleton.mp hmem)
 unfold Builtin.List.listExtendWith;refine wpAny_bind (wpAny_typeOf (T := "reversed") hit.ty ?_);have h1:Builtin.List.listSameRef (.ref S) (.ref I)=false:=by simp [Builtin.List.listSameRef,hSr]
 have n1:(Value.type "reversed" == Value.type "list")=false:=by decide
 have n2:(Value.type "reversed" == Value.type "tuple")=false:=by decide
 simp only [h1,n1,n2,Bool.or_false,Bool.false_eq_true,if_false];refine wpAny_bind (uW hit ?_);refine wpAny_bind (wpAny_holding (hint hit hl hn fun b tk=>?_));refine wpAny_ite_split (fun _=>?_) (fun _=>wpAny_pure ⟨plainId_quiet PySem.F.plain_extend_loop _,key _ c₀ _ hit hl (fun b o _ e=>e) hS⟩);refine wpAny_bind (wpAny_rule ?_);refine wpAny_bind ?_;show wpAny _ _ (updateSeq S (·.push .none) >>= fun _=>updateSeq S (·.pop)) _ _ _;refine wpAny_bind (wpAny_updateSeq hS rfl ?_);have hS₂:=Heap.get?_update_self (Obj.mapSeq (·.push Value.none)) hS rfl;refine wpAny_updateSeq (hz:=by seq_fits) hS₂ rfl ?_;have hS₃:=Heap.get?_update_self (Obj.mapSeq (·.pop)) hS₂ rfl;have oth:∀b o,b≠S->s.heap.get? b=some o->((s.heap.update S (Obj.mapSeq (·.push Value.none))).update S (Obj.mapSeq (·.pop))).get? b=some o:=fun b o hb e=>(Heap.get?_update_other _ _ (Ne.symm hb)).trans ((Heap.get?_update_other _ _ (Ne.symm hb)).trans e)
 refine wpAny_pure ⟨plainId_quiet PySem.F.plain_extend_loop _,key _ _ _ (hit.at fun o e=>oth I o (Ne.symm hSr) e) (let ⟨o,e,r⟩:=hl;⟨o,oth l o (Ne.symm hSd) e,r⟩) (fun b o hb e=>oth b o hb e) hS₃⟩
theorem init {R:Result->Shared->Prop} {I l:Addr} {items:Array Value} (hh:A.handled=none) (hit:Is s.heap I l ((items.size:Int)-1)) (hl:s.heap.IsTuple l items) (hIl:l≠I) (S:Addr) (hSr:S≠I) (hSd:S≠l) (hS:s.heap.get? S=some {cls:=.type "list",data:=.seq #[]})
  (hR:∀h' tk acc' c',(∀b o,b≠S->b≠I->s.heap.get? b=some o->h'.get? b=some o)->h'.get? S=some {cls:=.type "list",dict:=none,data:=.seq acc' c',slots:=#[]}->ItemsOf (fun i v=>items[items.size-1-i]?=some v) acc' items.size->R (.ok (.ret .none)) {s with heap:=h',toks:=tk}) (hn:items.size<=sizeLine) :
  wpAny (model prog w) A.in1 (Builtin.«list.__init__» ⟨[.ref S,.ref I],[]⟩)
   (fun fin s'=>match fin with|.done f=>R (.ok f) s'|.again c'=>c'.quiet=true/\codeAny (model prog w) A c' R s') (fun e s'=>R (.error e) s') s:=by
 show wpAny _ _ (do let old <- Builtin.List.listItems (.ref S);Builtin.List.listUpdate (.ref S) (fun _=>#[]);letGo old.toList.reverse;Builtin.List.listExtendWith (.ref S) (.ref I) .none) _ _ s;refine wpAny_bind ?_;unfold Builtin.List.listItems;refine wpAny_bind (wpAny_seqItems hS rfl (wpAny_pure ?_));show wpAny _ _ (updateSeq S (fun _=>#[]) >>= fun _=>letGo (#[]:Array Value).toList.reverse >>= fun _=>Builtin.List.listExtendWith (.ref S) (.ref I) .none) _ _ s;refine wpAny_bind (wpAny_updateSeq hS rfl ?_);have hS₂:=Heap.get?_update_self (Obj.mapSeq (fun _=>(#[]:Array Value))) hS rfl;have oth:∀b o,b≠S->s.heap.get? b=some o->(s.heap.update S (Obj.mapSeq (fun _=>(#[]:Array Value)))).get? b=some o:=
  fun b o hb e=>(Heap.get?_update_other _ _ (Ne.symm hb)).trans e
 refine wpAny_bind (wpAny_letGo ?_);refine extend hh (hit.at fun o e=>oth I o (Ne.symm hSr) e) (let ⟨o,e,r⟩:=hl;⟨o,oth l o (Ne.symm hSd) e,r⟩) hIl S hSr hSd .none _ hS₂ (fun h' tk acc' c' hk hS' hacc=>?_) hn;exact hR h' tk acc' c' (fun b o hb hbI e=>hk b o hb hbI (oth b o hb e)) hS' hacc
theorem N5 {I l:Addr} {items:Array Value} {Q:Value->Shared->Prop} (hh:A.handled=none) (hit:Is s.heap I l ((items.size:Int)-1)) (hl:s.heap.IsTuple l items) (hIl:l≠I) (hn:items.size<=sizeLine)
  (hQ:∀h' tk acc' c',(∀b o,b≠I->s.heap.get? b=some o->h'.get? b=some o)->h'.get? s.heap.objs.size=some {cls:=.type "list",dict:=none,data:=.seq acc' c',slots:=#[]}->ItemsOf (fun i v=>items[items.size-1-i]?=some v) acc' items.size->Q (.ref s.heap.objs.size) {s with heap:=h',toks:=tk}) :
  wpAny (model prog w) A (call (.type "list") [.ref I]) Q E s:=by
 refine callType_codes (Q₁:=fun obj s₁=>obj=.ref s.heap.objs.size/\s₁={s with heap:=s.heap.push {cls:=.type "list",data:=.seq #[]}}) PySem.F.called_list (PySem.F.typeCall_list_1 _) PySem.F.entry_list_init
  (code_list_new _ ⟨rfl,rfl⟩) fun obj s₁ h₁=>?_
 obtain ⟨rfl,rfl⟩:=h₁;have hS:(s.heap.push {cls:=.type "list",data:=.seq #[]}).get? s.heap.objs.size=some {cls:=.type "list",data:=.seq #[]}:=Heap.get?_push_size _ rfl;have lt:∀{b:Addr} {o:Obj},s.heap.get? b=some o->s.heap.objs.size≠b:=fun e=>Nat.ne_of_gt (Heap.lt_size e)
 have l1:s.heap.objs.size≠I:=let ⟨o,e,_⟩:=hit;lt e
 have l2:s.heap.objs.size≠l:=let ⟨o,e,_⟩:=hl;lt e
 refine ⟨⟨_,hS,rfl⟩,PySem.F.args_list_init_2 _ _,init (A:=A.in1) hh (hit.at fun o e=>Heap.get?_push_of_some _ e) (let ⟨o,e,r⟩:=hl;⟨o,Heap.get?_push_of_some _ e,r⟩) hIl _ l1 l2 hS (fun h' tk acc' c' hk hS' hacc=>?_) hn⟩;exact ⟨rfl,hQ h' tk acc' c' (fun b o hb e=>hk b o (Ne.symm (lt e)) hb (Heap.get?_push_of_some _ e)) hS' hacc⟩
end
end Rv
end Mi
end
section
namespace Mi
open PySem L2 PySem.SeqAt PySem.Spec PyProof.Rows
noncomputable def YH:D->Res D
 | .tup xs=>if D.aN xs&&decide (xs.length<=lim) then .ok (.lst xs.reverse) else .bad
 | _=>.bad
theorem wX:bootBuiltins "reversed" = some (.type "reversed"):=by decide +kernel
variable [KFrag]
theorem a_.rev {P:Addr->Prop} {H:Hp}:∀{vs:List V} {ds:List D},a_ P H vs ds->a_ P H vs.reverse ds.reverse
 | _,_,.nil=>.nil
 | _,_,.cons r t=>by rw [List.reverse_cons,List.reverse_cons];exact t.rev.snoc r
theorem N6 {ds:List D} (h:D.aN ds=true):D.aN ds.reverse=true:=dR.mpr fun y hy=>dR.mp h y (List.mem_reverse.mp hy)
theorem R5 {xs:List V} {its acc:List Value} (r:Vals xs its) (hl:acc.length=its.length) (h:∀j v,acc[j]?=some v->its[its.length-1-j]?=some v):Vals xs.reverse acc:=by
 have e:acc=its.reverse:=by
  refine List.ext_getElem? fun j=>?_
  by_cases hj:j<its.length
  ·have h1:acc[j]?=some (acc[j]'(by lia)):=List.getElem?_eq_getElem (by lia);have h2:=h j _ h1;rw [h1,List.getElem?_reverse hj,h2]
  ·rw [List.getElem?_eq_none (by lia),List.getElem?_eq_none (by rw [List.length_reverse];lia)]
 rw [e];clear e h hl;induction r with
 | nil=>exact .nil
 | cons h t ih=>
  rw [List.reverse_cons,List.reverse_cons];exact ih.append (.cons h .nil)
section
variable {X:Cx} {e:Expr} {fe:FE} {re:Bool} {p p2 pos pos2:Pos}
theorem N7 (hc:X.calm=true) (hg:Gl X "list") (hm:X.mg "list" = none) (hg2:Gl X "reversed") (hm2:X.mg "reversed" = none) (he:PE X e (gE fe re)) (hs:starEach [e] X.env=[(false,eval e X.env)]:=by rfl)
  (hs2:starEach [.Call (.Name "reversed" p2) [e] [] pos2] X.env=[(false,eval (.Call (.Name "reversed" p2) [e] [] pos2) X.env)]:=by rfl) :
  PE X (.Call (.Name "list" p) [.Call (.Name "reversed" p2) [e] [] pos2] [] pos) (gE (b1 YH fe) true):=by
 intro pins s σ H Q I ⟨ρ,d,E,h,q⟩;obtain ⟨d0,h1,h2⟩:=aR h;unfold YH at h2;split at h2
 rotate_left
 ·cases h2
 rename_i ds;split at h2
 rotate_left
 ·cases h2
 rename_i hb;cases h2;rw [Bool.and_eq_true] at hb;refine wpAny_Call_Name_kw (nM I hg hm XS ?_);refine PyProof.Rows.callWith_type1 ?_ hs2 rfl;rw [hs2];show wpAny _ _ (spliced [(false,eval (.Call (.Name "reversed" p2) [e] [] pos2) X.env)]) _ _ s;refine Calls.spliced_cons ?_;refine wpAny_Call_Name_kw (nM I hg2 hm2 wX ?_);refine PyProof.Rows.callWith_type1 ?_ hs rfl;rw [hs];show wpAny _ _ (spliced [(false,eval e X.env)]) _ _ s;refine Calls.spliced_cons (thn (he pins s σ H (fun v H1=>bQ H H1/\Rep All H1 v (.tup ds)) I ⟨ρ,_,E,h1,fun v H1 s1 r1 _=>⟨s1,r1⟩⟩) fun u s1 ⟨x,H1,I1,ru,sm,rx⟩=>?_);obtain ⟨t,xs,rfl,ex,rr⟩:=rx.eZ;cases ru;obtain ⟨its,rv,ht,hz⟩:=I1.tuple (.of ex);have htt:s1.heap.IsTuple t its.toArray:=ht;refine Calls.spliced_nil ?_;have hz':its.toArray.size<=sizeLine:=by rw [List.size_toArray,<-rv.length];exact hz
 refine Rv.R4 htt (by rw [sizeLine_eq] at hz';lia) fun tk=>?_
 refine Calls.spliced_nil ?_;have hne:t≠s1.heap.objs.size:=let ⟨o,e,_⟩:=htt;Nat.ne_of_lt (Heap.lt_size e)
 refine Rv.N5 (s:={s1 with heap:=s1.heap.push (Rv.obj t ((its.toArray.size:Int)-1)),toks:=tk}) (I:=s1.heap.objs.size) (l:=t) (items:=its.toArray) (I1.ok.hd hc) ⟨_,Heap.get?_push_size _ rfl,rfl,rfl⟩ (let ⟨o,e,r⟩:=htt;⟨o,Heap.get?_push_of_some _ e,r⟩) hne hz' fun h' tk' acc c hk hS hacc=>?_
 have hsz:((s1.heap.push (Rv.obj t ((its.toArray.size:Int)-1))).objs.size)=s1.heap.objs.size+1:=Heap.size_push ..;have hfr:H1 (s1.heap.push (Rv.obj t ((its.toArray.size:Int)-1))).objs.size=none:=I1.hok.fresh (by rw [hsz];lia);have hlen:acc.toList.length=its.length:=by have:=hacc.1;simpa using this
 have hv:Vals xs.reverse acc.toList:=R5 rv hlen fun j v hj=>by
  have:=hacc.2 j v (by simpa using hj);simpa using this
 have sm2:bQ H1 (upd H1 (s1.heap.push (Rv.obj t ((its.toArray.size:Int)-1))).objs.size (.lst xs.reverse)):=bQ.upd hfr;refine ⟨.ref (s1.heap.push (Rv.obj t ((its.toArray.size:Int)-1))).objs.size,_,I1.laid (a:=(s1.heap.push (Rv.obj t ((its.toArray.size:Int)-1))).objs.size) (o:=.lst xs.reverse) (h':=h') (t':=tk') (fun b o e=>hk b o (Nat.ne_of_lt (Heap.lt_size e)) (Heap.get?_push_of_some _ e)) (by rw [hsz];lia) ⟨by rw [List.length_reverse];exact hz,acc.toList,c,hv,by simpa using hS⟩,rfl,?_⟩;exact q _ _ (sm.trans sm2) (.lst aK trivial (rr.rev.same sm2)) fun _=>.lst aK (sm.free hfr) ((rr.rev.bI (N6 hb.1)).same sm2)
end
end Mi
end
section
namespace Wl
open PySem PySem.Spec
abbrev liO (xs:Array Value) (n:Nat):Obj:={cls:=.type "list",data:=.seq xs n}
theorem aBz:typeLookup (.type "list") "keys" = pure none:=by rw [typeLookup_type,builtinLookup_eq_fast];kernel_rfl
theorem noGet:typeLookup (.type "list") "__getattr__" = pure none:=by rw [typeLookup_type,builtinLookup_eq_fast];kernel_rfl
theorem aC0:entryFor table "list.__getattribute__" = some Builtin.«object.__getattribute__»:=entryFor_alias (id' := "object.__getattribute__") (by kernel_rfl) (by decide +kernel) (by decide +kernel) (by kernel_rfl)
theorem wY (a:Addr) (xs:Array Value) (n:Nat) (u:Tok):Meets (Builtin.«object.__getattribute__» ⟨[.ref a,.str "keys" u],[]⟩) (fun A R s=>s.heap.get? a=some (liO xs n)/\raisesAttr (.ref a) "keys" A R s):=.of_wp fun prog w A R s hs=>by
 obtain ⟨hp,g,d,tk,os⟩:=s;obtain ⟨e,hh,q⟩:=hs;have ty:(⟨hp,g,d,tk,os⟩:Shared).TypeIs (.ref a) "list":=⟨_,e,rfl⟩
 have no:=aBz
 wp_walk
 exact wpAny_raiseAttrError hh q (attrMsg_fits (by decide +kernel) (by size_fits))
section
variable {prog:Program} {w:World} {A:Around} {E:Value->Shared->Prop} {hp:Heap} {g:Array GenState} {d:Drawn} {tk:Nat} {os:OsState} {a:Addr} {xs:Array Value} {n:Nat}
theorem gone {u:Tok} {kw:List (Str×Value)} {Q:Value->Shared->Prop} (e:hp.get? a=some (liO xs n)) (hh:A.handled=none) (hk:kw=[]) (q:∀h' tk' x,Heap.NewAttrErr hp h' x (.ref a) "keys"->E (.ref x) ⟨h',g,d,tk',os⟩) :
  wpAny (model prog w) A (call (.builtin "list.__getattribute__") ([.ref a]++[.str "keys" u]) kw) Q E ⟨hp,g,d,tk,os⟩:=by
 subst hk;exact call_meets F.slot_list_getattribute ⟨_,e,rfl⟩ aC0 (F.args_list_getattribute_2 _ _) (wY a xs n u) ⟨e,hh,fun h' tk' x hx=>q h' tk' x hx⟩
theorem lacks {Q:Option Value->Shared->Prop} (e:hp.get? a=some (liO xs n)) (hh:A.handled=none) (q:∀h' tk',(∀b o,hp.get? b=some o->h'.get? b=some o)->Q none ⟨h',g,d,tk',os⟩):wpAny (model prog w) A (getAttr? (.ref a) "keys") Q E ⟨hp,g,d,tk,os⟩:=by
 have ty:∀tk',(⟨hp,g,d,tk',os⟩:Shared).TypeIs (.ref a) "list":=fun _=>⟨_,e,rfl⟩
 have f3:=F.slot_list_getattribute.lookup;have f4:=F.slot_list_getattribute.bind (.ref a);have f5:=noGet;have sub:=sub_AttributeError
 wp_walk using gone e hh
 case hk=>rfl
 intro h' tk' x hx;obtain ⟨t,u,ex⟩:=hx.there;show wpAny _ _ (getattributeRaised _ _ _ _ _ _ _) _ _ _
 wp_walk
 exact q _ _ hx.keeps
end
theorem qQ {h:Heap} {c d:Addr} {o od:Obj} {T U:String} (e:h.get? c=some o) (hc:o.cls=.type T) (ed:h.get? d=some od) (hd:od.cls=.type U) (ne:(Value.type T==Value.type U)=false):c≠d:=fun q=>by
 subst q;rw [e] at ed;cases ed;rw [hc] at hd;rw [hd] at ne;simp at ne
noncomputable def Prs {prog:Program} {w:World} {K:Type} [DecidableEq K] (knd:KeyKind prog w K) (items:Array Value) (ps:List (K×Value)) (h:Heap):Prop:=items.size=ps.length/\∀(i:Nat) (kv:K×Value),ps[i]?=some kv->∃(p:Addr) (x:Value) (o:Obj) (n:Nat),items[i]?=some (Value.ref p)/\h.get? p=some o/\o.cls=.type "tuple"/\o.data=.seq #[x,kv.2] n/\knd.is kv.1 x=true
theorem Prs.keep {prog:Program} {w:World} {K:Type} [DecidableEq K] {knd:KeyKind prog w K} {items:Array Value} {ps:List (K×Value)} {h h':Heap} (x:Prs knd items ps h) (k:∀c o,o.cls=.type "tuple"->h.get? c=some o->h'.get? c=some o):Prs knd items ps h':=
 ⟨x.1,fun i kv e=>let ⟨p,v,o,n,h1,h2,h3,h4,h5⟩:=x.2 i kv e;⟨p,v,o,n,h1,k p o h3 h2,h3,h4,h5⟩⟩
section
variable {prog:Program} {w:World} {K:Type} [DecidableEq K] {knd:KeyKind prog w K} {A:Around} {R:Except Value Flow->Shared->Prop} {it l d:Addr} {items:Array Value} {ps:List (K×Value)} {nl:Nat}
theorem R6 (hh:A.handled=none) (hdi:d≠it) (hdl:d≠l) (hil:l≠it) :
  ∀(m k:Nat) (s:Shared) (kvs:List (K×Value)),k+m=items.size->kvs.length+m<=sizeLine->s.heap.IsListIter it l k->s.heap.get? l=some (liO items nl)->Prs knd items ps s.heap->s.heap.DictOf knd d kvs->
  (∀h' tk,h'.DictOf knd d (merged kvs (ps.drop k))->(∀c o,c≠d->c≠it->s.heap.get? c=some o->h'.get? c=some o)->R (.ok (.ret .none)) {s with heap:=h',toks:=tk})->
  codeAny (model prog w) A (.builtin "dict.update.loop" ⟨[.ref d,.ref it,rawInt k,.none],[]⟩) R s:=by
 intro m;induction m with
 | zero=>
  intro k s kvs hkm hl Z el Pp hd q;refine codeAny_builtin Wz.mL ?_;rw [Around.under_plainId (show plainId "dict.update.loop" = true by decide +kernel) _];refine wpAny_bind (m:=pyNext (.ref it)) (wpAny_pyNext_list_end hh Z ⟨_,el,rfl,_,rfl⟩ (Array.getElem?_eq_none (by lia)) fun h' kp=>?_);refine wpAny_bind (m:=Builtin.Dict.addKeywords d []) ?_;unfold Builtin.Dict.addKeywords;rw [List.forIn_nil];refine wpAny_bind (wpAny_pure (wpAny_pure (wpAny_pure ?_)));have e:ps.drop k=[]:=List.drop_eq_nil_of_le (by have:=Pp.1;lia);rw [e] at q;obtain ⟨o,es,ep,ho,r⟩:=hd;exact q _ s.toks ⟨o,es,ep,kp d o hdi ho,r⟩ fun c o _ c1 e=>kp c o c1 e
 | succ m ih=>
  intro k s kvs hkm hl Z el Pp hd q;have hlp:k<ps.length:=by have:=Pp.1;lia
  obtain ⟨p,x,o,n,hi,hp,hpc,hpd,his⟩:=Pp.2 k ps[k] (List.getElem?_eq_getElem hlp);have hpi:p≠it:=let ⟨oi,ei,ci,_⟩:=Z;qQ hp hpc ei ci (by decide)
  refine codeAny_builtin Wz.mL ?_;rw [Around.under_plainId (show plainId "dict.update.loop" = true by decide +kernel) _];refine wpAny_bind (m:=pyNext (.ref it)) (wpAny_pyNext_list_item Z ⟨_,el,rfl,_,rfl⟩ hi fun h' Z' kp=>?_);have hp':h'.get? p=some o:=(kp.2 p hpi).trans hp;refine wpAny_bind (wpAny_holding (wpAny_bind (wpAny_tryCatch ?_)));refine wpAny_bind (wpAny_typeOf (T := "tuple") ⟨_,hp',hpc⟩ ?_);rw [if_pos (by decide)];refine wpAny_bind (wpAny_seqItems hp' hpd (wpAny_pure ?_));show wpAny _ _ (holding [x,ps[k].2] (dictSet d x ps[k].2)) _ _ _;have hd':h'.DictOf knd d kvs:=let ⟨o,es,ep,ho,r⟩:=hd;⟨o,es,ep,(kp.2 d hdi).trans ho,r⟩
  obtain ⟨od,es,ep,ho,hc,_⟩:=id hd';refine wpAny_holding (wpAny_dictSet_pairs his hd' (fun h2 hd2' sb=>?_) (by lia));refine wpAny_pure ⟨Code.quiet_builtin _ (by decide +kernel),?_⟩;have ek:(rawInt (k+1):Value)=rawInt ((k+1:Nat):Int):=rfl;rw [ek];have hdrop:ps.drop k=ps[k]::ps.drop (k+1):=List.drop_eq_getElem_cons hlp;have ls:(stored kvs ps[k].1 ps[k].2).length<=kvs.length+1:=by
   unfold stored;split
   ·rw [List.length_map];lia
   ·rw [List.length_append];exact Nat.le_refl _
  have keep:∀c o,c≠d->c≠it->s.heap.get? c=some o->h2.get? c=some o:=fun c o c0 c1 e=>(sb.2 c c0).trans ((kp.2 c c1).trans e)
  have hdc:∀c (oc:Obj),oc.cls=.type "tuple"->s.heap.get? c=some oc->c≠d/\c≠it:=fun c oc hoc e=>⟨let ⟨o1,_,_,e1,c1,_⟩:=hd;qQ e hoc e1 c1.1 (by decide),let ⟨oi,ei,ci,_⟩:=Z;qQ e hoc ei ci (by decide)⟩
  refine ih (k+1) _ (stored kvs ps[k].1 ps[k].2) (by lia) (by lia) (let ⟨oi,ei,r⟩:=Z';⟨oi,(sb.2 it (Ne.symm hdi)).trans ei,r⟩) (keep l _ (Ne.symm hdl) hil el) (Pp.keep fun c oc hoc e=>keep c oc (hdc c oc hoc e).1 (hdc c oc hoc e).2 e) hd2' fun h3 tk hd3 kp3=>?_
  exact q h3 tk (by rw [hdrop];exact hd3) fun c o c0 c1 e=>kp3 c o c0 c1 (keep c o c0 c1 e)
end
section
variable {prog:Program} {w:World} {K:Type} [DecidableEq K] {knd:KeyKind prog w K} {A:Around} {E:Value->Shared->Prop} {hp:Heap} {g:Array GenState} {dr:Drawn} {tk:Nat} {os:OsState} {l:Addr} {items:Array Value} {ps:List (K×Value)} {nl:Nat}
theorem dict_list {Q:Value->Shared->Prop} (hh:A.handled=none) (el:hp.get? l=some (liO items nl)) (Pp:Prs knd items ps hp) (hz:items.size<=1000000)
  (q:∀h' tk',h'.DictOf knd hp.objs.size (merged [] ps)->(∀c o,hp.get? c=some o->h'.get? c=some o)->Q (.ref hp.objs.size) ⟨h',g,dr,tk',os⟩) :
  wpAny (model prog w) A (call (.type "dict") [.ref l]) Q E ⟨hp,g,dr,tk,os⟩:=by
 have hnew:(hp.push {cls:=.type "dict",data:=.dict #[]}).DictOf knd hp.objs.size []:=Heap.DictOf.new hp;have up:∀c o,hp.get? c=some o->(hp.push {cls:=.type "dict",data:=.dict #[]}).get? c=some o:=fun c o e=>Heap.get?_push_of_some _ e
 have lt:∀{c o},hp.get? c=some o->hp.objs.size≠c:=fun e=>Nat.ne_of_gt (Heap.lt_size e)
 refine callType_codes (Q₁:=fun v s₁=>v=.ref hp.objs.size/\s₁=⟨hp.push {cls:=.type "dict",data:=.dict #[]},g,dr,tk,os⟩) F.kt_called_dict (F.kt_typeCall_dict_1 _) F.entry_dict_init (kt_code_dict_new _ ⟨rfl,rfl⟩) fun v s₁ hv=>?_
 obtain ⟨rfl,rfl⟩:=hv;have ty:(⟨hp.push {cls:=.type "dict",data:=.dict #[]},g,dr,tk,os⟩:Shared).TypeIs (.ref hp.objs.size) "dict":=hnew.typeIs;have ez:=up _ _ el;have tz:(⟨hp.push {cls:=.type "dict",data:=.dict #[]},g,dr,tk,os⟩:Shared).TypeIs (.ref l) "list":=⟨_,ez,rfl⟩
 refine ⟨ty,F.args_dict_init_2 _ _,wpAny_bind (m:=Builtin.Dict.selfAndRest "__init__" _) (wpAny_bind (wpAny_notOrdered_dict ty (wpAny_pure ?_)))⟩;refine wpAny_bind (m:=typeOf (.ref l)) (wpAny_typeOf tz ?_);rw [if_pos (by decide)];refine wpAny_bind (lacks ez hh fun h' tk' kp=>?_);rw [if_pos (show (none:Option Value).isNone=true from rfl)];refine wpAny_bind (wpAny_rule (wpAny_bind (wpAny_pyIter_list ⟨_,kp _ _ ez,rfl,_,rfl⟩ (wpAny_pure ⟨Code.quiet_builtin _ (by decide +kernel),?_⟩))));have hd':h'.DictOf knd hp.objs.size []:=let ⟨o,es,ep,ho,r⟩:=hnew;⟨o,es,ep,kp _ _ ho,r⟩
 have ltd:hp.objs.size<h'.objs.size:=let ⟨o,es,ep,ho,r⟩:=hd';Heap.lt_size ho
 have ltl:l<h'.objs.size:=Heap.lt_size (kp _ _ ez);refine R6 (A:=A.in1) (ps:=ps) (it:=h'.objs.size) (l:=l) (items:=items) (nl:=nl) (show A.in1.handled=none from hh) (Nat.ne_of_lt ltd) (lt el) (Nat.ne_of_lt ltl) items.size 0 _ [] (by lia) (by rw [List.length_nil,sizeLine_eq];lia) ⟨_,Heap.get?_push_size _ rfl,rfl,rfl⟩ (Heap.get?_push_of_some _ (kp _ _ ez)) (Pp.keep fun c o _ e=>Heap.get?_push_of_some _ (kp c o (up c o e))) (let ⟨o,es,ep,ho,r⟩:=hd';⟨o,es,ep,Heap.get?_push_of_some _ ho,r⟩) fun h2 tk2 hd2 kp2=>?_
 exact ⟨rfl,q h2 tk2 hd2 fun c o e=>kp2 c o (fun x=>lt e x.symm) (Nat.ne_of_lt (Heap.lt_size (kp c o (up c o e)))) (Heap.get?_push_of_some _ (kp c o (up c o e)))⟩
end
end Wl
end
section
namespace Mi
open PySem L2 PySem.SeqAt PySem.Spec PyProof.Rows
noncomputable def pG:List D->Option (List (D×D))
 | []=>some []
 | .tup [k,v]::r=>if j4 k&&v.pure then (pG r).map ((k,v)::·) else none
 | _::_=>none
noncomputable def jO (kvs:List (D×D)) (more:List (D×D)):List (D×D):=more.foldl (fun acc p=>putD acc p.1 p.2) kvs
noncomputable def pH:D->Res D
 | .lst xs=>match pG xs with
  | some ps=>if decide (xs.length<=1000) then .ok (.dct (jO [] ps)) else .bad
  | none=>.bad
 | _=>.bad
variable [KFrag]
theorem zR {X:Cx} {pins:List (Addr×Obj)} {σ:L2.St} {H:Hp} {s:Shared} (I:Inv X pins σ H s):∀{xs:List D} {vs:List V} {us:List Value} {ps:List (D×D)},a_ All H vs xs->Vals vs us->pG xs=some ps->
  ∃(kvs:List (Key×V)) (prs:List (Key×Value)),KV kvs prs/\jA All H kvs ps/\D.aN (ps.map (·.2))=true/\us.length=prs.length/\∀(i:Nat) (kv:Key×Value),prs[i]?=some kv->∃(p:Addr) (x:Value) (o:Obj) (n:Nat),us[i]?=some (Value.ref p)/\s.heap.get? p=some o/\o.cls=.type "tuple"/\o.data=.seq #[x,kv.2] n/\(cV X.prog X.w).is kv.1 x=true
 | [],_,_,_,.nil,.nil,h=>by
  cases h;exact ⟨[],[],.nil,.nil,rfl,rfl,fun i kv h=>by simp at h⟩
 | d::xs,_,_,ps,.cons r t,.cons rv tv,h=>by
  unfold pG at h;split at h
  ·rename_i h0;cases h0
  ·rename_i k v r' h0;injection h0 with h0 h1
   subst h0 h1;split at h
   ·rename_i hf;rw [Bool.and_eq_true] at hf;obtain ⟨ps',hp,rfl⟩:=Option.map_eq_some_iff.mp h;obtain ⟨kvs,prs,g1,g2,g3,g4,g5⟩:=zR I t tv hp;obtain ⟨a,ws,rfl,ea,rr⟩:=r.eZ;cases rv;obtain ⟨its,rvs,o,ho,hc,n,hd⟩:=gZ I ea;cases rr with
    | cons rk rr=>
     cases rr with
     | cons rw_ rr=>
      cases rr;cases rvs with
      | cons q1 rvs=>
       cases rvs with
       | cons q2 rvs=>
        cases rvs;rename_i wk ww uk uw;obtain ⟨key,hk1,hk2⟩:∃key:Key,kD key=k/\(cV X.prog X.w).is key uk=true:=by
         cases rk with
         | int i=>exact ⟨.inl i,rfl,DG (k:=.inl i) q1⟩
         | str x=>exact ⟨.inr x,rfl,DG (k:=.inr x) q1⟩
         | _=>cases hf.1
        subst hk1;refine ⟨(key,ww)::kvs,(key,uw)::prs,.cons ⟨rfl,q2⟩ g1,.cons rw_ g2,by rw [List.map_cons,D.aN,hf.2,g3];rfl,by rw [List.length_cons,List.length_cons,g4],fun i kv hi=>?_⟩;cases i with
        | zero=>
         simp at hi;subst hi;exact ⟨a,uk,o,n,rfl,ho,hc,hd,hk2⟩
        | succ i=>
         obtain ⟨p,x,o',n',z1,z2⟩:=g5 i kv (by simpa using hi);exact ⟨p,x,o',n',by simpa using z1,z2⟩
   ·cases h
  ·cases h
theorem qR {P:Addr->Prop} {H:Hp}:∀{more:List (Key×V)} {ds:List (D×D)} {kvs:List (Key×V)} {es:List (D×D)},jA P H more ds->jA P H kvs es->(kvs.map (·.1)).Nodup->jA P H (jY kvs more) (jO es ds)/\((jY kvs more).map (·.1)).Nodup
 | _,_,_,_,.nil,r,n=>⟨r,n⟩
 | _,_,_,_,.cons (k:=k) rv t,r,n=>by have:=qR t (zL (k:=k) rv r n) (iR n);exact this
theorem iD:∀{ds es:List (D×D)},D.aN (ds.map (·.2))=true->D.aN (es.map (·.2))=true->D.aN ((jO es ds).map (·.2))=true
 | [],_,_,h=>h
 | (k,v)::ds,es,h,h2=>by
  rw [List.map_cons,D.aN,Bool.and_eq_true] at h;exact iD (ds:=ds) h.2 (m7 h.1 h2)
section
variable {X:Cx} {e:Expr} {fe:FE} {re:Bool} {p pos:Pos}
theorem uX (hc:X.calm=true) (hg:Gl X "dict") (hm:X.mg "dict" = none) (he:PE X e (gE fe re)) (hs:starEach [e] X.env=[(false,eval e X.env)]:=by rfl) :
  PE X (.Call (.Name "dict" p) [e] [] pos) (gE (b1 pH fe) true):=by
 intro pins s σ H Q I ⟨ρ,d,E,h,q⟩;obtain ⟨d0,h1,h2⟩:=aR h;unfold pH at h2;split at h2
 rotate_left
 ·cases h2
 rename_i xs;split at h2
 rotate_left
 ·cases h2
 rename_i ps hps;split at h2
 rotate_left
 ·cases h2
 rename_i hb;cases h2;have hb:=of_decide_eq_true hb;refine wpAny_Call_Name_kw (nM I hg hm zK ?_);refine PyProof.Rows.callWith_type1 ?_ hs rfl;rw [hs];show wpAny _ _ (spliced [(false,eval e X.env)]) _ _ s;refine Calls.spliced_cons (thn (he pins s σ H (fun v H1=>bQ H H1/\Rep All H1 v (.lst xs)) I ⟨ρ,_,E,h1,fun v H1 s1 r1 _=>⟨s1,r1⟩⟩) fun u s1 ⟨x,H1,I1,ru,sm,rx⟩=>?_);obtain ⟨a,vs,rfl,ea,rr⟩:∃a vs,x=.ref a/\H1 a=some (.lst vs)/\a_ All H1 vs xs:=by
  cases rx with
  | lst e p r=>exact ⟨_,_,rfl,e,r⟩
 cases ru;refine Calls.spliced_nil ?_;obtain ⟨hz,its,nl,rv,hl⟩:vs.length<=sizeLine/\∃(its:List Value) (n:Nat),Vals vs its/\s1.heap.get? a=some {cls:=.type "list",data:=.seq its.toArray n}:=I1.hok a _ ea;obtain ⟨kvs,prs,g1,g2,g3,g4,g5⟩:=zR I1 rr rv hps;have hlen:its.length<=1000:=by rw [<-rv.length,rr.length];exact hb
 obtain ⟨hp,g,dr,tk,os⟩:=s1;refine Wl.dict_list (knd:=cV X.prog X.w) (ps:=prs) (items:=its.toArray) (I1.ok.hd hc) hl ⟨by rw [List.size_toArray];exact g4,fun i kv hi=>?_⟩ (by rw [List.size_toArray];lia) fun h' tk' hd kp=>?_
 ·obtain ⟨p,x,o,n,z1,z2⟩:=g5 i kv hi;exact ⟨p,x,o,n,by simpa using z1,z2⟩
 ·have hfr:H1 hp.objs.size=none:=I1.hok.fresh (Nat.le_refl _);have rel:KV (jY [] kvs) (merged [] prs):=g1.merge .nil;have hz2:(jY [] kvs).length<=sizeLine:=by
   have:=mJ kvs [];have l1:kvs.length=prs.length:=Paired.length g1;rw [List.length_nil] at this;rw [sizeLine_eq];lia
  obtain ⟨rk,nd⟩:=qR (kvs:=[]) g2 jA.nil List.nodup_nil;have sp:bQ H1 (upd H1 hp.objs.size (.dK (jY [] kvs))):=bQ.upd hfr;have rk2:∀{P:Addr->Prop},jA P (upd H1 hp.objs.size (.dK (jY [] kvs))) (jY [] kvs) (jO [] ps):=fun {P}=>(rk.keep (.same sp) fun _ h=>h).bI (iD g3 rfl)
  refine ⟨.ref hp.objs.size,_,I1.laid (a:=hp.objs.size) (t':=tk') (o:=.dK (jY [] kvs)) kp (Nat.le_refl _) (UJ hz2 (beq_eq_false_iff_ne.mpr ?_) rel hd),rfl,?_⟩
  ·exact Ne.symm (Nat.ne_of_lt I1.big)
  ·exact q _ _ (sm.trans sp) (.dK aK trivial rk2 nd) fun _=>.dK aK (sm.free hfr) rk2 nd
end
end Mi
end
section
namespace Mi
open PySem L2 PySem.SeqAt PySem.Spec PyProof.Rows
variable [KFrag]
section
variable {X:Cx} {own:Nat->Bool} {a b e:Expr} {pos pos' posE:Pos} {fa fe:FE} {re:Bool} {xb:FX}
end
end Mi
end
section
namespace Mi
open PySem L2 PySem.SeqAt PySem.Spec PyProof.Rows
variable [KFrag]
section
variable {own:Nat->Bool}
end
section
variable {X:Cx} {own:Nat->Bool} {st:Stmt} {rest:List Stmt} {f g:FS} {R:TS} {e1 e2:Expr} {x1 x2:FX} {pos:Pos}
end
section
variable {X:Cx} {pos:Pos}
end
section
variable {X:Cx} {pos:Pos}
end
end Mi
end
section
namespace Wl
open PySem PySem.Spec
abbrev QJ (K:Type):=List K×Addr×Value
noncomputable def pI {K:Type} [DecidableEq K] (xs:List (QJ K)) (ps:List (QJ K)):List (QJ K):=ps.foldl (fun acc p=>storedH acc p.1 p.2.1 p.2.2) xs
noncomputable def PrH {prog:Program} {w:World} {K:Type} [DecidableEq K] (knd:KeyKind prog w K) (items:Array Value) (ps:List (QJ K)) (h:Heap):Prop:=items.size=ps.length/\∀(i:Nat) (kv:QJ K),ps[i]?=some kv->IsTupleKey knd h kv.1 kv.2.1/\∃(p:Addr) (o:Obj) (n:Nat),items[i]?=some (Value.ref p)/\h.get? p=some o/\o.cls=.type "tuple"/\o.data=.seq #[.ref kv.2.1,kv.2.2] n
theorem rT {prog:Program} {w:World} {K:Type} [DecidableEq K] {knd:KeyKind prog w K} {ks:List K} {a:Addr} {h h':Heap} (x:IsTupleKey knd h ks a) (k:∀c o,o.cls=.type "tuple"->h.get? c=some o->h'.get? c=some o):IsTupleKey knd h' ks a:=
 let ⟨o,its,n,h1,h2,h3⟩:=x;⟨o,its,n,k a o h2 h1,h2,h3⟩
theorem PrH.keep {prog:Program} {w:World} {K:Type} [DecidableEq K] {knd:KeyKind prog w K} {items:Array Value} {ps:List (QJ K)} {h h':Heap} (x:PrH knd items ps h) (k:∀c o,o.cls=.type "tuple"->h.get? c=some o->h'.get? c=some o):PrH knd items ps h':=
 ⟨x.1,fun i kv e=>let ⟨z,p,o,n,h1,h2,h3,h4⟩:=x.2 i kv e;⟨rT z k,p,o,n,h1,k p o h3 h2,h3,h4⟩⟩
theorem oF {prog:Program} {w:World} {K:Type} [DecidableEq K] {knd:KeyKind prog w K} {d:Addr} {xs:List (QJ K)} {h h':Heap} (x:h.DictOfH (tupleKind knd) d xs) (hd:∀o,h.get? d=some o->h'.get? d=some o) (k:∀c o,o.cls=.type "tuple"->h.get? c=some o->h'.get? c=some o):h'.DictOfH (tupleKind knd) d xs:=
 let ⟨o,es,ep,h1,h2,h3,h4,h5,h6⟩:=x;⟨o,es,ep,hd o h1,h2,h3,h4,fun y hy=>rT (h5 y hy) k,h6⟩
section
variable {prog:Program} {w:World} {K:Type} [DecidableEq K] {knd:KeyKind prog w K} {A:Around} {R:Except Value Flow->Shared->Prop} {it l d:Addr} {items:Array Value} {ps:List (QJ K)} {nl:Nat}
theorem aEo (hh:A.handled=none) (hu:A.units+1<cLine) (hdi:d≠it) (hdl:d≠l) (hil:l≠it) :
  ∀(m k:Nat) (s:Shared) (kvs:List (QJ K)),k+m=items.size->kvs.length+m<=sizeLine->s.heap.IsListIter it l k->s.heap.get? l=some (liO items nl)->PrH knd items ps s.heap->s.heap.DictOfH (tupleKind knd) d kvs->
  (∀h' tk,h'.DictOfH (tupleKind knd) d (pI kvs (ps.drop k))->(∀c o,c≠d->c≠it->s.heap.get? c=some o->h'.get? c=some o)->R (.ok (.ret .none)) {s with heap:=h',toks:=tk})->
  codeAny (model prog w) A (.builtin "dict.update.loop" ⟨[.ref d,.ref it,rawInt k,.none],[]⟩) R s:=by
 intro m;induction m with
 | zero=>
  intro k s kvs hkm hl Z el Pp hd q;refine codeAny_builtin Wz.mL ?_;rw [Around.under_plainId (show plainId "dict.update.loop" = true by decide +kernel) _];refine wpAny_bind (m:=pyNext (.ref it)) (wpAny_pyNext_list_end hh Z ⟨_,el,rfl,_,rfl⟩ (Array.getElem?_eq_none (by lia)) fun h' kp=>?_);refine wpAny_bind (m:=Builtin.Dict.addKeywords d []) ?_;unfold Builtin.Dict.addKeywords;rw [List.forIn_nil];refine wpAny_bind (wpAny_pure (wpAny_pure (wpAny_pure ?_)));have e:ps.drop k=[]:=List.drop_eq_nil_of_le (by have:=Pp.1;lia);rw [e] at q;have ni:∀c (oc:Obj),oc.cls=.type "tuple"->s.heap.get? c=some oc->c≠it:=fun c oc hoc e=>let ⟨oi,ei,ci,_⟩:=Z;qQ e hoc ei ci (by decide)
  exact q _ s.toks (oF hd (fun o ho=>kp d o hdi ho) fun c o hc e=>kp c o (ni c o hc e) e) fun c o _ c1 e=>kp c o c1 e
 | succ m ih=>
  intro k s kvs hkm hl Z el Pp hd q;have hlp:k<ps.length:=by have:=Pp.1;lia
  obtain ⟨hik,p,o,n,hi,hp,hpc,hpd⟩:=Pp.2 k ps[k] (List.getElem?_eq_getElem hlp);have ni:∀c (oc:Obj),oc.cls=.type "tuple"->s.heap.get? c=some oc->c≠it:=fun c oc hoc e=>let ⟨oi,ei,ci,_⟩:=Z;qQ e hoc ei ci (by decide)
  have hpi:p≠it:=ni p o hpc hp;refine codeAny_builtin Wz.mL ?_;rw [Around.under_plainId (show plainId "dict.update.loop" = true by decide +kernel) _];refine wpAny_bind (m:=pyNext (.ref it)) (wpAny_pyNext_list_item Z ⟨_,el,rfl,_,rfl⟩ hi fun h' Z' kp=>?_);have hp':h'.get? p=some o:=(kp.2 p hpi).trans hp;refine wpAny_bind (wpAny_holding (wpAny_bind (wpAny_tryCatch ?_)));refine wpAny_bind (wpAny_typeOf (T := "tuple") ⟨_,hp',hpc⟩ ?_);rw [if_pos (by decide)];refine wpAny_bind (wpAny_seqItems hp' hpd (wpAny_pure ?_));show wpAny _ _ (holding [.ref ps[k].2.1,ps[k].2.2] (dictSet d (.ref ps[k].2.1) ps[k].2.2)) _ _ _;have kt:∀c (oc:Obj),oc.cls=.type "tuple"->s.heap.get? c=some oc->h'.get? c=some oc:=fun c oc hoc e=>(kp.2 c (ni c oc hoc e)).trans e
  have hd':h'.DictOfH (tupleKind knd) d kvs:=oF hd (fun o ho=>(kp.2 d hdi).trans ho) kt;refine wpAny_holding (wpAny_dictSet_heap (hsz:=by lia) (knd:=tupleKind knd) (tupleKind_room_in1 hu) (rT hik kt) hd' fun h2 hd2' sb=>?_);refine wpAny_pure ⟨Code.quiet_builtin _ (by decide +kernel),?_⟩;have ek:(rawInt (k+1):Value)=rawInt ((k+1:Nat):Int):=rfl;rw [ek];have hdrop:ps.drop k=ps[k]::ps.drop (k+1):=List.drop_eq_getElem_cons hlp;have ls:(storedH kvs ps[k].1 ps[k].2.1 ps[k].2.2).length<=kvs.length+1:=by
   unfold storedH;split
   ·rw [List.length_map];lia
   ·rw [List.length_append];exact Nat.le_refl _
  have keep:∀c o,c≠d->c≠it->s.heap.get? c=some o->h2.get? c=some o:=fun c o c0 c1 e=>(sb.2 c c0).trans ((kp.2 c c1).trans e)
  have hdc:∀c (oc:Obj),oc.cls=.type "tuple"->s.heap.get? c=some oc->c≠d/\c≠it:=fun c oc hoc e=>⟨let ⟨o1,_,_,e1,c1,_⟩:=hd;qQ e hoc e1 c1.1 (by decide),ni c oc hoc e⟩
  refine ih (k+1) _ (storedH kvs ps[k].1 ps[k].2.1 ps[k].2.2) (by lia) (by lia) (let ⟨oi,ei,r⟩:=Z';⟨oi,(sb.2 it (Ne.symm hdi)).trans ei,r⟩) (keep l _ (Ne.symm hdl) hil el) (Pp.keep fun c oc hoc e=>keep c oc (hdc c oc hoc e).1 (hdc c oc hoc e).2 e) hd2' fun h3 tk hd3 kp3=>?_
  exact q h3 tk (by rw [hdrop];exact hd3) fun c o c0 c1 e=>kp3 c o c0 c1 (keep c o c0 c1 e)
end
section
variable {prog:Program} {w:World} {K:Type} [DecidableEq K] {knd:KeyKind prog w K} {A:Around} {E:Value->Shared->Prop} {hp:Heap} {g:Array GenState} {dr:Drawn} {tk:Nat} {os:OsState} {l:Addr} {items:Array Value} {ps:List (QJ K)} {nl:Nat}
theorem GX {Q:Value->Shared->Prop} (hh:A.handled=none) (hu:A.units+2<cLine) (el:hp.get? l=some (liO items nl)) (Pp:PrH knd items ps hp) (hz:items.size<=1000000)
  (q:∀h' tk',h'.DictOfH (tupleKind knd) hp.objs.size (pI [] ps)->(∀c o,hp.get? c=some o->h'.get? c=some o)->Q (.ref hp.objs.size) ⟨h',g,dr,tk',os⟩) :
  wpAny (model prog w) A (call (.type "dict") [.ref l]) Q E ⟨hp,g,dr,tk,os⟩:=by
 have hnew:(hp.push {cls:=.type "dict",data:=.dict #[]}).DictOfH (tupleKind knd) hp.objs.size []:=Heap.DictOfH.new hp;have up:∀c o,hp.get? c=some o->(hp.push {cls:=.type "dict",data:=.dict #[]}).get? c=some o:=fun c o e=>Heap.get?_push_of_some _ e
 have lt:∀{c o},hp.get? c=some o->hp.objs.size≠c:=fun e=>Nat.ne_of_gt (Heap.lt_size e)
 refine callType_codes (Q₁:=fun v s₁=>v=.ref hp.objs.size/\s₁=⟨hp.push {cls:=.type "dict",data:=.dict #[]},g,dr,tk,os⟩) F.kt_called_dict (F.kt_typeCall_dict_1 _) F.entry_dict_init (kt_code_dict_new _ ⟨rfl,rfl⟩) fun v s₁ hv=>?_
 obtain ⟨rfl,rfl⟩:=hv;have ty:(⟨hp.push {cls:=.type "dict",data:=.dict #[]},g,dr,tk,os⟩:Shared).TypeIs (.ref hp.objs.size) "dict":=hnew.typeIs;have ez:=up _ _ el;have tz:(⟨hp.push {cls:=.type "dict",data:=.dict #[]},g,dr,tk,os⟩:Shared).TypeIs (.ref l) "list":=⟨_,ez,rfl⟩
 refine ⟨ty,F.args_dict_init_2 _ _,wpAny_bind (m:=Builtin.Dict.selfAndRest "__init__" _) (wpAny_bind (wpAny_notOrdered_dict ty (wpAny_pure ?_)))⟩;refine wpAny_bind (m:=typeOf (.ref l)) (wpAny_typeOf tz ?_);rw [if_pos (by decide)];refine wpAny_bind (lacks ez hh fun h' tk' kp=>?_);rw [if_pos (show (none:Option Value).isNone=true from rfl)];refine wpAny_bind (wpAny_rule (wpAny_bind (wpAny_pyIter_list ⟨_,kp _ _ ez,rfl,_,rfl⟩ (wpAny_pure ⟨Code.quiet_builtin _ (by decide +kernel),?_⟩))));have hd':h'.DictOfH (tupleKind knd) hp.objs.size []:=oF hnew (fun o ho=>kp _ _ ho) fun c o _ e=>kp c o e
 have ltd:hp.objs.size<h'.objs.size:=let ⟨o,es,ep,ho,r⟩:=hd';Heap.lt_size ho
 have ltl:l<h'.objs.size:=Heap.lt_size (kp _ _ ez);refine aEo (A:=A.in1) (ps:=ps) (it:=h'.objs.size) (l:=l) (items:=items) (nl:=nl) (show A.in1.handled=none from hh) (show A.units+1+1<cLine from hu) (Nat.ne_of_lt ltd) (lt el) (Nat.ne_of_lt ltl) items.size 0 _ [] (by lia) (by rw [List.length_nil,sizeLine_eq];lia) ⟨_,Heap.get?_push_size _ rfl,rfl,rfl⟩ (Heap.get?_push_of_some _ (kp _ _ ez)) (Pp.keep fun c o _ e=>Heap.get?_push_of_some _ (kp c o (up c o e))) (oF hd' (fun o ho=>Heap.get?_push_of_some _ ho) fun c o _ e=>Heap.get?_push_of_some _ e) fun h2 tk2 hd2 kp2=>?_
 exact ⟨rfl,q h2 tk2 hd2 fun c o e=>kp2 c o (fun x=>lt e x.symm) (Nat.ne_of_lt (Heap.lt_size (kp c o (up c o e)))) (Heap.get?_push_of_some _ (kp c o (up c o e)))⟩
end
end Wl
end
section
namespace Mi
open PySem L2 PySem.SeqAt PySem.Spec PyProof.Rows
noncomputable def pJ:List D->Option (List (D×D))
 | []=>some []
 | .tup [.tup ks,v]::r=>if ks.all j4&&v.pure then (pJ r).map ((.tup ks,v)::·) else none
 | _::_=>none
noncomputable def rW:D->Res D
 | .lst xs=>match pJ xs with
  | some ps=>if decide (xs.length<=1000) then .ok (.dct (jO [] ps)) else .bad
  | none=>.bad
 | _=>.bad
variable [KFrag]
theorem uY {X:Cx} {pins:List (Addr×Obj)} {σ:L2.St} {H:Hp} {s:Shared} (I:Inv X pins σ H s):∀{xs:List D} {vs:List V} {us:List Value} {ps:List (D×D)},a_ All H vs xs->Vals vs us->pJ xs=some ps->
  ∃(kvs:List (List Key×V)) (prs:List (List Key×Addr×Value)),KT H kvs prs/\jR All H kvs ps/\D.aN (ps.map (·.2))=true/\us.length=prs.length/\∀(i:Nat) (kv:List Key×Addr×Value),prs[i]?=some kv->IsTupleKey (cV X.prog X.w) s.heap kv.1 kv.2.1/\∃(p:Addr) (o:Obj) (n:Nat),us[i]?=some (Value.ref p)/\s.heap.get? p=some o/\o.cls=.type "tuple"/\o.data=.seq #[.ref kv.2.1,kv.2.2] n
 | [],_,_,_,.nil,.nil,h=>by
  cases h;exact ⟨[],[],.nil,.nil,rfl,rfl,fun i kv h=>by simp at h⟩
 | d::xs,_,_,ps,.cons r t,.cons rv tv,h=>by
  unfold pJ at h;split at h
  ·rename_i h0;cases h0
  ·rename_i k v r' h0;injection h0 with h0 h1
   subst h0 h1;split at h
   ·rename_i hf;rw [Bool.and_eq_true] at hf;obtain ⟨ps',hp,rfl⟩:=Option.map_eq_some_iff.mp h;obtain ⟨kvs,prs,g1,g2,g3,g4,g5⟩:=uY I t tv hp;obtain ⟨a,ws,rfl,ea,rr⟩:=r.eZ;cases rv;obtain ⟨its,rvs,o,ho,hc,n,hd⟩:=gZ I ea;cases rr with
    | cons rk rr=>
     cases rr with
     | cons rw_ rr=>
      cases rr;cases rvs with
      | cons q1 rvs=>
       cases rvs with
       | cons q2 rvs=>
        cases rvs;rename_i wk ww uk uw;rcases gH (k:=.tup k) hf.1 rk with ⟨q,_,e⟩|⟨b,ks,rfl,eb,e⟩
        ·cases q <;> cases e
        ·injection e with e
         subst e;cases q1;refine ⟨(ks,ww)::kvs,(ks,b,uw)::prs,.cons ⟨rfl,eb,q2⟩ g1,.cons rw_ g2,by rw [List.map_cons,D.aN,hf.2,g3];rfl,by rw [List.length_cons,List.length_cons,g4],fun i kv hi=>?_⟩;cases i with
         | zero=>
          simp at hi;subst hi;exact ⟨tQ I.hok eb,a,o,n,rfl,ho,hc,hd⟩
         | succ i=>
          obtain ⟨z0,p,o',n',z1,z2⟩:=g5 i kv (by simpa using hi);exact ⟨z0,p,o',n',by simpa using z1,z2⟩
   ·cases h
  ·cases h
noncomputable def jP (kvs more:List (List Key×V)):List (List Key×V):=more.foldl (fun acc p=>putK acc p.1 p.2) kvs
theorem qT {P:Addr->Prop} {H:Hp}:∀{more:List (List Key×V)} {ds:List (D×D)} {kvs:List (List Key×V)} {es:List (D×D)},jR P H more ds->jR P H kvs es->(kvs.map (·.1)).Nodup->jR P H (jP kvs more) (jO es ds)/\((jP kvs more).map (·.1)).Nodup
 | _,_,_,_,.nil,r,n=>⟨r,n⟩
 | _,_,_,_,.cons (k:=k) rv t,r,n=>by have:=qT t (oA (k:=k) rv r n) (iR n);exact this
theorem zT {H:Hp}:∀{more:List (List Key×V)} {ms:List (List Key×Addr×Value)} {kvs:List (List Key×V)} {xs:List (List Key×Addr×Value)},KT H more ms->KT H kvs xs->KT H (jP kvs more) (Wl.pI xs ms)
 | _,_,_,_,.nil,r=>r
 | _,_,_,_,.cons (a:=p) (b:=q) h t,r=>by
  have h1:=h.1;have:=zT t (r.put p.1 (b:=q.2.1) (y:=p.2) (u:=q.2.2) h.2.1 h.2.2);show KT H (jP (putK _ p.1 p.2) _) (Wl.pI (storedH _ q.1 q.2.1 q.2.2) _);rw [<-h1];exact this
theorem qU:∀(more kvs:List (List Key×V)),(jP kvs more).length<=kvs.length+more.length
 | [],kvs=>Nat.le_refl _
 | p::r,kvs=>by
  have h1:=qU r (putK kvs p.1 p.2);have h2:=iY kvs p.1 p.2;rw [List.length_cons];show (jP (putK kvs p.1 p.2) r).length<=_;lia
section
variable {X:Cx} {e:Expr} {fe:FE} {re:Bool} {p pos:Pos}
theorem GZ (hc:X.calm=true) (hu:X.A.units+20<cLine) (hg:Gl X "dict") (hm:X.mg "dict" = none) (he:PE X e (gE fe re)) (hs:starEach [e] X.env=[(false,eval e X.env)]:=by rfl) :
  PE X (.Call (.Name "dict" p) [e] [] pos) (gE (b1 rW fe) true):=by
 intro pins s σ H Q I ⟨ρ,d,E,h,q⟩;obtain ⟨d0,h1,h2⟩:=aR h;unfold rW at h2;split at h2
 rotate_left
 ·cases h2
 rename_i xs;split at h2
 rotate_left
 ·cases h2
 rename_i ps hps;split at h2
 rotate_left
 ·cases h2
 rename_i hb;cases h2;have hb:=of_decide_eq_true hb;refine wpAny_Call_Name_kw (nM I hg hm zK ?_);refine PyProof.Rows.callWith_type1 ?_ hs rfl;rw [hs];show wpAny _ _ (spliced [(false,eval e X.env)]) _ _ s;refine Calls.spliced_cons (thn (he pins s σ H (fun v H1=>bQ H H1/\Rep All H1 v (.lst xs)) I ⟨ρ,_,E,h1,fun v H1 s1 r1 _=>⟨s1,r1⟩⟩) fun u s1 ⟨x,H1,I1,ru,sm,rx⟩=>?_);obtain ⟨a,vs,rfl,ea,rr⟩:∃a vs,x=.ref a/\H1 a=some (.lst vs)/\a_ All H1 vs xs:=by
  cases rx with
  | lst e p r=>exact ⟨_,_,rfl,e,r⟩
 cases ru;refine Calls.spliced_nil ?_;obtain ⟨hz,its,nl,rv,hl⟩:vs.length<=sizeLine/\∃(its:List Value) (n:Nat),Vals vs its/\s1.heap.get? a=some {cls:=.type "list",data:=.seq its.toArray n}:=I1.hok a _ ea;obtain ⟨kvs,prs,g1,g2,g3,g4,g5⟩:=uY I1 rr rv hps;have hlen:its.length<=1000:=by rw [<-rv.length,rr.length];exact hb
 obtain ⟨hp,g,dr,tk,os⟩:=s1;refine Wl.GX (knd:=cV X.prog X.w) (ps:=prs) (items:=its.toArray) (I1.ok.hd hc) (by lia) hl ⟨by rw [List.size_toArray];exact g4,fun i kv hi=>?_⟩ (by rw [List.size_toArray];lia) fun h' tk' hd kp=>?_
 ·obtain ⟨z0,p,o,n,z1,z2⟩:=g5 i kv hi;exact ⟨z0,p,o,n,by simpa using z1,z2⟩
 ·have hfr:H1 hp.objs.size=none:=I1.hok.fresh (Nat.le_refl _);have rel:KT H1 (jP [] kvs) (Wl.pI [] prs):=zT g1 .nil;have hz2:(jP [] kvs).length<=sizeLine:=by
   have:=qU kvs [];have l1:kvs.length=prs.length:=Paired.length g1;rw [List.length_nil] at this;rw [sizeLine_eq];lia
  obtain ⟨rk,nd⟩:=qT (kvs:=[]) g2 jR.nil List.nodup_nil;have sp:bQ H1 (upd H1 hp.objs.size (.dT (jP [] kvs))):=bQ.upd hfr;have rk2:∀{P:Addr->Prop},jR P (upd H1 hp.objs.size (.dT (jP [] kvs))) (jP [] kvs) (jO [] ps):=fun {P}=>(rk.keep (.same sp) fun _ h=>h).bI (iD g3 rfl)
  obtain ⟨o,es,ep,k1,k2,k3,k4,_,k6⟩:=hd;refine ⟨.ref hp.objs.size,_,I1.laid (a:=hp.objs.size) (t':=tk') (o:=.dT (jP [] kvs)) kp (Nat.le_refl _) ⟨hz2,beq_eq_false_iff_ne.mpr ?_,_,rel.keeps fun b ys e=>sp _ _ e,o,es,ep,k1,k2,k3,k4,k6⟩,rfl,?_⟩
  ·exact Ne.symm (Nat.ne_of_lt I1.big)
  ·exact q _ _ (sm.trans sp) (.dT aK trivial rk2 nd) fun _=>.dT aK (sm.free hfr) rk2 nd
end
end Mi
end
section
namespace Mi
open PySem L2 PySem.SeqAt PySem.Spec PyProof.Rows
inductive Srx where
 | par (i:Nat)
 | exp (f:FE)
noncomputable def Srx.ev (ρ:List D):Srx->Res D
 | .par i=>cL i ρ
 | .exp f=>f ρ
def okF (d:D):Bool:=d.pure||inner d
noncomputable def evS (ρ:List D):List (Str×Srx)->Res (List (Str×D))
 | []=>.ok []
 | (f,s)::r=>do
  let d <- s.ev ρ
  let ds <- evS ρ r
  if okF d then .ok ((f,d)::ds) else .bad
noncomputable def zU (c f:Str) (fa:FE):FE:=fun ρ=>do
 let d <- fa ρ
 match d with
 | .ins c' fs=>if decide (c'=c) then Res.ofOpt (fs.lookup f) else .bad
 | _=>.bad
noncomputable def R7 (c:Str) (l:List (Str×Srx)) (n:Nat) (fa:FA):FE:=fun ρ=>do
 let ds <- fa ρ
 if decide (ds.length=n)&&D.aN ds then (do let fs <- evS (.uD::ds) l;.ok (.ins c fs)) else .bad
noncomputable def aGq:HO->Bool
 | .tup _=>true
 | .frz _ _=>true
 | .ext _=>true
 | _=>false
variable [KFrag]
def N8 (H H':Hp):Prop:=∀a o,H a=some o->aGq o=true->H' a=some o
mutual
theorem Rep.jT {P P':Addr->Prop} {H H':Hp} (k:N8 H H'):∀{v:V} {d:D},Rep P H v d->d.pure=true->Rep P' H' v d
 | _,_,.non,_=>.non
 | _,_,.bl b,_=>.bl b
 | _,_,.int i,_=>.int i
 | _,_,.str x,_=>.str x
 | _,_,.tup e r,h=>.tup (k _ _ e rfl) (a_.jT k r (by rw [D.pure] at h;exact h))
 | _,_,.lst _ _ _,h=>by rw [D.pure] at h;cases h
 | _,_,.cel _ _ _,h=>by rw [D.pure] at h;cases h
 | _,_,.frz e r,h=>.frz (e.imp (fun ⟨o,e⟩=>⟨o,k _ _ e rfl⟩) id) (a_.jT k r (by rw [D.pure] at h;exact h))
 | _,_,.dK _ _ _ _,h=>by rw [D.pure] at h;cases h
 | _,_,.dT _ _ _ _,h=>by rw [D.pure] at h;cases h
 | _,_,.fdK _ _ _,h=>by rw [D.pure] at h;cases h
 | _,_,.fdT _ _ _,h=>by rw [D.pure] at h;cases h
 | _,_,.exc _ _ _,h=>by rw [D.pure] at h;cases h
 | _,_,.ins _ _ _,h=>by rw [D.pure] at h;cases h
theorem a_.jT {P P':Addr->Prop} {H H':Hp} (k:N8 H H'):∀{v:List V} {d:List D},a_ P H v d->D.aN d=true->a_ P' H' v d
 | _,_,.nil,_=>.nil
 | _,_,.cons r t,h=>by
  rw [D.aN,Bool.and_eq_true] at h;exact .cons (Rep.jT k r h.1) (a_.jT k t h.2)
end
theorem jA.jT {P P':Addr->Prop} {H H':Hp} (k:N8 H H'):∀{v:List (Key×V)} {d:List (D×D)},jA P H v d->D.aN (d.map (·.2))=true->jA P' H' v d
 | _,_,.nil,_=>.nil
 | _,_,.cons r t,h=>by
  rw [List.map_cons,D.aN,Bool.and_eq_true] at h;exact .cons (r.jT k h.1) (jA.jT k t h.2)
theorem jR.jT {P P':Addr->Prop} {H H':Hp} (k:N8 H H'):∀{v:List (List Key×V)} {d:List (D×D)},jR P H v d->D.aN (d.map (·.2))=true->jR P' H' v d
 | _,_,.nil,_=>.nil
 | _,_,.cons r t,h=>by
  rw [List.map_cons,D.aN,Bool.and_eq_true] at h;exact .cons (r.jT k h.1) (jR.jT k t h.2)
def qW (x:Addr) (H H':Hp):Prop:=∀a o,H a=some o->a≠x->H' a=some o
theorem qW.upd {x:Addr} {H:Hp} {o:HO}:qW x H (upd H x o):=fun a o' e n=>by rw [bG n];exact e
theorem qW.same {x:Addr} {H H':Hp} (s:bQ H H'):qW x H H':=fun a o e _=>s a o e
theorem qW.trans {x:Addr} {H H1 H2:Hp} (p:qW x H H1) (q:qW x H1 H2):qW x H H2:=fun a o e n=>q a o (p a o e n) n
theorem qW.use {x C dx:Addr} {H H':Hp} {fs:List (Str×V)} (b:qW x H H') (hx:H x=some (.ins C dx fs)):N8 H H':=fun a o e u=>b a o e fun z=>by
 subst z;rw [hx] at e;cases e;cases u
theorem Rep.okK {P P':Addr->Prop} {x C dx:Addr} {H H':Hp} {fs:List (Str×V)} (b:qW x H H') (hx:H x=some (.ins C dx fs)) (m:∀a,P a->P' a) {v:V} {d:D} (r:Rep P H v d) (h:okF d=true):Rep P' H' v d:=by
 have k:=b.use hx;rcases (Bool.or_eq_true _ _).mp h with h|h
 ·exact r.jT k h
 ·cases r with
  | lst e p r=>exact .lst (b _ _ e (lZ e hx (by intro z;cases z))) (m _ p) (r.jT k h)
  | cel e p r=>exact .cel (b _ _ e (lZ e hx (by intro z;cases z))) (m _ p) (r.jT k h)
  | dK e p r n=>exact .dK (b _ _ e (lZ e hx (by intro z;cases z))) (m _ p) (r.jT k h) n
  | dT e p r n=>exact .dT (b _ _ e (lZ e hx (by intro z;cases z))) (m _ p) (r.jT k h) n
  | _=>cases h
theorem lN.okK {P P':Addr->Prop} {x C dx:Addr} {H H':Hp} {fs:List (Str×V)} (b:qW x H H') (hx:H x=some (.ins C dx fs)) (m:∀a,P a->P' a):∀{v:List (Str×V)} {d:List (Str×D)},lN P H v d->(d.all fun p=>okF p.2)=true->lN P' H' v d
 | _,_,.nil,_=>.nil
 | _,_,.cons r t,h=>by
  rw [List.all_cons,Bool.and_eq_true] at h;exact .cons (r.okK b hx m h.1) (lN.okK b hx m t h.2)
theorem lN.snoc {P:Addr->Prop} {H:Hp} {f:Str} {w:V} {e:D} (r1:Rep P H w e):∀{v:List (Str×V)} {d:List (Str×D)},lN P H v d->lN P H (v++[(f,w)]) (d++[(f,e)])
 | _,_,.nil=>.cons r1 .nil
 | _,_,.cons r t=>.cons r (lN.snoc r1 t)
theorem lN.look {P:Addr->Prop} {H:Hp} {f:Str} {e:D}:∀{v:List (Str×V)} {d:List (Str×D)},lN P H v d->d.lookup f=some e->∃w,v.lookup f=some w/\Rep P H w e
 | _,_,.nil,h=>by cases h
 | _,_,.cons (f:=g) r t,h=>by
  rw [List.lookup_cons] at h ⊢;split at h
  ·cases h;exact ⟨_,rfl,r⟩
  ·exact lN.look t h
theorem zV {f:Str} {y:V}:∀{vf:List (Str×V)},f∉vf.map (·.1)->oM f y vf=vf++[(f,y)]
 | [],_=>rfl
 | (g,x)::r,h=>by
  rw [List.map_cons,List.mem_cons,not_or] at h;show (if g=f then (g,y)::r else (g,x)::oM f y r)=_;rw [if_neg (fun z=>h.1 z.symm),zV h.2];rfl
noncomputable def sT:Srx->TE
 | .par i=>sX i
 | .exp f=>gE f true
noncomputable def aDn (K:PySem.W.Frag):List (Str×Srx)->TS
 | []=>aA4
 | (f,s)::r=>T6 (aDx K (sX 0) (sT s) f) (aDn K r)
noncomputable def RFx (H1:Hp) (us:List V) (ds:List D) (H:Hp) (vf:List (Str×V)) (fs:List (Str×D)):Prop:=∀P:Addr->Prop,(∀a,H1 a=none->P a)->a_ P H1 us ds->lN P H vf fs
theorem U_ {K:PySem.W.Frag} {C x dx:Addr} {σ:L2.St} {D':Ends} {H1:Hp} {us:List V} {ds ρ:List D} (cls:Cls K C) (hx0:σ[0]?=some (some (.ref x))) (hn:H1 x=none) (hr:a_ All H1 us ds) (hρ:∀i d,cL i ρ=.ok d->∃v,σ[i]?=some (some v)/\∀P,a_ P H1 us ds->Rep P H1 v d):∀(l:List (Str×Srx)) (H:Hp) (vf:List (Str×V)) (fs0 fs:List (Str×D)),H x=some (.ins C dx vf)->bQ H1 H->RFx H1 us ds H vf fs0->(fs0.all fun p=>okF p.2)=true->evS ρ l=.ok fs->(vf.map (·.1)++l.map (·.1)).Nodup->(∀f∈l.map (·.1),fY K C f)->vf.length+l.length<1000->
  (∀H' vf',bQ H1 H'->H' x=some (.ins C dx vf')->RFx H1 us ds H' vf' (fs0++fs)->D'.nx σ H')->aDn K l D' σ H
 | [],H,vf,fs0,fs,hx,sm,rf,ok0,he,nd,na,hl,q=>by
  cases he;exact q H vf sm hx (by rw [List.append_nil];exact rf)
 | (f,s)::r,H,vf,fs0,fs,hx,sm,rf,ok0,he,nd,na,hl,q=>by
  obtain ⟨d,h1,he⟩:=aR he;obtain ⟨ds',h2,he⟩:=aR he;split at he
  ·rename_i hk;cases he;have hlf:f∉vf.map (·.1):=fun z=>(List.nodup_append.mp nd).2.2 f z f (by simp) rfl
   have key:∀y H2,bQ H H2->(∀P,(∀a,H1 a=none->P a)->a_ P H1 us ds->Rep P H2 y d)->∃a C' dx' fs',sX 0 σ H2 fun x' H3=>x'=.ref a/\H3 a=some (.ins C' dx' fs')/\Cls K C'/\fY K C' f/\fs'.length<1000/\aDn K r D' σ (upd H3 a (.ins C' dx' (oM f y fs'))):=by
    intro y H2 s2 ry;have hx2:=s2 _ _ hx;refine ⟨x,C,dx,vf,_,hx0,rfl,hx2,cls,na f (by simp),by lia,?_⟩;have sm':bQ H1 (upd H2 x (.ins C dx (oM f y vf))):=fun a o e=>by
     rw [bG (fun z=>by subst z;rw [hn] at e;cases e)];exact s2 _ _ (sm _ _ e)
    rw [zV hlf] at sm' ⊢;refine U_ cls hx0 hn hr hρ r _ (vf++[(f,y)]) (fs0++[(f,d)]) ds' aK sm' (fun P hP hR=>?_) (by rw [List.all_append,ok0];simp [hk]) h2 ?_ (fun g hg=>na g (by simp at hg ⊢;exact .inr hg)) (by simp at hl ⊢;lia) (fun H' vf' a b c=>q H' vf' a b (by simpa using c))
    ·have z1:=(rf P hP hR)
     have z2:lN P H2 vf fs0:=z1.keep (fun a o e _=>s2 _ _ e) fun _ h=>h
     exact lN.snoc ((ry P hP hR).okK qW.upd hx2 (fun _ h=>h) hk) (z2.okK qW.upd hx2 (fun _ h=>h) ok0)
    ·simpa [List.append_assoc] using nd
   cases s with
   | par i=>
    obtain ⟨v,e1,e2⟩:=hρ i d h1;obtain ⟨a,C',dx',fs',z⟩:=key v H (bQ.refl H) fun P hP hR=>(e2 P hR).same sm
    obtain ⟨v0,w1,w2⟩:=z;exact ⟨v,e1,v0,w1,a,C',dx',fs',w2⟩
   | exp g=>
    refine ⟨ρ,d,fun i hi=>?_,h1,fun y H2 s2 r2 n2=>?_⟩
    ·obtain ⟨v,e1,e2⟩:=hρ i (ρ.getD i .uD) (by
      unfold cL;split
      ·rename_i q;exact absurd q hi
      ·rfl)
     exact ⟨v,e1,(e2 All hr).same sm⟩
    ·obtain ⟨a,C',dx',fs',z⟩:=key y H2 s2 fun P hP hR=>(n2 rfl).mono fun a ha=>hP a (by
      cases hq:H1 a with
      | none=>rfl
      | some o=>have:=sm a o hq;rw [show H a=none from ha] at this;cases this)
     obtain ⟨v0,w1,w2⟩:=z;exact ⟨v0,w1,a,C',dx',fs',w2⟩
  ·cases he
noncomputable def R8 (C:Addr) (l:List (Str×Srx)) (n:Nat):Sp:=fun vs H Q _=>∃x dx H1 us ds fs,vs=.ref x::us/\us.length=n/\H x=some (.ins C dx [])/\H1 x=none/\bQ H1 H/\a_ All H1 us ds/\evS (.uD::ds) l=.ok fs/\∀H' vf,bQ H1 H'->H' x=some (.ins C dx vf)->RFx H1 us ds H' vf fs->Q .non H'
theorem zW {H:Hp}:∀{us:List V} {ds:List D} {i:Nat} {d:D},us.length=ds.length->ds[i]?=some d->∃v,us[i]?=some v/\∀P,a_ P H us ds->Rep P H v d
 | [],[],_,_,_,h=>by simp at h
 | u::us,e::ds,0,d,_,h=>by
  simp at h;subst h;exact ⟨u,rfl,fun P r=>by cases r;assumption⟩
 | u::us,e::ds,i+1,d,hl,h=>by
  obtain ⟨v,h1,h2⟩:=zW (H:=H) (us:=us) (ds:=ds) (i:=i) (d:=d) (by simpa using hl) (by simpa using h);exact ⟨v,by simpa using h1,fun P r=>by cases r with|cons _ t=>exact h2 P t⟩
theorem VB {P:Program} {w:World} {K:PySem.W.Frag} {mg:Str->Option Value} {base:Heap} {x qual:Str} {st:Stmt} {fad C:Addr} {fd:FuncData} {N ps:List Str} {k:Nat} {l:List (Str×Srx)} (F:Fun K x qual st fad fd) (S:bW N ps (aJ st)) (hN:N.length=ps.length) {n:Nat} (hp:ps.length=n+1) (cls:Cls K C) (nd:(l.map (·.1)).Nodup) (na:∀f∈l.map (·.1),fY K C f) (hl:l.length<1000)
  (hbody:∀(cdv:Value) (A:Around) (outer:List Env) (s:Shared) (H:Hp) (E:XK),jH k (A.deeper (envOfC qual (aJ st) s.heap.objs.size fad cdv))->PSs (CT CX0 P w K mg base N qual (aJ st) fad cdv A outer s H E).nox (cF st) (aDn K l)):mC P w K mg base CX0 (k+1) fad fd ps (R8 C l n):=by
 refine F.ok S (fun vs H Q E ⟨_,_,_,us,_,_,e,h,_⟩=>by rw [e,hp,List.length_cons,h]) fun cdv A outer s H vs Q E hr ⟨x,dx,H1,us,ds,fs,e,hu,hx,hn,sm,r,he,q⟩=>⟨_,hbody cdv A outer s H E hr,?_⟩
 subst e;have hst:L2.start N (V.ref x::us)=some (.ref x)::us.map some:=by
  unfold L2.start;rw [hN,hp,List.length_cons,hu,Nat.sub_self];simp
 rw [hst];refine U_ (ρ:=.uD::ds) cls rfl hn r (fun i d hd=>?_) l H [] [] fs hx sm (fun _ _ _=>.nil) rfl he (by simpa using nd) na (by simpa using hl) fun H' vf s' hx' rf=>q H' vf s' hx' (by simpa using rf)
 match i,hd with
 | 0,hd=>cases hd
 | i+1,hd=>
  have hd':cL i ds=.ok d:=hd;have hg:ds[i]?=some d:=by
   unfold cL at hd';rw [List.getD_eq_getElem?_getD] at hd';cases hq:ds[i]? with
   | none=>rw [hq] at hd';cases hd'
   | some e=>
    rw [hq] at hd';have:e=d:=by
     revert hd'
     cases e <;> intro z <;> first|(cases z;done)|(cases z;rfl)
    rw [this]
  obtain ⟨v,h1,h2⟩:=zW (H:=H1) r.length hg;exact ⟨v,by simpa using h1,h2⟩
noncomputable def Z3 (P:Program) (w:World) (K:PySem.W.Frag) (mg:Str->Option Value) (base:Heap) (k:Nat) (c:Str) (l:List (Str×Srx)) (n:Nat):Prop:=
 ∃(C fi:Addr) (fd:FuncData) (ps:List Str),PySem.W.nsIn K mainGlobals c=some (some (.ref C))/\mg c=some (.ref C)/\Mk K C fi/\mC P w K mg base CX0 k fi fd ps (R8 C l n)/\Binds K fd ps []
noncomputable def tMk (K:PySem.W.Frag) (c:Str) (l:List (Str×Srx)) (n:Nat) (t:TA):TE:=fun σ H Q=>t σ H fun us H1=>∃ds fs,us.length=n/\a_ All H1 us ds/\evS (.uD::ds) l=.ok fs/\∀C x dx H' vf,PySem.W.nsIn K mainGlobals c=some (some (.ref C))->H1 x=none->bQ H1 H'->H' x=some (.ins C dx vf)->RFx H1 us ds H' vf fs->Q (.ref x) H'
section
variable {X:Cx} {e:Expr} {es:List Expr} {pos p:Pos} {x c:Str} {k k' n:Nat} {l:List (Str×Srx)} {t:TA} {fa:FA} {rr:Bool}
theorem aC1 (R:Z3 X.prog X.w X.K X.mg X.base k x l n) (hr:jH k' X.A) (hkk:k+1<=k') (hg:Gl X x) (ha:PA X (e::es) t) (hdb:nDb x:=by decide) (he:starEach (e::es) X.env=(false,eval e X.env)::starEach es X.env:=by rfl) (hpl:(backTo pos (starEach es X.env)).any (·.1)=false:=by rfl) (hmono:∀(σ:L2.St) (H:Hp) (Q Q':List V->Hp->Prop),(∀vs H',Q vs H'->Q' vs H')->t σ H Q->t σ H Q') :
  PE X (.Call (.Name x p) (e::es) [] pos) (tMk X.K x l n t):=by
 obtain ⟨C,fi,fd,ps,hn,hm,M,F,hb⟩:=R;refine PE.imp (WM M F (hr.mono hkk) hg hm hb .nil DK ha hdb he hpl) fun σ H Q h=>hmono σ H _ _ ?_ h
 rintro us H1 ⟨ds,fs,hl,r,he,q⟩ y dx hy hdx hne;refine ⟨y,dx,H1,us,ds,fs,by rw [List.append_nil],hl,aK,hy,fun a o e=>?_,r,he,fun H' vf s' hx' rf=>⟨rfl,q C y dx H' vf hn hy s' hx' rf⟩⟩;rw [bG (b8 e hy),bG (b8 e hdx)];exact e
theorem YJ {σ:L2.St} {H:Hp} {Q Q':List V->Hp->Prop} (hq:∀vs H',Q vs H'->Q' vs H') (h:gA fa rr σ H Q):gA fa rr σ H Q':=by
 obtain ⟨ρ,ds,E,h1,q⟩:=h;exact ⟨ρ,ds,E,h1,fun vs H' s r n=>hq _ _ (q vs H' s r n)⟩
theorem YK (hK:KFrag.K=X.K) (R:Z3 X.prog X.w X.K X.mg X.base k x l n) (hr:jH k' X.A) (hkk:k+1<=k') (hg:Gl X x) (ha:PA X (e::es) (gA fa rr)) (hdb:nDb x:=by decide) (he:starEach (e::es) X.env=(false,eval e X.env)::starEach es X.env:=by rfl) (hpl:(backTo pos (starEach es X.env)).any (·.1)=false:=by rfl) :
  PE X (.Call (.Name x p) (e::es) [] pos) (gE (R7 x l n fa) true):=PE.imp (aC1 R hr hkk hg ha hdb he hpl fun _ _ _ _=>YJ) fun σ H Q ⟨ρ,d,E,h,q⟩=>by
 obtain ⟨ds,h1,h⟩:=aR h;split at h
 ·rename_i hc;rw [Bool.and_eq_true] at hc;obtain ⟨fs,h2,h⟩:=aR h;cases h;refine ⟨ρ,ds,E,h1,fun vs H1 s1 r1 _=>⟨ds,fs,by rw [r1.length];exact of_decide_eq_true hc.1,r1,h2,fun C y dx H' vf hn hy s' hx rf=>?_⟩⟩;have hn':PySem.W.nsIn KFrag.K mainGlobals x=some (some (.ref C)):=by rw [hK];exact hn
  refine q _ _ (s1.trans s') (.ins hn' hx (rf All (fun _ _=>trivial) r1)) fun _=>.ins hn' hx (rf (New H) (fun a ha=>?_) (r1.bI hc.2))
  cases hq:H a with
  | none=>exact hq
  | some o=>have:=s1 a o hq;rw [ha] at this;cases this
 ·cases h
noncomputable def p6 (K:PySem.W.Frag) (c f:Str):Prop:=∀C,PySem.W.nsIn K mainGlobals c=some (some (.ref C))->Cls K C/\fY K C f
theorem pK {f:Str} {fe:FE} {re:Bool} (hK:KFrag.K=X.K) (R:p6 X.K c f) (he:PE X e (gE fe re)) (hb:attributeBase e f X.env (eval e X.env)=eval e X.env:=by rfl):PE X (.Attribute e f pos) (gE (zU c f fe) false):=PE.imp (yD he hb) fun σ H Q ⟨ρ,d,E,h,q⟩=>by
 obtain ⟨d0,h1,h2⟩:=aR h;split at h2
 ·rename_i c' fs;split at h2
  ·rename_i hc;have hc:=of_decide_eq_true hc;subst hc;refine ⟨ρ,_,E,h1,fun v H1 s1 r1 _=>?_⟩;cases r1 with
   | ins hn hx rf=>
    rw [hK] at hn;obtain ⟨k1,k2⟩:=R _ hn;cases hl:fs.lookup f with
    | none=>rw [hl] at h2;cases h2
    | some d1=>
     rw [hl] at h2;cases h2;obtain ⟨w,g1,g2⟩:=rf.look hl;exact ⟨_,_,_,_,w,rfl,hx,k1,k2,g1,q w H1 s1 g2 (fun z=>by cases z)⟩
  ·cases h2
 ·cases h2
end
end Mi
end
section
namespace Mi
open PySem L2 PySem.SeqAt PySem.Spec PyProof.Rows
noncomputable def YL (c m:Str) (f:List D->Res D) (n:Nat) (fo:FE) (fa:FA):FE:=fun ρ=>do
 let d <- fo ρ
 let ds <- fa ρ
 match d with
 | .ins c' fs=>if decide (c'=c)&&((fs.lookup m).isNone&&decide (ds.length+1=n)) then f (.ins c' fs::ds) else .bad
 | _=>.bad
noncomputable def uZ (i:Nat):FX:=fun ρ=>match sY (ρ.getD i .uD) with
 | some xs=>(match xs[xs.length-1]? with|some x=>.ok (x,ρ.set i (F_ (ρ.getD i .uD) xs.dropLast))|none=>.bad)
 | none=>.bad
noncomputable def wZ (i:Nat) (f:FE):FS:=fun ρ=>do
 let d <- f ρ
 match sY (ρ.getD i .uD) with
 | some xs=>if decide (xs.length<lim)&&d.pure then .ok (.nx (ρ.set i (F_ (ρ.getD i .uD) (xs++[d])))) else .bad
 | none=>.bad
variable [KFrag]
theorem lN.pL {P:Addr->Prop} {H:Hp} {f:Str}:∀{v:List (Str×V)} {d:List (Str×D)},lN P H v d->d.lookup f=none->v.lookup f=none
 | _,_,.nil,_=>rfl
 | _,_,.cons (f:=g) r t,h=>by
  rw [List.lookup_cons] at h ⊢;split at h
  ·cases h
  ·exact lN.pL t h
noncomputable def aEp (P:Program) (w:World) (K:PySem.W.Frag) (mg:Str->Option Value) (base:Heap) (k:Nat) (c m:Str) (n:Nat) (f:List D->Res D):Prop:=
 ∃(C fm:Addr) (fd:FuncData) (ps:List Str),PySem.W.nsIn K mainGlobals c=some (some (.ref C))/\Cls K C/\Meth K C m fm/\mC P w K mg base CX0 k fm fd ps (spD f n)/\Binds K fd ps []
section
variable {X:Cx} {own:Nat->Bool} {e o:Expr} {es:List Expr} {pos p apos:Pos} {c m:Str} {k k' n:Nat} {f:List D->Res D} {fa:FA} {fo fe:FE} {ra ro re:Bool}
theorem YM {pl:Sem Bool} (hK:KFrag.K=X.K) (R:aEp X.prog X.w X.K X.mg X.base k c m n f) (hr:jH k' X.A) (hkk:k<=k') (ho:PE X o (gE fo ro)) (ha:PA X (e::es) (gA fa ra))
  (hst:starEach (e::es) X.env=(false,eval e X.env)::starEach es X.env:=by rfl) (hpl:(backTo pos (starEach es X.env)).any (·.1)=false:=by rfl)
  (ht:eval (.Call (.Attribute o m apos) (e::es) [] pos) X.env=(do
   let ov <- eval o X.env
   standAt apos.atName
   let (f,first) <- holding [ov] (getMethod ov m pl)
   callWith pos f first (backTo pos (starEach (e::es) X.env)) (backToKw pos (keywordEach [] X.env))):=by rfl) :
  PE X (.Call (.Attribute o m apos) (e::es) [] pos) (gE (YL c m f n fo fa) true):=by
 obtain ⟨C,fm,fd,ps,hn,cl,M,F,hb⟩:=R;refine PE.imp (JG (pl:=pl) ho cl M F (hr.mono hkk) hb .nil DK ha hst hpl ht) fun σ H Q ⟨ρ,d,E,h,q⟩=>?_
 obtain ⟨d0,h1,h2⟩:=aR h;obtain ⟨ds,h3,h4⟩:=aR h2;split at h4
 ·rename_i c' fs;split at h4
  ·rename_i hc;rw [Bool.and_eq_true,Bool.and_eq_true,Option.isNone_iff_eq_none] at hc;obtain ⟨hc1,hc2,hc3⟩:=hc;have hc1:=of_decide_eq_true hc1;have hc3:=of_decide_eq_true hc3;subst hc1;refine ⟨ρ,_,E,h1,fun v H1 s1 r1 _=>?_⟩;have r1':=r1;cases r1 with
   | ins hn' hx rf=>
    rw [hK,hn] at hn';cases hn';refine ⟨_,_,_,rfl,hx,rf.pL hc2,ρ,ds,E.same s1,h3,fun vs H2 s2 r2 _=>?_⟩;refine ⟨.ins c' fs::ds,d,by rw [List.length_cons];exact hc3,by rw [List.append_nil];exact .cons (r1'.same s2) r2,h4,q.imp (s1.trans s2) id⟩
  ·cases h4
 ·cases h4
theorem YQ {i:Nat} {x:Str} {p1 apos cpos:Pos} (ho:own i=true) (hN:X.N[i]?=some x) (hv:Vis X.env.scope x) (hd:nDb x:=by decide) (hcd:nCd x:=by decide)
  (hbase:attributeBase (.Name x p1) "pop" X.env (eval (.Name x p1) X.env)=eval (.Name x p1) X.env:=by rfl)
  (hline:(apos.endLine==cpos.line)=true:=by rfl) :
  PE X (.Call (.Attribute (.Name x p1) "pop" apos) [] [] cpos) (gX own (uZ i)):=
 PE.imp (JR PySem.F.plainAttrs_list PySem.F.slot_list_pop PySem.F.type_list_pop JT (bN hN hv hd hcd) hbase hline) fun σ H Q ⟨ρ,d,ρ',E,h,q⟩=>by
 unfold uZ at h;split at h
 ·rename_i xs hx;split at h
  ·rename_i dx hdx;cases h;obtain ⟨a,vs,hσ,hl,rr,hin,r,_⟩:=rR E ho hx;obtain ⟨v,hvx,rv⟩:=rr.get hdx;have hlen:=rr.length;refine ⟨_,hσ,.inl ⟨rfl,vs,.of hl⟩,a,vs,v,rfl,rfl,hl,by rw [hlen];exact hvx,?_⟩;have pall:∀y∈xs,y.pure=true:=fun y hy=>dR.mp hin y hy
   have pdx:d.pure=true:=pall d (List.mem_of_getElem? hdx);have pe:D.aN xs.dropLast=true:=dR.mpr fun y hy=>pall y (List.dropLast_subset _ hy)
   have er:a_ All H vs.dropLast xs.dropLast:=by
    rw [List.dropLast_eq_take,List.dropLast_eq_take,hlen];exact rr.take _
   obtain ⟨E2,k2⟩:=E.mut (o:=.lst vs.dropLast) (d:=F_ (ρ.getD i .uD) xs.dropLast) ho hσ rfl (zN r hx aK trivial (er.upd pe hl rfl)) (by rw [rO hx];exact pe);have r1:=(a_.cons rv .nil).upd (o:=.lst vs.dropLast) (by rw [D.aN,pdx];rfl) hl rfl;cases r1 with
   | cons r1 _=>exact q _ _ k2 E2 (.set ho) (r1.bI pdx)
  ·cases h
 ·cases h
theorem N_ {i:Nat} {x:Str} {p1 apos cpos:Pos} (ho:own i=true) (hN:X.N[i]?=some x) (hv:Vis X.env.scope x) (he:PE X e (gE fe re)) (hd:nDb x:=by decide) (hcd:nCd x:=by decide)
  (hbase:attributeBase (.Name x p1) "append" X.env (eval (.Name x p1) X.env)=eval (.Name x p1) X.env:=by rfl)
  (hs1:starEach [e] X.env=(false,eval e X.env)::starEach [] X.env:=by rfl)
  (hfew:((backTo cpos (starEach [e] X.env)).all (fun x=>!x.1)&&(backToKw cpos (keywordEach [] X.env)).all (fun x=>x.1.isSome)
   && decide (([e]:List Expr).length+([]:List Keyword).length+(if ([]:List Keyword).isEmpty then 0 else 1)<30))=true:=by rfl)
  (hline:(apos.endLine==cpos.line)=true:=by rfl)
  (hs:swapsWith (.Call (.Attribute (.Name x p1) "append" apos) [e] [] cpos) none pos.line X.env=pure false:=by rfl) :
  PS X (.Expr (.Call (.Attribute (.Name x p1) "append" apos) [e] [] cpos) pos) (tS own (wZ i fe)):=
 PS.imp (oH (Q3 PySem.F.plainAttrs_list PySem.F.slot_list_append PySem.F.type_list_append oX (bN hN hv hd hcd) (c7 he jJ hs1) hbase hfew hline hs1 rfl) hs) fun D' σ H ⟨ρ,fl,E,h,q⟩=>by
 obtain ⟨d,h1,h2⟩:=aR h;split at h2
 ·rename_i xs hx;split at h2
  ·rename_i hk;cases h2;rw [Bool.and_eq_true] at hk;obtain ⟨a,vs,hσ,hl,rr,hin,r,_⟩:=rR E ho hx;have pn:D.aN (xs++[d])=true:=by
    rw [j9];simp only [Bool.and_eq_true];exact ⟨hin,by simp [D.aN,hk.2]⟩
   refine ⟨_,hσ,.inl ⟨rfl,vs,.of hl⟩,ρ,d,E.er,h1,fun v H' s rv _=>⟨a,vs,v,rfl,rfl,s _ _ hl,by rw [rr.length];exact J_ hk.1,?_⟩⟩;have E':=E.same s;have hl':=s _ _ hl;obtain ⟨E2,k2⟩:=E'.mut (o:=.lst (vs++[v])) (d:=F_ (ρ.getD i .uD) (xs++[d])) ho hσ rfl (zN (r.same s) hx aK trivial (((rr.same s).snoc rv).upd pn hl' rfl)) (by rw [rO hx];exact pn);exact q _ _ ((KU.same s).trans k2) E2
  ·cases h2
 ·cases h2
end
def own1 (j:Nat):Nat->Bool:=fun i=>i==j
noncomputable def spW (f:FS) (m j n:Nat):Sp:=fun vs H Q _=>∃(a:Addr) (ds xs ρ' ys:List D),vs.length=n/\ds.length=n/\j<n/\ES (own1 j) H (vs.map some) ds/\ds.getD j .uD=.cel a xs/\f (ds++List.replicate (m-n) .uD)=.ok (.nx ρ')/\ρ'.getD j .uD=.cel a ys/\
 ∀H',qW a H H'->Rep All H' (.ref a) (.cel a ys)->D.aN ys=true->Q .non H'
section
variable {own:Nat->Bool}
theorem R9 {N:List Str} {f:FS} {vs:List V} {H:Hp} {Q:VK} {E:XK} {j n:Nat} (hN:n<=N.length) (hown:∀i,i<n->own i=(i==j)) (h0:spW f N.length j n vs H Q E):tS own f {nx:=fun _ H'=>Q .non H',rt:=Q} (L2.start N vs) H:=by
 obtain ⟨a,ds,xs,ρ',ys,hvs,hds,hj,E0,hcj,h1,h2,q⟩:=h0;have hst:L2.start N vs=vs.map some++List.replicate (N.length-n) none:=by
  show vs.map some++List.replicate (N.length-vs.length) none=_;rw [hvs]
 have low:∀i,i<n->(L2.start N vs)[i]?=(vs.map some)[i]?:=fun i hi=>by
  rw [hst,List.getElem?_append_left (by rw [List.length_map,hvs];exact hi)]
 have high:∀i w,n<=i->(L2.start N vs)[i]?≠some (some w):=fun i w hi e=>by
  rw [hst,List.getElem?_append_right (by rw [List.length_map,hvs];exact hi),List.getElem?_replicate] at e;split at e <;> cases e
 have hO:∀b,Own own (L2.start N vs) b↔Own (own1 j) (vs.map some) b:=fun b=>by
  constructor
  ·rintro ⟨i,hi,e⟩;by_cases hin:i<n
   ·rw [hown i hin] at hi;rw [low i hin] at e;exact ⟨i,hi,e⟩
   ·exact absurd e (high _ _ (by lia))
  ·rintro ⟨i,hi,e⟩;have:i=j:=by simpa [own1] using hi
   subst this;exact ⟨i,by rw [hown i hj];simp,by rw [low i hj];exact e⟩
 have hOf:(fun b=>¬Own own (L2.start N vs) b)=fun b=>¬Own (own1 j) (vs.map some) b:=funext fun b=>by rw [hO]
 have lowD:∀i,i<n->(ds++List.replicate (N.length-n) D.uD).getD i D.uD=ds.getD i D.uD:=fun i hi=>by
  rw [List.getD_eq_getElem?_getD,List.getElem?_append_left (by rw [hds];exact hi),<-List.getD_eq_getElem?_getD]
 have ES0:ES own H (L2.start N vs) (ds++List.replicate (N.length-n) .uD):=by
  refine ⟨by rw [hst];simp [hvs,hds],fun i hi=>?_,fun i w hi hw=>?_⟩
  ·by_cases hin:i<n
   ·rw [lowD i hin] at hi ⊢;obtain ⟨w,g1,g2⟩:=E0.at_ i hi;exact ⟨w,by rw [low i hin];exact g1,fun ho=>by rw [hOf];exact g2 (by rw [hown i hin] at ho;exact ho)⟩
   ·exfalso;apply hi;rw [List.getD_eq_getElem?_getD,List.getElem?_append_right (by lia),List.getElem?_replicate];split <;> rfl
  ·by_cases hin:i<n
   ·rw [hown i hin] at hi;rw [low i hin] at hw;rw [lowD i hin];obtain ⟨b,o,g1,g2,g3,g4,g5,g6⟩:=E0.own i w hi hw;refine ⟨b,o,g1,g2,g3,g4,g5,fun k hk hs=>?_⟩;by_cases hkn:k<n
    ·rw [hown k hkn] at hk;rw [low k hkn] at hs;exact g6 k hk hs
    ·exact absurd hs (high _ _ (by lia))
   ·exact absurd hw (high _ _ (by lia))
 have hja:(L2.start N vs)[j]?=some (some (.ref a)):=by
  obtain ⟨w,z1,_⟩:=E0.at_ j (by rw [hcj];intro z;cases z);obtain ⟨b,o,rfl,g2,_⟩:=E0.own j w (by simp [own1]) z1;rw [hcj] at g2;cases rN g2;rw [low j hj];exact z1
 refine ⟨_,.nx ρ',ES0,h1,fun σ' H' ku E'=>?_⟩;obtain ⟨w,z1,_⟩:=E'.at_ j (by rw [h2];intro z;cases z);obtain ⟨b,o,rfl,g4,g5,_⟩:=E'.own j w (by rw [hown j hj];simp) z1;rw [h2] at g4 g5;cases rN g4;refine q H' (fun b o e nb=>(ku b o e fun ⟨i,hi,z⟩=>?_).1) g4 g5;by_cases hin:i<n
 ·rw [hown i hin] at hi;have:i=j:=by simpa using hi
  subst this;rw [hja] at z;cases z;exact nb rfl
 ·exact absurd z (high _ _ (by lia))
end
theorem aEq {P:Program} {w:World} {K:PySem.W.Frag} {mg:Str->Option Value} {base:Heap} {x qual:Str} {k j:Nat} {st:Stmt} {fad:Addr} {fd:FuncData} {N ps:List Str} {f:FS} (F:Fun K x qual st fad fd) (S:bW N ps (aJ st)) (own:Nat->Bool) (hown:∀i,i<ps.length->own i=(i==j)) (hNl:ps.length<=N.length)
  (hbody:∀(cdv:Value) (A:Around) (outer:List Env) (s:Shared) (H:Hp) (E:XK),jH k (A.deeper (envOfC qual (aJ st) s.heap.objs.size fad cdv))->PSs (CT CX0 P w K mg base N qual (aJ st) fad cdv A outer s H E).nox (cF st) (tS own f)):mC P w K mg base CX0 (k+1) fad fd ps (spW f N.length j ps.length):=
 F.ok S (fun vs H Q E ⟨_,_,_,_,_,e,_⟩=>e) fun cdv A outer s H vs Q E hr h=>⟨_,hbody cdv A outer s H E hr,R9 hNl hown h⟩
end Mi
end
section
namespace Mi
open PySem L2 PySem.SeqAt PySem.Spec PyProof.Rows
noncomputable def frD (ws:List D) (i:Nat):D:=.ins "Frame" [("words",.tup ws),("left",.int i),("known",.dct [])]
open Classical in
noncomputable def tkR (f:FS) (m:Nat) (self fr:D) (xs:List D) (w:D):Res (List D):=
 if h:∃ys:List D,∀b,∃ρ',f ([self,.lst [fr],.cel b xs,w]++List.replicate (m-4) .uD)=.ok (.nx ρ')/\ρ'.getD 2 .uD=.cel b ys then .ok h.choose else .bad
theorem aC2 {f:FS} {m:Nat} {self fr w:D} {xs ys:List D} (h:tkR f m self fr xs w=.ok ys):∀b,∃ρ',f ([self,.lst [fr],.cel b xs,w]++List.replicate (m-4) .uD)=.ok (.nx ρ')/\ρ'.getD 2 .uD=.cel b ys:=by
 unfold tkR at h;split at h
 ·rename_i e;cases h;exact e.choose_spec
 ·cases h
theorem aC3 {f:FS} {m:Nat} {self fr w:D} {xs ys:List D} (h:∀b,∃ρ',f ([self,.lst [fr],.cel b xs,w]++List.replicate (m-4) .uD)=.ok (.nx ρ')/\ρ'.getD 2 .uD=.cel b ys):tkR f m self fr xs w=.ok ys:=by
 have e:∃ys:List D,∀b,∃ρ',f ([self,.lst [fr],.cel b xs,w]++List.replicate (m-4) .uD)=.ok (.nx ρ')/\ρ'.getD 2 .uD=.cel b ys:=⟨ys,h⟩
 have q:tkR f m self fr xs w=.ok e.choose:=by unfold tkR;rw [dif_pos e]
 rw [q];obtain ⟨ρ1,a1,a2⟩:=e.choose_spec 0;obtain ⟨ρ2,b1,b2⟩:=h 0;rw [a1] at b1;cases b1;rw [a2] at b2;cases b2;rfl
noncomputable def zX (f:FS) (m:Nat) (self:D) (ws:List D):Nat->List D->Res (List D)
 | 0,xs=>.ok xs
 | i+1,xs=>do
  let w <- Res.ofOpt ws[i]?
  let ys <- tkR f m self (frD ws i) xs w
  zX f m self ws i ys
noncomputable def aEr (f:FS) (m:Nat):List D->Res D
 | [.ins c fs,.tup ws]=>if decide (c = "PlainRun")&&((fs.lookup ("take_word" : Str)).isNone&&D.aN ws) then (do
   let ys <- zX f m (.ins c fs) ws ws.length []
   match ys with
   | y::_=>.ok y
   | []=>.bad) else .bad
 | _=>.bad
variable [KFrag]
def aEs (K:PySem.W.Frag) (i:Nat):TE:=aFr K "list" aFs (sX i)
def tm1:TE:=tUn (rU fun i=>.int (-i)) (tC (.int 1))
noncomputable def aFw (K:PySem.W.Frag) (i:Nat):TT:=fun σ H Q=>sX i σ H fun x H'=>∃k,aDd K x H' k/\Q k H'
def bWd:FE:=b2 getD (zU "Frame" "words" eF) (zU "Frame" "left" eF)
noncomputable def tV2 (K:PySem.W.Frag) (C:Addr) (f:FS) (m:Nat):TS:=aFn (tB (aFl (aDw K (sX 4) "left") (tC (.int 0)))) (V6 (aEs K 2))
   (T6 (aDx K (sX 4) (aFj (aDw K (sX 4) "left") (tC (.int 1))) "left")
    (V6 (aAe C "take_word" (spW f m 2 4) [] E0 (sX 0) (oU (sX 2) (oU (sX 3) (oU (gE bWd false) T8))))))
noncomputable def tVB (K:PySem.W.Frag) (C:Addr) (f:FS) (m:Nat):TS:=T6 (HX (tOp (aE2 K) (sX 2) tm1) (jW 4)) (tV2 K C f m)
noncomputable def aFx (K:PySem.W.Frag) (C:Addr) (f:FS) (m:Nat) (l:List (Str×Srx)):TS:=
 T6 (HX (aDe (oU (tMk K "Frame" l 2 (oU (sX 1) (oU yI T8))) T8)) (jW 2))
  (T6 (HX (aDe T8) (jW 3))
   (T6 (HY (aFw K 2) (tVB K C f m))
    (aFm (tOp (aE2 K) (sX 3) (tC (.int 0))))))
noncomputable def HD (H:Hp) (v:V):Prop:=∃kd,v=.ref kd/\(H kd=some (.dK [])\/H kd=some (.dT []))
theorem HD.rep {H:Hp} {v:V} (h:HD H v) {P:Addr->Prop} (p:∀a,v=.ref a->P a):Rep P H v (.dct []):=by
 obtain ⟨kd,rfl,h|h⟩:=h
 ·exact .dK h (p _ rfl) .nil (by simp)
 ·exact .dT h (p _ rfl) .nil (by simp)
theorem HD.of {H:Hp} {v:V} (r:Rep All H v (.dct [])):HD H v:=by
 cases r with
 | dK e p r n=>cases r;exact ⟨_,rfl,.inl e⟩
 | dT e p r n=>cases r;exact ⟨_,rfl,.inr e⟩
theorem HD.but {H H':Hp} {v:V} {x:Addr} {o:HO} (b:qW x H H') (hx:H x=some o) (h1:o≠.dK []) (h2:o≠.dT []) (h:HD H v):HD H' v:=by
 obtain ⟨kd,rfl,h|h⟩:=h
 ·exact ⟨kd,rfl,.inl (b _ _ h (lZ h hx (Ne.symm h1)))⟩
 ·exact ⟨kd,rfl,.inr (b _ _ h (lZ h hx (Ne.symm h2)))⟩
theorem HD.same {H H':Hp} {v:V} (s:bQ H H') (h:HD H v):HD H' v:=by
 obtain ⟨kd,rfl,h|h⟩:=h
 ·exact ⟨kd,rfl,.inl (s _ _ h)⟩
 ·exact ⟨kd,rfl,.inr (s _ _ h)⟩
section
variable {K:PySem.W.Frag} {C CF:Addr} {f:FS} {m:Nat} {l:List (Str×Srx)}
structure VIn (H0:Hp) (vw:V) (a af av:Addr) (fl vs:List V) (xs:List D) (σ:L2.St) (H:Hp):Prop where
 st:∃o,σ=[some (.ref a),some vw,some (.ref af),some (.ref av),o]
 sm:bQ H0 H
 nf:H0 af=none
 nv:H0 av=none
 ne:af≠av
 hf:H af=some (.lst fl)
 hv:H av=some (.lst vs)
 rv:a_ All H vs xs
 pv:D.aN xs=true
structure FIn (CF:Addr) (H0:Hp) (ws:List D) (fr:Addr) (i:Nat) (H:Hp):Prop where
 ex:∃dx w1 w3,H fr=some (.ins CF dx [("words",w1),("left",.int i),("known",w3)])/\Rep All H w1 (.tup ws)/\HD H w3
 nr:H0 fr=none
 ps:D.aN ws=true
theorem aC4 {ws:List D} {j:Nat} {w:D} (h:ws[j]?=some w):bWd [.uD,.uD,.uD,.uD,frD ws j]=.ok w:=by
 have hj:j<ws.length:=by
  rcases Nat.lt_or_ge j ws.length with z|z
  ·exact z
  ·rw [List.getElem?_eq_none z] at h;cases h
 show (Res.ofOpt ((ixD ws.length (j:Int)).bind fun i=>ws[i]?))=.ok w;unfold ixD;rw [if_pos (by lia),if_pos (by lia)];show Res.ofOpt (ws[(j:Int).toNat]?)=.ok w;rw [Int.toNat_natCast,h];rfl
theorem R_ {w1 w3:V} {j:Nat}:oM "left" (.int (((j+1:Nat):Int)-1)) [("words",w1),("left",.int ((j+1:Nat):Int)),("known",w3)]=([("words",w1),("left",.int j),("known",w3)]:List (Str×V)):=by
 have:((j+1:Nat):Int)-1=j:=by lia
 rw [this];unfold oM;rw [if_neg (by decide)];unfold oM;rw [if_pos rfl]
theorem Rep.apart {H0 H:Hp} {v:V} {d:D} {x:Addr} (r:Rep All H0 v d) (s:bQ H0 H) (n:H0 x=none):Rep (fun b=>b≠x) H v d:=r.dom.keep (fun a o e _=>s a o e) fun b hb z=>by
 subst z;exact hb.2 n
theorem SJ {H0:Hp} {vw:V} {a af av dxp:Addr} {vp:List (Str×V)} {fs:List (Str×D)} {ws yf:List D} {D':Ends} (hK:KFrag.K=K) (hCF:PySem.W.nsIn K mainGlobals "Frame" = some (some (.ref CF))) (cl:Cls K CF) (nl:fY K CF "left") (hself:Rep All H0 (.ref a) (.ins "PlainRun" fs)) (hsa:H0 a=some (.ins C dxp vp)) (hat:vp.lookup ("take_word" : Str)=none)
  {σ:L2.St} {H:Hp} {fr:Addr} {i:Nat} {vs:List V} {xs:List D} (I:VIn H0 vw a af av [.ref fr] vs xs σ H) (F:FIn CF H0 ws fr i H) (hr:zX f m (.ins "PlainRun" fs) ws i xs=.ok yf)
  (hN0:∀σ H vs,VIn H0 vw a af av [] vs yf σ H->i=0->D'.nx σ H) (hN1:∀j σ H vs xs,i=j+1->VIn H0 vw a af av [.ref fr] vs xs σ H->FIn CF H0 ws fr j H->zX f m (.ins "PlainRun" fs) ws j xs=.ok yf->D'.nx σ H) :
  tVB K C f m D' σ H:=by
 obtain ⟨o,rfl⟩:=I.st;obtain ⟨dx,w1,w3,hfr,r1,e3⟩:=F.ex;refine ⟨.ref af,rfl,1,rfl,af,[.ref fr],-1,.ref fr,rfl,rfl,.of I.hf,yH [] _,?_⟩;show tV2 K C f m _ [some (.ref a),some vw,some (.ref af),some (.ref av),some (.ref fr)] H;refine ⟨.ref fr,rfl,fr,CF,dx,_,.int i,rfl,hfr,cl,nl,rfl,i,0,rfl,rfl,_,rfl,?_⟩;cases i with
 | zero=>
  rw [if_pos (by rfl)];cases hr;refine ⟨.ref af,rfl,.inl ⟨rfl,_,.of I.hf⟩,af,[.ref fr],.ref fr,rfl,rfl,I.hf,rfl,hN0 _ _ vs ⟨⟨_,rfl⟩,fun b o e=>?_,I.nf,I.nv,I.ne,aK,by rw [bG (Ne.symm I.ne)];exact I.hv,I.rv.upd I.pv I.hf rfl,I.pv⟩ rfl⟩;rw [bG (b8 e I.nf)];exact I.sm b o e
 | succ j=>
  rw [if_neg (by simp;lia)];refine ⟨.ref fr,rfl,fr,CF,dx,_,.int ((j+1:Nat):Int),rfl,hfr,cl,nl,rfl,_,1,rfl,rfl,.ref fr,rfl,fr,CF,dx,_,rfl,hfr,cl,nl,(by show 3<1000;decide),?_⟩;rw [R_];obtain ⟨w,hw,hr⟩:=aR hr;obtain ⟨ys,ht,hr⟩:=aR hr;have hw:ws[j]?=some w:=by
   cases hq:ws[j]? with
   | none=>rw [hq] at hw;cases hw
   | some z=>rw [hq] at hw;cases hw;rfl
  have pw:w.pure=true:=dR.mp F.ps w (List.mem_of_getElem? hw);have b2:qW fr H (upd H fr (.ins CF dx [("words",w1),("left",.int j),("known",w3)])):=qW.upd;have sm2:bQ H0 (upd H fr (.ins CF dx [("words",w1),("left",.int j),("known",w3)])):=fun b o e=>b2 b o (I.sm b o e) (b8 e F.nr)
  have r1':=r1.okK (P':=All) b2 hfr (fun _ h=>h) (show okF (.tup ws)=true from by unfold okF;rw [D.pure,F.ps];rfl);have e3':=e3.but b2 hfr (by intro z;cases z) (by intro z;cases z);have hf2:=b2 _ _ I.hf (lZ I.hf hfr (by intro z;cases z));have hv2:=b2 _ _ I.hv (lZ I.hv hfr (by intro z;cases z));have rv2:a_ All _ vs xs:=I.rv.jT (P':=All) (b2.use hfr) I.pv;have hfr2:upd H fr (.ins CF dx [("words",w1),("left",.int j),("known",w3)]) fr=some (.ins CF dx [("words",w1),("left",.int j),("known",w3)]):=aK;generalize upd H fr (.ins CF dx [("words",w1),("left",.int j),("known",w3)])=H2 at *;have hCF':PySem.W.nsIn KFrag.K mainGlobals "Frame" = some (some (.ref CF)):=by rw [hK];exact hCF
  have rfr:∀(H3:Hp),bQ H2 H3->∀P:Addr->Prop,(∀k,w3=.ref k->P k)->Rep P H3 (.ref fr) (frD ws j):=fun H3 s3 P hP=>.ins hCF' (s3 _ _ hfr2) (.cons ((r1'.same s3).bI (by rw [D.pure];exact F.ps)) (.cons (.int _) (.cons ((e3'.same s3).rep hP) .nil)))
  refine ⟨.ref a,rfl,a,dxp,vp,rfl,sm2 _ _ hsa,hat,.ref af,rfl,.ref av,rfl,[.uD,.uD,.uD,.uD,frD ws j],w,fun k hk=>?_,aC4 hw,fun v H3 s3 rw3 _=>?_⟩
  ·match k,hk with
   | 0,hk=>exact absurd rfl hk
   | 1,hk=>exact absurd rfl hk
   | 2,hk=>exact absurd rfl hk
   | 3,hk=>exact absurd rfl hk
   | 4,_=>exact ⟨_,rfl,rfr _ (bQ.refl _) All fun _ _=>trivial⟩
   | n+5,hk=>exact absurd rfl hk
  ·obtain ⟨ρ',hρ,hy⟩:=aC2 ht av;have hO:∀b,Own (own1 2) [some (.ref a),some (.ref af),some (.ref av),some v] b↔b=av:=fun b=>by
    constructor
    ·rintro ⟨k,hk,e⟩;have:k=2:=by simpa [own1] using hk
     subst this;cases e;rfl
    ·rintro rfl;exact ⟨2,rfl,rfl⟩
   have hOf:(fun b=>¬Own (own1 2) [some (.ref a),some (.ref af),some (.ref av),some v] b)=fun b=>b≠av:=funext fun b=>by rw [hO]
   refine ⟨av,[.ins "PlainRun" fs,.lst [frD ws j],.cel av xs,w],xs,ρ',ys,rfl,rfl,by decide,?_,rfl,hρ,hy,fun H' b' r' p'=>?_⟩
   ·show ES (own1 2) H3 [some (.ref a),some (.ref af),some (.ref av),some v] _;refine ⟨rfl,fun k hk=>?_,fun k u hk hu=>?_⟩
    ·rw [hOf]
     match k,hk with
     | 0,_=>exact ⟨_,rfl,fun _=>hself.apart (sm2.trans s3) I.nv⟩
     | 1,_=>exact ⟨_,rfl,fun _=>.lst (s3 _ _ hf2) I.ne (.cons (rfr H3 s3 _ fun k ek=>by
       obtain ⟨kd,e0,e1⟩:=e3'.same s3;rw [e0] at ek;cases ek;rcases e1 with e1|e1
       ·exact lZ e1 (s3 _ _ hv2) (by intro z;cases z)
       ·exact lZ e1 (s3 _ _ hv2) (by intro z;cases z)) .nil)⟩
     | 2,_=>exact ⟨_,rfl,fun h=>by cases h⟩
     | 3,_=>exact ⟨_,rfl,fun _=>rw3.bI pw⟩
     | n+4,hk=>exact absurd rfl hk
    ·have:k=2:=by simpa [own1] using hk
     subst this;cases hu;exact ⟨av,_,rfl,.cel (s3 _ _ hv2) trivial (rv2.same s3),I.pv,s3 _ _ hv2,rfl,fun k hk _=>by simpa [own1] using hk⟩
   ·obtain ⟨vs',hv',rr'⟩:∃vs',H' av=some (.lst vs')/\a_ All H' vs' ys:=by
     cases r' with
     | cel e _ r=>exact ⟨_,e,r⟩
    have hnfr:fr≠av:=lZ (s3 _ _ hfr2) (s3 _ _ hv2) (by intro z;cases z);have b3:qW av H2 H':=(qW.same s3).trans b';refine hN1 j _ H' vs' ys rfl ⟨⟨_,rfl⟩,fun b o e=>b3 b o (sm2 b o e) (b8 e I.nv),I.nf,I.nv,I.ne,b3 _ _ hf2 I.ne,hv',rr',p'⟩ ⟨⟨dx,w1,w3,b3 _ _ hfr2 hnfr,?_,e3'.but b3 hv2 (by intro z;cases z) (by intro z;cases z)⟩,F.nr,F.ps⟩ hr;refine r1'.jT (P':=All) (fun b o e u=>b3 b o e fun z=>?_) (by rw [D.pure];exact F.ps);subst z;rw [hv2] at e;cases e;cases u
theorem SM {N:List Str} (hN:N.length=5) (hK:KFrag.K=K) (hC:PySem.W.nsIn K mainGlobals "PlainRun" = some (some (.ref C))) (hCF:PySem.W.nsIn K mainGlobals "Frame" = some (some (.ref CF))) (cl:Cls K CF) (nl:fY K CF "left") (hl:∀ws,D.aN ws=true->evS [.uD,.tup ws,.dct []] l=.ok [("words",.tup ws),("left",.int ws.length),("known",.dct [])]) {vs:List V} {H:Hp} {Q:VK} {E:XK} (h0:spD (aEr f m) 2 vs H Q E):aFx K C f m l {nx:=fun _ H'=>Q .non H',rt:=Q} (L2.start N vs) H:=by
 obtain ⟨ds,d,hd,r,h,q⟩:=h0;unfold aEr at h;split at h
 ·rename_i c fs ws;split at h
  ·rename_i hc;rw [Bool.and_eq_true,Bool.and_eq_true,Option.isNone_iff_eq_none] at hc;obtain ⟨hc1,hc2,hc3⟩:=hc;have hc1:=of_decide_eq_true hc1;subst hc1;obtain ⟨yf,h1,h⟩:=aR h;cases r with
   | cons ra r=>
   cases r with
   | cons rw r=>
   cases r;have ra':=ra;cases ra with
   | ins hn hsa rf=>
   rename_i v2 a Cs dxp vp;rw [hK,hC] at hn;cases hn;have hat:=rf.pL hc2;have hst:L2.start N [V.ref a,v2]=[some (.ref a),some v2,none,none,none]:=by
    unfold L2.start;rw [hN];rfl
   rw [hst];refine ⟨v2,rfl,fun p hp=>?_⟩;have s1:bQ H (upd H p (.dK [])):=bQ.upd hp;refine ⟨[.tup ws,.dct []],_,rfl,.cons (rw.same s1) (.cons (.dK aK trivial .nil (by simp)) .nil),hl ws hc3,fun CF' x dx H2 vf hn2 hx s2 hx2 rf2=>?_⟩;rw [hCF] at hn2;cases hn2;have rfa:=rf2 All (fun _ _=>trivial) (.cons (rw.same s1) (.cons (.dK aK trivial .nil (by simp)) .nil));cases rfa with
   | cons q1 rfa=>
   cases rfa with
   | cons q2 rfa=>
   cases rfa with
   | cons q3 rfa=>
   cases rfa;cases q2;refine ⟨by show 1<=sizeLine;decide,fun pf hpf=>?_⟩;show HX (aDe T8) (jW 3) _ [some (.ref a),some v2,some (.ref pf),none,none] (upd H2 pf (.lst [.ref x]));refine ⟨Nat.zero_le _,fun pv hpv=>?_⟩;have hne:pf≠pv:=fun z=>by
    subst z;rw [aK] at hpv;cases hpv
   have hpv2:H2 pv=none:=by rw [bG (Ne.symm hne)] at hpv;exact hpv
   have s3:bQ H2 (upd (upd H2 pf (.lst [.ref x])) pv (.lst [])):=(bQ.upd hpf).trans (bQ.upd hpv);have s03:bQ H (upd (upd H2 pf (.lst [.ref x])) pv (.lst [])):=(s1.trans s2).trans s3;have none0:∀b,H2 b=none->H b=none:=fun b hb=>by
    cases hq:H b with
    | none=>rfl
    | some o=>have:=(s1.trans s2) b o hq;rw [hb] at this;cases this
   have hx0:H x=none:=by
    cases hq:H x with
    | none=>rfl
    | some o=>have:=s1 x o hq;rw [hx] at this;cases this
   have I0:VIn H v2 a pf pv [.ref x] [] [] [some (.ref a),some v2,some (.ref pf),some (.ref pv),none] (upd (upd H2 pf (.lst [.ref x])) pv (.lst [])):=⟨⟨_,rfl⟩,s03,none0 _ hpf,none0 _ hpv2,hne,by rw [bG hne];exact aK,aK,.nil,rfl⟩
   have F0:FIn CF H ws x ws.length (upd (upd H2 pf (.lst [.ref x])) pv (.lst [])):=⟨⟨dx,_,_,s3 _ _ hx2,q1.same s3,(HD.of q3).same s3⟩,hx0,hc3⟩
   show HY (aFw K 2) (tVB K C f m) _ [some (.ref a),some v2,some (.ref pf),some (.ref pv),none] (upd (upd H2 pf (.lst [.ref x])) pv (.lst []));refine ⟨fun n σ H'=>(n=0/\∃vs,VIn H v2 a pf pv [] vs yf σ H')\/∃i vs xs,n=i+1/\VIn H v2 a pf pv [.ref x] vs xs σ H'/\FIn CF H ws x i H'/\zX f m (.ins "PlainRun" fs) ws i xs=.ok yf,⟨_,.inr ⟨ws.length,[],[],rfl,I0,F0,h1⟩⟩,?_⟩;rintro n σ H' (⟨rfl,vs,I⟩|⟨i,vs,xs,rfl,I,F,hr⟩)
   ·obtain ⟨o,rfl⟩:=I.st;refine ⟨.ref pf,rfl,false,.inl ⟨[],.of I.hf,rfl⟩,?_⟩;dsimp only;rw [if_neg (by simp)];have rv:=I.rv;have pv':=I.pv;split at h
    ·rename_i y yr;cases h;cases rv with
     | cons ry rr=>
     rw [D.aN,Bool.and_eq_true] at pv';refine ⟨.ref pv,rfl,pv,_,0,_,rfl,rfl,.of I.hv,WW (j:=0) rfl,?_⟩;exact q _ _ I.sm ry fun _=>ry.bI pv'.1
    ·cases h
   ·obtain ⟨o,rfl⟩:=I.st;refine ⟨.ref pf,rfl,true,.inl ⟨_,.of I.hf,rfl⟩,?_⟩;dsimp only;rw [if_pos rfl];refine ⟨fun σ' H''=>∃m',m'<i+1/\((m'=0/\∃vs,VIn H v2 a pf pv [] vs yf σ' H'')\/∃i vs xs,m'=i+1/\VIn H v2 a pf pv [.ref x] vs xs σ' H''/\FIn CF H ws x i H''/\zX f m (.ins "PlainRun" fs) ws i xs=.ok yf),fun _ _ z=>z,?_⟩;exact SJ hK hCF cl nl ra' hsa hat I F hr (fun σ H vs I _=>⟨0,by lia,.inl ⟨rfl,vs,I⟩⟩) fun j σ H vs xs e I F hr=>⟨j+1,by lia,.inr ⟨j,vs,xs,rfl,I,F,hr⟩⟩
  ·cases h
 ·cases h
end
end Mi
end
section
namespace Mi
open PySem L2 PySem.SeqAt PySem.Spec PyProof.Rows
noncomputable def rowOf (s:Stmt) (j:Nat):Stmt:=match s with
 | .ClassDef _ _ _ b _ _ _ _ _ _ _=>b.getD j (.Pass ⟨0,0,0,0⟩)
 | _=>.Pass ⟨0,0,0,0⟩
noncomputable def YS (c f:Str):D->Res D
 | .lst xs=>match xs.getLast? with
  | some (.ins c' fs)=>if decide (c'=c) then Res.ofOpt (fs.lookup f) else .bad
  | _=>.bad
 | _=>.bad
noncomputable def sLf (i j:Nat) (c f:Str):FS:=fun ρ=>do
 let d <- cL j ρ
 let r <- YS c f d
 .ok (.nx (ρ.set i r))
variable [KFrag]
theorem OD {K:PySem.W.Frag} {P:Addr->Prop} {H:Hp} {v:V} {d r:D} {c f:Str} (hK:KFrag.K=K) (R:p6 K c f) (rp:Rep P H v d) (h:YS c f d=.ok r):∃(a:Addr) (vs:List V) (fr C dx:Addr) (fs:List (Str×V)) (w:V),v=.ref a/\H a=some (.lst vs)/\atI vs (-1)=some (.ref fr)/\H fr=some (.ins C dx fs)/\Cls K C/\fY K C f/\fs.lookup f=some w/\Rep P H w r:=by
 unfold YS at h;split at h
 ·rename_i xs;split at h
  ·rename_i c' gs hl;split at h
   ·rename_i hc;have hc:=of_decide_eq_true hc;subst hc;cases rp with
    | lst e p rr=>
     rename_i a vs;have hne:xs≠[]:=fun z=>by rw [z] at hl;cases hl
     obtain ⟨ys,y,rfl⟩:∃ys y,xs=ys++[y]:=⟨xs.dropLast,xs.getLast hne,(List.dropLast_concat_getLast hne).symm⟩
     rw [List.getLast?_concat] at hl;cases hl;obtain ⟨w,hw,rw_⟩:=rr.get (i:=ys.length) (d:=.ins c' gs) (by simp);have hlen:=rr.length;have hvs:vs=vs.take ys.length++[w]:=by
      have h1:ys.length<vs.length:=by rw [hlen];simp
      have h2:vs.drop ys.length=[w]:=by
       rw [List.drop_eq_getElem_cons h1];have h3:vs[ys.length]=w:=by rw [List.getElem?_eq_getElem h1] at hw;exact Option.some.inj hw
       rw [h3,List.drop_eq_nil_of_le (by rw [hlen];simp)]
      rw [<-h2,List.take_append_drop]
     cases rw_ with
     | ins hn hx rf=>
      rw [hK] at hn;obtain ⟨k1,k2⟩:=R _ hn;cases hq:gs.lookup f with
      | none=>rw [hq] at h;cases h
      | some d1=>
       rw [hq] at h;cases h;obtain ⟨u,g1,g2⟩:=rf.look hq;exact ⟨a,vs,_,_,_,_,u,rfl,e,by rw [hvs];exact yH _ _,hx,k1,k2,g1,g2⟩
   ·cases h
  ·cases h
 ·cases h
section
variable {X:Cx} {own:Nat->Bool} {pos pos':Pos}
theorem aEt {i j k:Nat} {x y c f:Str} {py p1 p2 p3 p4:Pos} (hK:KFrag.K=X.K) (R:p6 X.K c f) (ho:own i=false) (hoj:own j=false) (hN:X.N.Nodup) (hi:X.N[i]?=some x) (hx:Loc X.env.scope x) (hj:X.N[j]?=some y) (hy:Vis X.env.scope y)
  (hs:swapsWith (.Attribute (.Subscript (.Name y py) (.UnaryOp .USub (.Constant (.int 1) k p1) p2) p3) f p4) (some (.Name x pos')) pos.line X.env=pure false:=by rfl) (hf:X.fn x=true\/X.env.scope.names.lookup x=some .local:=by first|exact .inl rfl|exact .inr rfl|assumption)
  (hd:(y==("__debug__" : Str))=false:=by decide) (hcd:(y==("__classdict__" : Str))=false:=by decide) (hb:attributeBase (.Subscript (.Name y py) (.UnaryOp .USub (.Constant (.int 1) k p1) p2) p3) f X.env (eval (.Subscript (.Name y py) (.UnaryOp .USub (.Constant (.int 1) k p1) p2) p3) X.env)=eval (.Subscript (.Name y py) (.UnaryOp .USub (.Constant (.int 1) k p1) p2) p3) X.env:=by rfl) :
  PS X (.Assign [.Name x pos'] (.Attribute (.Subscript (.Name y py) (.UnaryOp .USub (.Constant (.int 1) k p1) p2) p3) f p4) pos) (tS own (sLf i j c f)):=PS.imp (sZ hN hi hx (yD (JP mV (bN hj hy hd hcd) (V8 I_ qF) (fun _ _=>rfl)) hb) hs hf) fun D' σ H ⟨ρ,fl,E,h,q⟩=>by
 obtain ⟨d,h1,h2⟩:=aR h;obtain ⟨r,h3,h4⟩:=aR h2;cases h4;obtain ⟨v,hv,r0,e⟩:=E.er.var h1;have hne:ρ.getD j .uD≠.uD:=fun z=>by
  rw [z] at e;subst e;exact Rep.uD r0
 obtain ⟨w,hw,hr⟩:=E.at_ j hne;rw [hv] at hw;cases hw;have r2:=hr hoj;rw [e] at r2;obtain ⟨a,vs,fr,C,dx,fs,u,rfl,z1,z2,z3,z4,z5,z6,z7⟩:=OD hK R r2 h3;exact ⟨_,hv,1,rfl,a,vs,-1,.ref fr,rfl,rfl,.of z1,z2,fr,C,dx,fs,u,rfl,z3,z4,z5,z6,q _ H (fun a ob e hn=>⟨e,by rw [jC ho];exact hn⟩) (E.set ho z7)⟩
end
end Mi
end
section
local macro_rules | `(tactic| trivial) => `(tactic| first | exact Or.inl rfl | exact Or.inr rfl | exact Or.inr (Or.inl rfl) | exact Or.inr (Or.inr rfl))
namespace Lk52
open PySem L2 Mi PySem.W
noncomputable def top (i:Nat):Stmt:=PySem.Challenge.pw_hookmill_k52_values_stay.main.body.getD i (.Pass ⟨0,0,0,0⟩)
abbrev nA:Stmt:=top 4
def G3:Nat->Bool:=fun i=>i==1
noncomputable def G4:FS:=bA (cM true 1 (bC (.dct [])) true) (bA (DQ (bD (b2 getD gF dD) false) (tgN [2,3,4]) (RD 1 dO (jL (aB cO (aB eF aU))))) (bA (DQ (bD (b2 getD gF lL) false) (tgN [2,3,5,6]) (RD 1 dO (jL (aB cO (aB (b2 Z2 (jL (aB fP aU)) pX) aU))))) (aAo 1)))
def gC:List D->Res D:=fnS 1 7 G4
abbrev nC:Stmt:=top 7
def G5:Nat->Bool:=fun i=>i==1||i==2
noncomputable def qX:FS:=bA (cM true 1 (jU aU) true) (bA (cM true 2 (jU (aB (bPu gF) aU)) true) (bA (aDl (bTr dO) (bA (uN 2 3) (bA (rC 1 (b2 getD cO fQ)) (X6 2 (b1 YH (b2 getD cO dD)))))) (o9 (aY b_ (aB dY aU)) false)))
def k_:List D->Res D:=fnS 1 4 qX
abbrev lX:Stmt:=rowOf (top 8) 0
noncomputable def nD:List (Str×Srx):=[("words",.par 1),("left",.exp (aY j6 (aB dY aU))),("known",.par 2)]
abbrev dJ:Stmt:=rowOf (top 9) 0
noncomputable def dZ:List (Str×Srx):=[("heads",.exp (aY (o6 1 gC) (aB dY aU))),("makers",.exp (b1 pH (cH 3 (bD (b2 getD dY dD) false) jV (d_) (jL (aB (b2 getD cO fQ) (aB (bC (.bl true)) aU))) false))),("rules",.exp (b1 rW (cH 3 (bD (b2 getD dY fZ) false) jV (d_) (jL (aB (jL (aB (b2 getD cO fQ) (aB (b2 getD cO dD) aU))) (aB cO aU))) false))),("most",.par 2),("calls",.exp fQ),("copies",.exp fQ),("drops",.exp fQ)]
abbrev fB:Stmt:=rowOf (top 9) 1
abbrev cY:Stmt:=rowOf (top 9) 2
def w6:Nat->Bool:=fun i=>i==2
noncomputable def bL:FS:=bA (sLf 4 1 "Frame" "known") (sIf (bTB (b2 inX cO eF)) (wZ 2 (b2 getD eF cO)) (bA (eE false 5 (M7 (bD (b2 getD (b2 getD (zU "PlainRun" "heads" gF) cO) dD) false) (uZ 2))) (sIf (bTB (b2 inX cO (zU "PlainRun" "makers" gF))) (wZ 2 (jL (aB cO (aB (aY b_ (aB fP aU)) (aB (b2 (aQ .add) dD (aY pZ (aB (cH 6 (bD fP false) jV (d_) (b2 getD pX lL) false) aU))) aU))))) (aEh))))
def gD:List D->Res D:=aEr bL 6
abbrev nF:Stmt:=top 6
def YT:Nat->Bool:=fun i=>false
noncomputable def OJ:FS:=bA (cM false 3 (R7 "PlainRun" dZ 2 (aB gF (aB dO aU))) true) (bA (cM false 4 (YL "PlainRun" "value_of" gD 2 cO (aB dY aU)) true) (o9 (jL (aB (aY (o6 1 k_) (aB eF aU)) (aB (zU "PlainRun" "calls" cO) (aB (zU "PlainRun" "copies" cO) (aB (zU "PlainRun" "drops" cO) aU))))) false))
def gM:List D->Res D:=fnS 3 5 OJ
abbrev lY:Stmt:=top 11
def xF:Nat->Bool:=fun i=>i==0||i==1000000
noncomputable def pM:FS:=bA (cM false 1 (b2 getD gF fQ) false) (bA (cM false 2 (b2 getD gF dD) false) (bA (wU 0 dD (b2 (aQ .add) dO dD)) (bA (sIf (bTB (b2 (dG (.ord .lt)) dO (aY j6 (aB dY aU)))) (wB (b2 getD dY dO) false) (o8)) (bA (sIf (bTB (b2 (dG .eq) (aY j6 (aB dY aU)) fQ)) (wB (b2 (aQ .add) (b2 uG (b2 uG dO dO) fZ) dO) true) (o8)) (wB (b2 (aQ .add) (b2 (aQ .fdiv) (b2 getD dY (b2 (aQ .mod) dO (aY j6 (aB dY aU)))) lL) (b2 uG dO dO)) true)))))
def aL:List D->Res D:=fnX 1 1 3 pM
abbrev fO:Stmt:=top 12
def u0:Nat->Bool:=fun i=>i==0||i==9||i==1000000
noncomputable def u5:FS:=bA (cM false 1 (bC (.str "abcdefghijklmnopqrstuvwxyz")) true) (bA (eE false 2 (bV aL 1 0 aU)) (bA (cM false 3 (b2 getD (jU (aB dD (aB fZ (aB aAm (aB (bC (.int 7)) (aB aDi (aB (bC (.int 25)) aU))))))) (b2 (aQ .mod) (b2 (aQ .fdiv) dO fZ) G9)) false) (bA (cM false 4 (b2 (aQ .mod) (b2 (aQ .fdiv) dO (bC (.int 18))) lA) true) (bA (eE false 5 (bV aL 1 0 aU)) (bA (cM false 6 (b2 (aQ .mod) fP aAn) true) (bA (cM false 7 (bM joinM (bC (.str "")) (aB (cH 14 (jQ (aB pX aU) gW) jV (d_) (b2 getD dY (b2 (aQ .mod) (b2 (aQ .add) (b2 (aQ .fdiv) fP aAn) (b2 uG j5 (b2 (aQ .add) eF (b2 (aQ .mod) (b2 (aQ .fdiv) fP J3) aAm)))) lA)) false) aU)) true) (bA (eE false 8 (x2L (aQ .mod) (bV aL 1 0 aU) (b2 (aQ .add) pX dD))) (bA (sIf (bTB (b2 (dG .eq) (b2 (aQ .mod) dO fZ) lL)) (cM false 7 (kZ mQ (eX) (dH G9)) true) (o8)) (bA (cM true 9 (jU aU) true) (bA (DQ (jQ (aB lA aU) gW) (tg1 10) (bA (cM false 11 (b2 (aQ .mod) (b2 (aQ .add) (b2 uG iQ cO) eF) lA) true) (sIf (bTB (b2 (dG .eq) (b2 (aQ .mod) dO fZ) dD)) (rC 9 (b2 uG (b2 getD dY (b2 (aQ .mod) (b2 (aQ .add) eF (b2 (aQ .mod) iI yK)) lA)) (b2 (aQ .add) dD (b2 (aQ .fdiv) iI yK)))) (sIf (bTB (b2 (dG .eq) (b2 (aQ .mod) dO fZ) lL)) (bA (cM false 12 (b2 getD dY (b2 (aQ .mod) (b2 (aQ .add) eF (b2 (aQ .mod) iI G9)) lA)) false) (bA (cM false 13 (b2 getD dY (b2 (aQ .mod) (b2 (aQ .add) eF (b2 (aQ .fdiv) iI G9)) lA)) false) (rC 9 (b2 (aQ .add) (b2 (aQ .add) (b2 (aQ .add) (kZ mQ (eX) (dH n8)) tU) i_) (kZ mQ (dH n8) (eX)))))) (rC 9 (b2 (aQ .add) (b2 (aQ .add) (kZ mQ (eX) (dH n8)) (b2 getD dY iI)) (kZ mQ (dH n8) (eX)))))))) (bA (sIf (bOr (bTB (b2 inX (bC (.str "copy")) lD)) (bTB (b2 inX (bC (.str "drop")) lD))) (cM true 9 (cH 14 (bD lD false) jV (d_) (b2 (aQ .add) j5 (bC (.str "e"))) true) true) (o8)) (qL 9))))))))))))
def cR:List D->Res D:=fnX 1 1 14 u5
abbrev fC:Stmt:=top 13
noncomputable def G6:Nat->Bool:=fun i=>i==0||i==4||i==5||i==6||i==11||i==1000000
noncomputable def nG:FS:=bA (eE false 2 (bV aL 1 0 aU)) (bA (cM false 3 (b2 (aQ .add) dD (b2 (aQ .mod) dO fZ)) true) (bA (cM true 4 (kZ dY (eX) (dH cO)) true) (bA (cM true 5 (cH 13 (jQ (aB cO aU) gW) jV (d_) (jL (aB (b2 getD dY (b2 (aQ .add) fZ i_)) (aB (b2 getD eF i_) (aB (jL aU) aU)))) false) true) (bA (cM true 6 (b1 pH (cH 13 (bD eF false) jV (d_) (jL (aB i_ (aB dD aU))) false)) true) (bA (aBh (U8 (bTB (b2 (dG (.ord .gt)) cO dD)) (xTB (x2L (dG .eq) (x2L (aQ .mod) (bV aL 1 0 aU) fZ) dD))) (bA (cM false 7 (aY b_ (aB (kZ eF (eX) (dH (b2 (aQ .add) dD (b2 (aQ .mod) (b2 (aQ .fdiv) dO DP) (b2 (aQ .sub) cO dD))))) aU)) false) (bA (wU 5 (b1 G_ dD) (jL (aB (b2 getD dY (b2 (aQ .add) lL cO)) (aB (b2 getD eF (b1 G_ dD)) (aB mQ aU))))) (RD 6 (b2 getD eF (b1 G_ dD)) (b2 (aQ .add) dD (aY j6 (aB mQ aU)))))) (o8)) (bA (DQ (jQ (aB (b2 (aQ .mod) (b2 (aQ .fdiv) dO fZ) yK) aU) gW) (tg1 8) (bA (eE false 9 (bV aL 1 0 aU)) (bA (cM false 7 (cH 13 (jQ (aB (b2 (aQ .mod) (b2 (aQ .fdiv) lD fZ) yK) aU) gW) jV (d_) (b2 getD eF (b2 (aQ .mod) (b2 (aQ .fdiv) lD (b2 getD (jU (aB DP (aB (bC (.int 36)) (aB (bC (.int 108)) aU)))) i_)) cO)) false) true) (rC 5 (jL (aB (b2 getD dY (b2 (aQ .add) (b2 (aQ .add) fZ cO) n8)) (aB (b2 getD eF (b2 (aQ .mod) lD cO)) (aB (aY b_ (aB mQ aU)) aU)))))))) (bA (cM false 10 (b2 (aQ .mod) (b2 (aQ .fdiv) dO DP) (aY j6 (aB fP aU))) true) (bA (cM true 11 (jU aU) true) (bA (M_ (aBr (x2L (aQ .mod) (bV aL 1 0 aU) yK)) (tg1 8) (bA (eE false 9 (bV aL 1 0 aU)) (bA (cM false 12 (cH 13 (jQ (aB (b2 (aQ .mod) (b2 (aQ .fdiv) lD aDi) fZ) aU) gW) jV (d_) (b2 getD eF (b2 (aQ .mod) (b2 (aQ .fdiv) lD (b2 getD (jU (aB (bC (.int 27)) (aB (bC (.int 81)) aU))) i_)) cO)) false) true) (rC 11 (jL (aB (b2 getD dY (b2 (aQ .add) W6 n8)) (aB (b2 getD eF (b2 (aQ .mod) lD cO)) (aB (b2 getD eF (b2 (aQ .mod) (b2 (aQ .fdiv) lD fZ) cO)) (aB (aY b_ (aB tU aU)) aU))))))))) (uT (aB (bOw 4) (aB (b2 (aQ .add) (kZ fP (dH iQ) (eX)) (kZ fP (eX) (dH iQ))) (aB (bOw 11) (aB (bOw 6) aU))))))))))))))
def d7:List D->Res D:=fnX 1 2 13 nG
abbrev d8:Stmt:=top 16
def u9:Nat->Bool:=fun i=>i==0||i==6||i==7||i==1000000
noncomputable def u_:FS:=bA (cM true 6 (jU aU) true) (bA (cM true 7 (jU (aB (bPu dO) aU)) true) (bA (cM false 8 (aY (tV .gt) (aB fQ (aB (b2 (aQ .sub) cO (b2 getD fP dO)) aU))) false) (bA (aDl (bTB (b2 (dG .ne) mQ (jU aU))) (bA (uN 7 9) (bA (cM false 10 (b2 (aQ .sub) (b2 (aQ .add) n8 (b2 getD fP lD)) dD) true) (bA (cM false 11 (cH 14 (bD dY false) jV (QH (bTB (b2 (dG .eq) (b2 getD j5 dD) lD)) (bTB (b2 (dG (.ord .le)) (aY pZ (aB (cH 15 (bD (b2 getD j5 lL) false) jV (d_) (b2 getD fP (cL 15)) false) aU)) iQ))) j5 false) true) (bA (cM false 12 (cH 14 (bD iI false) jV (bTB (b2 inX lD (b2 getD j5 lL))) j5 false) true) (bA (sIf (QH (bTr eF) (bTB (b2 (dG .ne) tU (jU aU)))) (sAl 11 12) (o8)) (bA (eE false 13 (x2R getD iI (x2L (aQ .mod) (bV aL 1 0 aU) (aY j6 (aB iI aU))))) (bA (rC 6 (b2 getD i_ fQ)) (bA (cM false 8 (b2 (aQ .sub) iQ (aY pZ (aB (cH 14 (bD (b2 getD i_ lL) false) jV (d_) (b2 getD fP j5) false) aU))) true) (X6 7 (b1 YH (b2 getD i_ lL)))))))))))) (qL 6))))
def cT:List D->Res D:=fnX 1 6 14 u_
abbrev gP:Stmt:=top 14
def xG:Nat->Bool:=fun i=>false
noncomputable def xH:FS:=bA (cM false 4 (b2 getD (cH 5 (bD dO false) jV (bTB (b2 (dG .eq) (b2 getD fP fQ) (b2 getD cO (b2 (aQ .add) fZ (bM lG dY (aB gF aU)))))) fP false) fQ) false) (o9 (b2 Z2 (jL (aB (b2 getD eF fQ) aU)) (aY b_ (aB (cH 5 (bD (b2 getD eF lL) false) jV (d_) (b2 getD cO (b2 (aQ .add) fZ (bM lG dY (aB fP aU)))) false) aU))) false)
def gQ:List D->Res D:=fnS 4 5 xH
abbrev iJ:Stmt:=top 15
def p7:Nat->Bool:=fun i=>i==4
noncomputable def p8:FS:=bA (cM true 4 (jU aU) true) (bA (DR 2 (tg1 5) (DR 1 (tg1 6) (sIf (bTB (b2 (dG .eq) (b2 getD pX dD) (b2 getD fP lL))) (bA (cM false 7 (kZ cO (dH RC) (dH (b2 (aQ .add) (b2 (aQ .add) RC (aY j6 (aB (b2 getD pX lL) aU))) (aY j6 (aB (b2 getD fP fZ) aU))))) true) (bA (cM false 8 (aY (o6 4 gQ) (aB (b2 getD fP dD) (aB gF (aB dY (aB cO aU))))) true) (rC 4 (jL (aB (b2 getD fP fQ) (aB (b2 getD pX fQ) (aB (aY b_ (aB mQ aU)) (aB n8 aU)))))))) (o8)))) (o9 (jL (aB (aY b_ (aB gF aU)) (aB (aY b_ (aB dY aU)) (aB (aY b_ (aB dO aU)) (aB (aY b_ (aB eF aU)) aU))))) false))
def cJ:List D->Res D:=fnS 4 9 p8
abbrev kJ:Stmt:=top 17
def vA:Nat->Bool:=fun i=>false
noncomputable def nR:FS:=bA (sIf (bOr (J4 (bTr (b1 (o5 .tuple) gF))) (bTB (b2 (dG .ne) (aY j6 (aB gF aU)) yK))) (o9 (bC (.bl false)) true) (o8)) (bA (sIf (bOr (J4 (bTr (b1 (o5 .tuple) (b2 getD gF fQ)))) (bTB (b2 (dG .ne) (aY j6 (aB (b2 getD gF fQ) aU)) (aY j6 (aB dY aU))))) (o9 (bC (.bl false)) true) (o8)) (bA (DQ (jQ (aB (aY j6 (aB dY aU)) aU) gW) (tg1 2) (sIf (bOr (J4 (bTr (b1 (o5 .str) (b2 getD (b2 getD gF fQ) dO)))) (bTB (b2 (dG .ne) (b2 getD (b2 getD gF fQ) dO) (b2 getD dY dO)))) (o9 (bC (.bl false)) true) (o8))) (bA (DQ (bD (kZ gF (dH dD) (eX)) true) (tg1 3) (sIf (bOr (J4 (bTr (b1 (o5 .int) cO))) (bOr (bTr (b1 (o5 .bool) cO)) (bTB (b2 (dG .ne) cO fQ)))) (o9 (bC (.bl false)) true) (o8))) (o9 (bC (.bl true)) true))))
def cD:List D->Res D:=fnS 2 4 nR
abbrev rY:Stmt:=top 18
def o_law:Nat->Bool:=fun i=>i==1
noncomputable def YW:FS:=bA (cM true 1 (aDm (jU (aB (kZ gF (eX) (dH yL)) (aB fQ aU)))) true) (bA (eE false 2 (bV aL 1 1 aU)) (bA (eE false 3 (x2L (aQ .mod) (bV aL 1 1 aU) (bC (.int 2001)))) (bA (eE false 4 (bV cR 1 1 aU)) (bA (NB (bV d7 2 1 (aB eF aU)) [5,6,7,8]) (bA (cM false 9 (b2 getD (jU (aB dD (aB G9 (aB J3 (aB (bC (.int 390)) aU))))) (b2 (aQ .mod) (b2 (aQ .fdiv) dO G9) yK)) false) (bA (eE false 10 (bV cT 6 1 (aB pX (aB (bPu (b2 getD fP (b2 (aQ .mod) (b2 (aQ .fdiv) dO W7) (aY j6 (aB fP aU))))) (aB lD (aB (bPu (b2 (dG .eq) (b2 (aQ .mod) (b2 (aQ .fdiv) dO fZ) lL) dD)) (aB n8 aU))))))) (bA (cM false 11 (aY (o6 4 cJ) (aB fP (aB pX (aB mQ (aB eF aU))))) true) (bA (sIf (bTB (b2 (dG .eq) (b2 (aQ .mod) dO fZ) fQ)) (o9 (aY (o6 2 cD) (aB (aY (fun ds=>o6 3 gM (ds++[.int 400])) (aB iI (aB (aY b_ (aB iQ aU)) aU))) (aB iQ aU))) true) (o8)) (o9 (aY (o6 2 cD) (aB (aY (o6 3 gM) (aB iI (aB (aY b_ (aB iQ aU)) (aB (b2 getD (jU (aB fQ (aB (bPu cO) aU))) (b2 (aQ .sub) (b2 (aQ .mod) dO fZ) dD)) aU)))) (aB iQ aU))) true)))))))))
def xJ:List D->Res D:=fnS 1 12 YW
noncomputable abbrev qY:List Str:=["program", "heads", "name", "kind", "parts", "taken", "more"]
abbrev qZ:List Str:=["value", "found", "waiting", "node"]
abbrev O1:List Str:=["program", "words", "most", "plain", "value"]
abbrev pN:List Str:=["deck", "cells", "at"]
noncomputable abbrev d9:List Str:=["deck", "letters", "choice", "turn", "shift", "cell", "size", "base", "at", "names", "k", "spot", "ahead", "behind"]
noncomputable abbrev cZ:List Str:=["deck", "names", "cell", "many", "kinds", "makers", "least", "behind", "k", "one", "at", "takers", "more"]
noncomputable abbrev b7:List Str:=["deck", "heads", "wanted", "most", "full", "least", "words", "due", "left", "kind", "room", "some", "grown", "pick"]
abbrev fD:List Str:=["kind", "kinds", "makers", "names", "row"]
noncomputable abbrev lH:List Str:=["kinds", "makers", "takers", "names", "rules", "taker", "maker", "own", "words"]
abbrev nT:List Str:=["found", "words", "k", "count"]
noncomputable abbrev aC5:List Str:=["script", "deck", "cell", "bound", "names", "kinds", "makers", "takers", "least", "most", "words", "program"]
theorem xK:bW qY ["program"] (aJ nA):=by refine ⟨rfl,rfl,rfl,?_,rfl,?_,?_⟩ <;> decide +kernel
theorem vB [KFrag] {P:Program} {w:World} {K:Frag} {mg:Str->Option Value} {base:Heap} {fad:Addr} {fd:FuncData} (hK:KFrag.K=K) (B:Bt mg)  (F:Fun K "heads_of" "heads_of" nA fad fd) (hm:mg "heads_of" = some (.ref fad)):m8 P w K mg base 1 "heads_of" 1 gC:=by
 have sc:=xK;refine uF (ps:=["program"]) (N:=qY) (k:=0) F hm (F.binds fun _ _ _ _ _ _ us hl=>match us,hl with|[_],_=>rfl) sc G3 (by decide) (by decide) fun cdv A outer s H E hr=>?_
 have hu:=wR hr;exact aG (bU (i:=1) (o:=true) rfl sc.nd rfl (by trivial) (RJ)) (aG (qN PassesOwn.never rfl (dW (bH (bF hK hu) (aA (i:=0)) (aF) (fun _ _=>rfl))) (K7 _ (is:=[2,3,4]) (by decide)) (T7 rfl (eG (aZ (i:=2) sc.nd rfl (by trivial)) (eG (aZ (i:=3) sc.nd rfl (by trivial)) (eG (aZ (i:=4) sc.nd rfl (by trivial)) (vZ))))) (aX (K6 (i:=1) hu rfl rfl (by trivial) (aA (i:=2)) (fK (aC (aA (i:=3)) (aC (aA (i:=4)) (aO))))))) (aG (qN PassesOwn.never rfl (dW (bH (bF hK hu) (aA (i:=0)) (aF) (fun _ _=>rfl))) (K7 _ (is:=[2,3,5,6]) (by decide)) (T7 rfl (eG (aZ (i:=2) sc.nd rfl (by trivial)) (eG (aZ (i:=3) sc.nd rfl (by trivial)) (eG (aZ (i:=5) sc.nd rfl (by trivial)) (eG (aZ (i:=6) sc.nd rfl (by trivial)) (vZ)))))) (aX (K6 (i:=1) hu rfl rfl (by trivial) (aA (i:=2)) (fK (aC (aA (i:=3)) (aC (aW M4 (fK (aC (aA (i:=5)) (aO))) (aA (i:=6))) (aO))))))) (aX (XQ (i:=1) rfl rfl (by trivial)))))
theorem xM:bW qZ ["value"] (aJ nC):=by refine ⟨rfl,rfl,rfl,?_,rfl,?_,?_⟩ <;> decide +kernel
theorem vC [KFrag] {P:Program} {w:World} {K:Frag} {mg:Str->Option Value} {base:Heap} {fad:Addr} {fd:FuncData} (hK:KFrag.K=K) (B:Bt mg)  (F:Fun K "words_of" "words_of" nC fad fd) (hm:mg "words_of" = some (.ref fad)):m8 P w K mg base 1 "words_of" 1 k_:=by
 have sc:=xM;refine uF (ps:=["value"]) (N:=qZ) (k:=0) F hm (F.binds fun _ _ _ _ _ _ us hl=>match us,hl with|[_],_=>rfl) sc G5 (by decide) (by decide) fun cdv A outer s H E hr=>?_
 have hu:=wR hr;exact aG (bU (i:=1) (o:=true) rfl sc.nd rfl (by trivial) (gG (aO))) (aG (bU (i:=2) (o:=true) rfl sc.nd rfl (by trivial) (gG (aC (YD (aA (i:=0))) (aO)))) (aG (U4 PassesOwn.never (pA (aA (i:=2))) (aG (M5 (i:=2) (j:=3) rfl rfl (by trivial) sc.nd rfl (by trivial) rfl) (aG (nP (i:=1) rfl rfl (by trivial) (bH (bF hK hu) (aA (i:=3)) (aF) (fun _ _=>rfl))) (aX (U5 (i:=2) rfl rfl (by trivial) (N7 (by rfl) (by rfl) B.list (by rfl) B.reversed (bH (bF hK hu) (aA (i:=3)) (aF) (fun _ _=>rfl)))))))) (aX (j8 (cP dI (by rfl) B.tuple cX (aC (aA (i:=1)) (aO)))))))
theorem SN:bW (["self", "words", "known"]:List Str) ["self", "words", "known"] (aJ lX):=by refine ⟨rfl,rfl,rfl,?_,rfl,?_,?_⟩ <;> decide +kernel
theorem O2 [KFrag] {P:Program} {w:World} {K:Frag} {mg:Str->Option Value} {base:Heap} {fad:Addr} {fd:FuncData} (hK:KFrag.K=K) (B:Bt mg) {C:Addr}  (cls:Cls K C) (na:∀f∈nD.map (·.1),fY K C f) (F:Fun K "__init__" "Frame.__init__" lX fad fd):mC P w K mg base CX0 1 fad fd ["self", "words", "known"] (R8 C nD 2):=by
 have sc:=SN;refine VB (N:=(["self", "words", "known"]:List Str)) (ps:=["self", "words", "known"]) (k:=0) F sc rfl rfl cls (by decide +kernel) na (by decide) fun cdv A outer s H E hr=>?_
 have hu:=wR hr;exact cN (jX (bN (i:=0) rfl (by trivial)) (bN (i:=1) rfl (by trivial)) rfl) (cN (jX (bN (i:=0) rfl (by trivial)) (cA (g_ hK) (by rfl) B.len iB (aC (aA (i:=1)) (aO))) rfl) (cN (jX (bN (i:=0) rfl (by trivial)) (bN (i:=2) rfl (by trivial)) rfl) (vY)))
theorem xN:bW (["self", "program", "most"]:List Str) ["self", "program", "most"] (aJ dJ):=by refine ⟨rfl,rfl,rfl,?_,rfl,?_,?_⟩ <;> decide +kernel
theorem vD [KFrag] {P:Program} {w:World} {K:Frag} {mg:Str->Option Value} {base:Heap} {fad:Addr} {fd:FuncData} (hK:KFrag.K=K) (B:Bt mg) {C:Addr} (c_heads_of:m8 P w K mg base 1 "heads_of" 1 gC) (cls:Cls K C) (na:∀f∈dZ.map (·.1),fY K C f) (F:Fun K "__init__" "PlainRun.__init__" dJ fad fd):mC P w K mg base CX0 2 fad fd ["self", "program", "most"] (R8 C dZ 2):=by
 have sc:=xN;refine VB (N:=(["self", "program", "most"]:List Str)) (ps:=["self", "program", "most"]) (k:=1) F sc rfl rfl cls (by decide +kernel) na (by decide) fun cdv A outer s H E hr=>?_
 have hu:=wR hr;exact cN (jX (bN (i:=0) rfl (by trivial)) (jD c_heads_of hr (by decide) (by rfl) (aC (aA (i:=1)) (aO))) rfl) (cN (jX (bN (i:=0) rfl (by trivial)) (uX (by rfl) (by rfl) B.dict (h_ (ownN:=(["maker"]:List Str)) (show bY (["self", "program", "most"]:List Str) (aJ dJ) _ (["maker"]:List Str) from by refine ⟨rfl,?_,?_,?_,?_,?_,?_⟩ <;> decide +kernel) (n:=3) (m:=1) rfl rfl rfl (dW (bH (bF hK hu) (aA (i:=1)) (aF) (fun _ _=>rfl))) (dU 3) (fun _=>aZ (i:=3) (show ((List.map (fH (["maker"]:List Str)) (["self", "program", "most"]:List Str)++(["maker"]:List Str)):List Str).Nodup from by decide +kernel) rfl (by trivial)) (fun _=>fK (aC (bH (bF hK hu) (aA (i:=3)) (aF) (fun _ _=>rfl)) (aC (E_) (aO)))) (fun _=>rfl))) rfl) (cN (jX (bN (i:=0) rfl (by trivial)) (GZ (by rfl) hu (by rfl) B.dict (h_ (ownN:=(["rule"]:List Str)) (show bY (["self", "program", "most"]:List Str) (aJ dJ) _ (["rule"]:List Str) from by refine ⟨rfl,?_,?_,?_,?_,?_,?_⟩ <;> decide +kernel) (n:=3) (m:=1) rfl rfl rfl (dW (bH (bF hK hu) (aA (i:=1)) (aF) (fun _ _=>rfl))) (dU 3) (fun _=>aZ (i:=3) (show ((List.map (fH (["rule"]:List Str)) (["self", "program", "most"]:List Str)++(["rule"]:List Str)):List Str).Nodup from by decide +kernel) rfl (by trivial)) (fun _=>fK (aC (fK (aC (bH (bF hK hu) (aA (i:=3)) (aF) (fun _ _=>rfl)) (aC (bH (bF hK hu) (aA (i:=3)) (aF) (fun _ _=>rfl)) (aO)))) (aC (aA (i:=3)) (aO)))) (fun _=>rfl))) rfl) (cN (jX (bN (i:=0) rfl (by trivial)) (bN (i:=2) rfl (by trivial)) rfl) (cN (jX (bN (i:=0) rfl (by trivial)) (aF) rfl) (cN (jX (bN (i:=0) rfl (by trivial)) (aF) rfl) (cN (jX (bN (i:=0) rfl (by trivial)) (aF) rfl) (vY)))))))
theorem xO:bW (["self", "words", "frames", "values", "frame"]:List Str) ["self", "words"] (aJ fB):=by refine ⟨rfl,rfl,rfl,?_,rfl,?_,?_⟩ <;> decide +kernel
theorem vG:bW (["self", "frames", "values", "word", "known", "parts"]:List Str) ["self", "frames", "values", "word"] (aJ cY):=by refine ⟨rfl,rfl,rfl,?_,rfl,?_,?_⟩ <;> decide +kernel
theorem vH [KFrag] {P:Program} {w:World} {K:Frag} {mg:Str->Option Value} {base:Heap} {fad:Addr} {fd:FuncData} (hK:KFrag.K=K) (B:Bt mg) (fl_Frame_known:p6 K "Frame" "known") (fl_PlainRun_heads:p6 K "PlainRun" "heads") (fl_PlainRun_makers:p6 K "PlainRun" "makers") (F:Fun K "take_word" "PlainRun.take_word" cY fad fd):mC P w K mg base CX0 1 fad fd ["self", "frames", "values", "word"] (spW bL 6 2 4):=by
 have sc:=vG;refine aEq (N:=(["self", "frames", "values", "word", "known", "parts"]:List Str)) (ps:=["self", "frames", "values", "word"]) (k:=0) F sc w6 (by decide) (by decide) fun cdv A outer s H E hr=>?_
 have hu:=wR hr;exact aG (aEt (i:=4) (j:=1) hK fl_Frame_known rfl rfl sc.nd rfl (by trivial) rfl (by trivial)) (aX (lU (dM (uI hu) (aA (i:=3)) (aA (i:=4)) (by with_unfolding_all rfl)) (aX (N_ (i:=2) rfl rfl (by trivial) (bH (bF hK hu) (aA (i:=4)) (aA (i:=3)) (fun _ _=>rfl)))) (aG (YC (cn := "kind") (show bY (["self", "frames", "values", "word", "known", "parts"]:List Str) (aJ cY) _ (["kind"]:List Str) from by refine ⟨rfl,?_,?_,?_,?_,?_,?_⟩ <;> decide +kernel) (n:=6) rfl rfl rfl (dW (bH (bF hK hu) (bH (bF hK hu) (pK hK fl_PlainRun_heads (aA (i:=0))) (aA (i:=3)) (fun _ _=>rfl)) (aF) (fun _ _=>rfl))) (fun _=>aZ (i:=6) (show ((List.map (fH (["kind"]:List Str)) (["self", "frames", "values", "word", "known", "parts"]:List Str)++(["kind"]:List Str)):List Str).Nodup from by decide +kernel) rfl (by trivial)) (fun _=>YQ (i:=2) rfl rfl (by trivial)) (fun _=>rfl) (iy:=5) (o:=false) rfl sc.nd rfl (by trivial) (Or.inl rfl) (by with_unfolding_all rfl)) (aX (lU (dM (uI hu) (aA (i:=3)) (pK hK fl_PlainRun_makers (aA (i:=0))) (by with_unfolding_all rfl)) (aX (N_ (i:=2) rfl rfl (by trivial) (fK (aC (aA (i:=3)) (aC (cP dI (by rfl) B.tuple cX (aC (aA (i:=5)) (aO))) (aC (aW bZ (aF) (cA (MP (by rfl)) (by rfl) B.sum MT (aC (h_ (ownN:=(["part"]:List Str)) (show bY (["self", "frames", "values", "word", "known", "parts"]:List Str) (aJ cY) _ (["part"]:List Str) from by refine ⟨rfl,?_,?_,?_,?_,?_,?_⟩ <;> decide +kernel) (n:=6) (m:=1) rfl rfl rfl (dW (aA (i:=5))) (dU 6) (fun _=>aZ (i:=6) (show ((List.map (fH (["part"]:List Str)) (["self", "frames", "values", "word", "known", "parts"]:List Str)++(["part"]:List Str)):List Str).Nodup from by decide +kernel) rfl (by trivial)) (fun _=>bH (bF hK hu) (aA (i:=6)) (aF) (fun _ _=>rfl)) (fun _=>rfl)) (aO)))) (aO))))))) (aX (aB6)))))))
theorem aEu (σ:L2.St) (H:Hp) (Q Q':List V->Hp->Prop) (h:∀vs H',Q vs H'->Q' vs H') (x:(oU (sX 1) (oU yI T8)) σ H Q):(oU (sX 1) (oU yI T8)) σ H Q':=by
 obtain ⟨v,e,q⟩:=x;exact ⟨v,e,fun p hp=>h _ _ (q p hp)⟩
theorem aEv (ws:List D) (h:D.aN ws=true):evS [.uD,.tup ws,.dct []] nD=.ok [("words",.tup ws),("left",.int ws.length),("known",.dct [])]:=by
 have:okF (.tup ws)=true:=by unfold okF;rw [D.pure,h];rfl
 show (if okF (.tup ws)=true then _ else _)=_;rw [if_pos this];rfl
theorem gR [KFrag] {P:Program} {w:World} {K:Frag} {mg:Str->Option Value} {base:Heap} {fad:Addr} {fd:FuncData} (hK:KFrag.K=K) (B:Bt mg) {C CF fm:Addr} {fdm:FuncData} {psm:List Str} (q_Frame:Z3 P w K mg base 1 "Frame" nD 2) (hC:nsIn K mainGlobals "PlainRun" = some (some (.ref C))) (hCF:nsIn K mainGlobals "Frame" = some (some (.ref CF))) (clF:Cls K CF) (nl:fY K CF "left") (cl:Cls K C) (M:Meth K C "take_word" fm) (T:mC P w K mg base CX0 1 fm fdm psm (spW bL 6 2 4)) (hb:Binds K fdm psm []) (fw:p6 K "Frame" "words") (fl:p6 K "Frame" "left") (F:Fun K "value_of" "PlainRun.value_of" fB fad fd):mC P w K mg base CX0 3 fad fd ["self", "words"] (spD gD 2):=by
 have sc:=xO;refine F.ok (k:=2) sc (fun vs H Q E h=>wM h) fun cdv A outer s H vs Q E hr h=>⟨aFx K C bL 6 nD,?_,SM rfl hK hC hCF clF nl aEv h⟩
 have hu:=wR hr;exact (cN (xZ (yE (c7 (aC1 q_Frame hr (by decide) (by rfl) (c7 (bN (i:=1) rfl (by trivial)) (c7 yJ jJ)) (hmono:=aEu)) jJ)) (aZ (i:=2) sc.nd rfl (by trivial))) (cN (xZ (yE jJ) (aZ (i:=3) sc.nd rfl (by trivial))) (cN (x_ PassesOwn.never (yC (bN (i:=2) rfl (by trivial)) (fun _=>rfl)) (cN (xZ (JP mV (bN (i:=2) rfl (by trivial)) (V8 I_ qF) (fun _ _=>rfl)) (aZ (i:=4) sc.nd rfl (by trivial))) (oG (V7 (aA1 (aA0 (yD (bN (i:=4) rfl (by trivial)) rfl) qF)) (oG (oH (JR PySem.F.plainAttrs_list PySem.F.slot_list_pop PySem.F.type_list_pop JT (bN (i:=2) rfl (by trivial))))) (cN (jX (bN (i:=4) rfl (by trivial)) (Z9 (yD (bN (i:=4) rfl (by trivial)) rfl) qF) rfl) (oG (oH (JG (bN (i:=0) rfl (by trivial)) cl M T (hr.mono (by decide)) hb .nil DK (c7 (bN (i:=2) rfl (by trivial)) (c7 (bN (i:=3) rfl (by trivial)) (c7 (bH (bF hK hu) (pK hK fw (aA (i:=4))) (pK hK fl (aA (i:=4))) (fun _ _=>rfl)) jJ))))))))))) (oG (qG (JP mV (bN (i:=3) rfl (by trivial)) qF (fun _ _=>rfl)))))))
theorem SQ:bW O1 ["program", "words", "most"] (aJ nF):=by refine ⟨rfl,rfl,rfl,?_,rfl,?_,?_⟩ <;> decide +kernel
theorem O3 [KFrag] {P:Program} {w:World} {K:Frag} {mg:Str->Option Value} {base:Heap} {fad:Addr} {fd:FuncData} (hK:KFrag.K=K) (B:Bt mg) (c_words_of:m8 P w K mg base 1 "words_of" 1 k_) (q_PlainRun:Z3 P w K mg base 2 "PlainRun" dZ 2) (m_value_of:aEp P w K mg base 3 "PlainRun" "value_of" 2 gD) (fl_PlainRun_drops:p6 K "PlainRun" "drops") (fl_PlainRun_copies:p6 K "PlainRun" "copies") (fl_PlainRun_calls:p6 K "PlainRun" "calls") {T:Addr} {its:Array Value} (F:aEj K "worth" "worth" nF fad fd T its):mC P w K mg base CX0 4 fad fd ["program", "words", "most"] (spD gM 3):=by
 have sc:=SQ;refine aBe (ps:=["program", "words", "most"]) (N:=O1) (k:=3) F sc YT (by decide) fun cdv A outer s H E hr=>?_
 have hu:=wR hr;exact aG (bU (i:=3) (o:=false) rfl sc.nd rfl (by trivial) (YK hK q_PlainRun hr (by decide) (by rfl) (aC (aA (i:=0)) (aC (aA (i:=2)) (aO))))) (aG (bU (i:=4) (o:=false) rfl sc.nd rfl (by trivial) (YM hK m_value_of hr (by decide) (aA (i:=3)) (aC (aA (i:=1)) (aO)))) (aX (j8 (fK (aC (jD c_words_of hr (by decide) (by rfl) (aC (aA (i:=4)) (aO))) (aC (pK hK fl_PlainRun_calls (aA (i:=3))) (aC (pK hK fl_PlainRun_copies (aA (i:=3))) (aC (pK hK fl_PlainRun_drops (aA (i:=3))) (aO)))))))))
theorem vI:bW pN ["deck"] (aJ lY):=by refine ⟨rfl,rfl,rfl,?_,rfl,?_,?_⟩ <;> decide +kernel
theorem rZ [KFrag] {P:Program} {w:World} {K:Frag} {mg:Str->Option Value} {base:Heap} {fad:Addr} {fd:FuncData} (hK:KFrag.K=K) (B:Bt mg)  (F:Fun K "_law_next" "_law_next" lY fad fd) (hm:mg "_law_next" = some (.ref fad)):GC P w K mg base 1 "_law_next" 1 1 aL:=by
 have sc:=vI;refine rQ (ps:=["deck"]) (N:=pN) (k:=0) 1 F hm (F.binds fun _ _ _ _ _ _ us hl=>match us,hl with|[_],_=>rfl) sc xF (by decide) (by decide) fun cdv A outer s H E hr=>?_
 have hu:=wR hr;exact aG (bU (i:=1) (o:=false) rfl sc.nd rfl (by trivial) (bH (bF hK hu) (aA (i:=0)) (aF) (fun _ _=>rfl))) (aG (bU (i:=2) (o:=false) rfl sc.nd rfl (by trivial) (bH (bF hK hu) (aA (i:=0)) (aF) (fun _ _=>rfl))) (aG (M8 (i:=0) rfl rfl (by trivial) (aF) (aW bZ (aA (i:=2)) (aF))) (aG (lU (dM (aE6 hu) (aA (i:=2)) (cA (g_ hK) (by rfl) B.len iB (aC (aA (i:=1)) (aO))) (eN _)) (aX (wV (bH (bF hK hu) (aA (i:=1)) (aA (i:=2)) (fun _ _=>rfl)))) (fV)) (aG (lU (dM (pY hu) (cA (g_ hK) (by rfl) B.len iB (aC (aA (i:=1)) (aO))) (aF) (eN _)) (aX (wV (aW bZ (aW m9 (aW m9 (aA (i:=2)) (aA (i:=2))) (aF)) (aA (i:=2))))) (fV)) (aX (wV (aW bZ (aW dB (bH (bF hK hu) (aA (i:=1)) (aW bR (aA (i:=2)) (cA (g_ hK) (by rfl) B.len iB (aC (aA (i:=1)) (aO)))) (fun _ _=>rfl)) (aF)) (aW m9 (aA (i:=2)) (aA (i:=2))))))))))
theorem sE:bW d9 ["deck"] (aJ fO):=by refine ⟨rfl,rfl,rfl,?_,rfl,?_,?_⟩ <;> decide +kernel
theorem p_ [KFrag] {P:Program} {w:World} {K:Frag} {mg:Str->Option Value} {base:Heap} {fad:Addr} {fd:FuncData} (hK:KFrag.K=K) (B:Bt mg) (c__law_next:GC P w K mg base 1 "_law_next" 1 1 aL) (F:Fun K "_law_names" "_law_names" fO fad fd) (hm:mg "_law_names" = some (.ref fad)):GC P w K mg base 2 "_law_names" 1 1 cR:=by
 have sc:=sE;refine rQ (ps:=["deck"]) (N:=d9) (k:=1) 1 F hm (F.binds fun _ _ _ _ _ _ us hl=>match us,hl with|[_],_=>rfl) sc u0 (by decide) (by decide) fun cdv A outer s H E hr=>?_
 have hu:=wR hr
 exact aG (bU (i:=1) (o:=false) rfl sc.nd rfl (by trivial) (tX)) (aG (kI (i:=2) (o:=false) rfl sc.nd rfl (by trivial) (dF (i:=0) c__law_next hr (by decide) (by rfl) rfl rfl (by trivial) (iC))) (aG (bU (i:=3) (o:=false) rfl sc.nd rfl (by trivial) (bH (bF hK hu) (gG (aC (aF) (aC (aF) (aC (aF) (aC (aF) (aC (aF) (aC (aF) (aO)))))))) (aW bR (aW dB (aA (i:=2)) (aF)) (aF)) (fun _ _=>rfl))) (aG (bU (i:=4) (o:=false) rfl sc.nd rfl (by trivial) (aW bR (aW dB (aA (i:=2)) (aF)) (aF))) (aG (kI (i:=5) (o:=false) rfl sc.nd rfl (by trivial) (dF (i:=0) c__law_next hr (by decide) (by rfl) rfl rfl (by trivial) (iC))) (aG (bU (i:=6) (o:=false) rfl sc.nd rfl (by trivial) (aW bR (aA (i:=5)) (aF))) (aG (bU (i:=7) (o:=false) rfl sc.nd rfl (by trivial) (XH PySem.F.plainAttrs_str PySem.F.slot_str_join PySem.F.type_str_join X3 (tX) (aC (h_ (ownN:=(["k"]:List Str)) (show bY d9 (aJ fO) _ (["k"]:List Str) from by refine ⟨rfl,?_,?_,?_,?_,?_,?_⟩ <;> decide +kernel) (n:=14) (m:=1) rfl rfl rfl (lO (by rfl) B.range (aC (aA (i:=6)) (aO))) (dU 14) (fun _=>aZ (i:=14) (show ((List.map (fH (["k"]:List Str)) d9++(["k"]:List Str)):List Str).Nodup from by decide +kernel) rfl (by trivial)) (fun _=>bH (bF hK hu) (aA (i:=1)) (aW bR (aW bZ (aW dB (aA (i:=5)) (aF)) (aW m9 (aA (i:=14)) (aW bZ (aA (i:=4)) (aW bR (aW dB (aA (i:=5)) (aF)) (aF))))) (aF)) (fun _ _=>rfl)) (fun _=>rfl)) (aO)) (fun _ _ _ _ _ h r=>RX h r))) (aG (kI (i:=8) (o:=false) rfl sc.nd rfl (by trivial) (uQ bR (dF (i:=0) c__law_next hr (by decide) (by rfl) rfl rfl (by trivial) (iC)) (aW bZ (aA (i:=6)) (aF)))) (aG (lU (dM (pY hu) (aW bR (aA (i:=2)) (aF)) (aF) (eN _)) (aX (bU (i:=7) (o:=false) rfl sc.nd rfl (by trivial) (jN hK (aA (i:=7)) (gJ) (e_ (aF))))) (fV)) (aG (bU (i:=9) (o:=true) rfl sc.nd rfl (by trivial) (gG (aO))) (aG (qN PassesOwn.never rfl (lO (by rfl) B.range (aC (aF) (aO))) (lW (i:=10) rfl) (aZ (i:=10) sc.nd rfl (by trivial)) (aG (bU (i:=11) (o:=false) rfl sc.nd rfl (by trivial) (aW bR (aW bZ (aW m9 (aA (i:=10)) (aA (i:=3))) (aA (i:=4))) (aF))) (aX (lU (dM (pY hu) (aW bR (aA (i:=2)) (aF)) (aF) (eN _)) (aX (nP (i:=9) rfl rfl (by trivial) (aW m9 (bH (bF hK hu) (aA (i:=1)) (aW bR (aW bZ (aA (i:=4)) (aW bR (aA (i:=11)) (aF))) (aF)) (fun _ _=>rfl)) (aW bZ (aF) (aW dB (aA (i:=11)) (aF)))))) (aX (lU (dM (pY hu) (aW bR (aA (i:=2)) (aF)) (aF) (eN _)) (aG (bU (i:=12) (o:=false) rfl sc.nd rfl (by trivial) (bH (bF hK hu) (aA (i:=1)) (aW bR (aW bZ (aA (i:=4)) (aW bR (aA (i:=11)) (aF))) (aF)) (fun _ _=>rfl))) (aG (bU (i:=13) (o:=false) rfl sc.nd rfl (by trivial) (bH (bF hK hu) (aA (i:=1)) (aW bR (aW bZ (aA (i:=4)) (aW dB (aA (i:=11)) (aF))) (aF)) (fun _ _=>rfl))) (aX (nP (i:=9) rfl rfl (by trivial) (aW bZ (aW bZ (aW bZ (jN hK (aA (i:=7)) (gJ) (e_ (aA (i:=8)))) (aA (i:=12))) (aA (i:=13))) (jN hK (aA (i:=7)) (e_ (aA (i:=8))) (gJ))))))) (aX (nP (i:=9) rfl rfl (by trivial) (aW bZ (aW bZ (jN hK (aA (i:=7)) (gJ) (e_ (aA (i:=8)))) (bH (bF hK hu) (aA (i:=1)) (aA (i:=11)) (fun _ _=>rfl))) (jN hK (aA (i:=7)) (e_ (aA (i:=8))) (gJ))))))))))) (aG (lU (PW.pt (FJ (dM (uI hu) (tX) (aA (i:=9)) (by with_unfolding_all rfl)) (tY (dM (uI hu) (tX) (aA (i:=9)) (by with_unfolding_all rfl))))) (aX (oE (ownN:=(["name"]:List Str)) (show bY d9 (aJ fO) _ (["name"]:List Str) from by refine ⟨rfl,?_,?_,?_,?_,?_,?_⟩ <;> decide +kernel) (n:=14) (m:=1) rfl rfl rfl (dW (aA (i:=9))) (dU 14) (fun _=>aZ (i:=14) (show ((List.map (fH (["name"]:List Str)) d9++(["name"]:List Str)):List Str).Nodup from by decide +kernel) rfl (by trivial)) (fun _=>aW bZ (aA (i:=14)) (tX)) (fun _=>rfl) (iy:=9) (o:=true) rfl sc.nd rfl (by trivial) (Or.inl rfl) (by with_unfolding_all rfl))) (fV)) (aX (zP (i:=9) rfl rfl (by trivial))))))))))))))
theorem xP:bW cZ ["deck", "names"] (aJ fC):=by refine ⟨rfl,rfl,rfl,?_,rfl,?_,?_⟩ <;> decide +kernel
theorem vJ [KFrag] {P:Program} {w:World} {K:Frag} {mg:Str->Option Value} {base:Heap} {fad:Addr} {fd:FuncData} (hK:KFrag.K=K) (B:Bt mg) (c__law_next:GC P w K mg base 1 "_law_next" 1 1 aL) (F:Fun K "_law_sig" "_law_sig" fC fad fd) (hm:mg "_law_sig" = some (.ref fad)):GC P w K mg base 2 "_law_sig" 2 1 d7:=by
 have sc:=xP;refine rQ (ps:=["deck", "names"]) (N:=cZ) (k:=1) 1 F hm (F.binds fun _ _ _ _ _ _ us hl=>match us,hl with|[_,_],_=>rfl) sc G6 (by decide) (by decide) fun cdv A outer s H E hr=>?_
 have hu:=wR hr
 exact aG (kI (i:=2) (o:=false) rfl sc.nd rfl (by trivial) (dF (i:=0) c__law_next hr (by decide) (by rfl) rfl rfl (by trivial) (iC))) (aG (bU (i:=3) (o:=false) rfl sc.nd rfl (by trivial) (aW bZ (aF) (aW bR (aA (i:=2)) (aF)))) (aG (bU (i:=4) (o:=true) rfl sc.nd rfl (by trivial) (jN hK (aA (i:=1)) (gJ) (e_ (aA (i:=3))))) (aG (oE (ownN:=(["k"]:List Str)) (show bY cZ (aJ fC) _ (["k"]:List Str) from by refine ⟨rfl,?_,?_,?_,?_,?_,?_⟩ <;> decide +kernel) (n:=13) (m:=1) rfl rfl rfl (lO (by rfl) B.range (aC (aA (i:=3)) (aO))) (dU 13) (fun _=>aZ (i:=13) (show ((List.map (fH (["k"]:List Str)) cZ++(["k"]:List Str)):List Str).Nodup from by decide +kernel) rfl (by trivial)) (fun _=>fK (aC (bH (bF hK hu) (aA (i:=1)) (aW bZ (aF) (aA (i:=13))) (fun _ _=>rfl)) (aC (bH (bF hK hu) (aA (i:=4)) (aA (i:=13)) (fun _ _=>rfl)) (aC (fK (aO)) (aO))))) (fun _=>rfl) (iy:=5) (o:=true) rfl sc.nd rfl (by trivial) (Or.inl rfl) (by with_unfolding_all rfl)) (aG (bU (i:=6) (o:=true) rfl sc.nd rfl (by trivial) (uX (by rfl) (by rfl) B.dict (h_ (ownN:=(["kind"]:List Str)) (show bY cZ (aJ fC) _ (["kind"]:List Str) from by refine ⟨rfl,?_,?_,?_,?_,?_,?_⟩ <;> decide +kernel) (n:=13) (m:=1) rfl rfl rfl (dW (aA (i:=4))) (dU 13) (fun _=>aZ (i:=13) (show ((List.map (fH (["kind"]:List Str)) cZ++(["kind"]:List Str)):List Str).Nodup from by decide +kernel) rfl (by trivial)) (fun _=>fK (aC (aA (i:=13)) (aC (aF) (aO)))) (fun _=>rfl)))) (aG (aEm (PW.pt (aBs (dM (aE8 hu) (aA (i:=3)) (aF) (eN _)) (YF (X_ (pY hu) (uQ bR (dF (i:=0) c__law_next hr (by decide) (by rfl) rfl rfl (by trivial) (iC)) (aF)) (aF) (eN _))))) (aG (bU (i:=7) (o:=false) rfl sc.nd rfl (by trivial) (cP dI (by rfl) B.tuple cX (aC (jN hK (aA (i:=4)) (gJ) (e_ (aW bZ (aF) (aW bR (aW dB (aA (i:=2)) (aF)) (aW tZ (aA (i:=3)) (aF)))))) (aO)))) (aG (M8 (i:=5) rfl rfl (by trivial) (W9 KD (aF)) (fK (aC (bH (bF hK hu) (aA (i:=1)) (aW bZ (aF) (aA (i:=3))) (fun _ _=>rfl)) (aC (bH (bF hK hu) (aA (i:=4)) (W9 KD (aF)) (fun _ _=>rfl)) (aC (aA (i:=7)) (aO)))))) (aX (K6 (i:=6) hu rfl rfl (by trivial) (bH (bF hK hu) (aA (i:=4)) (W9 KD (aF)) (fun _ _=>rfl)) (aW bZ (aF) (cA (g_ hK) (by rfl) B.len iB (aC (aA (i:=7)) (aO)))))))) (fV)) (aG (qN PassesOwn.never rfl (lO (by rfl) B.range (aC (aW bR (aW dB (aA (i:=2)) (aF)) (aF)) (aO))) (lW (i:=8) rfl) (aZ (i:=8) sc.nd rfl (by trivial)) (aG (kI (i:=9) (o:=false) rfl sc.nd rfl (by trivial) (dF (i:=0) c__law_next hr (by decide) (by rfl) rfl rfl (by trivial) (iC))) (aG (oE (ownN:=(["j"]:List Str)) (show bY cZ (aJ fC) _ (["j"]:List Str) from by refine ⟨rfl,?_,?_,?_,?_,?_,?_⟩ <;> decide +kernel) (n:=13) (m:=1) rfl rfl rfl (lO (by rfl) B.range (aC (aW bR (aW dB (aA (i:=9)) (aF)) (aF)) (aO))) (dU 13) (fun _=>aZ (i:=13) (show ((List.map (fH (["j"]:List Str)) cZ++(["j"]:List Str)):List Str).Nodup from by decide +kernel) rfl (by trivial)) (fun _=>bH (bF hK hu) (aA (i:=4)) (aW bR (aW dB (aA (i:=9)) (bH (bF hK hu) (gG (aC (aF) (aC (aF) (aC (aF) (aO))))) (aA (i:=13)) (fun _ _=>rfl))) (aA (i:=3))) (fun _ _=>rfl)) (fun _=>rfl) (iy:=7) (o:=false) rfl sc.nd rfl (by trivial) (Or.inl rfl) (by with_unfolding_all rfl)) (aX (nP (i:=5) rfl rfl (by trivial) (fK (aC (bH (bF hK hu) (aA (i:=1)) (aW bZ (aW bZ (aF) (aA (i:=3))) (aA (i:=8))) (fun _ _=>rfl)) (aC (bH (bF hK hu) (aA (i:=4)) (aW bR (aA (i:=9)) (aA (i:=3))) (fun _ _=>rfl)) (aC (cP dI (by rfl) B.tuple cX (aC (aA (i:=7)) (aO))) (aO)))))))))) (aG (bU (i:=10) (o:=false) rfl sc.nd rfl (by trivial) (aW bR (aW dB (aA (i:=2)) (aF)) (cA (g_ hK) (by rfl) B.len iB (aC (aA (i:=5)) (aO))))) (aG (bU (i:=11) (o:=true) rfl sc.nd rfl (by trivial) (gG (aO))) (aG (aBu PassesOwn.never rfl (aBt (by rfl) B.range (uQ bR (dF (i:=0) c__law_next hr (by decide) (by rfl) rfl rfl (by trivial) (iC)) (aF))) (lW (i:=8) rfl) (aZ (i:=8) sc.nd rfl (by trivial)) (aG (kI (i:=9) (o:=false) rfl sc.nd rfl (by trivial) (dF (i:=0) c__law_next hr (by decide) (by rfl) rfl rfl (by trivial) (iC))) (aG (oE (ownN:=(["j"]:List Str)) (show bY cZ (aJ fC) _ (["j"]:List Str) from by refine ⟨rfl,?_,?_,?_,?_,?_,?_⟩ <;> decide +kernel) (n:=13) (m:=1) rfl rfl rfl (lO (by rfl) B.range (aC (aW bR (aW dB (aA (i:=9)) (aF)) (aF)) (aO))) (dU 13) (fun _=>aZ (i:=13) (show ((List.map (fH (["j"]:List Str)) cZ++(["j"]:List Str)):List Str).Nodup from by decide +kernel) rfl (by trivial)) (fun _=>bH (bF hK hu) (aA (i:=4)) (aW bR (aW dB (aA (i:=9)) (bH (bF hK hu) (gG (aC (aF) (aC (aF) (aO)))) (aA (i:=13)) (fun _ _=>rfl))) (aA (i:=3))) (fun _ _=>rfl)) (fun _=>rfl) (iy:=12) (o:=false) rfl sc.nd rfl (by trivial) (Or.inl rfl) (by with_unfolding_all rfl)) (aX (nP (i:=11) rfl rfl (by trivial) (fK (aC (bH (bF hK hu) (aA (i:=1)) (aW bZ (aF) (aA (i:=8))) (fun _ _=>rfl)) (aC (bH (bF hK hu) (aA (i:=4)) (aW bR (aA (i:=9)) (aA (i:=3))) (fun _ _=>rfl)) (aC (bH (bF hK hu) (aA (i:=4)) (aW bR (aW dB (aA (i:=9)) (aF)) (aA (i:=3))) (fun _ _=>rfl)) (aC (cP dI (by rfl) B.tuple cX (aC (aA (i:=12)) (aO))) (aO))))))))))) (aX (R3 (NK (i:=4) rfl rfl (by trivial) (aBx (aW bZ (jN hK (aA (i:=5)) (e_ (aA (i:=10))) (gJ)) (jN hK (aA (i:=5)) (gJ) (e_ (aA (i:=10))))) (NK (i:=11) rfl rfl (by trivial) (NK (i:=6) rfl rfl (by trivial) (aBw))))))))))))))))
theorem sG:bW b7 ["deck", "heads", "wanted", "most", "full", "least"] (aJ d8):=by refine ⟨rfl,rfl,rfl,?_,rfl,?_,?_⟩ <;> decide +kernel
theorem qC [KFrag] {P:Program} {w:World} {K:Frag} {mg:Str->Option Value} {base:Heap} {fad:Addr} {fd:FuncData} (hK:KFrag.K=K) (B:Bt mg) (c__law_next:GC P w K mg base 1 "_law_next" 1 1 aL) (F:Fun K "_law_words" "_law_words" d8 fad fd) (hm:mg "_law_words" = some (.ref fad)):GC P w K mg base 2 "_law_words" 6 1 cT:=by
 have sc:=sG;refine rQ (ps:=["deck", "heads", "wanted", "most", "full", "least"]) (N:=b7) (k:=1) 1 F hm (F.binds fun _ _ _ _ _ _ us hl=>match us,hl with|[_,_,_,_,_,_],_=>rfl) sc u9 (by decide) (by decide) fun cdv A outer s H E hr=>?_
 have hu:=wR hr
 exact aG (bU (i:=6) (o:=true) rfl sc.nd rfl (by trivial) (gG (aO))) (aG (bU (i:=7) (o:=true) rfl sc.nd rfl (by trivial) (gG (aC (YD (aA (i:=2))) (aO)))) (aG (bU (i:=8) (o:=false) rfl sc.nd rfl (by trivial) (cA (aB1 hu (by rfl)) (by rfl) B.max aB7 (aC (aF) (aC (aW tZ (aA (i:=3)) (bH (bF hK hu) (aA (i:=5)) (aA (i:=2)) (fun _ _=>rfl))) (aO))))) (aG (U4 PassesOwn.never (dM (FN hu) (aA (i:=7)) (gG (aO)) (eN _)) (aG (M5 (i:=7) (j:=9) rfl rfl (by trivial) sc.nd rfl (by trivial) rfl) (aG (bU (i:=10) (o:=false) rfl sc.nd rfl (by trivial) (aW tZ (aW bZ (aA (i:=8)) (bH (bF hK hu) (aA (i:=5)) (aA (i:=9)) (fun _ _=>rfl))) (aF))) (aG (qO (ownN:=(["row"]:List Str)) (show bY b7 (aJ d8) _ (["row"]:List Str) from by refine ⟨rfl,?_,?_,?_,?_,?_,?_⟩ <;> decide +kernel) (n:=14) (m:=1) rfl rfl rfl (dW (aA (i:=1))) (dU 14) (fun _=>aZ (i:=14) (show ((List.map (fH (["row"]:List Str)) b7++(["row"]:List Str)):List Str).Nodup from by decide +kernel) rfl (by trivial)) (fun _=>PW.pt (UT (dM (pY hu) (bH (bF hK hu) (aA (i:=14)) (aF) (fun _ _=>rfl)) (aA (i:=9)) (eN _)) (KC (dM (aE7 hu) (cA (MP (by rfl)) (by rfl) B.sum MT (aC (h_ (ownN:=(["x"]:List Str)) (show bY (List.map (fH (["row"]:List Str)) b7++(["row"]:List Str)) _ _ (["x"]:List Str) from ⟨rfl,by decide +kernel,by decide +kernel,of_decide_eq_true (by rfl),by decide +kernel,by decide +kernel,by decide +kernel⟩) (n:=15) (m:=1) rfl rfl rfl (dW (bH (bF hK hu) (aA (i:=14)) (aF) (fun _ _=>rfl))) (dU 15) (fun _=>aZ (i:=15) (show ((List.map (fH (["x"]:List Str)) (List.map (fH (["row"]:List Str)) b7++(["row"]:List Str))++(["x"]:List Str)):List Str).Nodup from by decide +kernel) rfl (by trivial)) (fun _=>bH (bF hK hu) (aA (i:=5)) (aA (i:=15)) (fun _ _=>rfl)) (fun _=>rfl)) (aO))) (aA (i:=10)) (eN _))))) (fun _=>aA (i:=14)) (fun _=>rfl) (iy:=11) (o:=false) rfl sc.nd rfl (by trivial) (Or.inl rfl) (by with_unfolding_all rfl)) (aG (qO (ownN:=(["row"]:List Str)) (show bY b7 (aJ d8) _ (["row"]:List Str) from by refine ⟨rfl,?_,?_,?_,?_,?_,?_⟩ <;> decide +kernel) (n:=14) (m:=1) rfl rfl rfl (dW (aA (i:=11))) (dU 14) (fun _=>aZ (i:=14) (show ((List.map (fH (["row"]:List Str)) b7++(["row"]:List Str)):List Str).Nodup from by decide +kernel) rfl (by trivial)) (fun _=>dM (uI hu) (aA (i:=9)) (bH (bF hK hu) (aA (i:=14)) (aF) (fun _ _=>rfl)) (by with_unfolding_all rfl)) (fun _=>aA (i:=14)) (fun _=>rfl) (iy:=12) (o:=false) rfl sc.nd rfl (by trivial) (Or.inl rfl) (by with_unfolding_all rfl)) (aG (lU (PW.pt (UT (pA (aA (i:=4))) (KC (dM (FN hu) (aA (i:=12)) (gG (aO)) (eN _))))) (aX (aEe (i:=11) (j:=12) rfl rfl sc.nd rfl (by trivial) rfl (by trivial))) (fV)) (aG (kI (i:=13) (o:=false) rfl sc.nd rfl (by trivial) (aBl (i:=11) (bF hK hu) rfl rfl (by trivial) (uQ bR (dF (i:=0) c__law_next hr (by decide) (by rfl) rfl rfl (by trivial) (iC)) (cA (g_ hK) (by rfl) B.len iB (aC (aA (i:=11)) (aO)))) (fun _ _=>rfl))) (aG (nP (i:=6) rfl rfl (by trivial) (bH (bF hK hu) (aA (i:=13)) (aF) (fun _ _=>rfl))) (aG (bU (i:=8) (o:=false) rfl sc.nd rfl (by trivial) (aW tZ (aA (i:=10)) (cA (MP (by rfl)) (by rfl) B.sum MT (aC (h_ (ownN:=(["x"]:List Str)) (show bY b7 (aJ d8) _ (["x"]:List Str) from by refine ⟨rfl,?_,?_,?_,?_,?_,?_⟩ <;> decide +kernel) (n:=14) (m:=1) rfl rfl rfl (dW (bH (bF hK hu) (aA (i:=13)) (aF) (fun _ _=>rfl))) (dU 14) (fun _=>aZ (i:=14) (show ((List.map (fH (["x"]:List Str)) b7++(["x"]:List Str)):List Str).Nodup from by decide +kernel) rfl (by trivial)) (fun _=>bH (bF hK hu) (aA (i:=5)) (aA (i:=14)) (fun _ _=>rfl)) (fun _=>rfl)) (aO))))) (aX (U5 (i:=7) rfl rfl (by trivial) (N7 (by rfl) (by rfl) B.list (by rfl) B.reversed (bH (bF hK hu) (aA (i:=13)) (aF) (fun _ _=>rfl)))))))))))))) (aX (zP (i:=6) rfl rfl (by trivial))))))
theorem vK:bW fD ["kind", "kinds", "makers", "names"] (aJ gP):=by refine ⟨rfl,rfl,rfl,?_,rfl,?_,?_⟩ <;> decide +kernel
theorem sI [KFrag] {P:Program} {w:World} {K:Frag} {mg:Str->Option Value} {base:Heap} {fad:Addr} {fd:FuncData} (hK:KFrag.K=K) (B:Bt mg)  (F:Fun K "_law_bare" "_law_bare" gP fad fd) (hm:mg "_law_bare" = some (.ref fad)):m8 P w K mg base 1 "_law_bare" 4 gQ:=by
 have sc:=vK;refine uF (ps:=["kind", "kinds", "makers", "names"]) (N:=fD) (k:=0) F hm (F.binds fun _ _ _ _ _ _ us hl=>match us,hl with|[_,_,_,_],_=>rfl) sc xG (by decide) (by decide) fun cdv A outer s H E hr=>?_
 have hu:=wR hr;exact aG (bU (i:=4) (o:=false) rfl sc.nd rfl (by trivial) (bH (bF hK hu) (FW (ownN:=(["row"]:List Str)) (show bY fD (aJ gP) _ (["row"]:List Str) from by refine ⟨rfl,?_,?_,?_,?_,?_,?_⟩ <;> decide +kernel) (n:=5) (m:=1) rfl rfl rfl (dW (aA (i:=2))) (dU 5) (fun _=>aZ (i:=5) (show ((List.map (fH (["row"]:List Str)) fD++(["row"]:List Str)):List Str).Nodup from by decide +kernel) rfl (by trivial)) (fun _=>dM (pY hu) (bH (bF hK hu) (aA (i:=5)) (aF) (fun _ _=>rfl)) (bH (bF hK hu) (aA (i:=3)) (aW bZ (aF) (XH PySem.F.plainAttrs_list PySem.F.slot_list_index PySem.F.type_list_index (uO hu) (aA (i:=1)) (aC (aA (i:=0)) (aO)) (fun _ _ _ _ _ h r=>uP h r))) (fun _ _=>rfl)) (eN _)) (fun _=>aA (i:=5)) (fun _=>rfl)) (aF) (fun _ _=>rfl))) (aX (j8 (aW M4 (fK (aC (bH (bF hK hu) (aA (i:=4)) (aF) (fun _ _=>rfl)) (aO))) (cP dI (by rfl) B.tuple cX (aC (h_ (ownN:=(["x"]:List Str)) (show bY fD (aJ gP) _ (["x"]:List Str) from by refine ⟨rfl,?_,?_,?_,?_,?_,?_⟩ <;> decide +kernel) (n:=5) (m:=1) rfl rfl rfl (dW (bH (bF hK hu) (aA (i:=4)) (aF) (fun _ _=>rfl))) (dU 5) (fun _=>aZ (i:=5) (show ((List.map (fH (["x"]:List Str)) fD++(["x"]:List Str)):List Str).Nodup from by decide +kernel) rfl (by trivial)) (fun _=>bH (bF hK hu) (aA (i:=3)) (aW bZ (aF) (XH PySem.F.plainAttrs_list PySem.F.slot_list_index PySem.F.type_list_index (uO hu) (aA (i:=1)) (aC (aA (i:=5)) (aO)) (fun _ _ _ _ _ h r=>uP h r))) (fun _ _=>rfl)) (fun _=>rfl)) (aO))))))
theorem pO:bW lH ["kinds", "makers", "takers", "names"] (aJ iJ):=by refine ⟨rfl,rfl,rfl,?_,rfl,?_,?_⟩ <;> decide +kernel
theorem nZ [KFrag] {P:Program} {w:World} {K:Frag} {mg:Str->Option Value} {base:Heap} {fad:Addr} {fd:FuncData} (hK:KFrag.K=K) (B:Bt mg) (c__law_bare:m8 P w K mg base 1 "_law_bare" 4 gQ) (F:Fun K "_law_program" "_law_program" iJ fad fd) (hm:mg "_law_program" = some (.ref fad)):m8 P w K mg base 2 "_law_program" 4 cJ:=by
 have sc:=pO;refine uF (ps:=["kinds", "makers", "takers", "names"]) (N:=lH) (k:=1) F hm (F.binds fun _ _ _ _ _ _ us hl=>match us,hl with|[_,_,_,_],_=>rfl) sc p7 (by decide) (by decide) fun cdv A outer s H E hr=>?_
 have hu:=wR hr;exact aG (bU (i:=4) (o:=true) rfl sc.nd rfl (by trivial) (gG (aO))) (aG (K8 (i:=2) rfl PassesOwn.never rfl rfl (by trivial) (lW (i:=5) rfl) (aZ (i:=5) sc.nd rfl (by trivial)) (aX (K8 (i:=1) rfl PassesOwn.never rfl rfl (by trivial) (lW (i:=6) rfl) (aZ (i:=6) sc.nd rfl (by trivial)) (aX (lU (dM (pY hu) (bH (bF hK hu) (aA (i:=6)) (aF) (fun _ _=>rfl)) (bH (bF hK hu) (aA (i:=5)) (aF) (fun _ _=>rfl)) (eN _)) (aG (bU (i:=7) (o:=false) rfl sc.nd rfl (by trivial) (jN hK (aA (i:=3)) (e_ (aF)) (e_ (aW bZ (aW bZ (aF) (cA (g_ hK) (by rfl) B.len iB (aC (bH (bF hK hu) (aA (i:=6)) (aF) (fun _ _=>rfl)) (aO)))) (cA (g_ hK) (by rfl) B.len iB (aC (bH (bF hK hu) (aA (i:=5)) (aF) (fun _ _=>rfl)) (aO))))))) (aG (bU (i:=8) (o:=false) rfl sc.nd rfl (by trivial) (jD c__law_bare hr (by decide) (by rfl) (aC (bH (bF hK hu) (aA (i:=5)) (aF) (fun _ _=>rfl)) (aC (aA (i:=0)) (aC (aA (i:=1)) (aC (aA (i:=3)) (aO))))))) (aX (nP (i:=4) rfl rfl (by trivial) (fK (aC (bH (bF hK hu) (aA (i:=5)) (aF) (fun _ _=>rfl)) (aC (bH (bF hK hu) (aA (i:=6)) (aF) (fun _ _=>rfl)) (aC (cP dI (by rfl) B.tuple cX (aC (aA (i:=7)) (aO))) (aC (aA (i:=8)) (aO)))))))))) (fV)))))) (aX (j8 (fK (aC (cP dI (by rfl) B.tuple cX (aC (aA (i:=0)) (aO))) (aC (cP dI (by rfl) B.tuple cX (aC (aA (i:=1)) (aO))) (aC (cP dI (by rfl) B.tuple cX (aC (aA (i:=2)) (aO))) (aC (cP dI (by rfl) B.tuple cX (aC (aA (i:=4)) (aO))) (aO)))))))))
theorem sJ:bW nT ["found", "words"] (aJ kJ):=by refine ⟨rfl,rfl,rfl,?_,rfl,?_,?_⟩ <;> decide +kernel
theorem qD [KFrag] {P:Program} {w:World} {K:Frag} {mg:Str->Option Value} {base:Heap} {fad:Addr} {fd:FuncData} (hK:KFrag.K=K) (B:Bt mg)  (F:Fun K "_law_right" "_law_right" kJ fad fd) (hm:mg "_law_right" = some (.ref fad)):m8 P w K mg base 1 "_law_right" 2 cD:=by
 have sc:=sJ;refine uF (ps:=["found", "words"]) (N:=nT) (k:=0) F hm (F.binds fun _ _ _ _ _ _ us hl=>match us,hl with|[_,_],_=>rfl) sc vA (by decide) (by decide) fun cdv A outer s H E hr=>?_
 have hu:=wR hr;exact aG (lU (PW.pt (FJ (yS (pA (uC .tuple (aA (i:=0)) (by rfl) B.isi eQ (by rfl) B.tuple cX))) (tY (dM (FN hu) (cA (g_ hK) (by rfl) B.len iB (aC (aA (i:=0)) (aO))) (aF) (eN _))))) (aX (j8 (E_))) (fV)) (aG (lU (PW.pt (FJ (yS (pA (uC .tuple (bH (bF hK hu) (aA (i:=0)) (aF) (fun _ _=>rfl)) (by rfl) B.isi eQ (by rfl) B.tuple cX))) (tY (dM (FN hu) (cA (g_ hK) (by rfl) B.len iB (aC (bH (bF hK hu) (aA (i:=0)) (aF) (fun _ _=>rfl)) (aO))) (cA (g_ hK) (by rfl) B.len iB (aC (aA (i:=1)) (aO))) (eN _))))) (aX (j8 (E_))) (fV)) (aG (qN PassesOwn.never rfl (lO (by rfl) B.range (aC (cA (g_ hK) (by rfl) B.len iB (aC (aA (i:=1)) (aO))) (aO))) (lW (i:=2) rfl) (aZ (i:=2) sc.nd rfl (by trivial)) (aX (lU (PW.pt (FJ (yS (pA (uC .str (bH (bF hK hu) (bH (bF hK hu) (aA (i:=0)) (aF) (fun _ _=>rfl)) (aA (i:=2)) (fun _ _=>rfl)) (by rfl) B.isi eQ (by rfl) B.str aB9))) (tY (dM (FN hu) (bH (bF hK hu) (bH (bF hK hu) (aA (i:=0)) (aF) (fun _ _=>rfl)) (aA (i:=2)) (fun _ _=>rfl)) (bH (bF hK hu) (aA (i:=1)) (aA (i:=2)) (fun _ _=>rfl)) (eN _))))) (aX (j8 (E_))) (fV)))) (aG (qN PassesOwn.never rfl (dW (jN hK (aA (i:=0)) (e_ (aF)) (gJ))) (lW (i:=3) rfl) (aZ (i:=3) sc.nd rfl (by trivial)) (aX (lU (PW.pt (FJ (yS (pA (uC .int (aA (i:=3)) (by rfl) B.isi eQ (by rfl) B.int aB8))) (FJ (pA (uC .bool (aA (i:=3)) (by rfl) B.isi eQ (by rfl) B.bool XX)) (tY (dM (FN hu) (aA (i:=3)) (aF) (eN _)))))) (aX (j8 (E_))) (fV)))) (aX (j8 (E_))))))
theorem aC6:bW aC5 ["script"] (aJ rY):=by refine ⟨rfl,rfl,rfl,?_,rfl,?_,?_⟩ <;> decide +kernel
theorem aC7 [KFrag] {P:Program} {w:World} {K:Frag} {mg:Str->Option Value} {base:Heap} {fad:Addr} {fd:FuncData} (hK:KFrag.K=K) (B:Bt mg) (c__law_next:GC P w K mg base 1 "_law_next" 1 1 aL) (c__law_names:GC P w K mg base 2 "_law_names" 1 1 cR) (c__law_sig:GC P w K mg base 2 "_law_sig" 2 1 d7) (c__law_words:GC P w K mg base 2 "_law_words" 6 1 cT) (c__law_program:m8 P w K mg base 2 "_law_program" 4 cJ) (c_worth:aBf P w K mg base 4 "worth" "most" 2 (.int 400) gM) (c__law_right:m8 P w K mg base 1 "_law_right" 2 cD) (F:Fun K "law" "law" rY fad fd):mC P w K mg base CX0 5 fad fd ["script"] (spD xJ 1):=by
 have sc:=aC6;refine aB5 (ps:=["script"]) (N:=aC5) (k:=4) F sc o_law (by decide) (by decide) fun cdv A outer s H E hr=>?_
 have hu:=wR hr;exact aG (bU (i:=1) (o:=true) rfl sc.nd rfl (by trivial) (aBp (gG (aC (jN hK (aA (i:=0)) (gJ) (e_ (aF))) (aC (aF) (aO)))))) (aG (kI (i:=2) (o:=false) rfl sc.nd rfl (by trivial) (dF (i:=1) c__law_next hr (by decide) (by rfl) rfl rfl (by trivial) (iC))) (aG (kI (i:=3) (o:=false) rfl sc.nd rfl (by trivial) (uQ bR (dF (i:=1) c__law_next hr (by decide) (by rfl) rfl rfl (by trivial) (iC)) (aF))) (aG (kI (i:=4) (o:=false) rfl sc.nd rfl (by trivial) (dF (i:=1) c__law_names hr (by decide) (by rfl) rfl rfl (by trivial) (iC))) (aG (aBy (is:=[5,6,7,8]) (by decide) (dF (i:=1) c__law_sig hr (by decide) (by rfl) rfl rfl (by trivial) (zQ (i:=4) rfl rfl (by trivial) (iC))) (YG rfl (eG (aZ (i:=5) sc.nd rfl (by trivial)) (eG (aZ (i:=6) sc.nd rfl (by trivial)) (eG (aZ (i:=7) sc.nd rfl (by trivial)) (eG (aZ (i:=8) sc.nd rfl (by trivial)) (vZ))))))) (aG (bU (i:=9) (o:=false) rfl sc.nd rfl (by trivial) (bH (bF hK hu) (gG (aC (aF) (aC (aF) (aC (aF) (aC (aF) (aO)))))) (aW bR (aW dB (aA (i:=2)) (aF)) (aF)) (fun _ _=>rfl))) (aG (kI (i:=10) (o:=false) rfl sc.nd rfl (by trivial) (dF (i:=1) c__law_words hr (by decide) (by rfl) rfl rfl (by trivial) (zQ (i:=6) rfl rfl (by trivial) (aBn (bH (bF hK hu) (aA (i:=5)) (aW bR (aW dB (aA (i:=2)) (aF)) (cA (g_ hK) (by rfl) B.len iB (aC (aA (i:=5)) (aO)))) (fun _ _=>rfl)) (zQ (i:=9) rfl rfl (by trivial) (aBn (aAt (pY hu) (aW bR (aW dB (aA (i:=2)) (aF)) (aF)) (aF) (eN _)) (zQ (i:=8) rfl rfl (by trivial) (iC)))))))) (aG (bU (i:=11) (o:=false) rfl sc.nd rfl (by trivial) (jD c__law_program hr (by decide) (by rfl) (aC (aA (i:=5)) (aC (aA (i:=6)) (aC (aA (i:=7)) (aC (aA (i:=4)) (aO))))))) (aG (lU (dM (pY hu) (aW bR (aA (i:=2)) (aF)) (aF) (eN _)) (aX (j8 (jD c__law_right hr (by decide) (by rfl) (aC (M3 c_worth hr (by decide) (by rfl) (aC (aA (i:=11)) (aC (cP dI (by rfl) B.tuple cX (aC (aA (i:=10)) (aO))) (aO)))) (aC (aA (i:=10)) (aO)))))) (fV)) (aX (j8 (jD c__law_right hr (by decide) (by rfl) (aC (jD c_worth.cal hr (by decide) (by rfl) (aC (aA (i:=11)) (aC (cP dI (by rfl) B.tuple cX (aC (aA (i:=10)) (aO))) (aC (bH (bF hK hu) (gG (aC (aF) (aC (YD (aA (i:=3))) (aO)))) (aW tZ (aW bR (aA (i:=2)) (aF)) (aF)) (fun _ _=>rfl)) (aO))))) (aC (aA (i:=10)) (aO))))))))))))))
noncomputable def AtN (K:Frag) (n:Str) (st:Stmt):Prop:=∃(f:Addr) (fd:FuncData),nsIn K mainGlobals n=some (some (.ref f))/\Fun K n n st f fd
theorem aEw {K:Frag} {n:Str} {st:Stmt} {f:Addr} {oc kV dc pm cd ct:Value} {od an:Option Addr} {sl:Array (Option Value)} (a:nsIn K mainGlobals n=some (some (.ref f))) (l:K.lookup f=some ⟨oc,od,.func (fnOf n n (eY st) (cF st) (aJ st) .none kV dc pm an cd ct),sl⟩) (c:codeIn K cd n=true) (k:keepIn K (.ref f)=true):AtN K n st:=⟨f,_,a,lC (st:=st) l c k⟩
theorem aC8 {l:OpenLaw} {w:World} {K:Frag} {h:Heap} {mg:Str->Option Value} {fa:Addr} (X:K.In h) (G:h.Ns mainGlobals mg) (hfa:mg "law" = some (.ref fa)) (a0:AtN K "heads_of" nA) (a1:AtN K "words_of" nC)
  {f2 T2:Addr} {oc2 kV2 dc2 pm2 cd2 ct2 tc2:Value} {od2 an2 td2:Option Addr} {sl2 tl2:Array (Option Value)} {tk2:Tok} {tn2:Nat} (a2:nsIn K mainGlobals "worth" = some (some (.ref f2))) (l2:K.lookup f2=some ⟨oc2,od2,.func (fnOf "worth" "worth" (eY nF) (cF nF) (aJ nF) (.ref T2) kV2 dc2 pm2 an2 cd2 ct2),sl2⟩) (c2:codeIn K cd2 "worth" = true) (k2:keepIn K (.ref f2)=true) (t2:K.lookup T2=some ⟨tc2,td2,.seq #[.int 400 tk2] tn2,tl2⟩) (a3:AtN K "_law_next" lY) (a4:AtN K "_law_names" fO) (a5:AtN K "_law_sig" fC) (a6:AtN K "_law_words" d8) (a7:AtN K "_law_bare" gP) (a8:AtN K "_law_program" iJ) (a9:AtN K "_law_right" kJ)
  {f10:Addr} {oc10 kV10 dc10 pm10 cd10 ct10:Value} {od10 an10:Option Addr} {sl10:Array (Option Value)} (a10:nsIn K mainGlobals "law" = some (some (.ref f10))) (l10:K.lookup f10=some ⟨oc10,od10,.func (fnOf "law" "law" (eY rY) (cF rY) (aJ rY) .none kV10 dc10 pm10 an10 cd10 ct10),sl10⟩) (c10:codeIn K cd10 "law" = true) (k10:keepIn K (.ref f10)=true) (z_len:nsIn K mainGlobals "len" = some none) (z_min:nsIn K mainGlobals "min" = some none) (z_max:nsIn K mainGlobals "max" = some none) (z_list:nsIn K mainGlobals "list" = some none) (z_tuple:nsIn K mainGlobals "tuple" = some none) (z_sorted:nsIn K mainGlobals "sorted" = some none) (z_range:nsIn K mainGlobals "range" = some none) (z_isinstance:nsIn K mainGlobals "isinstance" = some none) (z_int:nsIn K mainGlobals "int" = some none) (z_bool:nsIn K mainGlobals "bool" = some none) (z_str:nsIn K mainGlobals "str" = some none) (z_dict:nsIn K mainGlobals "dict" = some none) (z_all:nsIn K mainGlobals "all" = some none) (z_enumerate:nsIn K mainGlobals "enumerate" = some none) (z_sum:nsIn K mainGlobals "sum" = some none) (z_zip:nsIn K mainGlobals "zip" = some none) (z_abs:nsIn K mainGlobals "abs" = some none) (z_reversed:nsIn K mainGlobals "reversed" = some none) {d_Frame:Addr} (g_Frame:nsIn K mainGlobals "Frame" = some (some (.ref d_Frame))) {i_Frame:Addr} {oc_Frame kV_Frame dc_Frame pm_Frame cd_Frame ct_Frame:Value} {od_Frame an_Frame:Option Addr} {sl_Frame:Array (Option Value)} {d_PlainRun:Addr} (g_PlainRun:nsIn K mainGlobals "PlainRun" = some (some (.ref d_PlainRun))) {i_PlainRun:Addr} {oc_PlainRun kV_PlainRun dc_PlainRun pm_PlainRun cd_PlainRun ct_PlainRun:Value} {od_PlainRun an_PlainRun:Option Addr} {sl_PlainRun:Array (Option Value)} {i_take_word:Addr} {oc_take_word kV_take_word dc_take_word pm_take_word cd_take_word ct_take_word:Value} {od_take_word an_take_word:Option Addr} {sl_take_word:Array (Option Value)} {i_value_of:Addr} {oc_value_of kV_value_of dc_value_of pm_value_of cd_value_of ct_value_of:Value} {od_value_of an_value_of:Option Addr} {sl_value_of:Array (Option Value)} (pg_Frame:plainGet K d_Frame Str.empty=true) (hd_Frame:hasDictIn K d_Frame=true) (po_Frame:plainOver K d_Frame=true) (sa_Frame:findIn K (.ref d_Frame) "__setattr__" = some (some (.builtin "object.__setattr__"))) (mk_Frame:makesIn K d_Frame=true) (kp_Frame:keepIn K (.ref d_Frame)=true) (in_Frame:findIn K (.ref d_Frame) "__init__" = some (some (.ref i_Frame))) (li_Frame:K.lookup i_Frame=some ⟨oc_Frame,od_Frame,.func (fnOf "__init__" "Frame.__init__" (eY lX) (cF lX) (aJ lX) .none kV_Frame dc_Frame pm_Frame an_Frame cd_Frame ct_Frame),sl_Frame⟩) (ci_Frame:codeIn K cd_Frame "Frame.__init__" = true) (ki_Frame:keepIn K (.ref i_Frame)=true) (fn_Frame:isFn K (.ref i_Frame)=true) (no_Frame_words:findIn K (.ref d_Frame) "words" = some none) (no_Frame_left:findIn K (.ref d_Frame) "left" = some none) (no_Frame_known:findIn K (.ref d_Frame) "known" = some none) (pg_PlainRun:plainGet K d_PlainRun Str.empty=true) (hd_PlainRun:hasDictIn K d_PlainRun=true) (po_PlainRun:plainOver K d_PlainRun=true) (sa_PlainRun:findIn K (.ref d_PlainRun) "__setattr__" = some (some (.builtin "object.__setattr__"))) (mk_PlainRun:makesIn K d_PlainRun=true) (kp_PlainRun:keepIn K (.ref d_PlainRun)=true) (in_PlainRun:findIn K (.ref d_PlainRun) "__init__" = some (some (.ref i_PlainRun))) (li_PlainRun:K.lookup i_PlainRun=some ⟨oc_PlainRun,od_PlainRun,.func (fnOf "__init__" "PlainRun.__init__" (eY dJ) (cF dJ) (aJ dJ) .none kV_PlainRun dc_PlainRun pm_PlainRun an_PlainRun cd_PlainRun ct_PlainRun),sl_PlainRun⟩) (ci_PlainRun:codeIn K cd_PlainRun "PlainRun.__init__" = true) (ki_PlainRun:keepIn K (.ref i_PlainRun)=true) (fn_PlainRun:isFn K (.ref i_PlainRun)=true) (no_PlainRun_heads:findIn K (.ref d_PlainRun) "heads" = some none) (no_PlainRun_makers:findIn K (.ref d_PlainRun) "makers" = some none) (no_PlainRun_rules:findIn K (.ref d_PlainRun) "rules" = some none) (no_PlainRun_most:findIn K (.ref d_PlainRun) "most" = some none) (no_PlainRun_calls:findIn K (.ref d_PlainRun) "calls" = some none) (no_PlainRun_copies:findIn K (.ref d_PlainRun) "copies" = some none) (no_PlainRun_drops:findIn K (.ref d_PlainRun) "drops" = some none) (in_take_word:findIn K (.ref d_PlainRun) "take_word" = some (some (.ref i_take_word))) (li_take_word:K.lookup i_take_word=some ⟨oc_take_word,od_take_word,.func (fnOf "take_word" "PlainRun.take_word" (eY cY) (cF cY) (aJ cY) .none kV_take_word dc_take_word pm_take_word an_take_word cd_take_word ct_take_word),sl_take_word⟩) (ci_take_word:codeIn K cd_take_word "PlainRun.take_word" = true) (ki_take_word:keepIn K (.ref i_take_word)=true) (fn_take_word:isFn K (.ref i_take_word)=true) (in_value_of:findIn K (.ref d_PlainRun) "value_of" = some (some (.ref i_value_of))) (li_value_of:K.lookup i_value_of=some ⟨oc_value_of,od_value_of,.func (fnOf "value_of" "PlainRun.value_of" (eY fB) (cF fB) (aJ fB) .none kV_value_of dc_value_of pm_value_of an_value_of cd_value_of ct_value_of),sl_value_of⟩) (ci_value_of:codeIn K cd_value_of "PlainRun.value_of" = true) (ki_value_of:keepIn K (.ref i_value_of)=true) (gR:isFn K (.ref i_value_of)=true) :
  ∃fd:FuncData,(∀(s:Shared) (v:Value),BindsTo s fd ⟨[v],[]⟩ [("script",v)])/\∀base:Heap,K.In base->base.Ns mainGlobals mg->mC l.prog w K mg base CX0 5 fa fd ["script"] (@spD ⟨K⟩ xJ 1):=by
 have e:=hfa.symm.trans (mg_of X G a10);cases e
 letI:KFrag:=⟨K⟩
 have Y:=fun {n:Str} {v:Value}=>mg_of (n:=n) (v:=v) X G
 have Z:=fun {n:Str}=>mg_none_of (n:=n) X G
 obtain ⟨f0,_,a0,F0⟩:=a0;obtain ⟨f1,_,a1,F1⟩:=a1;obtain ⟨f3,_,a3,F3⟩:=a3;obtain ⟨f4,_,a4,F4⟩:=a4;obtain ⟨f5,_,a5,F5⟩:=a5;obtain ⟨f6,_,a6,F6⟩:=a6;obtain ⟨f7,_,a7,F7⟩:=a7;obtain ⟨f8,_,a8,F8⟩:=a8;obtain ⟨f9,_,a9,F9⟩:=a9;have B:Bt mg:=⟨Z z_len,Z z_min,Z z_max,Z z_list,Z z_tuple,Z z_sorted,Z z_range,Z z_isinstance,Z z_int,Z z_bool,Z z_str,Z z_dict,Z z_all,Z z_enumerate,Z z_sum,Z z_zip,Z z_abs,Z z_reversed⟩
 refine ⟨fnOf "law" "law" (eY rY) (cF rY) (aJ rY) .none kV10 dc10 pm10 an10 cd10 ct10,fun s v=>.of_eq rfl,fun base _ _=>?_⟩;have h_heads_of:=vB (P:=l.prog) (w:=w) (base:=base) rfl B  F0 (Y a0);have h_words_of:=vC (P:=l.prog) (w:=w) (base:=base) rfl B  F1 (Y a1);have cl_Frame:Cls K d_Frame:=⟨pg_Frame,hd_Frame,po_Frame,sa_Frame⟩
 have q_Frame:Z3 l.prog w K mg base 1 "Frame" nD 2:=⟨d_Frame,i_Frame,_,_,g_Frame,Y g_Frame,⟨mk_Frame,in_Frame,fn_Frame,kp_Frame⟩,O2 rfl B  cl_Frame (List.forall_mem_cons.2 ⟨no_Frame_words,(List.forall_mem_cons.2 ⟨no_Frame_left,(List.forall_mem_cons.2 ⟨no_Frame_known,(List.forall_mem_nil _)⟩)⟩)⟩) (lC (st:=lX) li_Frame ci_Frame ki_Frame),((lC (st:=lX) li_Frame ci_Frame ki_Frame).binds fun _ _ _ _ _ _ us hl=>match us,hl with|[_,_,_],_=>rfl)⟩
 have fl_Frame_words:p6 K "Frame" "words":=fun C h=>by cases (g_Frame.symm.trans h);exact ⟨cl_Frame,no_Frame_words⟩
 have fl_Frame_left:p6 K "Frame" "left":=fun C h=>by cases (g_Frame.symm.trans h);exact ⟨cl_Frame,no_Frame_left⟩
 have fl_Frame_known:p6 K "Frame" "known":=fun C h=>by cases (g_Frame.symm.trans h);exact ⟨cl_Frame,no_Frame_known⟩
 have cl_PlainRun:Cls K d_PlainRun:=⟨pg_PlainRun,hd_PlainRun,po_PlainRun,sa_PlainRun⟩
 have q_PlainRun:Z3 l.prog w K mg base 2 "PlainRun" dZ 2:=⟨d_PlainRun,i_PlainRun,_,_,g_PlainRun,Y g_PlainRun,⟨mk_PlainRun,in_PlainRun,fn_PlainRun,kp_PlainRun⟩,vD rfl B h_heads_of cl_PlainRun (List.forall_mem_cons.2 ⟨no_PlainRun_heads,(List.forall_mem_cons.2 ⟨no_PlainRun_makers,(List.forall_mem_cons.2 ⟨no_PlainRun_rules,(List.forall_mem_cons.2 ⟨no_PlainRun_most,(List.forall_mem_cons.2 ⟨no_PlainRun_calls,(List.forall_mem_cons.2 ⟨no_PlainRun_copies,(List.forall_mem_cons.2 ⟨no_PlainRun_drops,(List.forall_mem_nil _)⟩)⟩)⟩)⟩)⟩)⟩)⟩) (lC (st:=dJ) li_PlainRun ci_PlainRun ki_PlainRun),((lC (st:=dJ) li_PlainRun ci_PlainRun ki_PlainRun).binds fun _ _ _ _ _ _ us hl=>match us,hl with|[_,_,_],_=>rfl)⟩
 have fl_PlainRun_heads:p6 K "PlainRun" "heads":=fun C h=>by cases (g_PlainRun.symm.trans h);exact ⟨cl_PlainRun,no_PlainRun_heads⟩
 have fl_PlainRun_makers:p6 K "PlainRun" "makers":=fun C h=>by cases (g_PlainRun.symm.trans h);exact ⟨cl_PlainRun,no_PlainRun_makers⟩
 have fl_PlainRun_rules:p6 K "PlainRun" "rules":=fun C h=>by cases (g_PlainRun.symm.trans h);exact ⟨cl_PlainRun,no_PlainRun_rules⟩
 have fl_PlainRun_most:p6 K "PlainRun" "most":=fun C h=>by cases (g_PlainRun.symm.trans h);exact ⟨cl_PlainRun,no_PlainRun_most⟩
 have fl_PlainRun_calls:p6 K "PlainRun" "calls":=fun C h=>by cases (g_PlainRun.symm.trans h);exact ⟨cl_PlainRun,no_PlainRun_calls⟩
 have fl_PlainRun_copies:p6 K "PlainRun" "copies":=fun C h=>by cases (g_PlainRun.symm.trans h);exact ⟨cl_PlainRun,no_PlainRun_copies⟩
 have fl_PlainRun_drops:p6 K "PlainRun" "drops":=fun C h=>by cases (g_PlainRun.symm.trans h);exact ⟨cl_PlainRun,no_PlainRun_drops⟩
 have m_value_of:aEp l.prog w K mg base 3 "PlainRun" "value_of" 2 gD:=⟨d_PlainRun,i_value_of,_,_,g_PlainRun,cl_PlainRun,⟨in_value_of,gR,ki_value_of⟩,Lk52.gR rfl B q_Frame g_PlainRun g_Frame cl_Frame no_Frame_left cl_PlainRun ⟨in_take_word,fn_take_word,ki_take_word⟩ (vH rfl B fl_Frame_known fl_PlainRun_heads fl_PlainRun_makers (lC (st:=cY) li_take_word ci_take_word ki_take_word)) ((lC (st:=cY) li_take_word ci_take_word ki_take_word).binds fun _ _ _ _ _ _ us hl=>match us,hl with|[_,_,_,_],_=>rfl) fl_Frame_words fl_Frame_left (lC (st:=fB) li_value_of ci_value_of ki_value_of),((lC (st:=fB) li_value_of ci_value_of ki_value_of).binds fun _ _ _ _ _ _ us hl=>match us,hl with|[_,_],_=>rfl)⟩
 have F2:aEj K "worth" "worth" nF f2 _ T2 #[.int 400 tk2]:=⟨⟨_,_,_,_,_,_,_,_,_,rfl,l2,c2⟩,k2,⟨_,_,_,_,t2⟩⟩
 have h_worth:aBf l.prog w K mg base 4 "worth" "most" 2 (.int 400) gM:=⟨⟨f2,_,["program", "words", "most"],.int 400 tk2,.int 400,O3 rfl B h_words_of q_PlainRun m_value_of fl_PlainRun_drops fl_PlainRun_copies fl_PlainRun_calls F2,Y a2,k2,(fun s us X' hl=>match us,(show us.length=3 by simpa using hl) with|[_,_,_],_=>BindsTo.of_defaults rfl (X' _ _ t2) rfl rfl rfl),(fun s us X' hl=>match us,(show us.length=2 by simpa using hl) with|[_,_],_=>BindsTo.of_defaults rfl (X' _ _ t2) rfl rfl rfl),⟨_,rfl⟩,fun _=>.int 400,fun s us y X' hl=>match us,hl with|[_,_],_=>by first|exact .of_eq rfl|exact .of_eq (by with_unfolding_all rfl)|exact BindsTo.of_defaults rfl (X' _ _ t2) rfl rfl rfl|exact BindsTo.of_defaults rfl (X' _ _ t2) rfl (by with_unfolding_all rfl) (by with_unfolding_all rfl)⟩⟩
 have h__law_next:=rZ (P:=l.prog) (w:=w) (base:=base) rfl B  F3 (Y a3);have h__law_names:=p_ (P:=l.prog) (w:=w) (base:=base) rfl B h__law_next F4 (Y a4);have h__law_sig:=vJ (P:=l.prog) (w:=w) (base:=base) rfl B h__law_next F5 (Y a5);have h__law_words:=qC (P:=l.prog) (w:=w) (base:=base) rfl B h__law_next F6 (Y a6);have h__law_bare:=sI (P:=l.prog) (w:=w) (base:=base) rfl B  F7 (Y a7);have h__law_program:=nZ (P:=l.prog) (w:=w) (base:=base) rfl B h__law_bare F8 (Y a8);have h__law_right:=qD (P:=l.prog) (w:=w) (base:=base) rfl B  F9 (Y a9);exact aC7 rfl B h__law_next h__law_names h__law_sig h__law_words h__law_program h_worth h__law_right (lC (st:=rY) l10 c10 k10)
theorem walk {l:OpenLaw} {q:Program} {loose:List Str} {XP:(Str->Option Value)->Heap->Prop} {YP:World->Heap->Prop} {d:DefRec} {K:Params->Frag} (main:∀ns:List Int,ns.length<=63->xJ [.scr (ns.map D.int)]=.ok (.bl true)) (hn:l.most=some 63) (hdf:d.params.defaults=[])
  (hY:∀(w:World) (h:Heap),YP w h->(K w.params).In h)
  (F:∀(w:World) (mg:Str->Option Value) (fa:Addr) (h:Heap),(K w.params).In h->h.Ns mainGlobals mg->mg d.name=some (.ref fa)->
   ∃fd:FuncData,(∀(s:Shared) (u:Value),BindsTo s fd ⟨[u],[]⟩ [("script",u)])/\∀base:Heap,(K w.params).In base->base.Ns mainGlobals mg->mC l.prog w (K w.params) mg base CX0 5 fa fd ["script"] (@spD ⟨K w.params⟩ xJ 1)) :
  WalkO q loose XP YP l.row.toRowW d [] (fun f vs=>PySem.call f vs):=
 L2.W3 (n:=63) (k:=5) (x := "script") (CX:=fun _=>CX0) (sp:=fun w=>@spD ⟨K w.params⟩ xJ 1) hn (by decide) hdf ⟨rfl,by decide,by decide⟩ hY F (fun w H a ns hl hO hS=>K_ main hl hO hS) fun _ _ _ _ _ z=>z
end Lk52
end
section
namespace Lk52
open PySem L2 Mi
theorem iU {f:List D->Res D} {n i:Nat} {fs:FA} {ρ rest h h':List D} {r:D} (h1:fs ρ=.ok rest) (h2:sY (ρ.getD i .uD)=some h) (h3:rest.length+1=n) (h4:ch1 f h rest=.ok (r,h')) (h5:D.aN h'=true) {ρ':List D} (he:ρ.set i (F_ (ρ.getD i .uD) h')=ρ'):bV f n i fs ρ=.ok (r,ρ'):=by
 subst he;unfold bV;rw [h1,Res.aM,h2];dsimp only;rw [if_pos (decide_eq_true h3),h4,Res.aM];dsimp only;rw [if_pos h5]
theorem fW {i:Nat} {f:FX} {ρ ρ':List D} {d:D} (h:f ρ=.ok (d,ρ')) {ρ2:List D} (he:ρ'.set i d=ρ2):eE false i f ρ=.ok (.nx ρ2):=by
 subst he;unfold eE;rw [h];rfl
theorem VD {f g:FS} {ρ:List D} {d:D} (h:f ρ=.ok (.rt d)):bA f g ρ=.ok (.rt d):=by
 unfold bA;rw [h];rfl
theorem O4 {i:Nat} {fk fv:FE} {ρ xs:List D} {d:D} {k:Int} {j:Nat} (h1:fv ρ=.ok d) (h2:fk ρ=.ok (.int k)) (h3:sY (ρ.getD i .uD)=some xs) (hp:d.pure=true) (hj:ixD xs.length k=some j) {ρ':List D} (he:ρ.set i (F_ (ρ.getD i .uD) (xs.set j d))=ρ'):wU i fk fv ρ=.ok (.nx ρ'):=by
 subst he;unfold wU;rw [h1,Res.aM,h2,Res.aM,h3];dsimp only;rw [if_pos hp,hj]
theorem xQ {f:FE} {ρ:List D} {d:D} {k:Bool} (h:f ρ=.ok d) (hp:(k||d.pure)=true):wB f k ρ=.ok (.rt (.tup (d::ρ))):=by
 unfold wB;rw [h,Res.aM,if_pos hp]
theorem zY {i:Nat} {ρ:List D} {d:D} (h:cL i ρ=.ok d) (hp:d.yN=true):qL i ρ=.ok (.rt (.tup (d::ρ))):=by
 unfold qL;rw [h,Res.aM,if_pos hp]
theorem aC9 {f:FE} {ρ:List D} {d:D} (h:f ρ=.ok d) (hp:d.pure=true):bPu f ρ=.ok d:=by
 unfold bPu;rw [h,Res.aM,if_pos hp]
theorem q_ {f:D->D->Res D} {fa:FX} {fb:FE} {ρ ρ1:List D} {x y d:D} (h1:fa ρ=.ok (x,ρ1)) (hp:x.pure=true) (h2:fb ρ1=.ok y) (h3:f x y=.ok d) (hd:d.pure=true):x2L f fa fb ρ=.ok (d,ρ1):=by
 unfold x2L;rw [h1,Res.aM];dsimp only;rw [if_pos hp,h2,Res.aM,h3,Res.aM,if_pos hd]
theorem aCa {f:D->D->Res D} {fa:FE} {fb:FX} {ρ ρ1:List D} {x y d:D} (h1:fa ρ=.ok x) (h2:fb ρ=.ok (y,ρ1)) (h3:f x y=.ok d) (hd:d.pure=true):x2R f fa fb ρ=.ok (d,ρ1):=by
 unfold x2R;rw [h1,Res.aM,h2,Res.aM];dsimp only;rw [h3,Res.aM,if_pos hd]
theorem aCb {f:FX} {ρ ρ1:List D} {b:Bool} (h:f ρ=.ok (.bl b,ρ1)):xTB f ρ=.ok (b,ρ1):=by
 unfold xTB;rw [h];rfl
theorem O5 {c:FXT} {f g:FS} {ρ ρ1:List D} {k:Bool} {r:Res Fl} (h1:c ρ=.ok (k,ρ1)) (h2:(if k then f ρ1 else g ρ1)=r):aBh c f g ρ=r:=by
 unfold aBh;rw [h1];exact h2
theorem vL {k n m:Nat} {f:FS} {ds:List D} {d:D} {ρ:List D} (h:f (ds++List.replicate (m-n) .uD)=.ok (.rt (.tup (d::ρ)))):fnX k n m f ds=.ok (.tup (d::ρ.take k)):=by
 unfold fnX;rw [h];rfl
theorem pP (a b:Int) (h:jK b=true):uG (.int a) (.int b)=.ok (.int (a*b)):=by
 show aQ .mul (.int a) (.int b)=_;exact aBd a b h
theorem O6 (a:Int) (h1:-10000000000<=a) (h2:a<=10000000000):jK a=true:=by
 unfold jK;rw [Bool.and_eq_true,decide_eq_true_eq,decide_eq_true_eq];lia
theorem aCc (a b:Int):dG (.ord .le) (.int a) (.int b)=.ok (.bl (decide (a<=b))):=rfl
theorem VF (a b:Int):dG (.ord .lt) (.int a) (.int b)=.ok (.bl (decide (a<b))):=rfl
theorem cmp_gt (a b:Int):dG (.ord .gt) (.int a) (.int b)=.ok (.bl (decide (b<a))):=rfl
theorem kO (a b:Int):dG .eq (.int a) (.int b)=.ok (.bl (a==b)):=rfl
theorem YX (a b:Int):dG .ne (.int a) (.int b)=.ok (.bl (!(a==b))):=rfl
theorem O7 (ns:List Int) (i:Int) (h0:0<=i) (h1:i<ns.length):∃n,getD (.scr (ns.map D.int)) (.int i)=.ok (.int n):=by
 have hl:i.toNat<ns.length:=by lia
 refine ⟨ns[i.toNat],?_⟩;show Res.ofOpt ((ixD (ns.map D.int).length i).bind fun j=>(ns.map D.int)[j]?)=_;unfold ixD;rw [if_pos h0,List.length_map,if_pos h1];simp [hl]
def tx (cs:List Nat):Str:=⟨cs.toArray⟩
theorem nU (cs:List Nat):(tx cs).length=cs.length:=by
 show cs.toArray.size=_;simp
theorem O8 (a b:List Nat):tx a++tx b=tx (a++b):=by
 show (⟨a.toArray++b.toArray⟩:Str)=⟨(a++b).toArray⟩
 congr 1
 simp
theorem VG {a b:List Nat} (h:tx a=tx b):a=b:=by
 unfold tx at h;injection h with h
 have:=congrArg Array.toList h;simpa using this
def abc:Str := "abcdefghijklmnopqrstuvwxyz"
theorem aCd:∀i,i<26->abc.cps.toList[i]?=some (97+i):=by decide +kernel
theorem letter (i:Int) (h0:0<=i) (h1:i<26):getD (.str abc) (.int i)=.ok (.str (tx [97+i.toNat])):=by
 have hl:decide (abc.length<=lim)=true:=by decide +kernel
 have h26:abc.cps.toList.length=26:=by decide +kernel
 have hix:ixD abc.cps.toList.length i=some i.toNat:=by
  unfold ixD;rw [if_pos h0,h26,if_pos (by lia)]
 show (if decide (abc.length<=lim) then Res.ofOpt (((ixD abc.cps.toList.length i).bind fun j=>abc.cps.toList[j]?).map fun c=>D.str ⟨#[c]⟩) else .bad)=_;rw [hl,if_pos rfl,hix];simp only [Option.bind_some];rw [aCd _ (by lia)];rfl
def dk (cs:List Int) (n:Nat):List D:=[.scr (cs.map D.int),.int n]
theorem jF (cs:List Int) (n:Nat):D.aN (dk cs n)=true:=by
 show ((D.scr (cs.map D.int)).pure&&_)=true;rw [D.pure,m_];rfl
theorem YZ (cs:List Int) (n:Nat) (hn:n<=100000):∃r:Int,∀b,aL [.cel b (dk cs n)]=.ok (.tup [.int r,.cel b (dk cs (n+1))]):=by
 have hl:j6 [.scr (cs.map D.int)]=.ok (.int cs.length):=by
  show Res.ok (D.int ((cs.map D.int).length:Int))=_;rw [List.length_map]
 have pre:∀(b:Nat) (R:Res Fl) (g:FS),g [.cel b (dk cs (n+1)),.scr (cs.map D.int),.int n]=R->(bA (cM false 1 (b2 getD gF fQ) false) (bA (cM false 2 (b2 getD gF dD) false) (bA (wU 0 dD (b2 (aQ .add) dO dD)) g))) [.cel b (dk cs n),.uD,.uD]=R:=fun b R g hg=>by
  refine aP (ρ':=[.cel b (dk cs n),.scr (cs.map D.int),.uD]) (jE (i:=1) (aH (x:=.cel b (dk cs n)) (y:=.int 0) rfl rfl rfl) (m_ cs)) ?_;refine aP (ρ':=[.cel b (dk cs n),.scr (cs.map D.int),.int n]) (jE (i:=2) (aH (x:=.cel b (dk cs n)) (y:=.int 1) rfl rfl rfl) rfl) ?_;exact aP (O4 (i:=0) (xs:=dk cs n) (k:=1) (j:=1) (d:=.int ((n+1:Nat):Int)) (aH (x:=.int n) (y:=.int 1) rfl rfl rfl) rfl rfl rfl rfl rfl) hg
 have h0:∀(b:Nat) (d:D) (ρ:List D),pM [.cel b (dk cs n),.uD,.uD]=.ok (.rt (.tup (d::.cel b (dk cs (n+1))::ρ)))->aL [.cel b (dk cs n)]=.ok (.tup [d,.cel b (dk cs (n+1))]):=fun b d ρ h=>vL (k:=1) (ρ:=.cel b (dk cs (n+1))::ρ) h
 by_cases h1:n<cs.length
 ·obtain ⟨r,hr⟩:=O7 cs n (by lia) (by lia);refine ⟨r,fun b=>h0 b _ _ (pre b _ _ (VD (U3 (gB (aH rfl (bB (aD rfl rfl) hl) ((VF _ _).trans (by rw [decide_eq_true (by lia)])))) (xQ (aH rfl rfl hr) rfl))))⟩
 ·have c1:∀b:Nat,(sIf (bTB (b2 (dG (.ord .lt)) dO (aY j6 (aB dY aU)))) (wB (b2 getD dY dO) false) (o8)) [.cel b (dk cs (n+1)),.scr (cs.map D.int),.int n]=.ok (.nx [.cel b (dk cs (n+1)),.scr (cs.map D.int),.int n]):=fun b=>LR (gB (aH rfl (bB (aD rfl rfl) hl) ((VF _ _).trans (by rw [decide_eq_false (by lia)])))) rfl
  have hs:jK (n:Int)=true:=O6 _ (by lia) (by lia);by_cases h2:cs.length=0
  ·refine ⟨(n:Int)*n*3+n,fun b=>h0 b _ _ (pre b _ _ (aP (c1 b) (VD (U3 (gB (aH (bB (aD rfl rfl) hl) rfl ((kO _ _).trans (by rw [h2];rfl)))) (xQ (aH (aH (aH rfl rfl (pP _ _ hs)) rfl (pP _ _ rfl)) rfl (dN _ _)) rfl)))))⟩
  ·have hp:(0:Int)<cs.length:=by lia
   obtain ⟨r,hr⟩:=O7 cs ((n:Int) % cs.length) (Int.emod_nonneg _ (by lia)) (Int.emod_lt_of_pos _ hp);refine ⟨r / 2+n*n,fun b=>h0 b _ _ (pre b _ _ (aP (c1 b) (aP (ρ':=[.cel b (dk cs (n+1)),.scr (cs.map D.int),.int n]) (LR (gB (aH (bB (aD rfl rfl) hl) rfl ((kO _ _).trans ?_))) rfl) (xQ (aH (aH (aH rfl (aH rfl (bB (aD rfl rfl) hl) (bO _ _ hp)) hr) rfl (dC _ _ (by decide) (by decide))) (aH rfl rfl (pP _ _ hs)) (dN _ _)) rfl))))⟩;have:((cs.length:Int)==0)=false:=by simpa using h2
   rw [this]
theorem gU (cs:List Int) (n:Nat) (hn:n<=100000):∃r:Int,ch1 aL (dk cs n) []=.ok (.int r,dk cs (n+1)):=by
 obtain ⟨r,h⟩:=YZ cs n hn;exact ⟨r,zM h⟩
theorem sO {cs:List Int} {n:Nat} {i:Nat} {ρ:List D} {r:Int} (e:ch1 aL (dk cs n) []=.ok (.int r,dk cs (n+1))) (h2:sY (ρ.getD i .uD)=some (dk cs n)) {ρ':List D} (he:ρ.set i (F_ (ρ.getD i .uD) (dk cs (n+1)))=ρ'):bV aL 1 i aU ρ=.ok (.int r,ρ'):=
 iU (fs:=aU) (rest:=[]) (h:=dk cs n) (h':=dk cs (n+1)) rfl h2 rfl e (jF cs (n+1)) he
end Lk52
end
section
namespace Lk52
open PySem L2 Mi
def one (c:Nat):Str:=⟨#[c]⟩
theorem vM:∀(cs:List Nat) (a:Array Nat),((cs.map one).foldl (fun acc p=>acc++("" : Str).cps++p.cps) a)=a++cs.toArray
 | [],a=>by simp
 | c::cs,a=>by
  rw [List.map_cons,List.foldl_cons,vM cs];apply Array.ext';simp [one,show (("" : Str).cps)=#[] from rfl]
theorem join_one (cs:List Nat):Txt.join ("" : Str) (cs.map one)=tx cs:=by
 unfold Txt.join Builtin.Str.glued tx;cases cs with
 | nil=>rfl
 | cons c cs=>
  rw [List.map_cons,List.drop_succ_cons,List.drop_zero,List.headD_cons,vM]
  congr 1
  apply Array.ext';simp [one]
theorem vN:∀cs:List Nat,pC (cs.map fun c=>D.str (one c))=some (cs.map one)
 | []=>rfl
 | c::cs=>by
  show (pC (cs.map fun c=>D.str (one c))).map (one c::·)=_;rw [vN cs];rfl
theorem Y0 (cs:List Nat) (h:cs.length<=100):joinM (.str "") [.lst (cs.map fun c=>D.str (one c))]=.ok (.str (tx cs)):=by
 show (match pC (cs.map fun c=>D.str (one c)) with|some ts=>if JoinOk "" ts then Res.ok (D.str (Txt.join "" ts)) else .bad|none=>.bad)=_;rw [vN];show (if JoinOk "" (cs.map one) then Res.ok (D.str (Txt.join "" (cs.map one))) else .bad)=_;have hok:JoinOk "" (cs.map one)=true:=by
  unfold JoinOk;rw [StrLaws.joinFits (B:=1) (fun y hy=>by obtain ⟨c,_,rfl⟩:=List.mem_map.mp hy;exact Nat.le_refl _) (by rw [List.length_map,show (("" : Str).length)=0 from rfl];lia)];rfl
 rw [if_pos hok,join_one]
theorem aGr {a b:FT} {ρ:List D} (h1:a ρ=.ok true):bOr a b ρ=.ok true:=by
 unfold bOr;rw [h1];rfl
theorem aEx {a b:FT} {ρ:List D} {r:Res Bool} (h1:a ρ=.ok false) (h2:b ρ=r):bOr a b ρ=r:=by
 unfold bOr;rw [h1];exact h2
theorem aEy {a b:FT} {ρ:List D} {x y:Bool} (h1:a ρ=.ok x) (h2:b ρ=.ok y):bOr a b ρ=.ok (x||y):=by
 cases x with
 | true=>exact aGr h1
 | false=>exact aEx h1 h2
noncomputable def nb:FS:=(bA (cM false 11 (b2 (aQ .mod) (b2 (aQ .add) (b2 uG iQ cO) eF) lA) true) (sIf (bTB (b2 (dG .eq) (b2 (aQ .mod) dO fZ) dD)) (rC 9 (b2 uG (b2 getD dY (b2 (aQ .mod) (b2 (aQ .add) eF (b2 (aQ .mod) iI yK)) lA)) (b2 (aQ .add) dD (b2 (aQ .fdiv) iI yK)))) (sIf (bTB (b2 (dG .eq) (b2 (aQ .mod) dO fZ) lL)) (bA (cM false 12 (b2 getD dY (b2 (aQ .mod) (b2 (aQ .add) eF (b2 (aQ .mod) iI G9)) lA)) false) (bA (cM false 13 (b2 getD dY (b2 (aQ .mod) (b2 (aQ .add) eF (b2 (aQ .fdiv) iI G9)) lA)) false) (rC 9 (b2 (aQ .add) (b2 (aQ .add) (b2 (aQ .add) (kZ mQ (eX) (dH n8)) tU) i_) (kZ mQ (dH n8) (eX)))))) (rC 9 (b2 (aQ .add) (b2 (aQ .add) (kZ mQ (eX) (dH n8)) (b2 getD dY iI)) (kZ mQ (dH n8) (eX)))))))
theorem jG {a:FE} {ρ:List D} {i:Int} (h:a ρ=.ok (.int i)):dH a ρ=.ok (some i):=by
 unfold dH;rw [h];rfl
theorem xR {a:FE} {lo hi:List D->Res (Option Int)} {ρ:List D} {x:Str} {l h:Option Int} (h1:a ρ=.ok (.str x)) (h2:lo ρ=.ok l) (h3:hi ρ=.ok h) (hx:x.length<=1000):kZ a lo hi ρ=.ok (.str (Txt.slice x l h)):=by
 unfold kZ;rw [h1,Res.aM,h2,Res.aM,h3,Res.aM];show (if decide (x.length<=lim) then Res.ok (D.str (Txt.slice x l h)) else .bad)=_;rw [if_pos (by rw [bK];exact decide_eq_true (by lia))]
theorem VH (x:Str):tx x.cps.toList=x:=rfl
theorem Y4 (c:Nat) (n:Nat) (h:1<=n):Txt.mul (tx [c]) (n:Int)=tx (List.replicate n c):=by
 unfold Txt.mul;rw [if_neg (by lia)];split
 ·rename_i h1;have:n=1:=by
   simp [nU] at h1;lia
  subst this;rfl
 ·have:∀(m:Nat) (a:List Nat),(List.replicate m (tx [c]).cps).foldl (·++·) a.toArray=(a++List.replicate m c).toArray:=by
   intro m;induction m with
   | zero=>intro a;simp
   | succ m ih=>
    intro a;rw [List.replicate_succ,List.foldl_cons];have:a.toArray++(tx [c]).cps=(a++[c]).toArray:=by
     apply Array.ext';simp [tx]
    rw [this,ih,List.replicate_succ];simp
  have e:=this n [];rw [Int.toNat_natCast];show (⟨_⟩:Str)=⟨_⟩
  congr 1
theorem SX (c:Nat) (n:Nat) (h:1<=n) (h2:n<=100):uG (.str (tx [c])) (.int n)=.ok (.str (tx (List.replicate n c))):=by
 show (if decide (0<=(n:Int))&&decide ((n:Int)<=100000)&&decide ((tx [c]).length*(n:Int).toNat<=lim) then Res.ok (D.str (Txt.mul (tx [c]) n)) else .bad)=_;have e3:decide ((tx [c]).length*(n:Int).toNat<=lim)=true:=by
  rw [nU,bK];simp;lia
 rw [e3,decide_eq_true (by lia),decide_eq_true (by lia),Y4 c n h];rfl
noncomputable abbrev ns (hD:D) (choice turn shift cell size:Int) (base:Str) (at_:Int) (NM:List D) (a b c d:D):List D:=[hD,.str abc,.int choice,.int turn,.int shift,.int cell,.int size,.str base,.int at_,.lst NM,a,b,c,d]
structure Nmf (nm:Nat->List Nat):Prop where
 inj:∀s t,s<26->t<26->nm s=nm t->s=t
 len:∀s,s<26->(nm s).length<=100
theorem O9 (x:Int):∃s:Nat,s<26/\x % 26=s:=⟨(x % 26).toNat,by lia,by lia⟩
theorem O_ {P Q A B:List Nat} (h:P++A++Q=P++B++Q):A=B:=by
 rw [List.append_assoc,List.append_assoc] at h;exact List.append_cancel_right (List.append_cancel_left h)
theorem S5 {choice turn shift cell size at_:Int} {base:Str} (hb:base.length<=10) (ht:jK turn=true) (hs0:0<=shift) (hs1:shift<26) :
  ∃nm:Nat->List Nat,Nmf nm/\∀(k:Int) (s:Nat),s<26->(k*turn+shift) % 26=s->∀(NM:List D) (b c d:D),NM.length<100->∃b' c' d',∀hD,nb (ns hD choice turn shift cell size base at_ NM (.int k) b c d)=.ok (.nx (ns hD choice turn shift cell size base at_ (NM++[.str (tx (nm s))]) (.int k) b' c' d')):=by
 have sp:∀(k:Int) (s:Nat) (hD:D) (NM:List D) (b c d:D),(k*turn+shift) % 26=s->cM false 11 (b2 (aQ .mod) (b2 (aQ .add) (b2 uG iQ cO) eF) lA) true (ns hD choice turn shift cell size base at_ NM (.int k) b c d)=.ok (.nx (ns hD choice turn shift cell size base at_ NM (.int k) (.int s) c d)):=fun k s hD NM b c d e=>by
  rw [<-e];exact eU (aH (aH (aH (x:=.int k) (y:=.int turn) rfl rfl (pP _ _ ht)) rfl (dN _ _)) rfl (bO _ _ (by decide)))
 have cm:∀(ρ:List D) (j:Int),cL 2 ρ=.ok (.int choice)->bTB (b2 (dG .eq) (b2 (aQ .mod) dO fZ) (bC (.int j))) ρ=.ok (choice % 3==j):=fun ρ j h=>gB (aH (aH h rfl (bO _ _ (by decide))) rfl (kO _ _))
 have lt:∀(ρ:List D) (f:FE) (i:Int) ,cL 1 ρ=.ok (.str abc)->f ρ=.ok (.int i)->0<=i->i<26->b2 getD dY f ρ=.ok (.str (tx [97+i.toNat])):=fun ρ f i h1 h2 h3 h4=>aH h1 h2 (letter i h3 h4)
 obtain ⟨P,hP,lP⟩:∃P,Txt.slice base none (some at_)=tx P/\P.length<=10:=⟨_,(VH _).symm,Nat.le_trans (Txt.slice_le ..) hb⟩
 obtain ⟨Q,hQ,lQ⟩:∃P,Txt.slice base (some at_) none=tx P/\P.length<=10:=⟨_,(VH _).symm,Nat.le_trans (Txt.slice_le ..) hb⟩
 have ap:∀(a b:List Nat),a.length<=100->b.length<=100->aQ .add (.str (tx a)) (.str (tx b))=.ok (.str (tx (a++b))):=fun a b h1 h2=>by
  rw [MK _ _ (by rw [nU,nU,bK];lia),O8]
 have slP:∀ρ:List D,cL 7 ρ=.ok (.str base)->cL 8 ρ=.ok (.int at_)->kZ mQ (eX) (dH n8) ρ=.ok (.str (tx P)):=fun ρ g1 g2=>by
  rw [<-hP];exact xR g1 rfl (jG g2) (by lia)
 have slQ:∀ρ:List D,cL 7 ρ=.ok (.str base)->cL 8 ρ=.ok (.int at_)->kZ mQ (dH n8) (eX) ρ=.ok (.str (tx Q)):=fun ρ g1 g2=>by
  rw [<-hQ];exact xR g1 (jG g2) rfl (by lia)
 by_cases h1:choice % 3=1
 ·refine ⟨fun s=>List.replicate (1+s / 4) (97+((shift+((s:Int) % 4)) % 26).toNat),⟨fun s t hs ht e=>?_,fun s hs=>by rw [List.length_replicate];lia⟩,fun k s hs hk NM b c d hN=>⟨.int s,c,d,fun hD=>?_⟩⟩
  ·have e1:=congrArg List.length e;rw [List.length_replicate,List.length_replicate] at e1;have e2:=congrArg (fun l=>l.head?) e;simp only [Nat.add_comm 1,List.replicate_succ,List.head?_cons,Option.some.injEq] at e2;lia
  ·refine aP (sp k s hD NM b c d hk) (U3 ((cm _ _ rfl).trans (by rw [h1];rfl)) ?_);refine nQ (xs:=NM) (aH (lt _ _ _ rfl (aH (aH (x:=.int shift) rfl (aH (x:=.int s) rfl rfl (bO _ _ (by decide))) (dN _ _)) rfl (bO _ _ (by decide))) (by lia) (by lia)) (aH (y:=.int ((s:Int) / 4)) (x:=.int 1) rfl (aH (x:=.int s) rfl rfl (dC _ _ (by decide) (by decide))) (z:=.int ((1+s / 4:Nat):Int)) ?_) (SX _ _ (by lia) (by lia))) rfl (by rw [bK];lia) rfl;rw [dN]
   congr 2
 ·by_cases h2:choice % 3=2
  ·refine ⟨fun s=>P++[97+((shift+((s:Int) % 6)) % 26).toNat,97+((shift+((s:Int) / 6)) % 26).toNat]++Q,⟨fun s t hs ht e=>?_,fun s hs=>by simp only [List.length_append,List.length_cons,List.length_nil];lia⟩,fun k s hs hk NM b c d hN=>⟨.int s,.str (tx [97+((shift+((s:Int) % 6)) % 26).toNat]),.str (tx [97+((shift+((s:Int) / 6)) % 26).toNat]),fun hD=>?_⟩⟩
   ·have e1:=O_ e;simp only [List.cons.injEq,and_true] at e1;lia
   ·refine aP (sp k s hD NM b c d hk) (LR ((cm _ _ rfl).trans (by rw [h2];rfl)) (U3 ((cm _ _ rfl).trans (by rw [h2];rfl)) ?_));refine aP (jE (lt _ _ _ rfl (aH (aH (x:=.int shift) rfl (aH (x:=.int s) rfl rfl (bO _ _ (by decide))) (dN _ _)) rfl (bO _ _ (by decide))) (by lia) (by lia)) rfl) ?_;refine aP (jE (lt _ _ _ rfl (aH (aH (x:=.int shift) rfl (aH (x:=.int s) rfl rfl (dC _ _ (by decide) (by decide))) (dN _ _)) rfl (bO _ _ (by decide))) (by lia) (by lia)) rfl) ?_;refine (nQ (xs:=NM) (aH (aH (aH (slP _ rfl rfl) rfl (ap _ _ (by lia) (by simp))) rfl (ap _ _ (by simp only [List.length_append,List.length_singleton];lia) (by simp))) (slQ _ rfl rfl) (ap _ _ (by simp only [List.length_append,List.length_singleton];lia) (by lia))) rfl (by rw [bK];lia) rfl).trans ?_;simp only [List.append_assoc,List.cons_append,List.nil_append];rfl
  ·refine ⟨fun s=>P++[97+s]++Q,⟨fun s t hs ht e=>?_,fun s hs=>by simp only [List.length_append,List.length_cons,List.length_nil];lia⟩,fun k s hs hk NM b c d hN=>⟨.int s,c,d,fun hD=>?_⟩⟩
   ·have e1:=O_ e;simp only [List.cons.injEq,and_true] at e1;lia
   ·refine aP (sp k s hD NM b c d hk) (LR ((cm _ _ rfl).trans (by rw [beq_eq_false_iff_ne.mpr h1])) (LR ((cm _ _ rfl).trans (by rw [beq_eq_false_iff_ne.mpr h2])) ?_));refine (nQ (xs:=NM) (aH (aH (slP _ rfl rfl) (lt _ _ s rfl rfl (by lia) (by lia)) (ap _ _ (by lia) (by simp))) (slQ _ rfl rfl) (ap _ _ (by simp only [List.length_append,List.length_singleton];lia) (by lia))) rfl (by rw [bK];lia) rfl).trans ?_;rw [Int.toNat_natCast];rfl
theorem rA {choice turn shift cell size at_:Int} {base:Str} {nm:Nat->List Nat} (G:∀(k:Int) (s:Nat),s<26->(k*turn+shift) % 26=s->∀(NM:List D) (b c d:D),NM.length<100->∃b' c' d',∀hD,nb (ns hD choice turn shift cell size base at_ NM (.int k) b c d)=.ok (.nx (ns hD choice turn shift cell size base at_ (NM++[.str (tx (nm s))]) (.int k) b' c' d'))):∀(m j:Nat) (NM:List D) (a b c d:D),NM.length+m<100->∃a' b' c' d',∀hD,pW (tg1 10) nb ((List.range' j m).map fun (k:Nat)=>D.int (0+(k:Int))) (ns hD choice turn shift cell size base at_ NM a b c d)=.ok (.nx (ns hD choice turn shift cell size base at_ (NM++(List.range' j m).map fun (k:Nat)=>D.str (tx (nm (((k:Int)*turn+shift) % 26).toNat))) a' b' c' d'))
 | 0,j,NM,a,b,c,d,_=>⟨a,b,c,d,fun hD=>by
  rw [List.range'_zero,List.map_nil,List.map_nil,List.append_nil];rfl⟩
 | m+1,j,NM,a,b,c,d,h=>by
  obtain ⟨s,hs,es⟩:=O9 ((j:Int)*turn+shift);obtain ⟨b1,c1,d1,e1⟩:=G (0+(j:Int)) s hs (by rw [Int.zero_add];exact es) NM b c d (by lia);obtain ⟨a2,b2,c2,d2,e2⟩:=rA G m (j+1) (NM++[.str (tx (nm s))]) (.int (0+(j:Int))) b1 c1 d1 (by rw [List.length_append,List.length_singleton];lia);refine ⟨a2,b2,c2,d2,fun hD=>?_⟩;rw [List.range'_succ,List.map_cons,List.map_cons,es,Int.toNat_natCast];refine fM (ρ1:=ns hD choice turn shift cell size base at_ NM (.int (0+(j:Int))) b c d) rfl (e1 hD) ?_;rw [e2 hD,List.append_assoc];rfl
theorem Y5 (i:Int) (h0:0<=i) (h1:i<6):∃t:Int,getD (.lst [.int 1,.int 3,.int 5,.int 7,.int 9,.int 25]) (.int i)=.ok (.int t)/\(t=1\/t=3\/t=5\/t=7\/t=9\/t=25):=by
 have:i=0\/i=1\/i=2\/i=3\/i=4\/i=5:=by lia
 rcases this with h|h|h|h|h|h <;> subst h
 ·exact ⟨1,rfl,by decide⟩
 ·exact ⟨3,rfl,by decide⟩
 ·exact ⟨5,rfl,by decide⟩
 ·exact ⟨7,rfl,by decide⟩
 ·exact ⟨9,rfl,by decide⟩
 ·exact ⟨25,rfl,by decide⟩
theorem S6 {t s:Int} (ht:t=1\/t=3\/t=5\/t=7\/t=9\/t=25) {j k:Nat} (hj:j<26) (hk:k<26) (h:((j:Int)*t+s) % 26=((k:Int)*t+s) % 26):j=k:=by
 rcases ht with e|e|e|e|e|e <;> subst e <;> lia
end Lk52
end
section
namespace Lk52
open PySem L2 Mi
theorem vO (n:Nat):∀N:List Str,D.cG n (N.map D.str)=true
 | []=>by rw [List.map_nil,D.cG]
 | x::N=>by
  rw [List.map_cons,D.cG,vO n N];rw [D.bJ] <;> simp
theorem zZ (x:Str):(D.str x).bJ aV=true:=by
 unfold aV;rw [D.bJ] <;> simp
theorem vP:∀N:List Str,D.aN (N.map D.str)=true
 | []=>rfl
 | x::N=>by
  rw [List.map_cons,D.aN,vP N];rfl
theorem PB (x:Str):∀N:List Str,(N.map D.str).any (fun y=>eqD y (.str x))=decide (x∈N)
 | []=>rfl
 | y::N=>by
  rw [List.map_cons,List.any_cons,PB x N];show ((y==x)||_)=_;by_cases h:y=x
  ·simp [h]
  ·have h2:¬x=y:=fun e=>h e.symm
   simp [h,h2]
theorem in_str (x:Str) (N:List Str):dG .isin (.str x) (.lst (N.map D.str))=.ok (.bl (decide (x∈N))):=by
 show (if (D.str x).bJ aV&&D.cG aV (N.map D.str) then Res.ok (D.bl ((N.map D.str).any fun y=>eqD y (.str x))) else .bad)=_;rw [zZ,vO,PB];rfl
theorem iV {a:FE} {ρ:List D} {xs:List D} {fr:Bool} (h:a ρ=.ok (.lst xs)):bD a fr ρ=.ok (xs,fr):=by
 unfold bD;rw [h,Res.aM];show Res.ok (xs,fr||false)=_;rw [Bool.or_false]
theorem iW {a:FE} {ρ:List D} {xs:List D} {fr:Bool} (h:a ρ=.ok (.tup xs)):bD a fr ρ=.ok (xs,fr||D.aN xs):=by
 unfold bD;rw [h,Res.aM];show Res.ok (xs,fr||(D.tup xs).pure)=_;rw [D.pure]
theorem eV {α:Type} {n:Nat} {it:FI} {f:FE} {k kk:Bool} {ρ:List D} (d y:α->D) (xs:List α) (hρ:ρ.length=n) (h1:it ρ=.ok (xs.map d,kk)) (h2:xs.length<=100000) (h3:∀a∈xs,f (ρ++[d a])=.ok (y a)/\(k||(y a).pure)=true):cH n it jV d_ f k ρ=.ok (.lst (xs.map y)):=by
 refine MJ h1 (by rw [List.length_map,bK];lia) ?_;have:∀(xs:List α) (acc:List D),(∀a∈xs,f (ρ++[d a])=.ok (y a)/\(k||(y a).pure)=true)->nY (wA n jV d_ f k ρ) acc (xs.map d)=.ok (acc++xs.map y):=by
  intro xs;induction xs with
  | nil=>intro acc _;simp [nY]
  | cons x xs ih=>
   intro acc h;rw [List.map_cons,nY,uK hρ (b:=true) rfl fun _=>h x (List.mem_cons_self ..)];show nY _ (acc++[y x]) _=_;rw [ih _ fun a ha=>h a (List.mem_cons_of_mem _ ha),List.append_assoc];rfl
 exact (this xs [] h3).trans (by rw [List.nil_append])
theorem xT {α:Type} {n:Nat} {it:FI} {c:FT} {f:FE} {k kk:Bool} {ρ:List D} (d y:α->D) (p:α->Bool) (xs:List α) (hρ:ρ.length=n) (h1:it ρ=.ok (xs.map d,kk)) (h2:xs.length<=100000) (hc:∀a∈xs,c (ρ++[d a])=.ok (p a)) (h3:∀a∈xs,p a=true->f (ρ++[d a])=.ok (y a)/\(k||(y a).pure)=true):cH n it jV c f k ρ=.ok (.lst ((xs.filter p).map y)):=by
 refine MJ h1 (by rw [List.length_map,bK];lia) ?_;have:∀(xs:List α) (acc:List D),(∀a∈xs,c (ρ++[d a])=.ok (p a))->(∀a∈xs,p a=true->f (ρ++[d a])=.ok (y a)/\(k||(y a).pure)=true)->nY (wA n jV c f k ρ) acc (xs.map d)=.ok (acc++(xs.filter p).map y):=by
  intro xs;induction xs with
  | nil=>intro acc _ _;simp [nY]
  | cons x xs ih=>
   intro acc hc h;rw [List.map_cons,nY,uK hρ (hc x (List.mem_cons_self ..)) fun e=>h x (List.mem_cons_self ..) e];show nY _ _ _=_;rw [ih _ (fun a ha=>hc a (List.mem_cons_of_mem _ ha)) fun a ha=>h a (List.mem_cons_of_mem _ ha)];by_cases hp:p x
   ·simp [hp]
   ·simp [hp]
 exact (this xs [] hc h3).trans (by rw [List.nil_append])
theorem aCe {f:D->List D->Res D} {o:FE} {a:FA} {ρ:List D} {x:D} {xs:List D} {r:Res D} (h1:o ρ=.ok x) (h2:a ρ=.ok xs) (h3:f x xs=r):bM f o a ρ=r:=by
 unfold bM;rw [h1,Res.aM,h2,Res.aM,h3]
theorem aEz (a b:List Nat) (h:tx a++("e" : Str)=tx b++("e" : Str)):a=b:=by
 have e:("e" : Str)=tx [101]:=rfl;rw [e,O8,O8] at h;exact List.append_cancel_right (VG h)
theorem S7 (cs:List Int) (n:Nat) (hn:n+3<=100000):∃N:List Str,N.length=26/\N.Nodup/\∀b,cR [.cel b (dk cs n)]=.ok (.tup [.lst (N.map D.str),.cel b (dk cs (n+3))]):=by
 obtain ⟨choice,q1⟩:=gU cs n (by lia);obtain ⟨cell,q2⟩:=gU cs (n+1) (by lia);obtain ⟨raw,q3⟩:=gU cs (n+2) (by lia);obtain ⟨turn,t1,t2⟩:=Y5 (choice / 3 % 6) (by lia) (by lia)
 let shift:=choice / 18 % 26
 have hs0:0<=shift:=by show 0<=choice / 18 % 26;lia
 have hs1:shift<26:=by show choice / 18 % 26<26;lia
 let size:=cell % 8
 have hz0:0<=size:=by show 0<=cell % 8;lia
 have hz1:size<8:=by show cell % 8<8;lia
 let bcs:List Nat:=(List.range size.toNat).map fun (k:Nat)=>97+((cell / 8+(0+(k:Int))*(shift+cell / 40 % 5)) % 26).toNat
 have hbl:bcs.length<=10:=by show (List.map _ _).length<=10;rw [List.length_map,List.length_range];lia
 let at_:=raw % (size+1)
 let base:Str:=if choice % 3=2 then Txt.slice (tx bcs) none (some 6) else tx bcs
 have hbase:base.length<=10:=by
  show (if choice % 3=2 then Txt.slice (tx bcs) none (some 6) else tx bcs).length<=10;split
  ·exact Nat.le_trans (Txt.slice_le ..) (by rw [nU];exact hbl)
  ·rw [nU];exact hbl
 have hts:jK turn=true:=zH _ (by lia) (by lia);obtain ⟨nm,M,G⟩:=S5 (choice:=choice) (turn:=turn) (shift:=shift) (cell:=cell) (size:=size) (at_:=at_) hbase hts hs0 hs1;obtain ⟨a',b',c',d',L⟩:=rA G 26 0 [] .uD .uD .uD .uD (by decide)
 let sp:Nat->Nat:=fun k=>(((k:Int)*turn+shift) % 26).toNat
 have spl:∀k,sp k<26:=fun k=>by show (((k:Int)*turn+shift) % 26).toNat<26;lia
 have spi:∀j k,j<26->k<26->sp j=sp k->j=k:=fun j k hj hk e=>S6 (s:=shift) t2 hj hk (by
  have e':(((j:Int)*turn+shift) % 26).toNat=(((k:Int)*turn+shift) % 26).toNat:=e;lia)
 have nod:∀g:List Nat->Str,(∀a b,g a=g b->a=b)->((List.range' 0 26).map fun k=>g (nm (sp k))).Nodup:=fun g hg=>by
  rw [List.nodup_iff_pairwise_ne,List.pairwise_map];refine List.Pairwise.imp_of_mem ?_ (List.nodup_iff_pairwise_ne.mp (List.nodup_range' (s:=0) (n:=26) (step:=1) (by decide)));intro j k hj hk hne e;rw [List.mem_range'_1] at hj hk;exact hne (spi j k (by lia) (by lia) (M.inj _ _ (spl j) (spl k) (hg _ _ e)))
 have pre:∀(b:Nat) (R:Res Fl) (g:FS),g (ns (.cel b (dk cs (n+3))) choice turn shift cell size base at_ (((List.range' 0 26).map fun k=>tx (nm (sp k))).map D.str) a' b' c' d')=R->(bA (cM false 1 (bC (.str "abcdefghijklmnopqrstuvwxyz")) true) (bA (eE false 2 (bV aL 1 0 aU)) (bA (cM false 3 (b2 getD (jU (aB dD (aB fZ (aB aAm (aB (bC (.int 7)) (aB aDi (aB (bC (.int 25)) aU))))))) (b2 (aQ .mod) (b2 (aQ .fdiv) dO fZ) G9)) false) (bA (cM false 4 (b2 (aQ .mod) (b2 (aQ .fdiv) dO (bC (.int 18))) lA) true) (bA (eE false 5 (bV aL 1 0 aU)) (bA (cM false 6 (b2 (aQ .mod) fP aAn) true) (bA (cM false 7 (bM joinM (bC (.str "")) (aB (cH 14 (jQ (aB pX aU) gW) jV (d_) (b2 getD dY (b2 (aQ .mod) (b2 (aQ .add) (b2 (aQ .fdiv) fP aAn) (b2 uG j5 (b2 (aQ .add) eF (b2 (aQ .mod) (b2 (aQ .fdiv) fP J3) aAm)))) lA)) false) aU)) true) (bA (eE false 8 (x2L (aQ .mod) (bV aL 1 0 aU) (b2 (aQ .add) pX dD))) (bA (sIf (bTB (b2 (dG .eq) (b2 (aQ .mod) dO fZ) lL)) (cM false 7 (kZ mQ (eX) (dH G9)) true) (o8)) (bA (cM true 9 (jU aU) true) (bA (DQ (jQ (aB lA aU) gW) (tg1 10) nb) g))))))))))) [.cel b (dk cs n),.uD,.uD,.uD,.uD,.uD,.uD,.uD,.uD,.uD,.uD,.uD,.uD,.uD]=R:=fun b R g hg=>by
  refine aP (ρ':=[.cel b (dk cs n),.str abc,.uD,.uD,.uD,.uD,.uD,.uD,.uD,.uD,.uD,.uD,.uD,.uD]) (eU (i:=1) rfl) ?_;refine aP (ρ':=[.cel b (dk cs (n+1)),.str abc,.int choice,.uD,.uD,.uD,.uD,.uD,.uD,.uD,.uD,.uD,.uD,.uD]) (fW (i:=2) (sO q1 rfl rfl) rfl) ?_;refine aP (ρ':=[.cel b (dk cs (n+1)),.str abc,.int choice,.int turn,.uD,.uD,.uD,.uD,.uD,.uD,.uD,.uD,.uD,.uD]) (jE (i:=3) (aH rfl (aH (aH rfl rfl (dC _ _ (by decide) (by decide))) rfl (bO _ _ (by decide))) t1) rfl) ?_;refine aP (ρ':=[.cel b (dk cs (n+1)),.str abc,.int choice,.int turn,.int shift,.uD,.uD,.uD,.uD,.uD,.uD,.uD,.uD,.uD]) (eU (i:=4) (aH (aH rfl rfl (dC _ _ (by decide) (by decide))) rfl (bO _ _ (by decide)))) ?_;refine aP (ρ':=[.cel b (dk cs (n+2)),.str abc,.int choice,.int turn,.int shift,.int cell,.uD,.uD,.uD,.uD,.uD,.uD,.uD,.uD]) (fW (i:=5) (sO q2 rfl rfl) rfl) ?_;refine aP (ρ':=[.cel b (dk cs (n+2)),.str abc,.int choice,.int turn,.int shift,.int cell,.int size,.uD,.uD,.uD,.uD,.uD,.uD,.uD]) (eU (i:=6) (aH rfl rfl (bO _ _ (by decide)))) ?_;refine aP (ρ':=[.cel b (dk cs (n+2)),.str abc,.int choice,.int turn,.int shift,.int cell,.int size,.str (tx bcs),.uD,.uD,.uD,.uD,.uD,.uD]) (eU (i:=7) ?_) ?_
  ·have hc:=eV (n:=14) (it:=jQ (aB pX aU) gW) (f:=b2 getD dY (b2 (aQ .mod) (b2 (aQ .add) (b2 (aQ .fdiv) fP aAn) (b2 uG j5 (b2 (aQ .add) eF (b2 (aQ .mod) (b2 (aQ .fdiv) fP J3) aAm)))) lA)) (k:=false) (ρ:=[.cel b (dk cs (n+2)),.str abc,.int choice,.int turn,.int shift,.int cell,.int size,.uD,.uD,.uD,.uD,.uD,.uD,.uD]) (fun k:Nat=>D.int (0+(k:Int))) (fun k:Nat=>.str (one (97+((cell / 8+(0+(k:Int))*(shift+cell / 40 % 5)) % 26).toNat))) (List.range size.toNat) rfl (pD (n:=size) (aD rfl rfl) (by lia) (by lia)) (by rw [List.length_range];lia) (fun k _=>⟨aH (x:=.str abc) rfl (aH (aH (aH (x:=.int cell) rfl rfl (dC _ _ (by decide) (by decide))) (aH (x:=.int (0+(k:Int))) rfl (aH (x:=.int shift) rfl (aH (aH (x:=.int cell) rfl rfl (dC _ _ (by decide) (by decide))) rfl (bO _ _ (by decide))) (dN _ _)) (pP _ _ (zH _ (by lia) (by lia)))) (dN _ _)) rfl (bO _ _ (by decide))) (letter _ (by lia) (by lia)),rfl⟩);have hj:=Y0 bcs (by lia);rw [List.map_map] at hj;exact aCe rfl (aD hc rfl) hj
  refine aP (ρ':=[.cel b (dk cs (n+3)),.str abc,.int choice,.int turn,.int shift,.int cell,.int size,.str (tx bcs),.int at_,.uD,.uD,.uD,.uD,.uD]) (fW (i:=8) (q_ (sO q3 rfl rfl) rfl (aH (x:=.int size) rfl rfl (dN _ _)) (bO _ _ (by lia)) rfl) rfl) ?_;refine aP (ρ':=[.cel b (dk cs (n+3)),.str abc,.int choice,.int turn,.int shift,.int cell,.int size,.str base,.int at_,.uD,.uD,.uD,.uD,.uD]) ?_ ?_
  ·by_cases h2:choice % 3=2
   ·have eb:base=Txt.slice (tx bcs) none (some 6):=if_pos h2;rw [eb];exact U3 (gB (aH (aH rfl rfl (bO _ _ (by decide))) rfl ((kO _ _).trans (by rw [h2];rfl)))) (eU (i:=7) (xR (x:=tx bcs) rfl rfl (jG rfl) (by rw [nU];lia)))
   ·have eb:base=tx bcs:=if_neg h2;rw [eb];exact LR (gB (aH (aH rfl rfl (bO _ _ (by decide))) rfl ((kO _ _).trans (by rw [beq_eq_false_iff_ne.mpr h2])))) rfl
  refine aP (ρ':=ns (.cel b (dk cs (n+3))) choice turn shift cell size base at_ [] .uD .uD .uD .uD) (gK (i:=9) rfl rfl) ?_;refine aP (qP (pD (n:=26) (aD rfl rfl) (by decide) (by decide)) ?_) hg;have e:=L (.cel b (dk cs (n+3)));rw [List.nil_append] at e;rw [List.map_map];exact e
 generalize hN0:((List.range' 0 26).map fun k=>tx (nm (sp k)))=N0 at pre;have l0:N0.length=26:=by rw [<-hN0,List.length_map];rfl
 have n0:N0.Nodup:=hN0▸nod tx fun _ _ e=>VG e
 have tl:∀x∈N0,x.length<=100:=fun x hx=>by
  rw [<-hN0,List.mem_map] at hx;obtain ⟨k,_,rfl⟩:=hx;rw [nU];exact M.len _ (spl k)
 have cond:∀(hD:D),(bOr (bTB (b2 inX (bC (.str "copy")) lD)) (bTB (b2 inX (bC (.str "drop")) lD))) (ns hD choice turn shift cell size base at_ (N0.map D.str) a' b' c' d')=.ok (decide (("copy" : Str)∈N0)||decide (("drop" : Str)∈N0)):=fun hD=>aEy (gB (aH rfl rfl (in_str _ _))) (gB (aH rfl rfl (in_str _ _)))
 have fin:∀(b:Nat) (N:List Str),(qL 9) (ns (.cel b (dk cs (n+3))) choice turn shift cell size base at_ (N.map D.str) a' b' c' d')=.ok (.rt (.tup (.lst (N.map D.str)::ns (.cel b (dk cs (n+3))) choice turn shift cell size base at_ (N.map D.str) a' b' c' d'))):=fun b N=>zY rfl rfl
 by_cases hc:(decide (("copy" : Str)∈N0)||decide (("drop" : Str)∈N0))=true
 ·refine ⟨N0.map fun x=>x++("e" : Str),by rw [List.length_map,l0],?_,fun b=>?_⟩
  ·rw [<-hN0,List.map_map];exact nod (fun a=>tx a++("e" : Str)) aEz
  ·refine vL (k:=1) (ρ:=ns (.cel b (dk cs (n+3))) choice turn shift cell size base at_ ((N0.map fun x=>x++("e" : Str)).map D.str) a' b' c' d') (pre b _ _ (aP (U3 ((cond _).trans (by rw [hc])) (gK (i:=9) (d:=.lst ((N0.map fun x=>x++("e" : Str)).map D.str)) ?_ (vP _))) (fin b _)));rw [List.map_map];exact eV (n:=14) D.str (fun x=>D.str (x++("e" : Str))) N0 rfl (iV rfl) (by lia) (fun x hx=>⟨aH rfl rfl (MK _ _ (by have:=tl x hx;rw [bK];show x.length+1<=_;lia)),rfl⟩)
 ·refine ⟨N0,l0,n0,fun b=>?_⟩;exact vL (k:=1) (ρ:=ns (.cel b (dk cs (n+3))) choice turn shift cell size base at_ (N0.map D.str) a' b' c' d') (pre b _ _ (aP (LR ((cond _).trans (by rw [Bool.eq_false_iff.mpr hc])) rfl) (fin b _)))
theorem S8 (cs:List Int) (n:Nat) (hn:n+3<=100000):∃N:List Str,N.length=26/\N.Nodup/\ch1 cR (dk cs n) []=.ok (.lst (N.map D.str),dk cs (n+3)):=by
 obtain ⟨N,h1,h2,h3⟩:=S7 cs n hn;exact ⟨N,h1,h2,zM h3⟩
end Lk52
end
section
namespace Lk52
open PySem L2 Mi
theorem PJ (n d a:Nat):UL n d (some (a:Int))=min a n:=by
 show (if (a:Int)<0 then (max ((a:Int)+(n:Int)) 0).toNat else (min (a:Int) (n:Int)).toNat)=_;rw [if_neg (by lia)];lia
theorem z8 (n d:Nat):UL n d none=d:=rfl
theorem VJ {α:Type} (xs:List α) (a:Nat):cutD xs none (some (a:Int))=xs.take a:=by
 unfold cutD;rw [PJ,z8,List.drop_zero,Nat.sub_zero];by_cases h:a<=xs.length
 ·rw [Nat.min_eq_left h]
 ·rw [Nat.min_eq_right (by lia),List.take_of_length_le (Nat.le_refl _),List.take_of_length_le (by lia)]
theorem S9 {α:Type} (xs:List α) (a:Nat):cutD xs (some (a:Int)) none=xs.drop a:=by
 unfold cutD;rw [PJ,z8];by_cases h:a<=xs.length
 ·rw [Nat.min_eq_left h,List.take_of_length_le (by rw [List.length_drop];exact Nat.le_refl _)]
 ·rw [Nat.min_eq_right (by lia),List.drop_eq_nil_of_le (Nat.le_refl _),List.drop_eq_nil_of_le (by lia),List.take_nil]
def sy (N:List Str) (i:Nat):D:=.str (N.getD i "")
theorem aCf (N:List Str) (h:N.length=26):N.map D.str=(List.range 26).map (sy N):=by
 apply List.ext_getElem
 ·simp [h]
 ·intro i h1 h2;rw [List.getElem_map,List.getElem_map,List.getElem_range];have h1':i<N.length:=by rw [List.length_map] at h1;exact h1
  show D.str (N[i]'h1')=D.str (N.getD i "");rw [List.getD_eq_getElem?_getD,List.getElem?_eq_getElem h1'];rfl
theorem vQ {N:List Str} (h:N.length=26) (hN:N.Nodup) {i j:Nat} (hi:i<26) (hj:j<26):eqD (sy N i) (sy N j)=decide (i=j):=by
 show ((N.getD i "")==(N.getD j ""))=_;have hi':i<N.length:=by lia
 have hj':j<N.length:=by lia
 rw [List.getD_eq_getElem?_getD,List.getD_eq_getElem?_getD,List.getElem?_eq_getElem hi',List.getElem?_eq_getElem hj'];show (N[i]==N[j])=_;by_cases e:i=j
 ·subst e;simp
 ·have:¬N[i]=N[j]:=fun g=>e ((List.getElem_inj hN).mp g)
  simp [e,this]
theorem bT (N:List Str):∀l:List Nat,D.aN (l.map (sy N))=true
 | []=>rfl
 | i::l=>by
  rw [List.map_cons,D.aN,bT N l];rfl
theorem mO (N:List Str) (n:Nat):∀l:List Nat,D.cG n (l.map (sy N))=true
 | []=>by rw [List.map_nil,D.cG]
 | x::l=>by
  rw [List.map_cons,D.cG,mO N n l];unfold sy;rw [D.bJ] <;> simp
theorem nH (N:List Str) (i:Nat):(sy N i).bJ aV=true:=zZ _
theorem VL {N:List Str} (h:N.length=26) (hN:N.Nodup) {i:Nat} (hi:i<26):∀l:List Nat,(∀j∈l,j<26)->(l.map (sy N)).any (fun y=>eqD y (sy N i))=decide (i∈l)
 | [],_=>rfl
 | j::l,hl=>by
  rw [List.map_cons,List.any_cons,VL h hN hi l fun k hk=>hl k (List.mem_cons_of_mem _ hk),vQ h hN (hl j (List.mem_cons_self ..)) hi];by_cases e:j=i
  ·simp [e]
  ·have e2:¬i=j:=fun g=>e g.symm
   simp [e,e2]
theorem lJ {α:Type} {f:α->D} {l:List α} {i:Nat} {a:α} {x:Int} (hx:x=i) (h:l[i]?=some a):getD (.lst (l.map f)) (.int x)=.ok (f a):=by
 subst hx;obtain ⟨hi,e⟩:=List.getElem?_eq_some_iff.mp h;show Res.ofOpt ((ixD (l.map f).length (i:Int)).bind fun j=>(l.map f)[j]?)=_;unfold ixD;rw [if_pos (by lia),List.length_map,if_pos (by lia)];simp [h]
theorem S_ {α:Type} {f:α->D} {l:List α} {i:Nat} {a:α} {x:Int} (hx:x=i) (h:l[i]?=some a):getD (.tup (l.map f)) (.int x)=.ok (f a):=lJ hx h
theorem fX {f:Nat->D} {n i:Nat} {x:Int} (hx:x=i) (hi:i<n):getD (.lst ((List.range n).map f)) (.int x)=.ok (f i):=lJ hx (by rw [List.getElem?_range hi])
abbrev Rw:=Nat×Nat×List Nat
abbrev Tk:=Nat×Nat×Nat×List Nat
noncomputable def rwD (N:List Str) (r:Rw):D:=.tup [sy N r.1,sy N r.2.1,.tup (r.2.2.map (sy N))]
noncomputable def tkD (N:List Str) (r:Tk):D:=.tup [sy N r.1,sy N r.2.1,sy N r.2.2.1,.tup (r.2.2.2.map (sy N))]
theorem dX (N:List Str) (r:Rw):(rwD N r).pure=true:=by
 show ((sy N r.1).pure&&((sy N r.2.1).pure&&((D.tup (r.2.2.map (sy N))).pure&&true)))=true;rw [D.pure,bT];rfl
theorem sS (N:List Str) (r:Tk):(tkD N r).pure=true:=by
 show ((sy N r.1).pure&&((sy N r.2.1).pure&&((sy N r.2.2.1).pure&&((D.tup (r.2.2.2.map (sy N))).pure&&true))))=true;rw [D.pure,bT];rfl
theorem cQ {α:Type} {f:α->D} (h:∀a,(f a).pure=true):∀l:List α,D.aN (l.map f)=true
 | []=>rfl
 | x::l=>by
  rw [List.map_cons,D.aN,h,cQ h l];rfl
theorem pQ {a:FE} {lo hi:List D->Res (Option Int)} {ρ xs:List D} {l h:Option Int} (h1:a ρ=.ok (.lst xs)) (h2:lo ρ=.ok l) (h3:hi ρ=.ok h) (hx:D.aN xs=true):kZ a lo hi ρ=.ok (.lst (cutD xs l h)):=by
 unfold kZ;rw [h1,Res.aM,h2,Res.aM,h3,Res.aM];show (if D.aN xs then Res.ok (D.lst (cutD xs l h)) else .bad)=_;rw [if_pos hx]
noncomputable def lsD (N:List Str) (m:Nat) (l:Nat->Nat):List (D×D):=(List.range m).map fun k=>(sy N k,.int (l k))
theorem VM {f:FE} {ρ:List D} {i:Int} (h:f ρ=.ok (.int i)):b1 G_ f ρ=.ok (.int (-i)):=by
 unfold b1;rw [h];rfl
theorem xU {g:D->Res D} {f:FE} {ρ:List D} {x y:D} (h:f ρ=.ok x) (h2:g x=.ok y):b1 g f ρ=.ok y:=by
 unfold b1;rw [h];exact h2
theorem aCg {a:FT} {b:FXT} {ρ:List D} {r:Res (Bool×List D)} (h1:a ρ=.ok true) (h2:b ρ=r):U8 a b ρ=r:=by
 unfold U8;rw [h1,Res.aM,if_pos rfl,h2]
theorem aCh {a:FT} {b:FXT} {ρ:List D} (h1:a ρ=.ok false):U8 a b ρ=.ok (false,ρ):=by
 unfold U8;rw [h1,Res.aM,if_neg (by simp)]
structure Base (m:Nat) (q:Nat->List Nat) (l:Nat->Nat):Prop where
 l1:∀k,k<m->1<=l k/\l k<=4
 q1:∀k,k<m->∀j∈q k,j<m
 q2:∀k,k<m->(q k).length<=3
 le:∀k,k<m->1+((q k).map l).sum<=l k
theorem base0 (m:Nat):Base m (fun _=>[]) (fun _=>1):=⟨fun _ _=>⟨by decide,by decide⟩,fun _ _ j hj=>by simp at hj,fun _ _=>by simp,fun _ _=>by simp⟩
theorem aF0 (m p:Nat) (hp:p<m) (hm:m<=3):Base m (fun k=>if k=m-1 then List.range p else []) (fun k=>if k=m-1 then 1+p else 1):=by
 have:(m=1/\p=0)\/(m=2/\p=0)\/(m=2/\p=1)\/(m=3/\p=0)\/(m=3/\p=1)\/(m=3/\p=2):=by lia
 rcases this with ⟨rfl,rfl⟩|⟨rfl,rfl⟩|⟨rfl,rfl⟩|⟨rfl,rfl⟩|⟨rfl,rfl⟩|⟨rfl,rfl⟩ <;> refine ⟨?_,?_,?_,?_⟩ <;> decide
noncomputable abbrev ss (hD:D) (N:List Str) (cell:Int) (m:Nat) (M:List Rw) (l:Nat->Nat) (a b c d e f:D):List D:=[hD,.lst ((List.range 26).map (sy N)),.int cell,.int m,.lst ((List.range m).map (sy N)),.lst (M.map (rwD N)),.dct (lsD N m l),a,b,c,d,e,f]
noncomputable def mk0 (m:Nat) (q:Nat->List Nat):List Rw:=(List.range m).map fun k=>(3+k,k,q k)
end Lk52
end
section
namespace Lk52
open PySem L2 Mi
noncomputable def mkb:FS:=(bA (eE false 9 (bV aL 1 0 aU)) (bA (cM false 7 (cH 13 (jQ (aB (b2 (aQ .mod) (b2 (aQ .fdiv) lD fZ) yK) aU) gW) jV (d_) (b2 getD eF (b2 (aQ .mod) (b2 (aQ .fdiv) lD (b2 getD (jU (aB DP (aB (bC (.int 36)) (aB (bC (.int 108)) aU)))) i_)) cO)) false) true) (rC 5 (jL (aB (b2 getD dY (b2 (aQ .add) (b2 (aQ .add) fZ cO) n8)) (aB (b2 getD eF (b2 (aQ .mod) lD cO)) (aB (aY b_ (aB mQ aU)) aU)))))))
noncomputable def tkb:FS:=(bA (eE false 9 (bV aL 1 0 aU)) (bA (cM false 12 (cH 13 (jQ (aB (b2 (aQ .mod) (b2 (aQ .fdiv) lD aDi) fZ) aU) gW) jV (d_) (b2 getD eF (b2 (aQ .mod) (b2 (aQ .fdiv) lD (b2 getD (jU (aB (bC (.int 27)) (aB (bC (.int 81)) aU))) i_)) cO)) false) true) (rC 11 (jL (aB (b2 getD dY (b2 (aQ .add) W6 n8)) (aB (b2 getD eF (b2 (aQ .mod) lD cO)) (aB (b2 getD eF (b2 (aQ .mod) (b2 (aQ .fdiv) lD fZ) cO)) (aB (aY b_ (aB tU aU)) aU))))))))
def sg0:FS:=(eE false 2 (bV aL 1 0 aU))
def sg1:FS:=(cM false 3 (b2 (aQ .add) dD (b2 (aQ .mod) dO fZ)) true)
def sg2:FS:=(cM true 4 (kZ dY (eX) (dH cO)) true)
noncomputable def sg3:FS:=(cM true 5 (cH 13 (jQ (aB cO aU) gW) jV (d_) (jL (aB (b2 getD dY (b2 (aQ .add) fZ i_)) (aB (b2 getD eF i_) (aB (jL aU) aU)))) false) true)
noncomputable def sg4:FS:=(cM true 6 (b1 pH (cH 13 (bD eF false) jV (d_) (jL (aB i_ (aB dD aU))) false)) true)
noncomputable def sg5:FS:=(aBh (U8 (bTB (b2 (dG (.ord .gt)) cO dD)) (xTB (x2L (dG .eq) (x2L (aQ .mod) (bV aL 1 0 aU) fZ) dD))) (bA (cM false 7 (aY b_ (aB (kZ eF (eX) (dH (b2 (aQ .add) dD (b2 (aQ .mod) (b2 (aQ .fdiv) dO DP) (b2 (aQ .sub) cO dD))))) aU)) false) (bA (wU 5 (b1 G_ dD) (jL (aB (b2 getD dY (b2 (aQ .add) lL cO)) (aB (b2 getD eF (b1 G_ dD)) (aB mQ aU))))) (RD 6 (b2 getD eF (b1 G_ dD)) (b2 (aQ .add) dD (aY j6 (aB mQ aU)))))) (o8))
noncomputable def sg6:FS:=(DQ (jQ (aB (b2 (aQ .mod) (b2 (aQ .fdiv) dO fZ) yK) aU) gW) (tg1 8) mkb)
noncomputable def sg7:FS:=(cM false 10 (b2 (aQ .mod) (b2 (aQ .fdiv) dO DP) (aY j6 (aB fP aU))) true)
def sg8:FS:=(cM true 11 (jU aU) true)
noncomputable def sg9:FS:=(M_ (aBr (x2L (aQ .mod) (bV aL 1 0 aU) yK)) (tg1 8) tkb)
noncomputable def aGs:FS:=(uT (aB (bOw 4) (aB (b2 (aQ .add) (kZ fP (dH iQ) (eX)) (kZ fP (eX) (dH iQ))) (aB (bOw 11) (aB (bOw 6) aU)))))
theorem Y6:nG=bA sg0 (bA sg1 (bA sg2 (bA sg3 (bA sg4 (bA sg5 (bA sg6 (bA sg7 (bA sg8 (bA sg9 aGs))))))))):=rfl
section
variable {cs:List Int} {N:List Str} (hN:N.length=26) (hd:N.Nodup)
theorem PK (f:Nat->D) (n a:Nat) (h:a<=n):cutD ((List.range n).map f) none (some (a:Int))=(List.range a).map f:=by
 rw [VJ,<-List.map_take,List.take_range,Nat.min_eq_left h]
theorem aCi {hD:D} {cell:Int} {m:Nat} (hm:m<=26) (a b c d e f g h i:D):sg2 [hD,.lst ((List.range 26).map (sy N)),.int cell,.int m,a,b,c,d,e,f,g,h,i]=.ok (.nx [hD,.lst ((List.range 26).map (sy N)),.int cell,.int m,.lst ((List.range m).map (sy N)),b,c,d,e,f,g,h,i]):=
 gK (i:=4) (d:=.lst ((List.range m).map (sy N))) (by rw [<-PK (sy N) 26 m hm];exact pQ rfl rfl (jG rfl) (bT ..)) (bT ..)
theorem aCj {hD:D} {cell:Int} {m:Nat} (hm:m<=3) (b c d e f g h i:D):sg3 [hD,.lst ((List.range 26).map (sy N)),.int cell,.int m,.lst ((List.range m).map (sy N)),b,c,d,e,f,g,h,i]=.ok (.nx [hD,.lst ((List.range 26).map (sy N)),.int cell,.int m,.lst ((List.range m).map (sy N)),.lst ((mk0 m fun _=>[]).map (rwD N)),c,d,e,f,g,h,i]):=by
 refine gK (i:=5) (d:=.lst ((mk0 m fun _=>[]).map (rwD N))) ?_ (cQ (dX N) _);unfold mk0;rw [List.map_map];refine eV (n:=13) (fun k:Nat=>D.int (0+(k:Int))) _ (List.range m) rfl (pD (n:=(m:Int)) (aD rfl rfl) (by lia) (by lia)) (by rw [List.length_range];lia) fun k hk=>?_
 rw [List.mem_range] at hk;exact ⟨fL (aD (aH rfl (aH rfl rfl (dN _ _)) (fX (i:=3+k) (by lia) (by lia))) (aD (aH rfl rfl (fX (i:=k) (by lia) hk)) (aD (fL (xs:=[]) rfl (by rw [bK];simp)) rfl))) (by rw [bK];simp),rfl⟩
include hN hd in
theorem TF {m:Nat} (h1:1<=m) (h3:m<=3):pH (.lst ((List.range m).map fun k=>.tup [sy N k,.int 1]))=.ok (.dct (lsD N m fun _=>1)):=by
 have e:∀i j,i<3->j<3->¬i=j->eqD (sy N i) (sy N j)=false:=fun i j hi hj g=>by rw [vQ hN hd (by lia) (by lia)];exact decide_eq_false g
 have e01:=e 0 1 (by decide) (by decide) (by decide);have e02:=e 0 2 (by decide) (by decide) (by decide);have e12:=e 1 2 (by decide) (by decide) (by decide);have:m=1\/m=2\/m=3:=by lia
 rcases this with g|g|g <;> subst g
 ·rfl
 ·show Res.ok (D.dct (putD (putD [] (sy N 0) (.int 1)) (sy N 1) (.int 1)))=_;simp only [putD,e01,Bool.false_eq_true,if_false];rfl
 ·show Res.ok (D.dct (putD (putD (putD [] (sy N 0) (.int 1)) (sy N 1) (.int 1)) (sy N 2) (.int 1)))=_;simp only [putD,e01,e02,e12,Bool.false_eq_true,if_false];rfl
theorem Y7 (m:Nat) (l:Nat->Nat):inner (.dct (lsD N m l))=true:=by
 show D.aN ((lsD N m l).map (·.2))=true;unfold lsD;rw [List.map_map];exact cQ (fun _=>rfl) _
include hN hd in
theorem aCk {hD:D} {cell:Int} {m:Nat} (h1:1<=m) (hm:m<=3) {M:D} (c d e f g h i:D):sg4 [hD,.lst ((List.range 26).map (sy N)),.int cell,.int m,.lst ((List.range m).map (sy N)),M,c,d,e,f,g,h,i]=.ok (.nx [hD,.lst ((List.range 26).map (sy N)),.int cell,.int m,.lst ((List.range m).map (sy N)),M,.dct (lsD N m fun _=>1),d,e,f,g,h,i]):=by
 refine gK (i:=6) (d:=.dct (lsD N m fun _=>1)) (xU ?_ (TF hN hd h1 hm)) (Y7 m _);exact eV (n:=13) (sy N) (fun k=>.tup [sy N k,.int 1]) (List.range m) rfl (iV rfl) (by rw [List.length_range];lia) fun k hk=>⟨fL (aD rfl (aD rfl rfl)) (by rw [bK];simp),rfl⟩
include hN hd in
theorem aCl {cell:Int} {m n:Nat} (hn:n<=1000) (h1:1<=m) (hm:m<=3):∃(q:Nat->List Nat) (l:Nat->Nat) (n':Nat) (x:D),Base m q l/\n'<=n+1/\∀b,sg5 (ss (.cel b (dk cs n)) N cell m (mk0 m fun _=>[]) (fun _=>1) .uD .uD .uD .uD .uD .uD)=.ok (.nx (ss (.cel b (dk cs n')) N cell m (mk0 m q) l x .uD .uD .uD .uD .uD)):=by
 by_cases h2:1<m
 ·obtain ⟨v,qv⟩:=gU cs n (by lia);have hx:∀b,(U8 (bTB (b2 (dG (.ord .gt)) cO dD)) (xTB (x2L (dG .eq) (x2L (aQ .mod) (bV aL 1 0 aU) fZ) dD))) (ss (.cel b (dk cs n)) N cell m (mk0 m fun _=>[]) (fun _=>1) .uD .uD .uD .uD .uD .uD)=.ok (v % 3==1,ss (.cel b (dk cs (n+1))) N cell m (mk0 m fun _=>[]) (fun _=>1) .uD .uD .uD .uD .uD .uD):=fun b=>
   aCg (gB (aH (x:=.int m) rfl rfl ((cmp_gt _ _).trans (by rw [decide_eq_true (by lia)])))) (aCb (q_ (q_ (sO qv rfl rfl) rfl rfl (bO _ _ (by decide)) rfl) rfl rfl (kO _ _) rfl))
  by_cases h3:v % 3=1
  ·let p:Nat:=(1+cell / 12 % ((m:Int)-1)).toNat
   have p0:0<=cell / 12 % ((m:Int)-1):=Int.emod_nonneg _ (by lia);have p1:cell / 12 % ((m:Int)-1)<(m:Int)-1:=Int.emod_lt_of_pos _ (by lia);have hp:(p:Int)=1+cell / 12 % ((m:Int)-1):=by
    show (((1+cell / 12 % ((m:Int)-1)).toNat:Nat):Int)=_;lia
   refine ⟨_,_,n+1,.tup ((List.range p).map (sy N)),aF0 m p (by lia) hm,Nat.le_refl _,fun b=>O5 (hx b) ?_⟩;rw [show (v % 3==1)=true from by rw [h3];rfl,if_pos rfl];refine aP (ρ':=ss (.cel b (dk cs (n+1))) N cell m (mk0 m fun _=>[]) (fun _=>1) (.tup ((List.range p).map (sy N))) .uD .uD .uD .uD .uD) (jE (i:=7) (d:=.tup ((List.range p).map (sy N))) (bB (aD (x:=.lst ((List.range p).map (sy N))) ?_ rfl) rfl) (bT ..)) ?_
   ·rw [<-PK (sy N) m p (by lia),hp];exact pQ rfl rfl (jG (aH rfl (aH (aH (x:=.int cell) rfl rfl (dC _ _ (by decide) (by decide))) (aH (x:=.int m) rfl rfl (zG _ _)) (bO _ _ (by lia))) (dN _ _))) (bT ..)
   have gk:∀(ρ:List D),cL 4 ρ=.ok (.lst ((List.range m).map (sy N)))->b2 getD eF (b1 G_ dD) ρ=.ok (sy N (m-1)):=fun ρ hρ=>aH hρ (VM rfl) (by
    show Res.ofOpt ((ixD ((List.range m).map (sy N)).length (-1:Int)).bind fun j=>((List.range m).map (sy N))[j]?)=_;unfold ixD;rw [if_neg (by decide),List.length_map,List.length_range,if_pos (by lia),show (((-1:Int)+(m:Int)).toNat)=m-1 from by lia];simp only [Option.bind_some];rw [List.getElem?_map,List.getElem?_range (by lia)];rfl)
   have hrow:∀ρ:List D,cL 1 ρ=.ok (.lst ((List.range 26).map (sy N)))->cL 3 ρ=.ok (.int m)->cL 4 ρ=.ok (.lst ((List.range m).map (sy N)))->cL 7 ρ=.ok (.tup ((List.range p).map (sy N)))->jL (aB (b2 getD dY (b2 (aQ .add) lL cO)) (aB (b2 getD eF (b1 G_ dD)) (aB mQ aU))) ρ=.ok (rwD N (2+m,m-1,List.range p)):=fun ρ g1 g3 g4 g7=>fL (aD (aH g1 (aH rfl g3 (dN _ _)) (fX (i:=2+m) (by lia) (by lia))) (aD (gk _ g4) (aD g7 rfl))) (by rw [bK];simp)
   refine aP (ρ':=ss (.cel b (dk cs (n+1))) N cell m (mk0 m fun k=>if k=m-1 then List.range p else []) (fun _=>1) (.tup ((List.range p).map (sy N))) .uD .uD .uD .uD .uD) (O4 (i:=5) (j:=m-1) (k:=-1) (xs:=(mk0 m fun _=>[]).map (rwD N)) (d:=rwD N (2+m,m-1,List.range p)) (hrow _ rfl rfl rfl rfl) (VM rfl) rfl (dX ..) ?_ ?_) ?_
   ·unfold ixD mk0;rw [if_neg (by decide),List.length_map,List.length_map,List.length_range,if_pos (by lia)]
    congr 1
    lia
   ·have:m=2\/m=3:=by lia
    rcases this with g|g <;> subst g <;> rfl
   refine (MF (f:=b2 getD eF (b1 G_ dD)) (g:=b2 (aQ .add) dD (aY j6 (aB mQ aU))) (ρ:=ss (.cel b (dk cs (n+1))) N cell m (mk0 m fun k=>if k=m-1 then List.range p else []) (fun _=>1) (.tup ((List.range p).map (sy N))) .uD .uD .uD .uD .uD) (i:=6) (kvs:=lsD N m fun _=>1) (k:=sy N (m-1)) (d:=.int ((1+p:Nat):Int)) (aH (x:=.int 1) (y:=.int p) rfl (bB (aD rfl rfl) ?_) ?_) (gk _ rfl) rfl ?_ ?_ rfl).trans ?_
   ·show Res.ok (D.int (((List.range p).map (sy N)).length:Int))=_;rw [List.length_map,List.length_range]
   ·rw [dN]
    congr 2
   ·unfold lsD;rw [List.length_map,List.length_range,bK];lia
   ·show (true&&(lsD N m fun _=>1).all fun p=>isTup p.1==false)=true;rw [Bool.true_and,List.all_eq_true];intro y hy;unfold lsD at hy;obtain ⟨k,_,rfl⟩:=List.mem_map.mp hy;rfl
   ·have e:∀i j,i<3->j<3->eqD (sy N i) (sy N j)=decide (i=j):=fun i j hi hj=>vQ hN hd (by lia) (by lia)
    have e01:=e 0 1 (by decide) (by decide);have e02:=e 0 2 (by decide) (by decide);have e12:=e 1 2 (by decide) (by decide);have e11:=e 1 1 (by decide) (by decide);have e22:=e 2 2 (by decide) (by decide);have:m=2\/m=3:=by lia
    rcases this with g|g <;> subst g
    ·have:putD (lsD N 2 fun _=>1) (sy N 1) (.int ((1+p:Nat):Int))=lsD N 2 fun k=>if k=2-1 then 1+p else 1:=by
      show putD [(sy N 0,.int 1),(sy N 1,.int 1)] (sy N 1) _=_;simp only [putD,e01,e11];rfl
     rw [this];rfl
    ·have:putD (lsD N 3 fun _=>1) (sy N 2) (.int ((1+p:Nat):Int))=lsD N 3 fun k=>if k=3-1 then 1+p else 1:=by
      show putD [(sy N 0,.int 1),(sy N 1,.int 1),(sy N 2,.int 1)] (sy N 2) _=_;simp only [putD,e02,e12,e22];rfl
     rw [this];rfl
  ·refine ⟨_,_,n+1,.uD,base0 m,Nat.le_refl _,fun b=>O5 (hx b) ?_⟩;rw [show (v % 3==1)=false from beq_eq_false_iff_ne.mpr h3,if_neg (by simp)];rfl
 ·refine ⟨_,_,n,.uD,base0 m,Nat.le_succ _,fun b=>O5 (k:=false) (aCh (gB (aH (x:=.int m) rfl rfl ((cmp_gt _ _).trans (by rw [decide_eq_false (by lia)]))))) ?_⟩;rw [if_neg (by simp)];rfl
end
end Lk52
end
section
namespace Lk52
open PySem L2 Mi
def Gr (m:Nat) (r:Rw):Prop:=r.2.1<m/\(∀i∈r.2.2,i<m)/\r.2.2.length<=3
noncomputable def Gt (m:Nat) (t:Tk):Prop:=t.2.1<m/\t.2.2.1<m/\(∀i∈t.2.2.2,i<m)/\t.2.2.2.length<=2
noncomputable def w3:Nat->Int
 | 0=>12
 | 1=>36
 | _=>108
noncomputable def w2:Nat->Int
 | 0=>27
 | _=>81
theorem aCm {j:Nat} (h:j<3):getD (.lst [.int 12,.int 36,.int 108]) (.int (0+(j:Int)))=.ok (.int (w3 j)):=by
 have:j=0\/j=1\/j=2:=by lia
 rcases this with e|e|e <;> subst e <;> rfl
theorem VN (j:Nat):0<w3 j/\w3 j<1073741824:=by
 unfold w3;split <;> decide
theorem aCn {j:Nat} (h:j<2):getD (.lst [.int 27,.int 81]) (.int (0+(j:Int)))=.ok (.int (w2 j)):=by
 have:j=0\/j=1:=by lia
 rcases this with e|e <;> subst e <;> rfl
theorem VP (j:Nat):0<w2 j/\w2 j<1073741824:=by
 unfold w2;split <;> decide
section
variable {cs:List Int} {N:List Str}
theorem kix {m:Nat} (h1:1<=m) (v:Int):∃i:Nat,i<m/\v % (m:Int)=i:=by
 have a:0<=v % (m:Int):=Int.emod_nonneg _ (by lia);have b:v % (m:Int)<m:=Int.emod_lt_of_pos _ (by lia);exact ⟨(v % (m:Int)).toNat,by lia,by lia⟩
theorem aCo {cell:Int} {m n j:Nat} {M:List Rw} {l:Nat->Nat} (hn:n<=1000) (h1:1<=m) (hm:m<=3) (hj:j<3) (hM:M.length<100) (x o d e f:D) :
  ∃(r:Rw) (x' o':D),Gr m r/\r.1=3+m+j/\∀b,mkb (ss (.cel b (dk cs n)) N cell m M l x (.int (0+(j:Int))) o d e f)=.ok (.nx (ss (.cel b (dk cs (n+1))) N cell m (M++[r]) l x' (.int (0+(j:Int))) o' d e f)):=by
 obtain ⟨v,qv⟩:=gU cs n (by lia);obtain ⟨k,k1,k2⟩:=kix h1 v
 let ix:Nat->Nat:=fun j=>((v / w3 j) % (m:Int)).toNat
 have ixm:∀j,ix j<m/\(v / w3 j) % (m:Int)=ix j:=fun j=>by
  obtain ⟨i,i1,i2⟩:=kix h1 (v / w3 j);have:ix j=i:=by show ((v / w3 j) % (m:Int)).toNat=i;lia
  exact ⟨by lia,by lia⟩
 let c:Nat:=(v / 3 % 4).toNat
 have hc:(c:Int)=v / 3 % 4:=by show (((v / 3 % 4).toNat:Nat):Int)=_;lia
 have c4:c<=3:=by lia
 let B:List Nat:=(List.range c).map ix
 have lB:B.length<=3:=by show ((List.range c).map ix).length<=3;rw [List.length_map,List.length_range];exact c4
 have mB:∀i∈B,i<m:=fun i hi=>by obtain ⟨a,_,rfl⟩:=List.mem_map.mp hi;exact (ixm a).1
 refine ⟨(3+m+j,k,B),.lst (B.map (sy N)),.int v,⟨k1,mB,lB⟩,rfl,fun b=>?_⟩;refine aP (ρ':=ss (.cel b (dk cs (n+1))) N cell m M l x (.int (0+(j:Int))) (.int v) d e f) (fW (i:=9) (sO qv rfl rfl) rfl) ?_;refine aP (ρ':=ss (.cel b (dk cs (n+1))) N cell m M l (.lst (B.map (sy N))) (.int (0+(j:Int))) (.int v) d e f) (eU (i:=7) ?_) ?_
 ·show _=Res.ok (D.lst (((List.range c).map ix).map (sy N)));rw [List.map_map];refine eV (n:=13) (fun k:Nat=>D.int (0+(k:Int))) (fun j=>sy N (ix j)) (List.range c) rfl (pD (n:=(c:Int)) (aD (aH (aH (x:=.int v) rfl rfl (dC _ _ (by decide) (by decide))) rfl ((bO _ _ (by decide)).trans (by rw [hc]))) rfl) (by lia) (by lia)) (by rw [List.length_range];lia) fun a ha=>?_
  rw [List.mem_range] at ha;exact ⟨aH (x:=.lst ((List.range m).map (sy N))) rfl (aH (aH (x:=.int v) rfl (aH rfl rfl (aCm (by lia))) (dC _ _ (VN a).1 (VN a).2)) (y:=.int m) rfl (bO _ _ (by lia))) (fX (ixm a).2 (ixm a).1),rfl⟩
 have hrow:∀ρ:List D,cL 1 ρ=.ok (.lst ((List.range 26).map (sy N)))->cL 3 ρ=.ok (.int m)->cL 4 ρ=.ok (.lst ((List.range m).map (sy N)))->cL 7 ρ=.ok (.lst (B.map (sy N)))->cL 8 ρ=.ok (.int (0+(j:Int)))->cL 9 ρ=.ok (.int v)->jL (aB (b2 getD dY (b2 (aQ .add) (b2 (aQ .add) fZ cO) n8)) (aB (b2 getD eF (b2 (aQ .mod) lD cO)) (aB (aY b_ (aB mQ aU)) aU))) ρ=.ok (rwD N (3+m+j,k,B)):=fun ρ g1 g3 g4 g7 g8 g9=>fL (aD (aH g1 (aH (aH rfl g3 (dN _ _)) g8 (dN _ _)) (fX (i:=3+m+j) (by lia) (by lia))) (aD (aH g4 (aH g9 g3 (bO _ _ (by lia))) (fX k2 k1)) (aD (bB (aD g7 rfl) rfl) rfl))) (by rw [bK];simp)
 have ha:=nQ (i:=5) (ρ:=ss (.cel b (dk cs (n+1))) N cell m M l (.lst (B.map (sy N))) (.int (0+(j:Int))) (.int v) d e f) (xs:=M.map (rwD N)) (hrow _ rfl rfl rfl rfl rfl rfl) rfl (by rw [List.length_map,bK];lia) (dX ..);refine ha.trans ?_;unfold ss;rw [List.map_append];rfl
theorem PL {cell:Int} {m:Nat} {l:Nat->Nat} (h1:1<=m) (hm:m<=3):∀(c j n:Nat) (M:List Rw) (x k o d e f:D),n+c<=1000->j+c<=3->M.length+c<100->
  ∃(E:List Rw) (x' k' o':D),(∀r∈E,Gr m r)/\E.map (·.1)=(List.range' (3+m+j) c)/\∀b,pW (tg1 8) mkb ((List.range' j c).map fun (k:Nat)=>D.int (0+(k:Int))) (ss (.cel b (dk cs n)) N cell m M l x k o d e f)=.ok (.nx (ss (.cel b (dk cs (n+c))) N cell m (M++E) l x' k' o' d e f))
 | 0,j,n,M,x,k,o,d,e,f,_,_,_=>⟨[],x,k,o,fun _ h=>by simp at h,rfl,fun b=>by rw [List.append_nil];rfl⟩
 | c+1,j,n,M,x,k,o,d,e,f,g1,g2,g3=>by
  obtain ⟨r,x1,o1,r1,r2,r3⟩:=aCo (cs:=cs) (N:=N) (cell:=cell) (m:=m) (n:=n) (j:=j) (M:=M) (l:=l) (by lia) h1 hm (by lia) (by lia) x o d e f;obtain ⟨E,x2,k2,o2,e1,e2,e3⟩:=PL h1 hm c (j+1) (n+1) (M++[r]) x1 (.int (0+(j:Int))) o1 d e f (by lia) (by lia) (by rw [List.length_append,List.length_singleton];lia);refine ⟨r::E,x2,k2,o2,fun y hy=>?_,?_,fun b=>?_⟩
  ·rcases List.mem_cons.mp hy with h|h
   ·exact h▸r1
   ·exact e1 y h
  ·rw [List.map_cons,List.range'_succ,r2,e2];rfl
  ·rw [List.range'_succ,List.map_cons];refine fM (ρ1:=ss (.cel b (dk cs n)) N cell m M l x (.int (0+(j:Int))) o d e f) rfl (r3 b) ?_;rw [e3 b,List.append_assoc,show n+1+c=n+(c+1) from by lia];rfl
theorem aCp {cell:Int} {m n j:Nat} {M:List Rw} {l:Nat->Nat} {T:List Tk} (hn:n<=1000) (h1:1<=m) (hm:m<=3) (hj:j<3) (hT:T.length<100) (x o d f:D) :
  ∃(r:Tk) (o' f':D),Gt m r/\r.1=10+j/\∀b,tkb (ss (.cel b (dk cs n)) N cell m M l x (.int (0+(j:Int))) o d (.lst (T.map (tkD N))) f)=.ok (.nx (ss (.cel b (dk cs (n+1))) N cell m M l x (.int (0+(j:Int))) o' d (.lst ((T++[r]).map (tkD N))) f')):=by
 obtain ⟨v,qv⟩:=gU cs n (by lia);obtain ⟨k,k1,k2⟩:=kix h1 v;obtain ⟨p,p1,p2⟩:=kix h1 (v / 3)
 let ix:Nat->Nat:=fun j=>((v / w2 j) % (m:Int)).toNat
 have ixm:∀j,ix j<m/\(v / w2 j) % (m:Int)=ix j:=fun j=>by
  obtain ⟨i,i1,i2⟩:=kix h1 (v / w2 j);have:ix j=i:=by show ((v / w2 j) % (m:Int)).toNat=i;lia
  exact ⟨by lia,by lia⟩
 let c:Nat:=(v / 9 % 3).toNat
 have hc:(c:Int)=v / 9 % 3:=by show (((v / 9 % 3).toNat:Nat):Int)=_;lia
 have c4:c<=2:=by lia
 let B:List Nat:=(List.range c).map ix
 have lB:B.length<=2:=by show ((List.range c).map ix).length<=2;rw [List.length_map,List.length_range];exact c4
 have mB:∀i∈B,i<m:=fun i hi=>by obtain ⟨a,_,rfl⟩:=List.mem_map.mp hi;exact (ixm a).1
 refine ⟨(10+j,k,p,B),.int v,.lst (B.map (sy N)),⟨k1,p1,mB,lB⟩,rfl,fun b=>?_⟩;refine aP (ρ':=ss (.cel b (dk cs (n+1))) N cell m M l x (.int (0+(j:Int))) (.int v) d (.lst (T.map (tkD N))) f) (fW (i:=9) (sO qv rfl rfl) rfl) ?_;refine aP (ρ':=ss (.cel b (dk cs (n+1))) N cell m M l x (.int (0+(j:Int))) (.int v) d (.lst (T.map (tkD N))) (.lst (B.map (sy N)))) (eU (i:=12) ?_) ?_
 ·show _=Res.ok (D.lst (((List.range c).map ix).map (sy N)));rw [List.map_map];refine eV (n:=13) (fun k:Nat=>D.int (0+(k:Int))) (fun j=>sy N (ix j)) (List.range c) rfl (pD (n:=(c:Int)) (aD (aH (aH (x:=.int v) rfl rfl (dC _ _ (by decide) (by decide))) rfl ((bO _ _ (by decide)).trans (by rw [hc]))) rfl) (by lia) (by lia)) (by rw [List.length_range];lia) fun a ha=>?_
  rw [List.mem_range] at ha;exact ⟨aH (x:=.lst ((List.range m).map (sy N))) rfl (aH (aH (x:=.int v) rfl (aH rfl rfl (aCn (by lia))) (dC _ _ (VP a).1 (VP a).2)) (y:=.int m) rfl (bO _ _ (by lia))) (fX (ixm a).2 (ixm a).1),rfl⟩
 have hrow:∀ρ:List D,cL 1 ρ=.ok (.lst ((List.range 26).map (sy N)))->cL 3 ρ=.ok (.int m)->cL 4 ρ=.ok (.lst ((List.range m).map (sy N)))->cL 12 ρ=.ok (.lst (B.map (sy N)))->cL 8 ρ=.ok (.int (0+(j:Int)))->cL 9 ρ=.ok (.int v)->jL (aB (b2 getD dY (b2 (aQ .add) W6 n8)) (aB (b2 getD eF (b2 (aQ .mod) lD cO)) (aB (b2 getD eF (b2 (aQ .mod) (b2 (aQ .fdiv) lD fZ) cO)) (aB (aY b_ (aB tU aU)) aU)))) ρ=.ok (tkD N (10+j,k,p,B)):=fun ρ g1 g3 g4 g7 g8 g9=>fL (aD (aH g1 (aH rfl g8 (dN _ _)) (fX (i:=10+j) (by lia) (by lia))) (aD (aH g4 (aH g9 g3 (bO _ _ (by lia))) (fX k2 k1)) (aD (aH g4 (aH (aH g9 rfl (dC _ _ (by decide) (by decide))) g3 (bO _ _ (by lia))) (fX p2 p1)) (aD (bB (aD g7 rfl) rfl) rfl)))) (by rw [bK];simp)
 have ha:=nQ (i:=11) (ρ:=ss (.cel b (dk cs (n+1))) N cell m M l x (.int (0+(j:Int))) (.int v) d (.lst (T.map (tkD N))) (.lst (B.map (sy N)))) (xs:=T.map (tkD N)) (hrow _ rfl rfl rfl rfl rfl rfl) rfl (by rw [List.length_map,bK];lia) (sS ..);refine ha.trans ?_;unfold ss;rw [List.map_append];rfl
theorem PN {cell:Int} {m:Nat} {l:Nat->Nat} {M:List Rw} (h1:1<=m) (hm:m<=3):∀(c j n:Nat) (T:List Tk) (x k o d f:D),n+c<=1000->j+c<=3->T.length+c<100->
  ∃(E:List Tk) (k' o' f':D),(∀r∈E,Gt m r)/\E.map (·.1)=(List.range' (10+j) c)/\∀b,pW (tg1 8) tkb ((List.range' j c).map fun (k:Nat)=>D.int (0+(k:Int))) (ss (.cel b (dk cs n)) N cell m M l x k o d (.lst (T.map (tkD N))) f)=.ok (.nx (ss (.cel b (dk cs (n+c))) N cell m M l x k' o' d (.lst ((T++E).map (tkD N))) f'))
 | 0,j,n,T,x,k,o,d,f,_,_,_=>⟨[],k,o,f,fun _ h=>by simp at h,rfl,fun b=>by rw [List.append_nil];rfl⟩
 | c+1,j,n,T,x,k,o,d,f,g1,g2,g3=>by
  obtain ⟨r,o1,f1,r1,r2,r3⟩:=aCp (cs:=cs) (N:=N) (cell:=cell) (m:=m) (n:=n) (j:=j) (M:=M) (l:=l) (T:=T) (by lia) h1 hm (by lia) (by lia) x o d f;obtain ⟨E,k2,o2,f2,e1,e2,e3⟩:=PN (M:=M) h1 hm c (j+1) (n+1) (T++[r]) x (.int (0+(j:Int))) o1 d f1 (by lia) (by lia) (by rw [List.length_append,List.length_singleton];lia);refine ⟨r::E,k2,o2,f2,fun y hy=>?_,?_,fun b=>?_⟩
  ·rcases List.mem_cons.mp hy with h|h
   ·exact h▸r1
   ·exact e1 y h
  ·rw [List.map_cons,List.range'_succ,r2,e2];rfl
  ·rw [List.range'_succ,List.map_cons];refine fM (ρ1:=ss (.cel b (dk cs n)) N cell m M l x (.int (0+(j:Int))) o d (.lst (T.map (tkD N))) f) rfl (r3 b) ?_;rw [e3 b,List.append_assoc,show n+1+c=n+(c+1) from by lia];rfl
end
end Lk52
end
section
namespace Lk52
open PySem L2 Mi
structure Sig (m:Nat) (M:List Rw) (T:List Tk) (l:Nat->Nat):Prop where
 m1:1<=m
 m3:m<=3
 mg:∀r∈M,Gr m r
 tg:∀t∈T,Gt m t
 mn:(M.map (·.1)).Nodup
 mi:∀r∈M,3<=r.1/\r.1<10
 tn:(T.map (·.1)).Nodup
 ti:∀t∈T,10<=t.1/\t.1<13
 tl:T.length<=3
 ml:M.length<=6
 lb:∀k,k<m->1<=l k/\l k<=4
 ba:∀k,k<m->∃r∈M,r.1=3+k/\r.2.1=k/\1+(r.2.2.map l).sum<=l k
theorem Y8 {f:FX} {ρ ρ':List D} {n:Int} (h:f ρ=.ok (.int n,ρ')) (h1:0<=n) (h2:n<=1000000):aBr f ρ=.ok ((List.range n.toNat).map fun (k:Nat)=>D.int (0+(k:Int)),ρ'):=by
 unfold aBr;rw [h,Res.aM];have:lK n=true:=by
  simp only [lK,Bool.and_eq_true,decide_eq_true_eq];lia
 simp only [gW,this,if_true];rfl
theorem Y9 {it:List D->Res (List D×List D)} {t:D->List D->Res (List D)} {body:FS} {ρ ρ' xs:List D} {r:Res Fl} (h1:it ρ=.ok (xs,ρ')) (h2:pW t body xs ρ'=r):M_ it t body ρ=r:=by
 unfold M_;rw [h1,Res.aM];exact h2
theorem Y_ {i:Nat} {ρ:List D} {d:D} (h:cL i ρ=.ok d) (h2:d.yN=true):bOw i ρ=.ok d:=by
 unfold bOw;rw [h,Res.aM,if_pos h2]
theorem TJ {f:FA} {ρ ds:List D} (h:f ρ=.ok ds) (hl:ds.length<=100):uT f ρ=.ok (.rt (.tup (.lst ds::ρ))):=by
 unfold uT;rw [h,Res.aM,if_pos (by rw [bK];exact decide_eq_true (by lia))]
section
variable {N:List Str} (hN:N.length=26) (hd:N.Nodup)
include hN hd
theorem aCq (cs:List Int) (n:Nat) (hn:n<=900):∃(m:Nat) (M:List Rw) (T:List Tk) (l:Nat->Nat) (n':Nat),Sig m M T l/\n'<=n+9/\∀b,d7 [.cel b (dk cs n),.lst ((List.range 26).map (sy N))]=.ok (.tup [.lst [.lst ((List.range m).map (sy N)),.lst (M.map (rwD N)),.lst (T.map (tkD N)),.dct (lsD N m l)],.cel b (dk cs n')]):=by
 obtain ⟨cell,q1⟩:=gU cs n (by lia)
 let m:Nat:=(1+cell % 3).toNat
 have hm:(m:Int)=1+cell % 3:=by show (((1+cell % 3).toNat:Nat):Int)=_;lia
 have m1:1<=m:=by lia
 have m3:m<=3:=by lia
 obtain ⟨q,l,n1,x1,B,hn1,s5⟩:=aCl (cs:=cs) hN hd (cell:=cell) (m:=m) (n:=n+1) (by lia) m1 m3
 let c:Nat:=(cell / 3 % 4).toNat
 have hc:(c:Int)=cell / 3 % 4:=by show (((cell / 3 % 4).toNat:Nat):Int)=_;lia
 have lm:(mk0 m q).length=m:=by unfold mk0;rw [List.length_map,List.length_range]
 obtain ⟨E,x2,k2,o2,E1,E2,s6⟩:=PL (cs:=cs) (N:=N) (cell:=cell) (m:=m) (l:=l) m1 m3 c 0 n1 (mk0 m q) x1 .uD .uD .uD .uD .uD (by lia) (by lia) (by lia);have lE:E.length=c:=by
  have:=congrArg List.length E2;rw [List.length_map,List.length_range'] at this;exact this
 generalize hM0:mk0 m q++E=M0 at s6;have lM:M0.length=m+c:=by rw [<-hM0,List.length_append,lm,lE]
 obtain ⟨a,a1,a2⟩:=kix (m:=M0.length) (by lia) (cell / 12);obtain ⟨v,qv⟩:=gU cs (n1+c) (by lia)
 let t:Nat:=(v % 4).toNat
 have ht:(t:Int)=v % 4:=by show (((v % 4).toNat:Nat):Int)=_;lia
 obtain ⟨T,k3,o3,f3,T1,T2,s9⟩:=PN (cs:=cs) (N:=N) (cell:=cell) (m:=m) (l:=l) (M:=M0) m1 m3 t 0 (n1+c+1) [] x2 k2 o2 (.int a) .uD (by lia) (by lia) (by simp;lia);rw [List.nil_append] at s9;have lT:T.length=t:=by
  have:=congrArg List.length T2;rw [List.length_map,List.length_range'] at this;exact this
 have pm:(M0.drop a++M0.take a).Perm M0:=by
  have:=List.perm_append_comm (l₁:=M0.drop a) (l₂:=M0.take a);rwa [List.take_append_drop] at this
 have mem0:∀r,r∈M0->(∃k,k<m/\r=(3+k,k,q k))\/r∈E:=fun r hr=>by
  rw [<-hM0,List.mem_append] at hr;rcases hr with h|h
  ·unfold mk0 at h;obtain ⟨k,hk,rfl⟩:=List.mem_map.mp h;exact .inl ⟨k,List.mem_range.mp hk,rfl⟩
  ·exact .inr h
 have hE:∀r∈E,3+m<=r.1/\r.1<3+m+c:=fun r hr=>by
  have:=List.mem_map_of_mem (f:=(·.1)) hr;rw [E2,List.mem_range'_1] at this;exact this
 have nm:M0.map (·.1)=List.range' 3 (m+c):=by
  rw [<-hM0,List.map_append,E2];unfold mk0;rw [List.map_map,Nat.add_zero,List.range'_append_1.symm]
  congr 1
  rw [List.range'_eq_map_range];rfl
 refine ⟨m,M0.drop a++M0.take a,T,l,n1+c+1+t,⟨m1,m3,fun r hr=>?_,T1,?_,fun r hr=>?_,?_,fun r hr=>?_,by lia,?_,B.l1,fun k hk=>?_⟩,by lia,fun b=>?_⟩
 ·rcases mem0 r (pm.mem_iff.mp hr) with ⟨k,hk,rfl⟩|h
  ·exact ⟨hk,B.q1 k hk,B.q2 k hk⟩
  ·exact E1 r h
 ·rw [(pm.map _).nodup_iff,nm];exact List.nodup_range'
 ·rcases mem0 r (pm.mem_iff.mp hr) with ⟨k,hk,rfl⟩|h
  ·exact ⟨by show 3<=3+k;lia,by show 3+k<10;lia⟩
  ·have:=hE r h;lia
 ·rw [T2];exact List.nodup_range'
 ·have:=List.mem_map_of_mem (f:=(·.1)) hr;rw [T2,List.mem_range'_1] at this;lia
 ·rw [pm.length_eq];lia
 ·refine ⟨(3+k,k,q k),pm.mem_iff.mpr ?_,rfl,rfl,B.le k hk⟩;rw [<-hM0,List.mem_append]
  left
  unfold mk0;exact List.mem_map.mpr ⟨k,List.mem_range.mpr hk,rfl⟩
 ·refine vL (k:=1) (ρ:=ss (.cel b (dk cs (n1+c+1+t))) N cell m M0 l x2 k3 o3 (.int a) (.lst (T.map (tkD N))) f3) ?_;show nG [.cel b (dk cs n),.lst ((List.range 26).map (sy N)),.uD,.uD,.uD,.uD,.uD,.uD,.uD,.uD,.uD,.uD,.uD]=_;rw [Y6];refine aP (ρ':=[.cel b (dk cs (n+1)),.lst ((List.range 26).map (sy N)),.int cell,.uD,.uD,.uD,.uD,.uD,.uD,.uD,.uD,.uD,.uD]) (fW (i:=2) (sO q1 rfl rfl) rfl) ?_;refine aP (ρ':=[.cel b (dk cs (n+1)),.lst ((List.range 26).map (sy N)),.int cell,.int m,.uD,.uD,.uD,.uD,.uD,.uD,.uD,.uD,.uD]) (eU (i:=3) (aH (x:=.int 1) rfl (aH (x:=.int cell) rfl rfl (bO _ _ (by decide))) (by rw [dN,hm]))) ?_;refine aP (aCi (by lia) ..) (aP (aCj m3 ..) (aP (aCk hN hd m1 m3 ..) (aP (s5 b) ?_)));refine aP (qP (pD (n:=(c:Int)) (aD (aH (aH (x:=.int cell) rfl rfl (dC _ _ (by decide) (by decide))) rfl ((bO _ _ (by decide)).trans (by rw [hc]))) rfl) (by lia) (by lia)) (by rw [Int.toNat_natCast,List.range_eq_range'];exact s6 b)) ?_;refine aP (ρ':=ss (.cel b (dk cs (n1+c))) N cell m M0 l x2 k2 o2 (.int a) .uD .uD) (eU (i:=10) (aH (aH (x:=.int cell) rfl rfl (dC _ _ (by decide) (by decide))) (y:=.int M0.length) (bB (aD rfl rfl) ?_) ((bO _ _ (by lia)).trans (by rw [a2])))) ?_
  ·show Res.ok (D.int ((M0.map (rwD N)).length:Int))=_;rw [List.length_map]
  refine aP (ρ':=ss (.cel b (dk cs (n1+c))) N cell m M0 l x2 k2 o2 (.int a) (.lst []) .uD) (gK (i:=11) rfl rfl) ?_;refine aP (Y9 (Y8 (n:=(t:Int)) (ρ':=ss (.cel b (dk cs (n1+c+1))) N cell m M0 l x2 k2 o2 (.int a) (.lst []) .uD) (q_ (sO qv rfl rfl) rfl rfl ((bO _ _ (by decide)).trans (by rw [ht])) rfl) (by lia) (by lia)) (by rw [Int.toNat_natCast,List.range_eq_range'];exact s9 b)) ?_;refine TJ (aD (Y_ rfl rfl) (aD ?_ (aD (Y_ rfl rfl) (aD (Y_ rfl rfl) rfl)))) (by simp);rw [List.map_append];refine aH (x:=.lst ((M0.drop a).map (rwD N))) (y:=.lst ((M0.take a).map (rwD N))) ?_ ?_ (X4 _ _ ?_ (cQ (dX N) _) (cQ (dX N) _))
  ·rw [List.map_drop,<-S9];exact pQ rfl (jG rfl) rfl (cQ (dX N) _)
  ·rw [List.map_take,<-VJ];exact pQ rfl rfl (jG rfl) (cQ (dX N) _)
  ·rw [List.length_map,List.length_map,List.length_drop,List.length_take,bK];lia
theorem aCr (cs:List Int) (n:Nat) (hn:n<=900):∃(m:Nat) (M:List Rw) (T:List Tk) (l:Nat->Nat) (n':Nat),Sig m M T l/\n'<=n+9/\ch1 d7 (dk cs n) [.lst ((List.range 26).map (sy N))]=.ok (.lst [.lst ((List.range m).map (sy N)),.lst (M.map (rwD N)),.lst (T.map (tkD N)),.dct (lsD N m l)],dk cs n'):=by
 obtain ⟨m,M,T,l,n',h1,h2,h3⟩:=aCq hN hd cs n hn;exact ⟨m,M,T,l,n',h1,h2,zM h3⟩
end
end Lk52
end
section
namespace Lk52
open PySem L2 Mi
theorem z9 {c:FT} {body:FS} {n:Nat} {ρ ρ':List D} {r:Res Fl} (h1:c ρ=.ok true) (h2:body ρ=.ok (.nx ρ')) (h3:FZ c body n ρ'=r):FZ c body (n+1) ρ=r:=by
 rw [FZ,h1,Res.aM,if_pos rfl,h2];exact h3
theorem PP {c:FT} {body:FS} {n:Nat} {ρ:List D} (h1:c ρ=.ok false):FZ c body (n+1) ρ=.ok (.nx ρ):=by
 rw [FZ,h1];rfl
theorem nJ:∀ns:List Int,intsOf (ns.map D.int)=some ns
 | []=>rfl
 | n::ns=>by
  show (intsOf (ns.map D.int)).map (n::·)=_;rw [nJ ns];rfl
def wc:FT:=(bTB (b2 (dG .ne) mQ (jU aU)))
def wb0:FS:=(uN 7 9)
noncomputable def wb1:FS:=(cM false 10 (b2 (aQ .sub) (b2 (aQ .add) n8 (b2 getD fP lD)) dD) true)
noncomputable def wb2:FS:=(cM false 11 (cH 14 (bD dY false) jV (QH (bTB (b2 (dG .eq) (b2 getD j5 dD) lD)) (bTB (b2 (dG (.ord .le)) (aY pZ (aB (cH 15 (bD (b2 getD j5 lL) false) jV (d_) (b2 getD fP (cL 15)) false) aU)) iQ))) j5 false) true)
noncomputable def wb3:FS:=(cM false 12 (cH 14 (bD iI false) jV (bTB (b2 inX lD (b2 getD j5 lL))) j5 false) true)
noncomputable def wb4:FS:=(sIf (QH (bTr eF) (bTB (b2 (dG .ne) tU (jU aU)))) (sAl 11 12) (o8))
noncomputable def wb5:FS:=(eE false 13 (x2R getD iI (x2L (aQ .mod) (bV aL 1 0 aU) (aY j6 (aB iI aU)))))
def wb6:FS:=(rC 6 (b2 getD i_ fQ))
noncomputable def wb7:FS:=(cM false 8 (b2 (aQ .sub) iQ (aY pZ (aB (cH 14 (bD (b2 getD i_ lL) false) jV (d_) (b2 getD fP j5) false) aU))) true)
def wb8:FS:=(X6 7 (b1 YH (b2 getD i_ lL)))
noncomputable def wb:FS:=(bA wb0 (bA wb1 (bA wb2 (bA wb3 (bA wb4 (bA wb5 (bA wb6 (bA wb7 wb8))))))))
inductive Run (H:List Rw):List Nat->List Nat->Prop
 | nil:Run H [] []
 | step {r:Rw} {rest W:List Nat}:r∈H->Run H (r.2.2++rest) W->Run H (r.2.1::rest) (r.1::W)
theorem PQ {i j:Nat} {ρ xs:List D} {x:D} (h:ρ.getD i .uD=.lst (xs++[x])) {ρ':List D} (he:(ρ.set i (.lst xs)).set j x=ρ'):uN i j ρ=.ok (.nx ρ'):=by
 subst he;unfold uN;rw [h];dsimp only;rw [List.length_append,List.length_singleton,Nat.add_sub_cancel,List.getElem?_append_right (Nat.le_refl _),Nat.sub_self,List.dropLast_concat];rfl
theorem VR {i:Nat} {ρ:List D} {f:FE} {xs ys:List D} (h1:f ρ=.ok (.lst ys)) (h2:ρ.getD i .uD=.lst xs) (hl:xs.length+ys.length<=10000) (hp:D.aN ys=true):X6 i f ρ=.ok (.nx (ρ.set i (.lst (xs++ys)))):=by
 unfold X6;rw [h1,Res.aM,h2];dsimp only;rw [if_pos (by rw [hp,bK,decide_eq_true (by lia)];rfl)]
theorem sU {α:Type} {N:List Str} (hN:N.length=26) (hd:N.Nodup) (nm:α->Nat) (g:α->D):∀(L:List α),(L.map nm).Nodup->(∀a∈L,nm a<26)->∀a∈L,eO (L.map fun a=>(sy N (nm a),g a)) (sy N (nm a))=some (g a)
 | [],_,_,a,ha=>by simp at ha
 | b::L,h1,h2,a,ha=>by
  rw [List.map_cons,eO,vQ hN hd (h2 b (List.mem_cons_self ..)) (h2 a ha)];rw [List.map_cons,List.nodup_cons] at h1;rcases List.mem_cons.mp ha with e|e
  ·subst e;rw [decide_eq_true rfl,if_pos rfl]
  ·have:¬nm b=nm a:=fun g=>h1.1 (g▸List.mem_map_of_mem (f:=nm) e)
   rw [decide_eq_false this,if_neg (by simp)];exact sU hN hd nm g L h1.2 (fun c hc=>h2 c (List.mem_cons_of_mem _ hc)) a e
theorem z_ (N:List Str):∀H:List Rw,D.cG 11 (H.map (rwD N))=true
 | []=>by rw [List.map_nil,D.cG]
 | r::H=>by
  rw [List.map_cons,D.cG,z_ N H];unfold rwD;rw [D.bJ,D.cG,D.cG,D.cG,D.cG,D.bJ,mO];unfold sy;rw [D.bJ,D.bJ] <;> simp
section
variable {N:List Str} (hN:N.length=26) (hd:N.Nodup)
include hN hd
theorem pR {m:Nat} (hm:m<=3) {l:Nat->Nat} {k:Nat} (hk:k<m):getD (.dct (lsD N m l)) (sy N k)=.ok (.int (l k)):=by
 show (if true then Res.ofOpt (eO (lsD N m l) (sy N k)) else .bad)=_;rw [if_pos rfl];have:=sU hN hd (fun k:Nat=>k) (fun k=>D.int (l k)) (List.range m) (by rw [List.map_id'];exact List.nodup_range) (fun a ha=>by have:=List.mem_range.mp ha;lia) k (List.mem_range.mpr hk);unfold lsD;rw [this];rfl
omit hN hd in
theorem A_ (l:Nat->Nat):∀ps:List Nat,(ps.map fun k=>((l k:Nat):Int)).sum=(((ps.map l).sum:Nat):Int)
 | []=>rfl
 | p::ps=>by
  rw [List.map_cons,List.map_cons,List.sum_cons,List.sum_cons,A_ l ps];lia
theorem VV {m:Nat} (hm:m<=3) {l:Nat->Nat} (hl:∀k,k<m->1<=l k/\l k<=4) {f:FE} {ρ:List D} {n:Nat} {ps:List Nat} (hρ:ρ.length=n) (hf:f ρ=.ok (.tup (ps.map (sy N)))) (hp:∀i∈ps,i<m) (hpl:ps.length<=100) (h5:∀k,cL 5 (ρ++[sy N k])=.ok (.dct (lsD N m l))) (hn:∀k,cL n (ρ++[sy N k])=.ok (sy N k)) :
  aY pZ (aB (cH n (bD f false) jV (d_) (b2 getD fP (cL n)) false) aU) ρ=.ok (.int ((ps.map l).sum:Nat)):=by
 refine bB (aD (eV (sy N) (fun k=>D.int (l k)) ps hρ (iW hf) (by lia) fun k hk=>⟨aH (h5 k) (hn k) (pR hN hd hm (hp k hk)),rfl⟩) rfl) ?_;show (match intsOf (ps.map fun k=>D.int (l k)) with|some ns=>if ns.all (fun i=>decide (-1000<=i)&&decide (i<=1000))&&decide (ns.length<=100000) then Res.ok (D.int ns.sum) else .bad|none=>.bad)=_;have e:(ps.map fun k=>D.int (l k))=(ps.map fun k=>((l k:Nat):Int)).map D.int:=by rw [List.map_map];rfl
 rw [e,nJ];dsimp only;rw [A_,if_pos];rw [Bool.and_eq_true,List.all_eq_true,decide_eq_true_eq,List.length_map];refine ⟨fun i hi=>?_,by lia⟩;obtain ⟨k,hk,rfl⟩:=List.mem_map.mp hi;have:=hl k (hp k hk);rw [Bool.and_eq_true,decide_eq_true_eq,decide_eq_true_eq];lia
omit hN hd in
theorem iK {ρ:List D} {i:Nat} {r:Rw} (h:cL i ρ=.ok (rwD N r)):b2 getD (cL i) fQ ρ=.ok (sy N r.1)/\b2 getD (cL i) dD ρ=.ok (sy N r.2.1)/\b2 getD (cL i) lL ρ=.ok (.tup (r.2.2.map (sy N))):=⟨aH h rfl rfl,aH h rfl rfl,aH h rfl rfl⟩
theorem PX {i j:Nat} (hi:i<26) (hj:j<26):dG .eq (sy N i) (sy N j)=.ok (.bl (decide (i=j))):=by
 show (if (sy N i).bJ aV&&(sy N j).bJ aV then Res.ok (D.bl (eqD (sy N i) (sy N j))) else .bad)=_;rw [nH,nH,vQ hN hd hi hj];rfl
theorem ZC {i j:Nat} (hi:i<26) (hj:j<26):dG .ne (sy N i) (sy N j)=.ok (.bl (!decide (i=j))):=by
 show (if (sy N i).bJ aV&&(sy N j).bJ aV then Res.ok (D.bl (!eqD (sy N i) (sy N j))) else .bad)=_;rw [nH,nH,vQ hN hd hi hj];rfl
theorem aF1 {i:Nat} {l:List Nat} (hi:i<26) (hl:∀j∈l,j<26):dG .isin (sy N i) (.tup (l.map (sy N)))=.ok (.bl (decide (i∈l))):=by
 show (if (sy N i).bJ aV&&D.cG aV (l.map (sy N)) then Res.ok (D.bl ((l.map (sy N)).any fun y=>eqD y (sy N i))) else .bad)=_;rw [nH,mO,VL hN hd hi l hl];rfl
omit hN hd in
theorem aF2 (H:List Rw):dG .ne (.lst (H.map (rwD N))) (.lst [])=.ok (.bl (!H.isEmpty)):=by
 show (if D.cG 11 (H.map (rwD N))&&D.cG 11 [] then Res.ok (D.bl (!tR (H.map (rwD N)) [])) else .bad)=_;rw [z_,D.cG];cases H <;> rfl
omit hN hd in
theorem aCs (l:List Nat):dG .ne (.lst (l.map (sy N))) (.lst [])=.ok (.bl (!l.isEmpty)):=by
 show (if D.cG 11 (l.map (sy N))&&D.cG 11 [] then Res.ok (D.bl (!tR (l.map (sy N)) [])) else .bad)=_;rw [mO,D.cG];cases l <;> rfl
omit hN hd in
omit hN hd in
theorem aGt (v:Int):tV .gt [.int 0,.int v]=.ok (.int (if 0<v then v else 0)):=by
 show mW .gt [.int 0,.int v]=_;have h:∀x y:Int,n6 .gt (.int x) (.int y)=some (decide (y<x)):=fun x y=>rfl
 have hall:([D.int 0,D.int v].all fun x=>x.bJ aV&&[D.int 0,D.int v].all fun y=>(n6 .gt x y).isSome)=true:=by
  simp only [List.all_cons,List.all_nil,h,Option.isSome_some,Bool.and_true];rfl
 rw [mW,if_pos hall];simp only [List.foldl_cons,List.foldl_nil,h,Option.getD_some];by_cases hr:0<v
 ·simp [hr]
 ·simp [hr]
end
end Lk52
end
section
namespace Lk52
open PySem L2 Mi
structure aDo (m:Nat) (H:List Rw) (l:Nat->Nat):Prop where
 m3:m<=3
 lb:∀k,k<m->1<=l k/\l k<=4
 hl:H.length<=100
 hg:∀r∈H,Gr m r
 ba:∀k,k<m->∃r∈H,r.2.1=k/\1+(r.2.2.map l).sum<=l k
noncomputable abbrev wst (hD:D) (N:List Str) (H:List Rw) (w most:D) (full:Bool) (m:Nat) (l:Nat->Nat) (W st:List Nat) (left:Nat) (a b c d e:D):List D:=[hD,.lst (H.map (rwD N)),w,most,.bl full,.dct (lsD N m l),.lst (W.map (sy N)),.lst (st.reverse.map (sy N)),.int left,a,b,c,d,e]
theorem aF3 {a:FE} {ρ:List D} {b:Bool} (h:a ρ=.ok (.bl b)):bTr a ρ=.ok b:=by
 unfold bTr;rw [h];rfl
theorem ZD {N:List Str} {cs:List Int} {n:Nat} {H:List Rw} {w most:D} {full:Bool} {m:Nat} {l:Nat->Nat} {W rest:List Nat} {left:Nat} {a b d e:D} {S:List Rw} {v:Int} {i:Nat} {r:Rw} {z:Nat} (qv:ch1 aL (dk cs n) []=.ok (.int v,dk cs (n+1))) (lS:0<S.length) (i2:v % (S.length:Int)=i) (hi:S[i]?=some r):wb5 (wst (.cel z (dk cs n)) N H w most full m l W rest left a b (.lst (S.map (rwD N))) d e)=.ok (.nx (wst (.cel z (dk cs (n+1))) N H w most full m l W rest left a b (.lst (S.map (rwD N))) d (rwD N r))):=by
 have hl:∀ρ:List D,cL 11 ρ=.ok (.lst (S.map (rwD N)))->(aY j6 (aB iI aU)) ρ=.ok (.int S.length):=fun ρ h=>bB (aD h rfl) (by
  show Res.ok (D.int ((S.map (rwD N)).length:Int))=_;rw [List.length_map])
 exact fW (i:=13) (aCa (x:=.lst (S.map (rwD N))) rfl (q_ (sO qv rfl rfl) rfl (hl _ rfl) (bO _ _ (by lia)) rfl) (lJ i2 hi) (dX ..)) rfl
section
variable {N:List Str} (hN:N.length=26) (hd:N.Nodup)
include hN hd
theorem turn {cs:List Int} {n:Nat} {H:List Rw} {w most:D} {full:Bool} {m:Nat} {l:Nat->Nat} (P:aDo m H l) {W rest:List Nat} {k left:Nat} (hk:k<m) (hn:n<=10000) (hW:W.length<=10000) (hr:rest.length<=5000) (a b c d e:D) :
  ∃r∈H,r.2.1=k/\∃(left':Nat) (a' b' c' d' e':D),left'+(r.2.2.map l).sum+1=left+l k/\∀z,wb (wst (.cel z (dk cs n)) N H w most full m l W (k::rest) left a b c d e)=.ok (.nx (wst (.cel z (dk cs (n+1))) N H w most full m l (W++[r.1]) (r.2.2++rest) left' a' b' c' d' e')):=by
 have hk1:=P.lb k hk;have m3:=P.m3;obtain ⟨v,qv⟩:=gU cs n (by lia)
 let room:Nat:=left+l k-1
 have hroom:(left:Int)+(l k:Nat)-1=(room:Int):=by show _=((left+l k-1:Nat):Int);lia
 let p1:Rw->Bool:=fun r=>decide (r.2.1=k)&&decide ((((r.2.2.map l).sum:Nat):Int)<=(room:Int))
 let p2:Rw->Bool:=fun r=>decide (k∈r.2.2)
 let S1:=H.filter p1
 let S2:=S1.filter p2
 let S:=if (full&&!S2.isEmpty)=true then S2 else S1
 have sub1:∀r∈S1,r∈H/\r.2.1=k/\(r.2.2.map l).sum<=room:=fun r hr=>by
  have:=List.mem_filter.mp hr;have h2:(decide (r.2.1=k)&&decide ((((r.2.2.map l).sum:Nat):Int)<=(room:Int)))=true:=this.2;rw [Bool.and_eq_true,decide_eq_true_eq,decide_eq_true_eq] at h2;exact ⟨this.1,h2.1,by lia⟩
 have ne1:S1≠[]:=by
  obtain ⟨r,hr,e1,e2⟩:=P.ba k hk;have:r∈S1:=List.mem_filter.mpr ⟨hr,by
   show (decide (r.2.1=k)&&decide ((((r.2.2.map l).sum:Nat):Int)<=(room:Int)))=true;rw [Bool.and_eq_true,decide_eq_true_eq,decide_eq_true_eq];exact ⟨e1,by lia⟩⟩
  exact List.ne_nil_of_mem this
 have subS:∀r∈S,r∈S1:=fun r hr=>by
  have hr':r∈(if (full&&!S2.isEmpty)=true then S2 else S1):=hr;split at hr'
  ·exact (List.mem_filter.mp hr').1
  ·exact hr'
 have neS:S≠[]:=by
  show (if (full&&!S2.isEmpty)=true then S2 else S1)≠[];split
  ·rename_i h;rw [Bool.and_eq_true] at h;intro g;rw [g] at h;exact absurd h.2 (by decide)
  ·exact ne1
 have lS:0<S.length:=List.length_pos_iff.mpr neS;obtain ⟨i,i1,i2⟩:=kix (m:=S.length) (by lia) v;have hi:S[i]?=some S[i]:=List.getElem?_eq_getElem i1;obtain ⟨g1,g2,g3⟩:=sub1 _ (subS _ (List.getElem_mem i1));generalize hr0:S[i]=r at g1 g2 g3 hi;obtain ⟨u1,u2,u3⟩:=P.hg r g1;refine ⟨r,g1,g2,room-(r.2.2.map l).sum,sy N k,.int room,.lst (S.map (rwD N)),.lst (S2.map (rwD N)),rwD N r,by lia,fun z=>?_⟩;have t0:wb0 (wst (.cel z (dk cs n)) N H w most full m l W (k::rest) left a b c d e)=.ok (.nx (wst (.cel z (dk cs n)) N H w most full m l W rest left (sy N k) b c d e)):=PQ (i:=7) (j:=9) (xs:=rest.reverse.map (sy N)) (x:=sy N k) (by
  show D.lst ((k::rest).reverse.map (sy N))=_;rw [List.reverse_cons,List.map_append];rfl) rfl
 have t1:wb1 (wst (.cel z (dk cs n)) N H w most full m l W rest left (sy N k) b c d e)=.ok (.nx (wst (.cel z (dk cs n)) N H w most full m l W rest left (sy N k) (.int room) c d e)):=by
  rw [<-hroom];exact eU (i:=10) (aH (aH (x:=.int left) rfl (aH rfl rfl (pR hN hd m3 hk)) (dN _ _)) rfl (zG _ _))
 have t2:wb2 (wst (.cel z (dk cs n)) N H w most full m l W rest left (sy N k) (.int room) c d e)=.ok (.nx (wst (.cel z (dk cs n)) N H w most full m l W rest left (sy N k) (.int room) (.lst (S1.map (rwD N))) d e)):=by
  refine eU (i:=11) (xT (n:=14) (rwD N) (rwD N) p1 H rfl (iV rfl) (by have:=P.hl;lia) (fun r hr=>?_) fun r hr _=>⟨rfl,dX ..⟩);obtain ⟨v1,v2,v3⟩:=P.hg r hr;have c1:∀ρ:List D,cL 14 ρ=.ok (rwD N r)->cL 9 ρ=.ok (sy N k)->(bTB (b2 (dG .eq) (b2 getD j5 dD) lD)) ρ=.ok (decide (r.2.1=k)):=fun ρ e1 e2=>gB (aH (iK e1).2.1 e2 (PX hN hd (by lia) (by lia)))
  by_cases hrk:r.2.1=k
  ·refine (aBb ((c1 _ rfl rfl).trans (by rw [decide_eq_true hrk])) (gB (aH (VV hN hd m3 P.lb (n:=15) rfl (aH rfl rfl rfl) v2 (by lia) (fun _=>rfl) (fun _=>rfl)) rfl (aCc _ _)))).trans ?_;show _=Res.ok (decide (r.2.1=k)&&decide ((((r.2.2.map l).sum:Nat):Int)<=(room:Int)));rw [decide_eq_true hrk,Bool.true_and]
  ·refine (aBc ((c1 _ rfl rfl).trans (by rw [decide_eq_false hrk]))).trans ?_;show _=Res.ok (decide (r.2.1=k)&&decide ((((r.2.2.map l).sum:Nat):Int)<=(room:Int)));rw [decide_eq_false hrk,Bool.false_and]
 have t3:wb3 (wst (.cel z (dk cs n)) N H w most full m l W rest left (sy N k) (.int room) (.lst (S1.map (rwD N))) d e)=.ok (.nx (wst (.cel z (dk cs n)) N H w most full m l W rest left (sy N k) (.int room) (.lst (S1.map (rwD N))) (.lst (S2.map (rwD N))) e)):=by
  refine eU (i:=12) (xT (n:=14) (rwD N) (rwD N) p2 S1 rfl (iV rfl) (by have:=P.hl;have:S1.length<=H.length:=List.length_filter_le ..;lia) (fun r hr=>?_) fun r hr _=>⟨rfl,dX ..⟩);obtain ⟨v1,v2,v3⟩:=P.hg r (sub1 r hr).1;exact gB (aH rfl (aH rfl rfl rfl) (aF1 hN hd (by lia) fun j hj=>by have:=v2 j hj;lia))
 have t4:wb4 (wst (.cel z (dk cs n)) N H w most full m l W rest left (sy N k) (.int room) (.lst (S1.map (rwD N))) (.lst (S2.map (rwD N))) e)=.ok (.nx (wst (.cel z (dk cs n)) N H w most full m l W rest left (sy N k) (.int room) (.lst (S.map (rwD N))) (.lst (S2.map (rwD N))) e)):=by
  have cnd:∀ρ:List D,cL 4 ρ=.ok (.bl full)->cL 12 ρ=.ok (.lst (S2.map (rwD N)))->(QH (bTr eF) (bTB (b2 (dG .ne) tU (jU aU)))) ρ=.ok (full&&!S2.isEmpty):=fun ρ e1 e2=>by
   have e3:bTr eF ρ=.ok full:=aF3 e1;cases full
   ·exact aBc e3
   ·exact aBb e3 (gB (aH e2 rfl (aF2 S2)))
  refine LQ (cnd _ rfl rfl) ?_;by_cases h:(full&&!S2.isEmpty)=true
  ·rw [if_pos h];have:S=S2:=if_pos h;rw [this];exact aEi rfl
  ·rw [if_neg h];have:S=S1:=if_neg h;rw [this];rfl
 have t5:wb5 (wst (.cel z (dk cs n)) N H w most full m l W rest left (sy N k) (.int room) (.lst (S.map (rwD N))) (.lst (S2.map (rwD N))) e)=.ok (.nx (wst (.cel z (dk cs (n+1))) N H w most full m l W rest left (sy N k) (.int room) (.lst (S.map (rwD N))) (.lst (S2.map (rwD N))) (rwD N r))):=ZD qv lS i2 hi;have t6:wb6 (wst (.cel z (dk cs (n+1))) N H w most full m l W rest left (sy N k) (.int room) (.lst (S.map (rwD N))) (.lst (S2.map (rwD N))) (rwD N r))=.ok (.nx (wst (.cel z (dk cs (n+1))) N H w most full m l (W++[r.1]) rest left (sy N k) (.int room) (.lst (S.map (rwD N))) (.lst (S2.map (rwD N))) (rwD N r))):=by
  have ha:=nQ (i:=6) (ρ:=wst (.cel z (dk cs (n+1))) N H w most full m l W rest left (sy N k) (.int room) (.lst (S.map (rwD N))) (.lst (S2.map (rwD N))) (rwD N r)) (xs:=W.map (sy N)) (iK (i:=13) (r:=r) rfl).1 rfl (by rw [List.length_map,bK];lia) rfl;refine ha.trans ?_;unfold wst;rw [List.map_append];rfl
 have t7:wb7 (wst (.cel z (dk cs (n+1))) N H w most full m l (W++[r.1]) rest left (sy N k) (.int room) (.lst (S.map (rwD N))) (.lst (S2.map (rwD N))) (rwD N r))=.ok (.nx (wst (.cel z (dk cs (n+1))) N H w most full m l (W++[r.1]) rest (room-(r.2.2.map l).sum) (sy N k) (.int room) (.lst (S.map (rwD N))) (.lst (S2.map (rwD N))) (rwD N r))):=by
  have e:((room-(r.2.2.map l).sum:Nat):Int)=(room:Int)-((r.2.2.map l).sum:Nat):=by lia
  unfold wst;rw [e];exact eU (i:=8) (aH (x:=.int room) rfl (VV hN hd m3 P.lb (n:=14) rfl (aH rfl rfl rfl) u2 (by lia) (fun _=>rfl) (fun _=>rfl)) (zG _ _))
 have t8:wb8 (wst (.cel z (dk cs (n+1))) N H w most full m l (W++[r.1]) rest (room-(r.2.2.map l).sum) (sy N k) (.int room) (.lst (S.map (rwD N))) (.lst (S2.map (rwD N))) (rwD N r))=.ok (.nx (wst (.cel z (dk cs (n+1))) N H w most full m l (W++[r.1]) (r.2.2++rest) (room-(r.2.2.map l).sum) (sy N k) (.int room) (.lst (S.map (rwD N))) (.lst (S2.map (rwD N))) (rwD N r))):=by
  have hx:=VR (i:=7) (ρ:=wst (.cel z (dk cs (n+1))) N H w most full m l (W++[r.1]) rest (room-(r.2.2.map l).sum) (sy N k) (.int room) (.lst (S.map (rwD N))) (.lst (S2.map (rwD N))) (rwD N r)) (f:=b1 YH (b2 getD i_ lL)) (xs:=rest.reverse.map (sy N)) (ys:=r.2.2.reverse.map (sy N)) (xU (iK (i:=13) (r:=r) rfl).2.2 (by
   show (if D.aN (r.2.2.map (sy N))&&decide ((r.2.2.map (sy N)).length<=lim) then Res.ok (D.lst (r.2.2.map (sy N)).reverse) else .bad)=_;rw [bT,List.length_map,bK,decide_eq_true (by lia),<-List.map_reverse];rfl)) rfl (by rw [List.length_map,List.length_reverse,List.length_map,List.length_reverse];lia) (bT ..)
  refine hx.trans ?_;have e7:((r.2.2++rest).reverse.map (sy N))=rest.reverse.map (sy N)++r.2.2.reverse.map (sy N):=by rw [List.reverse_append,List.map_append]
  unfold wst;rw [e7];rfl
 exact aP t0 (aP t1 (aP t2 (aP t3 (aP t4 (aP t5 (aP t6 (aP t7 t8)))))))
theorem aCt {cs:List Int} {H:List Rw} {w most:D} {full:Bool} {m:Nat} {l:Nat->Nat} (P:aDo m H l):∀(μ n fuel:Nat) (W st:List Nat) (left:Nat) (a b c d e:D),left+(st.map l).sum=μ->μ<fuel->n+μ<=5000->W.length+μ<=5000->(∀k∈st,k<m)->
  ∃(V:List Nat) (n':Nat) (left':Nat) (a' b' c' d' e':D),Run H st V/\V.length<=μ/\n'<=n+μ/\∀z,FZ wc wb fuel (wst (.cel z (dk cs n)) N H w most full m l W st left a b c d e)=.ok (.nx (wst (.cel z (dk cs n')) N H w most full m l (W++V) [] left' a' b' c' d' e'))
 | μ,n,0,W,st,left,a,b,c,d,e,h1,h2,_,_,_=>absurd h2 (Nat.not_lt_zero _)
 | μ,n,fuel+1,W,[],left,a,b,c,d,e,h1,h2,_,_,_=>⟨[],n,left,a,b,c,d,e,.nil,Nat.zero_le _,by lia,fun z=>by
   rw [List.append_nil];exact PP (gB (aH rfl rfl (aCs (N:=N) [])))⟩
 | 0,n,fuel+1,W,k::rest,left,a,b,c,d,e,h1,h2,_,_,h5=>by
   have:=P.lb k (h5 k (List.mem_cons_self ..));rw [List.map_cons,List.sum_cons] at h1;lia
 | μ+1,n,fuel+1,W,k::rest,left,a,b,c,d,e,h1,h2,h3,h4,h5=>by
   have hk:=h5 k (List.mem_cons_self ..);have lbs:∀st:List Nat,(∀k∈st,k<m)->st.length<=(st.map l).sum:=by
    intro st;induction st with
    | nil=>intro _;simp
    | cons x xs ih=>
     intro h;have:=ih fun k hk=>h k (List.mem_cons_of_mem _ hk)
     have:=P.lb x (h x (List.mem_cons_self ..));rw [List.map_cons,List.sum_cons,List.length_cons];lia
   have hrest:∀k∈rest,k<m:=fun j hj=>h5 j (List.mem_cons_of_mem _ hj)
   have hlr:=lbs rest hrest;rw [List.map_cons,List.sum_cons] at h1;obtain ⟨r,r1,r2,left',a',b',c',d',e',r3,r4⟩:=turn hN hd (cs:=cs) (n:=n) (w:=w) (most:=most) (full:=full) P (W:=W) (rest:=rest) (k:=k) (left:=left) hk (by lia) (by lia) (by lia) a b c d e;have hp:=(P.hg r r1).2.1;obtain ⟨V,n',left2,a2,b2,c2,d2,e2,q1,q2,q3,q4⟩:=aCt P μ (n+1) fuel (W++[r.1]) (r.2.2++rest) left' a' b' c' d' e' (by rw [List.map_append,List.sum_append];lia) (by lia) (by lia) (by rw [List.length_append,List.length_singleton];lia) (fun j hj=>by
    rcases List.mem_append.mp hj with h|h
    ·exact hp j h
    ·exact hrest j h)
   refine ⟨r.1::V,n',left2,a2,b2,c2,d2,e2,r2▸.step r1 q1,by rw [List.length_cons];lia,by lia,fun z=>?_⟩;refine z9 (gB (aH rfl rfl ((aCs (N:=N) (k::rest).reverse).trans ?_))) (r4 z) ?_
   ·rw [List.reverse_cons];cases rest.reverse <;> rfl
   ·rw [q4 z,List.append_assoc];rfl
theorem TQ (cs:List Int) {n:Nat} {H:List Rw} {full:Bool} {m:Nat} {l:Nat->Nat} (P:aDo m H l) {k most:Nat} (hk:k<m) (hm:most<=390) (hn:n<=1000) :
  ∃(V:List Nat) (n':Nat),Run H [k] V/\V.length<=390/\n'<=2000/\ch1 cT (dk cs n) [.lst (H.map (rwD N)),sy N k,.int most,.bl full,.dct (lsD N m l)]=.ok (.lst (V.map (sy N)),dk cs n'):=by
 have hk1:=P.lb k hk
 let left:Nat:=most-l k
 obtain ⟨V,n',left',a',b',c',d',e',h1,h2,h3,h4⟩:=aCt hN hd (cs:=cs) (w:=sy N k) (most:=.int most) (full:=full) P (left+l k) n 1000 [] [k] left .uD .uD .uD .uD .uD (by simp) (by show most-l k+l k<1000;lia) (by show n+(most-l k+l k)<=_;lia) (by show 0+(most-l k+l k)<=_;lia) (fun j hj=>by rw [List.mem_singleton] at hj;lia);refine ⟨V,n',h1,Nat.le_trans h2 (by show most-l k+l k<=_;lia),by lia,zM fun z=>vL (k:=1) (ρ:=wst (.cel z (dk cs n')) N H (sy N k) (.int most) full m l V [] left' a' b' c' d' e') ?_⟩;refine aP (ρ':=[.cel z (dk cs n),.lst (H.map (rwD N)),sy N k,.int most,.bl full,.dct (lsD N m l),.lst [],.uD,.uD,.uD,.uD,.uD,.uD,.uD]) (gK (i:=6) rfl rfl) ?_;refine aP (ρ':=[.cel z (dk cs n),.lst (H.map (rwD N)),sy N k,.int most,.bl full,.dct (lsD N m l),.lst [],.lst [sy N k],.uD,.uD,.uD,.uD,.uD,.uD]) (gK (i:=7) rfl rfl) ?_;refine aP (ρ':=wst (.cel z (dk cs n)) N H (sy N k) (.int most) full m l [] [k] left .uD .uD .uD .uD .uD) (jE (i:=8) (d:=.int left) (bB (aD rfl (aD (aH (x:=.int most) rfl (aH rfl rfl (pR hN hd P.m3 hk)) (zG _ _)) rfl)) ((aGt _).trans ?_)) rfl) ?_
 ·congr 2
  show _=((most-l k:Nat):Int);split <;> lia
 refine aP (h4 z) ?_;exact zY rfl rfl
end
end Lk52
end
section
namespace Lk52
open PySem L2 Mi
theorem call_v {n m:Nat} {f:FS} {ds:List D} {d:D} (h:f (ds++List.replicate (m-n) D.uD)=.ok (.rt d)):fnS n m f ds=.ok d:=by
 unfold fnS;rw [h];rfl
theorem V0 {a:FT} {ρ:List D} {b:Bool} (h:a ρ=.ok b):J4 a ρ=.ok (!b):=by
 unfold J4;rw [h,Res.aM];rfl
theorem aCu {a:FE} {ρ:List D} {b:Bool} (h:a ρ=.ok (.bl b)):bTr a ρ=.ok b:=by
 unfold bTr;rw [h,Res.aM];rfl
def hdV (N:List Str) (r:Rw):D:=.tup [sy N r.2.1,.tup (r.2.2.map (sy N))]
def hdD (N:List Str) (F:List Rw):List (D×D):=F.map fun r=>(sy N r.1,hdV N r)
def tr (t:Tk):Rw:=(t.1,t.2.1,t.2.2.1::t.2.2.2)
theorem sV (N:List Str) (r:Rw):(hdV N r).pure=true:=by
 show ((sy N r.2.1).pure&&((D.tup (r.2.2.map (sy N))).pure&&true))=true;rw [D.pure,bT];rfl
section
variable {N:List Str} (hN:N.length=26) (hd:N.Nodup)
include hN hd
theorem sW {α:Type} (nm:α->Nat) (g:α->D) {i:Nat} (hi:i<26) (v:D):∀(L:List α),(∀a∈L,nm a<26)->i∉L.map nm->putD (L.map fun a=>(sy N (nm a),g a)) (sy N i) v=(L.map fun a=>(sy N (nm a),g a))++[(sy N i,v)]
 | [],_,_=>rfl
 | a::L,h1,h2=>by
  rw [List.map_cons,List.mem_cons,not_or] at h2;rw [List.map_cons,putD,vQ hN hd (h1 a (List.mem_cons_self ..)) hi,decide_eq_false (fun g=>h2.1 g.symm),if_neg (by simp),sW nm g hi v L (fun b hb=>h1 b (List.mem_cons_of_mem _ hb)) h2.2];rfl
omit hN hd in
theorem P_ {α:Type} (nm:α->Nat) (g:α->D) (L:List α) (i:Nat):DN (L.map fun a=>(sy N (nm a),g a)) (sy N i)=true:=by
 show (true&&(L.map fun a=>(sy N (nm a),g a)).all fun p=>isTup p.1==false)=true;rw [Bool.true_and,List.all_eq_true];intro y hy;obtain ⟨k,_,rfl⟩:=List.mem_map.mp hy;rfl
theorem BJ {pr e f g h:D} (e5:D):∀(M L:List Rw),((L++M).map (·.1)).Nodup->(∀r∈L++M,r.1<26)->L.length+M.length<=1000->∀(a b c:D),∃a' b' c',pW (tgN [2,3,4]) (RD 1 dO (jL (aB cO (aB eF aU)))) (M.map (rwD N)) [pr,.dct (hdD N L),a,b,c,e5,f]=.ok (.nx [pr,.dct (hdD N (L++M)),a',b',c',e5,f])
 | [],L,_,_,_,a,b,c=>⟨a,b,c,by rw [List.append_nil];rfl⟩
 | r::M,L,h1,h2,h3,a,b,c=>by
  have hr:r.1<26:=h2 r (by simp);have hn:r.1∉L.map (·.1):=fun hm=>by
   rw [List.map_append,List.map_cons,List.nodup_append] at h1;exact h1.2.2 _ hm _ (List.mem_cons_self ..) rfl
  have e1:hdD N (L++[r])=putD (hdD N L) (sy N r.1) (hdV N r):=by
   unfold hdD;rw [sW hN hd (fun r:Rw=>r.1) (hdV N) hr _ L (fun x hx=>h2 x (by simp [hx])) hn,List.map_append];rfl
  rw [List.length_cons] at h3;obtain ⟨a',b',c',q⟩:=BJ (pr:=pr) (e:=e) (f:=f) (g:=g) (h:=h) e5 M (L++[r]) (by rw [List.append_assoc];exact h1) (by rw [List.append_assoc];exact h2) (by rw [List.length_append,List.length_singleton];lia) (sy N r.1) (sy N r.2.1) (.tup (r.2.2.map (sy N)));refine ⟨a',b',c',?_⟩;rw [List.map_cons];rw [List.append_assoc] at q;refine fM (ρ1:=[pr,.dct (hdD N L),sy N r.1,sy N r.2.1,.tup (r.2.2.map (sy N)),e5,f]) rfl (MF (i:=1) (kvs:=hdD N L) (k:=sy N r.1) (d:=hdV N r) (fL (aD rfl (aD rfl rfl)) (by rw [bK];simp)) rfl rfl (by unfold hdD;rw [List.length_map,bK];lia) (P_ ..) (sV ..)) ?_;rw [<-e1];exact q
theorem BK {pr:D}:∀(T:List Tk) (L:List Rw),((L++T.map tr).map (·.1)).Nodup->(∀r∈L++T.map tr,r.1<26)->L.length+T.length<=1000->(∀t∈T,t.2.2.2.length<=10)->∀(a b c d e:D),∃a' b' c' d' e',pW (tgN [2,3,5,6]) (RD 1 dO (jL (aB cO (aB (b2 Z2 (jL (aB fP aU)) pX) aU)))) (T.map (tkD N)) [pr,.dct (hdD N L),a,b,c,d,e]=.ok (.nx [pr,.dct (hdD N (L++T.map tr)),a',b',c',d',e'])
 | [],L,_,_,_,_,a,b,c,d,e=>⟨a,b,c,d,e,by rw [show L++List.map tr []=L from List.append_nil L];rfl⟩
 | t::T,L,h1,h2,h3,h4,a,b,c,d,e=>by
  have hr:(tr t).1<26:=h2 (tr t) (by simp);have hn:(tr t).1∉L.map (·.1):=fun hm=>by
   rw [List.map_cons,List.map_append,List.map_cons,List.nodup_append] at h1;exact h1.2.2 _ hm _ (List.mem_cons_self ..) rfl
  have e1:hdD N (L++[tr t])=putD (hdD N L) (sy N (tr t).1) (hdV N (tr t)):=by
   unfold hdD;rw [sW hN hd (fun r:Rw=>r.1) (hdV N) hr _ L (fun x hx=>h2 x (List.mem_append_left _ hx)) hn,List.map_append];rfl
  rw [List.length_cons] at h3;obtain ⟨a',b',c',d',e',q⟩:=BK (pr:=pr) T (L++[tr t]) (by rw [List.append_assoc];exact h1) (by rw [List.append_assoc];exact h2) (by rw [List.length_append,List.length_singleton];lia) (fun x hx=>h4 x (List.mem_cons_of_mem _ hx)) (sy N t.1) (sy N t.2.1) c (sy N t.2.2.1) (.tup (t.2.2.2.map (sy N)));refine ⟨a',b',c',d',e',?_⟩;rw [List.map_cons];rw [List.append_assoc] at q;have hl:=h4 t (List.mem_cons_self ..);have had:Z2 (.tup [sy N t.2.2.1]) (.tup (t.2.2.2.map (sy N)))=.ok (.tup ((tr t).2.2.map (sy N))):=by
   show (if decide ([sy N t.2.2.1].length+(t.2.2.2.map (sy N)).length<=lim) then Res.ok (D.tup ([sy N t.2.2.1]++t.2.2.2.map (sy N))) else .bad)=_;rw [List.length_map,bK,decide_eq_true (by simp;lia)];rfl
  refine fM (ρ1:=[pr,.dct (hdD N L),sy N t.1,sy N t.2.1,c,sy N t.2.2.1,.tup (t.2.2.2.map (sy N))]) rfl (MF (i:=1) (kvs:=hdD N L) (k:=sy N (tr t).1) (d:=hdV N (tr t)) (fL (aD rfl (aD (aH (fL (aD rfl rfl) (by rw [bK];simp)) rfl had) rfl)) (by rw [bK];simp)) rfl rfl (by unfold hdD;rw [List.length_map,bK];lia) (P_ ..) (sV ..)) ?_;rw [<-e1];exact q
structure Hds (F:List Rw):Prop where
 nd:(F.map (·.1)).Nodup
 lt:∀r∈F,r.1<26/\r.2.1<26/\(∀i∈r.2.2,i<26)/\r.2.2.length<=10
 ln:F.length<=100
theorem TV {M:List Rw} {T:List Tk} (F:Hds (M++T.map tr)) {P0 P3:D}:gC [.tup [P0,.tup (M.map (rwD N)),.tup (T.map (tkD N)),P3]]=.ok (.dct (hdD N (M++T.map tr))):=by
 have hl:=F.ln;rw [List.length_append,List.length_map] at hl;obtain ⟨a,b,c,q1⟩:=BJ hN hd (pr:=.tup [P0,.tup (M.map (rwD N)),.tup (T.map (tkD N)),P3]) (e:=.uD) (f:=.uD) (g:=.uD) (h:=.uD) .uD M [] (by have:=F.nd;rw [List.map_append,List.nodup_append] at this;exact this.1) (fun r hr=>(F.lt r (List.mem_append_left _ hr)).1) (by simp;lia) .uD .uD .uD;obtain ⟨a2,b2',c2,d2,e2,q2⟩:=BK hN hd (pr:=.tup [P0,.tup (M.map (rwD N)),.tup (T.map (tkD N)),P3]) T M F.nd (fun r hr=>(F.lt r hr).1) (by lia) (fun t ht=>by have:=(F.lt (tr t) (List.mem_append_right _ (List.mem_map_of_mem ht))).2.2.2;have e:(tr t).2.2.length=t.2.2.2.length+1:=rfl;lia) a b c .uD .uD;refine call_v ?_;refine aP (ρ':=[.tup [P0,.tup (M.map (rwD N)),.tup (T.map (tkD N)),P3],.dct [],.uD,.uD,.uD,.uD,.uD]) (gK (i:=1) rfl rfl) ?_;refine aP (qP ((iW (aH rfl rfl rfl)).trans (by rw [cQ (dX N)];rfl)) q1) ?_;exact aP (qP ((iW (aH rfl rfl rfl)).trans (by rw [cQ (sS N)];rfl)) q2) rfl
theorem aCv {F:List Rw} (hF:Hds F) {r:Rw} (hr:r∈F):getD (.dct (hdD N F)) (sy N r.1)=.ok (hdV N r):=by
 show (if true then Res.ofOpt (eO (hdD N F) (sy N r.1)) else .bad)=_;unfold hdD;rw [if_pos rfl,sU hN hd (fun r:Rw=>r.1) (hdV N) F hF.nd (fun a ha=>(hF.lt a ha).1) r hr];rfl
end
end Lk52
end
section
namespace Lk52
open PySem L2 Mi
theorem iG:∀{ps:List D},(∀p∈ps,p.pure=true)->D.aN ps=true
 | [],_=>rfl
 | p::ps,h=>by rw [D.aN,h p (by simp),iG fun q hq=>h q (by simp [hq])];rfl
noncomputable def szD:D->Int
 | .tup [_,_,.int n]=>n
 | _=>0
noncomputable def noD (N:List Str) (r:Rw) (ps:List D):D:=.tup [sy N r.1,.tup ps,.int (1+(ps.map szD).sum)]
def isV (d:D):Prop:=d.pure=true/\∃a b n,d=.tup [a,b,.int n]
theorem V1 {N:List Str} {r:Rw} {ps:List D} (h:∀p∈ps,isV p):isV (noD N r ps):=by
 refine ⟨?_,_,_,_,rfl⟩;have hp:D.aN ps=true:=iG fun p hp=>(h p hp).1
 show ((sy N r.1).pure&&((D.tup ps).pure&&((D.int _).pure&&true)))=true;rw [D.pure,hp];rfl
inductive RV (N:List Str) (H:List Rw):List Nat->List Nat->List D->Prop
 | nil:RV N H [] [] []
 | step {r:Rw} {rest W:List Nat} {ps vs:List D}:r∈H->ps.length=r.2.2.length->RV N H (r.2.2++rest) W (ps++vs)->RV N H (r.2.1::rest) (r.1::W) (noD N r ps::vs)
theorem aF4 {N:List Str} {H:List Rw} {st W:List Nat} (h:Run H st W):∃vs,RV N H st W vs/\vs.length=st.length:=by
 induction h with
 | nil=>exact ⟨[],.nil,rfl⟩
 | @step r rest W hr _ ih=>
  obtain ⟨vs,h1,h2⟩:=ih;rw [List.length_append] at h2;have e:vs=vs.take r.2.2.length++vs.drop r.2.2.length:=(List.take_append_drop _ _).symm;rw [e] at h1;exact ⟨_,.step hr (by rw [List.length_take];lia) h1,by rw [List.length_cons,List.length_cons,List.length_drop];lia⟩
theorem pU {N:List Str} {H:List Rw} {st W:List Nat} {vs:List D} (h:RV N H st W vs):∀v∈vs,isV v:=by
 induction h with
 | nil=>intro v hv;simp at hv
 | step hr hl _ ih=>
  intro v hv;rcases List.mem_cons.mp hv with rfl|hv
  ·exact V1 fun p hp=>ih p (by simp [hp])
  ·exact ih v (by simp [hv])
theorem aFy {s f w k u:D} {b:Nat} {vs:List D}:∀(its ps acc:List D),its.length=ps.length->(∀p∈ps,p.pure=true)->xcf (uZ 2) acc its [s,f,.cel b ((ps++vs).reverse),w,k,u]=.ok (acc++ps,[s,f,.cel b vs.reverse,w,k,u])
 | [],[],acc,_,_=>by
  show Res.ok (acc,_)=_;rw [List.append_nil];rfl
 | i::its,p::ps,acc,hl,hp=>by
  have e:((p::ps)++vs).reverse=(ps++vs).reverse++[p]:=by simp
  rw [e];have h1:uZ 2 ([s,f,.cel b ((ps++vs).reverse++[p]),w,k,u]++[i])=.ok (p,[s,f,.cel b ((ps++vs).reverse),w,k,u,i]):=by
   show (match ((ps++vs).reverse++[p])[((ps++vs).reverse++[p]).length-1]? with|some x=>Res.ok (x,[s,f,D.cel b ((ps++vs).reverse++[p]).dropLast,w,k,u,i])|none=>.bad)=_;rw [List.length_append,List.length_singleton,Nat.add_sub_cancel,List.getElem?_append_right (Nat.le_refl _),Nat.sub_self,List.dropLast_concat];rfl
  show (do let q <- uZ 2 ([s,f,.cel b ((ps++vs).reverse++[p]),w,k,u]++[i]);if q.1.pure then xcf (uZ 2) (acc++[q.1]) its q.2.dropLast else .bad)=_;rw [h1,Res.aM];rw [if_pos (hp p (by simp))];have ih:=aFy (s:=s) (f:=f) (w:=w) (k:=k) (u:=u) (b:=b) (vs:=vs) its ps (acc++[p]) (by simpa using hl) (fun q hq=>hp q (by simp [hq]));rw [List.append_assoc] at ih;exact ih
end Lk52
end
section
namespace Lk52
open PySem L2 Mi
def tk0:FS:=sLf 4 1 "Frame" "known"
noncomputable def tk1:FS:=(eE false 5 (M7 (bD (b2 getD (b2 getD (zU "PlainRun" "heads" gF) cO) dD) false) (uZ 2)))
noncomputable def tk2:FE:=(jL (aB cO (aB (aY b_ (aB fP aU)) (aB (b2 (aQ .add) dD (aY pZ (aB (cH 6 (bD fP false) jV (d_) (b2 getD pX lL) false) aU))) aU))))
theorem ZF:bL=bA tk0 (sIf (bTB (b2 inX cO eF)) (wZ 2 (b2 getD eF cO)) (bA tk1 (sIf (bTB (b2 inX cO (zU "PlainRun" "makers" gF))) (wZ 2 tk2) (aEh)))):=rfl
noncomputable def slD (hs ms rs mo:D):D:=.ins "PlainRun" [("heads",hs),("makers",ms),("rules",rs),("most",mo),("calls",.int 0),("copies",.int 0),("drops",.int 0)]
theorem QB {hs ms rs mo:D} {l:List D}:zU "PlainRun" "heads" gF (slD hs ms rs mo::l)=.ok hs:=rfl
theorem G7 {hs ms rs mo:D} {l:List D}:zU "PlainRun" "makers" gF (slD hs ms rs mo::l)=.ok ms:=rfl
theorem aCw {s c w a b:D} {ws:List D} {i:Nat}:tk0 [s,.lst [frD ws i],c,w,a,b]=.ok (.nx [s,.lst [frD ws i],c,w,.dct [],b]):=rfl
section
variable {N:List Str} (hN:N.length=26) (hd:N.Nodup)
include hN hd
theorem aCx {F:List Rw} (hF:Hds F) {r:Rw} (hr:r∈F) {ms rs mo f k u:D} {b:Nat} {ps vs:List D} (hl:ps.length=r.2.2.length) (hp:∀p∈ps,p.pure=true):tk1 [slD (.dct (hdD N F)) ms rs mo,f,.cel b ((ps++vs).reverse),sy N r.1,k,u]=.ok (.nx [slD (.dct (hdD N F)) ms rs mo,f,.cel b vs.reverse,sy N r.1,k,.lst ps]):=by
 refine fW (ρ':=[slD (.dct (hdD N F)) ms rs mo,f,.cel b vs.reverse,sy N r.1,k,u]) (d:=.lst ps) ?_ rfl;have h1:b2 getD (b2 getD (zU "PlainRun" "heads" gF) cO) dD [slD (.dct (hdD N F)) ms rs mo,f,.cel b ((ps++vs).reverse),sy N r.1,k,u]=.ok (.tup (r.2.2.map (sy N))):=aH (aH QB rfl (aCv hN hd hF hr)) rfl rfl;have h2:bD (b2 getD (b2 getD (zU "PlainRun" "heads" gF) cO) dD) false [slD (.dct (hdD N F)) ms rs mo,f,.cel b ((ps++vs).reverse),sy N r.1,k,u]=.ok (r.2.2.map (sy N),true):=by
  unfold bD;rw [h1,Res.aM];show Res.ok (r.2.2.map (sy N),false||(D.tup (r.2.2.map (sy N))).pure)=_;rw [D.pure,bT];rfl
 unfold M7;rw [h2,Res.aM];have hb:=(hF.lt r hr).2.2.2;rw [if_pos (by rw [List.length_map,Bool.true_and];exact decide_eq_true (Nat.le_trans hb (by decide)))];rw [aFy (r.2.2.map (sy N)) ps [] (by rw [List.length_map,hl]) hp,Res.aM];rfl
end
end Lk52
end
section
namespace Lk52
open PySem L2 Mi
theorem ZG {N:List Str} {H:List Rw} {st W:List Nat} {vs:List D} (h:RV N H st W vs):(vs.map szD).sum=(W.length:Int):=by
 induction h with
 | nil=>rfl
 | @step r rest W ps vs hr hl _ ih=>
  rw [List.map_append,List.sum_append] at ih;rw [List.map_cons,List.sum_cons,List.length_cons];show (1+(ps.map szD).sum)+(vs.map szD).sum=_;lia
theorem aCy {N:List Str} {H:List Rw} {st W:List Nat} {vs:List D} (h:RV N H st W vs):∀v∈vs,1<=szD v:=by
 induction h with
 | nil=>intro v hv;simp at hv
 | @step r rest W ps vs hr hl _ ih=>
  have hs:∀(l:List D),(∀v∈l,1<=szD v)->0<=(l.map szD).sum:=by
   intro l;induction l with
   | nil=>intro _;simp
   | cons a l il=>
    intro hh;have h1:=hh a (by simp);have h2:=il fun v hv=>hh v (by simp [hv])
    rw [List.map_cons,List.sum_cons];lia
  intro v hv;rcases List.mem_cons.mp hv with rfl|hv
  ·have:=hs ps fun p hp=>ih p (by simp [hp])
   show 1<=1+(ps.map szD).sum;lia
  ·exact ih v (by simp [hv])
theorem V2:∀{l:List D},(∀v∈l,1<=szD v)->∀v∈l,szD v<=(l.map szD).sum
 | [],_,v,hv=>by simp at hv
 | a::l,h,v,hv=>by
  rw [List.map_cons,List.sum_cons];have hs:∀(l:List D),(∀v∈l,1<=szD v)->0<=(l.map szD).sum:=by
   intro l;induction l with
   | nil=>intro _;simp
   | cons a l il=>
    intro hh;have h1:=hh a (by simp);have h2:=il fun v hv=>hh v (by simp [hv])
    rw [List.map_cons,List.sum_cons];lia
  have h0:=h a (by simp);have h1:=hs l fun v hv=>h v (by simp [hv])
  rcases List.mem_cons.mp hv with rfl|hv
  ·lia
  ·have:=V2 (l:=l) (fun v hv=>h v (by simp [hv])) v hv;lia
theorem aCz {d:D} (h:isV d):getD d (.int 2)=.ok (.int (szD d)):=by
 obtain ⟨_,a,b,n,rfl⟩:=h;rfl
theorem aD0 {s f c k:D} {N:List Str} {r:Rw} {ps:List D} (hv:∀p∈ps,isV p) (hz:∀p∈ps,1<=szD p/\szD p<=1000) (hl:ps.length<=100):tk2 [s,f,c,sy N r.1,k,.lst ps]=.ok (noD N r ps):=by
 refine fL (aD rfl (aD (bB (aD rfl rfl) (show b_ [.lst ps]=.ok (.tup ps) from rfl)) (aD (aH rfl (bB (aD (eV (n:=6) id (fun p=>D.int (szD p)) ps rfl (kk:=false||(D.lst ps).pure) (by show Res.ok (ps,_)=_;rw [List.map_id];rfl) (by lia) fun p hp=>⟨aH (show cL 6 ([s,f,c,sy N r.1,k,.lst ps]++[p])=.ok p from ?_) rfl (aCz (hv p hp)),rfl⟩) rfl) (show pZ [.lst (ps.map fun p=>D.int (szD p))]=.ok (.int (ps.map szD).sum) from ?_)) rfl) rfl))) (by show 3<=lim;decide)
 ·obtain ⟨_,a,b,n,rfl⟩:=hv p hp;rfl
 ·show (match intsOf (ps.map fun p=>D.int (szD p)) with|some ns=>if ns.all (fun i=>decide (-1000<=i)&&decide (i<=1000))&&decide (ns.length<=100000) then Res.ok (D.int ns.sum) else .bad|none=>.bad)=_;have e:(ps.map fun p=>D.int (szD p))=(ps.map szD).map D.int:=by rw [List.map_map];rfl
  rw [e,nJ];dsimp only;rw [if_pos];rw [Bool.and_eq_true,List.all_eq_true,decide_eq_true_eq,List.length_map];refine ⟨fun i hi=>?_,by lia⟩;obtain ⟨p,hp,rfl⟩:=List.mem_map.mp hi;have:=hz p hp;rw [Bool.and_eq_true,decide_eq_true_eq,decide_eq_true_eq];lia
def mkD (N:List Str) (M:List Rw):List (D×D):=M.map fun r=>(sy N r.1,.bl true)
section
variable {N:List Str} (hN:N.length=26) (hd:N.Nodup)
include hN hd
theorem ZJ {F M:List Rw} (hF:Hds F) (hM:Hds M) (hs:∀r∈M,r∈F) {r:Rw} (hr:r∈M) {rs mo:D} {ws:List D} {i:Nat} {ps vs:List D} (hl:ps.length=r.2.2.length) (hv:∀p∈ps,isV p) (hz:∀p∈ps,1<=szD p/\szD p<=1000) (hvl:vs.length<=5000):tkR bL 6 (slD (.dct (hdD N F)) (.dct (mkD N M)) rs mo) (frD ws i) ((ps++vs).reverse) (sy N r.1)=.ok ((noD N r ps::vs).reverse):=by
 refine aC3 fun b=>⟨[slD (.dct (hdD N F)) (.dct (mkD N M)) rs mo,.lst [frD ws i],.cel b ((noD N r ps::vs).reverse),sy N r.1,.dct [],.lst ps],?_,rfl⟩
 rw [ZF];have hb:=(hF.lt r (hs r hr)).2.2.2;refine aP (ρ':=[slD (.dct (hdD N F)) (.dct (mkD N M)) rs mo,.lst [frD ws i],.cel b ((ps++vs).reverse),sy N r.1,.dct [],.uD]) aCw ?_;refine LQ (k:=false) (gB (aH rfl rfl (show inX (sy N r.1) (.dct [])=.ok (.bl false) from rfl))) ?_;refine aP (aCx hN hd hF (hs r hr) hl fun p hp=>(hv p hp).1) ?_;have hin:inX (sy N r.1) (.dct (mkD N M))=.ok (.bl true):=by
  show (if DN (mkD N M) (sy N r.1) then Res.ok (D.bl (eO (mkD N M) (sy N r.1)).isSome) else .bad)=_;rw [if_pos (show DN (mkD N M) (sy N r.1)=true from P_ (N:=N) (fun a:Rw=>a.1) (fun _=>D.bl true) M r.1),show eO (mkD N M) (sy N r.1)=some (.bl true) from sU hN hd (fun a:Rw=>a.1) (fun _=>D.bl true) M hM.nd (fun a ha=>(hM.lt a ha).1) r hr];rfl
 refine LQ (k:=true) (gB (aH rfl G7 hin)) ?_;show wZ 2 tk2 _=_;unfold wZ;rw [aD0 hv hz (by lia),Res.aM];show (if decide (vs.reverse.length<lim)&&(noD N r ps).pure then Res.ok (Fl.nx [slD (.dct (hdD N F)) (.dct (mkD N M)) rs mo,.lst [frD ws i],.cel b (vs.reverse++[noD N r ps]),sy N r.1,.dct [],.lst ps]) else .bad)=_;rw [if_pos (by rw [(V1 hv).1,Bool.and_true];exact decide_eq_true (by rw [List.length_reverse,bK];lia)),List.reverse_cons]
theorem aD1 {F M:List Rw} (hF:Hds F) (hM:Hds M) (hs:∀r∈M,r∈F) {rs mo:D} {st v:List Nat} {vs:List D} (h:RV N M st v vs):∀pre:List Nat,v.length<=1000->zX bL 6 (slD (.dct (hdD N F)) (.dct (mkD N M)) rs mo) ((pre++v).map (sy N)) (pre.length+v.length) []=zX bL 6 (slD (.dct (hdD N F)) (.dct (mkD N M)) rs mo) ((pre++v).map (sy N)) pre.length vs.reverse:=by
 induction h with
 | nil=>intro pre _;rfl
 | @step r rest W ps vs hr hl h ih=>
  intro pre hw;rw [List.length_cons] at hw;have e:pre++r.1::W=(pre++[r.1])++W:=by simp
  have el:pre.length+(r.1::W).length=(pre++[r.1]).length+W.length:=by simp;lia
  have sz:=ZG h;have ps1:=aCy h;have psv:=pU h;rw [e,el,ih (pre++[r.1]) (by lia)];have hg:((pre++[r.1]++W).map (sy N))[pre.length]?=some (sy N r.1):=by simp
  have hlv:vs.length<=5000:=by
   have h2:∀l:List D,(∀v∈l,1<=szD v)->(l.length:Int)<=(l.map szD).sum:=by
    intro l;induction l with
    | nil=>intro _;simp
    | cons a l il=>
     intro hh;have h1:=hh a (by simp);have h2:=il fun v hv=>hh v (by simp [hv])
     rw [List.map_cons,List.sum_cons,List.length_cons];lia
   have:=h2 _ ps1;rw [List.length_append] at this;lia
  show zX _ _ _ _ ((pre++[r.1]).length) _=_;rw [show (pre++[r.1]).length=pre.length+1 by simp];show (do let w <- Res.ofOpt ((pre++[r.1]++W).map (sy N))[pre.length]?;let ys <- tkR bL 6 _ (frD _ pre.length) _ w;zX bL 6 _ _ pre.length ys)=_;rw [hg];show (do let ys <- tkR bL 6 _ (frD _ pre.length) _ (sy N r.1);zX bL 6 _ _ pre.length ys)=_;rw [ZJ hN hd hF hM hs hr hl (fun p hp=>psv p (by simp [hp])) (fun p hp=>⟨ps1 p (by simp [hp]),by have:=V2 ps1 p (by simp [hp]);lia⟩) hlv];rfl
end
end Lk52
end
section
namespace Lk52
open PySem L2 Mi
theorem V3 {a:FA} {ρ xs:List D} (h:a ρ=.ok xs) (hl:xs.length<=lim):jU a ρ=.ok (.lst xs):=by
 unfold jU;rw [h,Res.aM,if_pos (decide_eq_true hl)];rfl
def oc:FT:=(bTr dO)
def ob0:FS:=(uN 2 3)
def ob1:FS:=(rC 1 (b2 getD cO fQ))
def ob2:FS:=(X6 2 (b1 YH (b2 getD cO dD)))
def ob:FS:=bA ob0 (bA ob1 ob2)
theorem aF5:qX=bA (cM true 1 (jU aU) true) (bA (cM true 2 (jU (aB (bPu gF) aU)) true) (bA (aDl oc ob) (o9 (aY b_ (aB dY aU)) false))):=rfl
theorem aD2 {a b x:D} (l:List D):oc [a,b,.lst l,x]=.ok (!l.isEmpty):=rfl
theorem aF6 {N:List Str} {H:List Rw} {st W:List Nat} {vs:List D} (h:RV N H st W vs):vs.length<=W.length:=by
 induction h with
 | nil=>exact Nat.le_refl _
 | @step r rest W ps vs hr hl _ ih=>
  rw [List.length_append] at ih;rw [List.length_cons,List.length_cons];lia
theorem ZK {N:List Str} {H:List Rw} {y:D} {st W:List Nat} {vs:List D} (h:RV N H st W vs):∀(pre:List D) (fuel:Nat) (x:D),W.length<fuel->pre.length+W.length<=5000->∃x',FZ oc ob fuel [y,.lst pre,.lst vs.reverse,x]=.ok (.nx [y,.lst (pre++W.map (sy N)),.lst [],x']):=by
 induction h with
 | nil=>
  intro pre fuel x hf _;obtain ⟨n,rfl⟩:∃n,fuel=n+1:=⟨fuel-1,by simp at hf;lia⟩
  refine ⟨x,?_⟩;rw [List.map_nil,List.append_nil];exact PP (aD2 [])
 | @step r rest W ps vs hr hl h ih=>
  intro pre fuel x hf hp;rw [List.length_cons] at hf hp;obtain ⟨n,rfl⟩:∃n,fuel=n+1:=⟨fuel-1,by lia⟩
  obtain ⟨x',hx⟩:=ih (pre++[sy N r.1]) n (noD N r ps) (by lia) (by rw [List.length_append,List.length_singleton];lia);have hlw:=aF6 h;rw [List.length_append] at hlw;have hps:D.aN ps=true:=iG fun p hp=>(pU h p (by simp [hp])).1
  refine ⟨x',?_⟩;refine z9 (ρ':=[y,.lst (pre++[sy N r.1]),.lst (vs.reverse++ps.reverse),noD N r ps]) ((aD2 _).trans (by simp)) ?_ ?_
  ·refine aP (ρ':=[y,.lst pre,.lst vs.reverse,noD N r ps]) (PQ (xs:=vs.reverse) (x:=noD N r ps) (by rw [List.reverse_cons];rfl) rfl) ?_;refine aP (ρ':=[y,.lst (pre++[sy N r.1]),.lst vs.reverse,noD N r ps]) (nQ (d:=sy N r.1) (aH rfl rfl rfl) rfl (by rw [bK];lia) rfl) ?_;refine VR (ys:=ps.reverse) (xU (x:=.tup ps) (aH rfl rfl rfl) ?_) rfl (by rw [List.length_reverse,List.length_reverse];lia) ?_
   ·show (if D.aN ps&&decide (ps.length<=lim) then Res.ok (D.lst ps.reverse) else .bad)=_;rw [if_pos (by rw [hps,Bool.true_and];exact decide_eq_true (by rw [bK];lia))]
   ·exact iG fun p hp=>(pU h p (by simp at hp;simp [hp])).1
  ·rw [<-List.reverse_append,hx,List.append_assoc];rfl
theorem xV {N:List Str} {H:List Rw} {p:Nat} {W:List Nat} {v:D} (h:RV N H [p] W [v]) (hw:W.length<=900):k_ [v]=.ok (.tup (W.map (sy N))):=by
 have hv:=(pU h v (by simp)).1;obtain ⟨x',hx⟩:=ZK (y:=v) h [] 1000 .uD (by lia) (by simp;lia);refine call_v (m:=4) (n:=1) (d:=.tup (W.map (sy N))) ?_;rw [aF5];have hb:cL 0 [v,.lst [],.uD,.uD]=.ok v:=by
  obtain ⟨_,a,b,n,rfl⟩:=pU h v (by simp);rfl
 refine aP (ρ':=[v,.lst [],.uD,.uD]) rfl ?_;refine aP (ρ':=[v,.lst [],.lst [v],.uD]) ?_ ?_
 ·obtain ⟨_,a,b,n,rfl⟩:=pU h v (by simp);show (do let d <- jU (aB (bPu gF) aU) [D.tup [a,b,.int n],.lst [],.uD,.uD];if (if true then true&&inner d else true||d.pure) then Res.ok (Fl.nx ([D.tup [a,b,.int n],.lst [],.uD,.uD].set 2 d)) else .bad)=_;have e1:bPu gF [D.tup [a,b,.int n],.lst [],.uD,.uD]=.ok (D.tup [a,b,.int n]):=by
   show (if (D.tup [a,b,.int n]).pure then Res.ok (D.tup [a,b,.int n]) else .bad)=_;rw [if_pos hv]
  have e2:jU (aB (bPu gF) aU) [D.tup [a,b,.int n],.lst [],.uD,.uD]=.ok (.lst [D.tup [a,b,.int n]]):=V3 (aD e1 rfl) (by show 1<=lim;decide);rw [e2,Res.aM];have e3:inner (.lst [D.tup [a,b,.int n]])=true:=by
   show ((D.tup [a,b,.int n]).pure&&true)=true;rw [hv];rfl
  rw [if_pos (by rw [e3];rfl)];rfl
 refine aP (ρ':=[v,.lst (W.map (sy N)),.lst [],x']) ?_ ?_
 ·have:=hx;rw [List.nil_append] at this;exact this
 ·have e:aY b_ (aB dY aU) [v,.lst (W.map (sy N)),.lst [],x']=.ok (.tup (W.map (sy N))):=bB (aD rfl rfl) rfl;unfold o9;rw [e,Res.aM];have:(D.tup (W.map (sy N))).pure=true:=by rw [D.pure,bT]
  simp [this]
end Lk52
end
section
namespace Lk52
open PySem L2 Mi
def gc:FT:=(bTB (b2 (dG .eq) (b2 getD pX dD) (b2 getD fP lL)))
noncomputable def gb0:FS:=(cM false 7 (kZ cO (dH RC) (dH (b2 (aQ .add) (b2 (aQ .add) RC (aY j6 (aB (b2 getD pX lL) aU))) (aY j6 (aB (b2 getD fP fZ) aU))))) true)
noncomputable def gb2:FS:=(cM false 8 (aY (o6 4 gQ) (aB (b2 getD fP dD) (aB gF (aB dY (aB cO aU))))) true)
noncomputable def gb3:FS:=(rC 4 (jL (aB (b2 getD fP fQ) (aB (b2 getD pX fQ) (aB (aY b_ (aB mQ aU)) (aB n8 aU))))))
def gi:FS:=sIf gc (bA gb0 (bA gb2 gb3)) (o8)
theorem TX {α:Type} (f:α->D) (l:List α) (lo hi:Option Int):cutD (l.map f) lo hi=(cutD l lo hi).map f:=by
 unfold cutD;rw [List.length_map,List.map_take,List.map_drop]
def tw (N:List Str) (l:List Nat):D:=.tup (l.map (sy N))
theorem ZL (N:List Str) (l:List Nat):(tw N l).pure=true:=by
 unfold tw;rw [D.pure,bT]
noncomputable def GR (R:List D):Prop:=∀x∈R,x.pure=true/\∃a b c d,x=.tup [.str a,.str b,c,d]
theorem ZM {R:List D} {x:D} (h:GR R) (hx:x.pure=true) (h2:∃a b c d,x=.tup [.str a,.str b,c,d]):GR (R++[x]):=fun y hy=>by
 rcases List.mem_append.mp hy with z|z
 ·exact h y z
 ·rw [List.mem_singleton] at z;subst z;exact ⟨hx,h2⟩
structure Prg (m:Nat) (M:List Rw) (T:List Tk):Prop where
 m1:1<=m
 m3:m<=3
 ml:M.length<=10
 tl:T.length<=10
 mg:∀r∈M,Gr m r/\r.1<26
 tg:∀t∈T,t.1<26/\t.2.1<m/\t.2.2.1<26/\t.2.2.2.length<=2
 ba:∀k,k<m->∃r∈M,r.1=3+k
section
variable {N:List Str} (hN:N.length=26) (hd:N.Nodup)
include hN hd
theorem aD3 {m k:Nat} (h3:m<=3) (hk:k<m):lG (.lst ((List.range m).map (sy N))) [sy N k]=.ok (.int k):=by
 show (if (sy N k).bJ aV&&D.cG aV ((List.range m).map (sy N)) then (match X7 (sy N k) ((List.range m).map (sy N)) with|some j=>Res.ok (D.int j)|none=>.bad) else .bad)=_;have e:∀i j,i<3->j<3->eqD (sy N i) (sy N j)=decide (i=j):=fun i j hi hj=>vQ hN hd (by lia) (by lia)
 have hx:X7 (sy N k) ((List.range m).map (sy N))=some k:=by
  have:(m=1/\k=0)\/(m=2/\k=0)\/(m=2/\k=1)\/(m=3/\k=0)\/(m=3/\k=1)\/(m=3/\k=2):=by lia
  have e00:=e 0 0 (by decide) (by decide);have e01:=e 0 1 (by decide) (by decide);have e02:=e 0 2 (by decide) (by decide);have e11:=e 1 1 (by decide) (by decide);have e12:=e 1 2 (by decide) (by decide);have e22:=e 2 2 (by decide) (by decide);rcases this with ⟨rfl,rfl⟩|⟨rfl,rfl⟩|⟨rfl,rfl⟩|⟨rfl,rfl⟩|⟨rfl,rfl⟩|⟨rfl,rfl⟩ <;> simp [List.range_succ,X7,e00,e01,e02,e11,e12,e22]
 rw [hx,nH,mO];rfl
theorem ZP {m:Nat} {M:List Rw} {T:List Tk} (P:Prg m M T) {k:Nat} (hk:k<m):∃l:List Nat,gQ [sy N k,.lst ((List.range m).map (sy N)),.lst (M.map (rwD N)),.lst ((List.range 26).map (sy N))]=.ok (.tup (l.map (sy N))):=by
 let p:Rw->Bool:=fun r=>decide (r.1=3+k)
 let L:=M.filter p
 have m3:=P.m3;have nx:∀(ρ:List D) (i j:Nat),j<m->cL 3 ρ=.ok (.lst ((List.range 26).map (sy N)))->cL 1 ρ=.ok (.lst ((List.range m).map (sy N)))->cL i ρ=.ok (sy N j)->b2 getD cO (b2 (aQ .add) fZ (bM lG dY (aB (cL i) aU))) ρ=.ok (sy N (3+j)):=fun ρ i j hj g3 g1 gi=>aH g3 (aH rfl (aCe g1 (aD gi rfl) (aD3 hN hd m3 hj)) (dN _ _)) (fX (i:=3+j) (by lia) (by lia))
 have hL:∃r0,L[0]?=some r0/\r0∈M:=by
  obtain ⟨r,hr,e⟩:=P.ba k hk;have:r∈L:=List.mem_filter.mpr ⟨hr,decide_eq_true e⟩;cases hc:L with
  | nil=>rw [hc] at this;simp at this
  | cons a l=>exact ⟨a,rfl,(List.mem_filter.mp (show a∈M.filter p from by show a∈L;rw [hc];exact List.mem_cons_self ..)).1⟩
 obtain ⟨r0,h0,hr0⟩:=hL;obtain ⟨⟨g1,g2,g3⟩,g4⟩:=P.mg r0 hr0;refine ⟨r0.1::r0.2.2.map (3+·),call_v ?_⟩;have hcomp:cH 5 (bD dO false) jV (bTB (b2 (dG .eq) (b2 getD fP fQ) (b2 getD cO (b2 (aQ .add) fZ (bM lG dY (aB gF aU)))))) fP false [sy N k,.lst ((List.range m).map (sy N)),.lst (M.map (rwD N)),.lst ((List.range 26).map (sy N)),.uD]=.ok (.lst (L.map (rwD N))):=
  xT (n:=5) (rwD N) (rwD N) p M rfl (iV rfl) (by have:=P.ml;lia) (fun r hr=>gB (aH (iK (i:=5) (r:=r) rfl).1 (nx _ 0 k hk rfl rfl rfl) (PX hN hd (P.mg r hr).2 (by lia)))) (fun r hr _=>⟨rfl,dX ..⟩)
 refine aP (ρ':=[sy N k,.lst ((List.range m).map (sy N)),.lst (M.map (rwD N)),.lst ((List.range 26).map (sy N)),rwD N r0]) (jE (i:=4) (aH hcomp rfl (lJ (i:=0) rfl h0)) (dX ..)) ?_;have hc2:cH 5 (bD (b2 getD eF lL) false) jV (d_) (b2 getD cO (b2 (aQ .add) fZ (bM lG dY (aB fP aU)))) false [sy N k,.lst ((List.range m).map (sy N)),.lst (M.map (rwD N)),.lst ((List.range 26).map (sy N)),rwD N r0]=.ok (.lst (r0.2.2.map fun x=>sy N (3+x))):=
  eV (n:=5) (sy N) (fun x=>sy N (3+x)) r0.2.2 rfl (iW (iK (i:=4) (r:=r0) rfl).2.2) (by lia) (fun x hx=>⟨nx _ 5 x (g2 x hx) rfl rfl rfl,rfl⟩)
 refine uJ (d:=.tup ((r0.1::r0.2.2.map (3+·)).map (sy N))) (aH (fL (aD (iK (i:=4) (r:=r0) rfl).1 rfl) (by rw [bK];simp)) (bB (aD hc2 rfl) rfl) ?_) ?_
 ·show (if decide ([sy N r0.1].length+(r0.2.2.map fun x=>sy N (3+x)).length<=lim) then Res.ok (D.tup ([sy N r0.1]++r0.2.2.map fun x=>sy N (3+x))) else .bad)=_;rw [List.length_map,bK,decide_eq_true (by simp;lia),List.map_cons,List.map_map];rfl
 ·rw [Bool.false_or,D.pure,bT]
noncomputable abbrev gs (N:List Str) (m:Nat) (M:List Rw) (T:List Tk) (R:List D) (a b c d:D):List D:=[.lst ((List.range m).map (sy N)),.lst (M.map (rwD N)),.lst (T.map (tkD N)),.lst ((List.range 26).map (sy N)),.lst R,a,b,c,d]
omit hN hd in
theorem BL {ρ:List D} {i:Nat} {t:Tk} (h:cL i ρ=.ok (tkD N t)):b2 getD (cL i) fQ ρ=.ok (sy N t.1)/\b2 getD (cL i) dD ρ=.ok (sy N t.2.1)/\b2 getD (cL i) lL ρ=.ok (sy N t.2.2.1)/\b2 getD (cL i) fZ ρ=.ok (.tup (t.2.2.2.map (sy N))):=⟨aH h rfl rfl,aH h rfl rfl,aH h rfl rfl,aH h rfl rfl⟩
theorem aF7 {m:Nat} {M:List Rw} {T:List Tk} (P:Prg m M T) {t:Tk} (ht:t∈T) {r:Rw} (hr:r∈M) {R:List D} (hR:GR R) (hl:R.length<=1000) (c d:D):∃(R':List D) (c' d':D),GR R'/\R'.length<=R.length+1/\gi (gs N m M T R (tkD N t) (rwD N r) c d)=.ok (.nx (gs N m M T R' (tkD N t) (rwD N r) c' d')):=by
 obtain ⟨⟨u1,u2,u3⟩,u4⟩:=P.mg r hr;obtain ⟨v1,v2,v3,v4⟩:=P.tg t ht;have m3:=P.m3;have hc:gc (gs N m M T R (tkD N t) (rwD N r) c d)=.ok (decide (r.2.1=t.2.2.1)):=gB (aH (iK (i:=6) (r:=r) rfl).2.1 (BL (i:=5) (t:=t) rfl).2.2.1 (PX hN hd (by lia) v3));by_cases hk:r.2.1=t.2.2.1
 ·let own:List Nat:=cutD (List.range 26) (some 13) (some (13+(r.2.2.length:Int)+(t.2.2.2.length:Int)))
  have lnR:∀l:List Nat,j6 [.tup (l.map (sy N))]=.ok (.int l.length):=fun l=>by
   show Res.ok (D.int ((l.map (sy N)).length:Int))=_;rw [List.length_map]
  have s0:gb0 (gs N m M T R (tkD N t) (rwD N r) c d)=.ok (.nx (gs N m M T R (tkD N t) (rwD N r) (.lst (own.map (sy N))) d)):=by
   refine eU (i:=7) ?_;show _=Res.ok (D.lst ((cutD (List.range 26) (some 13) (some (13+(r.2.2.length:Int)+(t.2.2.2.length:Int)))).map (sy N)));rw [<-TX];exact pQ rfl (jG rfl) (jG (aH (aH rfl (bB (aD (iK (i:=6) (r:=r) rfl).2.2 rfl) (lnR _)) (dN _ _)) (bB (aD (BL (i:=5) (t:=t) rfl).2.2.2 rfl) (lnR _)) (dN _ _))) (bT ..)
  have s2:∃w:List Nat,gb2 (gs N m M T R (tkD N t) (rwD N r) (.lst (own.map (sy N))) d)=.ok (.nx (gs N m M T R (tkD N t) (rwD N r) (.lst (own.map (sy N))) (tw N w))):=by
   obtain ⟨w,hw⟩:=ZP hN hd P v2;exact ⟨w,eU (i:=8) (bB (aD (BL (i:=5) (t:=t) rfl).2.1 (aD rfl (aD rfl (aD rfl rfl)))) ((j_ rfl).trans hw))⟩
  obtain ⟨w,s2⟩:=s2;have hpn:(D.tup [sy N t.1,sy N r.1,.tup (own.map (sy N)),tw N w]).pure=true:=by
   show ((sy N t.1).pure&&((sy N r.1).pure&&((D.tup (own.map (sy N))).pure&&((tw N w).pure&&true))))=true;rw [ZL,D.pure,bT];rfl
  have s3:=nQ (i:=4) (f:=jL (aB (b2 getD fP fQ) (aB (b2 getD pX fQ) (aB (aY b_ (aB mQ aU)) (aB n8 aU))))) (ρ:=gs N m M T R (tkD N t) (rwD N r) (.lst (own.map (sy N))) (tw N w)) (xs:=R) (d:=.tup [sy N t.1,sy N r.1,.tup (own.map (sy N)),tw N w]) (fL (aD (BL (i:=5) (t:=t) rfl).1 (aD (iK (i:=6) (r:=r) rfl).1 (aD (bB (aD rfl rfl) rfl) (aD rfl rfl)))) (by rw [bK];simp)) rfl (by rw [bK];lia) hpn;have s3':gb3 (gs N m M T R (tkD N t) (rwD N r) (.lst (own.map (sy N))) (tw N w))=.ok (.nx (gs N m M T (R++[.tup [sy N t.1,sy N r.1,.tup (own.map (sy N)),tw N w]]) (tkD N t) (rwD N r) (.lst (own.map (sy N))) (tw N w))):=s3;exact ⟨R++[.tup [sy N t.1,sy N r.1,.tup (own.map (sy N)),tw N w]],.lst (own.map (sy N)),tw N w,ZM hR hpn ⟨_,_,_,_,rfl⟩,by simp,U3 (hc.trans (by rw [decide_eq_true hk])) (aP s0 (aP s2 s3'))⟩
 ·exact ⟨R,c,d,hR,by lia,LR (hc.trans (by rw [decide_eq_false hk])) rfl⟩
theorem QC {m:Nat} {M:List Rw} {T:List Tk} (P:Prg m M T) {t:Tk} (ht:t∈T):∀(L:List Rw),(∀r∈L,r∈M)->∀(R:List D),GR R->R.length+L.length<=1000->∀(b c d:D),∃(R':List D) (b' c' d':D),GR R'/\R'.length<=R.length+L.length/\pW (tg1 6) gi (L.map (rwD N)) (gs N m M T R (tkD N t) b c d)=.ok (.nx (gs N m M T R' (tkD N t) b' c' d'))
 | [],_,R,hR,_,b,c,d=>⟨R,b,c,d,hR,by lia,rfl⟩
 | r::L,h1,R,hR,hl,b,c,d=>by
  rw [List.length_cons] at hl;obtain ⟨R1,c1,d1,p1,p2,p3⟩:=aF7 hN hd P ht (h1 r (List.mem_cons_self ..)) hR (by lia) c d;obtain ⟨R2,b2,c2,d2,q1,q2,q3⟩:=QC P ht L (fun x hx=>h1 x (List.mem_cons_of_mem _ hx)) R1 p1 (by lia) (rwD N r) c1 d1;refine ⟨R2,b2,c2,d2,q1,by rw [List.length_cons];lia,?_⟩;rw [List.map_cons];exact fM (ρ1:=gs N m M T R (tkD N t) (rwD N r) c d) rfl p3 q3
theorem QD {m:Nat} {M:List Rw} {T:List Tk} (P:Prg m M T):∀(L:List Tk),(∀r∈L,r∈T)->∀(R:List D),GR R->R.length+10*L.length<=900->∀(a b c d:D),∃(R':List D) (a' b' c' d':D),GR R'/\R'.length<=R.length+10*L.length/\pW (tg1 5) (DR 1 (tg1 6) gi) (L.map (tkD N)) (gs N m M T R a b c d)=.ok (.nx (gs N m M T R' a' b' c' d'))
 | [],_,R,hR,_,a,b,c,d=>⟨R,a,b,c,d,hR,by lia,rfl⟩
 | t::L,h1,R,hR,hl,a,b,c,d=>by
  rw [List.length_cons] at hl;have ml:=P.ml;obtain ⟨R1,b1,c1,d1,p1,p2,p3⟩:=QC hN hd P (h1 t (List.mem_cons_self ..)) M (fun _ h=>h) R hR (by lia) b c d;obtain ⟨R2,a2,b2,c2,d2,q1,q2,q3⟩:=QD P L (fun x hx=>h1 x (List.mem_cons_of_mem _ hx)) R1 p1 (by lia) (tkD N t) b1 c1 d1;refine ⟨R2,a2,b2,c2,d2,q1,by rw [List.length_cons];lia,?_⟩;rw [List.map_cons];exact fM (ρ1:=gs N m M T R (tkD N t) b c d) rfl (L_ rfl rfl p3) q3
theorem ZQ {m:Nat} {M:List Rw} {T:List Tk} (P:Prg m M T):∃R:List D,GR R/\R.length<=100/\cJ [.lst ((List.range m).map (sy N)),.lst (M.map (rwD N)),.lst (T.map (tkD N)),.lst ((List.range 26).map (sy N))]=.ok (.tup [.tup ((List.range m).map (sy N)),.tup (M.map (rwD N)),.tup (T.map (tkD N)),.tup R]):=by
 have tl:=P.tl;have m3:=P.m3;obtain ⟨R,a,b,c,d,p1,p2,p3⟩:=QD hN hd P T (fun _ h=>h) [] (fun x hx=>by simp at hx) (by simp;lia) .uD .uD .uD .uD;refine ⟨R,p1,by simp at p2;lia,call_v ?_⟩;refine aP (ρ':=gs N m M T [] .uD .uD .uD .uD) (gK (i:=4) rfl rfl) ?_;refine aP (L_ (xs:=T.map (tkD N)) rfl rfl p3) ?_;refine uJ (fL (aD (bB (aD rfl rfl) rfl) (aD (bB (aD rfl rfl) rfl) (aD (bB (aD rfl rfl) rfl) (aD (bB (aD rfl rfl) rfl) rfl)))) (by rw [bK];simp)) ?_;show (false||(((D.tup ((List.range m).map (sy N))).pure)&&((D.tup (M.map (rwD N))).pure&&((D.tup (T.map (tkD N))).pure&&((D.tup R).pure&&true)))))=true;rw [D.pure,D.pure,D.pure,D.pure,bT,iG fun x hx=>(p1 x hx).1,cQ (dX N),cQ (sS N)];rfl
end
end Lk52
end
section
namespace Lk52
open PySem L2 Mi
noncomputable def mkE:FE:=(b1 pH (cH 3 (bD (b2 getD dY dD) false) jV (d_) (jL (aB (b2 getD cO fQ) (aB (bC (.bl true)) aU))) false))
noncomputable def ruE:FE:=(b1 rW (cH 3 (bD (b2 getD dY fZ) false) jV (d_) (jL (aB (jL (aB (b2 getD cO fQ) (aB (b2 getD cO dD) aU))) (aB cO aU))) false))
theorem aF8:dZ=([("heads",.exp (aY (o6 1 gC) (aB dY aU))),("makers",.exp mkE),("rules",.exp ruE),("most",.par 2),("calls",.exp fQ),("copies",.exp fQ),("drops",.exp fQ)]:List (Str×Srx)):=rfl
noncomputable def kx:D->D
 | .tup (a::b::r)=>.tup [.tup [a,b],.tup (a::b::r)]
 | d=>d
theorem BP {N:List Str}:∀M:List Rw,pG (M.map fun r=>D.tup [sy N r.1,.bl true])=some (mkD N M)
 | []=>rfl
 | r::M=>by
  show (if j4 (sy N r.1)&&(D.bl true).pure then (pG (M.map fun r=>D.tup [sy N r.1,.bl true])).map ((sy N r.1,D.bl true)::·) else none)=_;rw [BP M];rfl
theorem BR:∀{R:List D},GR R->∃ps,pJ (R.map kx)=some ps/\D.aN (ps.map (·.2))=true
 | [],_=>⟨[],rfl,rfl⟩
 | x::R,h=>by
  obtain ⟨ps,h1,h2⟩:=BR (R:=R) fun y hy=>h y (by simp [hy])
  obtain ⟨hp,a,b,c,d,rfl⟩:=h x (by simp);refine ⟨(.tup [.str a,.str b],.tup [.str a,.str b,c,d])::ps,?_,by rw [List.map_cons,D.aN,hp,h2];rfl⟩;show (if [D.str a,D.str b].all j4&&(D.tup [.str a,.str b,c,d]).pure then (pJ (R.map kx)).map ((D.tup [.str a,.str b],D.tup [.str a,.str b,c,d])::·) else none)=_;rw [hp,h1];rfl
theorem aD4 {R:List D}:(R.map kx).length=R.length:=List.length_map ..
section
variable {N:List Str} (hN:N.length=26) (hd:N.Nodup)
include hN hd
theorem BV:∀(M L:List Rw),((L++M).map (·.1)).Nodup->(∀r∈L++M,r.1<26)->jO (mkD N L) (mkD N M)=mkD N (L++M)
 | [],L,_,_=>by rw [List.append_nil];rfl
 | r::M,L,h1,h2=>by
  show jO (putD (mkD N L) (sy N r.1) (.bl true)) (mkD N M)=_;have hnot:r.1∉L.map (·.1):=fun z=>by
   rw [List.map_append,List.nodup_append] at h1;exact h1.2.2 r.1 z r.1 (by simp) rfl
  have e:=sW hN hd (fun a:Rw=>a.1) (fun _=>D.bl true) (i:=r.1) (h2 r (by simp)) (.bl true) L (fun a ha=>h2 a (by simp [ha])) hnot;have e':putD (mkD N L) (sy N r.1) (.bl true)=mkD N (L++[r]):=by
   show putD (L.map fun a=>(sy N a.1,D.bl true)) (sy N r.1) (.bl true)=_;rw [e];unfold mkD;rw [List.map_append];rfl
  rw [e',BV M (L++[r]) (by simpa using h1) (by simpa using h2)];simp
theorem aD5 {M:List Rw} (hM:Hds M) {P0 P2 P3 mo:D}:mkE [.uD,.tup [P0,.tup (M.map (rwD N)),P2,P3],mo]=.ok (.dct (mkD N M)):=by
 have hl:=hM.ln;refine xU (eV (n:=3) (rwD N) (fun r:Rw=>D.tup [sy N r.1,.bl true]) M rfl (iW (aH rfl rfl rfl)) (by lia) fun r hr=>⟨fL (aD (iK (i:=3) (r:=r) rfl).1 (aD rfl rfl)) (by rw [bK];simp),rfl⟩) ?_;show (match pG (M.map fun r:Rw=>D.tup [sy N r.1,.bl true]) with|some ps=>if decide ((M.map fun r:Rw=>D.tup [sy N r.1,.bl true]).length<=1000) then Res.ok (D.dct (jO [] ps)) else .bad|none=>.bad)=_;rw [BP];dsimp only;rw [if_pos (by rw [List.length_map];exact decide_eq_true (by lia))];have:=BV hN hd M [] hM.nd fun r hr=>(hM.lt r hr).1
 rw [List.nil_append] at this;exact congrArg (fun z=>Res.ok (D.dct z)) this
omit hN hd in
theorem aD6 {R:List D} (hR:GR R) (hl:R.length<=100) {P0 P1 P2 mo:D}:∃rs,ruE [.uD,.tup [P0,P1,P2,.tup R],mo]=.ok (.dct rs)/\D.aN (rs.map (·.2))=true:=by
 obtain ⟨ps,h1,h2⟩:=BR hR;refine ⟨jO [] ps,xU (eV (n:=3) id kx R rfl (kk:=false||(D.tup R).pure) (by show Res.ok (R,_)=_;rw [List.map_id]) (by lia) fun x hx=>?_) ?_,@iD ⟨[]⟩ ps [] h2 rfl⟩
 ·obtain ⟨hp,a,b,c,d,rfl⟩:=hR x hx;refine ⟨fL (aD (fL (aD (aH rfl rfl rfl) (aD (aH rfl rfl rfl) rfl)) (by rw [bK];simp)) (aD rfl rfl)) (by rw [bK];simp),?_⟩;show (false||((D.tup [.str a,.str b]).pure&&((D.tup [.str a,.str b,c,d]).pure&&true)))=true;rw [hp];rfl
 ·show (match pJ (R.map kx) with|some ps=>if decide ((R.map kx).length<=1000) then Res.ok (D.dct (jO [] ps)) else .bad|none=>.bad)=_;rw [h1];dsimp only;rw [if_pos (by rw [aD4];exact decide_eq_true (by lia))]
theorem ZR {M:List Rw} {T:List Tk} (hF:Hds (M++T.map tr)) (hM:Hds M) {R:List D} (hR:GR R) (hl:R.length<=100) {P0:D} {b:Int}:∃rs,evS [.uD,.tup [P0,.tup (M.map (rwD N)),.tup (T.map (tkD N)),.tup R],.int b] dZ=.ok [("heads",.dct (hdD N (M++T.map tr))),("makers",.dct (mkD N M)),("rules",.dct rs),("most",.int b),("calls",.int 0),("copies",.int 0),("drops",.int 0)]:=by
 obtain ⟨rs,h3,p3⟩:=aD6 hR hl (P0:=P0) (P1:=.tup (M.map (rwD N))) (P2:=.tup (T.map (tkD N))) (mo:=.int b);have h1:aY (o6 1 gC) (aB dY aU) [.uD,.tup [P0,.tup (M.map (rwD N)),.tup (T.map (tkD N)),.tup R],.int b]=.ok (.dct (hdD N (M++T.map tr))):=bB (aD rfl rfl) ((j_ rfl).trans (TV hN hd hF));have h2:=aD5 hN hd hM (P0:=P0) (P2:=.tup (T.map (tkD N))) (P3:=.tup R) (mo:=.int b);have k1:okF (.dct (hdD N (M++T.map tr)))=true:=by
  show (false||D.aN ((hdD N (M++T.map tr)).map (·.2)))=true;rw [Bool.false_or];exact iG fun p hp=>by
   unfold hdD at hp;rw [List.map_map] at hp;obtain ⟨r,_,rfl⟩:=List.mem_map.mp hp;exact sV N r
 have k2:okF (.dct (mkD N M))=true:=by
  show (false||D.aN ((mkD N M).map (·.2)))=true;rw [Bool.false_or];exact iG fun p hp=>by
   unfold mkD at hp;rw [List.map_map] at hp;obtain ⟨r,_,rfl⟩:=List.mem_map.mp hp;rfl
 have k3:okF (.dct rs)=true:=by
  show (false||D.aN (rs.map (·.2)))=true;rw [p3];rfl
 refine ⟨rs,?_⟩;rw [aF8];have step:∀{ρ:List D} {f:Str} {s:Srx} {r:List (Str×Srx)} {d:D} {ds:List (Str×D)},s.ev ρ=.ok d->okF d=true->evS ρ r=.ok ds->evS ρ ((f,s)::r)=.ok ((f,d)::ds):=by
  intro ρ f s r d ds g1 g2 g3;show (do let d <- s.ev ρ;let ds <- evS ρ r;if okF d then Res.ok ((f,d)::ds) else .bad)=_;rw [g1,Res.aM,g3,Res.aM,if_pos g2]
 exact step h1 k1 (step h2 k2 (step h3 k3 (step rfl rfl (step rfl rfl (step rfl rfl (step rfl rfl rfl))))))
theorem TY {m:Nat} {M:List Rw} {T:List Tk} (hF:Hds (M++T.map tr)) (hM:Hds M) {R:List D} (hR:GR R) (hl:R.length<=100) {b:Int} {k:Nat} {W:List Nat} (hW:Run M [k] W) (hw:W.length<=900):gM [.tup [.tup ((List.range m).map (sy N)),.tup (M.map (rwD N)),.tup (T.map (tkD N)),.tup R],.tup (W.map (sy N)),.int b]=.ok (.tup [.tup (W.map (sy N)),.int 0,.int 0,.int 0]):=by
 obtain ⟨rs,e1⟩:=ZR hN hd hF hM hR hl (P0:=.tup ((List.range m).map (sy N))) (b:=b);obtain ⟨vs,h1,h2⟩:=aF4 (N:=N) hW;obtain ⟨v,rfl⟩:∃v,vs=[v]:=by
  match vs,h2 with
  | [v],_=>exact ⟨v,rfl⟩
 have hv:=pU h1 v (by simp)
 let pr:D:=.tup [.tup ((List.range m).map (sy N)),.tup (M.map (rwD N)),.tup (T.map (tkD N)),.tup R]
 let sl:D:=slD (.dct (hdD N (M++T.map tr))) (.dct (mkD N M)) (.dct rs) (.int b)
 have hp:D.aN [pr,.int b]=true:=by
  show (pr.pure&&((D.int b).pure&&true))=true;have:pr.pure=true:=by
   show (((D.tup ((List.range m).map (sy N))).pure)&&((D.tup (M.map (rwD N))).pure&&((D.tup (T.map (tkD N))).pure&&((D.tup R).pure&&true))))=true;rw [D.pure,D.pure,D.pure,D.pure,bT,iG fun x hx=>(hR x hx).1,cQ (dX N),cQ (sS N)];rfl
  rw [this];rfl
 have mk:R7 "PlainRun" dZ 2 (aB gF (aB dO aU)) [pr,.tup (W.map (sy N)),.int b,.uD,.uD]=.ok sl:=by
  unfold R7;rw [show (aB gF (aB dO aU)) [pr,.tup (W.map (sy N)),.int b,.uD,.uD]=.ok [pr,.int b] from aD rfl (aD rfl rfl),Res.aM,if_pos (by rw [hp];rfl),e1];rfl
 have hrun:gD [sl,.tup (W.map (sy N))]=.ok v:=by
  have r:=aD1 hN hd hF hM (fun r hr=>List.mem_append_left _ hr) (rs:=.dct rs) (mo:=.int b) h1 [] (by lia);show (if true&&(true&&D.aN (W.map (sy N))) then (do let ys <- zX bL 6 sl (W.map (sy N)) (W.map (sy N)).length [];match ys with|y::_=>Res.ok y|[]=>.bad) else .bad)=_;rw [bT,if_pos (show (true&&(true&&true))=true from rfl),List.length_map];rw [List.nil_append,List.length_nil,Nat.zero_add] at r;rw [show zX bL 6 sl (W.map (sy N)) W.length []=zX bL 6 sl (W.map (sy N)) 0 [v].reverse from r];rfl
 have hm:YL "PlainRun" "value_of" gD 2 cO (aB dY aU) [pr,.tup (W.map (sy N)),.int b,sl,.uD]=.ok v:=hrun;refine call_v (n:=3) (m:=5) ?_;show OJ [pr,.tup (W.map (sy N)),.int b,.uD,.uD]=_;refine aP (ρ':=[pr,.tup (W.map (sy N)),.int b,sl,.uD]) (eU (i:=3) mk) ?_;refine aP (ρ':=[pr,.tup (W.map (sy N)),.int b,sl,v]) (eU (i:=4) hm) ?_;have hb:cL 4 [pr,.tup (W.map (sy N)),.int b,sl,v]=.ok v:=by
  obtain ⟨_,x,y,n,rfl⟩:=hv;rfl
 refine uJ (fL (aD (bB (aD hb rfl) ((j_ rfl).trans (xV h1 hw))) (aD rfl (aD rfl (aD rfl rfl)))) (by rw [bK];simp)) ?_;show (false||((D.tup (W.map (sy N))).pure&&true))=true;rw [D.pure,bT];rfl
end
end Lk52
end
section
namespace Lk52
open PySem L2 Mi
noncomputable def rg0:FS:=(sIf (bOr (J4 (bTr (b1 (o5 .tuple) gF))) (bTB (b2 (dG .ne) (aY j6 (aB gF aU)) yK))) (o9 (bC (.bl false)) true) (o8))
noncomputable def rg1:FS:=(sIf (bOr (J4 (bTr (b1 (o5 .tuple) (b2 getD gF fQ)))) (bTB (b2 (dG .ne) (aY j6 (aB (b2 getD gF fQ) aU)) (aY j6 (aB dY aU))))) (o9 (bC (.bl false)) true) (o8))
noncomputable def rgb:FS:=(sIf (bOr (J4 (bTr (b1 (o5 .str) (b2 getD (b2 getD gF fQ) dO)))) (bTB (b2 (dG .ne) (b2 getD (b2 getD gF fQ) dO) (b2 getD dY dO)))) (o9 (bC (.bl false)) true) (o8))
noncomputable def rgc:FS:=(sIf (bOr (J4 (bTr (b1 (o5 .int) cO))) (bOr (bTr (b1 (o5 .bool) cO)) (bTB (b2 (dG .ne) cO fQ)))) (o9 (bC (.bl false)) true) (o8))
theorem T3:nR=bA rg0 (bA rg1 (bA (DQ (jQ (aB (aY j6 (aB dY aU)) aU) gW) (tg1 2) rgb) (bA (DQ (bD (kZ gF (dH dD) (eX)) true) (tg1 3) rgc) (o9 (bC (.bl true)) true)))):=rfl
def foD (L:List D):D:=.tup [.tup L,.int 0,.int 0,.int 0]
theorem QF {N:List Str} (hN:N.length=26) (hd:N.Nodup) {W:List Nat} (hW:∀i∈W,i<26) {u:D}:∀(ks:List Nat),(∀k∈ks,k<W.length)->∀x:D,∃x',pW (tg1 2) rgb (ks.map fun (k:Nat)=>D.int (0+(k:Int))) [foD (W.map (sy N)),.lst (W.map (sy N)),x,u]=.ok (.nx [foD (W.map (sy N)),.lst (W.map (sy N)),x',u])
 | [],_,x=>⟨x,rfl⟩
 | k::ks,h,x=>by
  have hk:=h k (by simp);have hg:W[k]?=some W[k]:=List.getElem?_eq_getElem hk;obtain ⟨x',e⟩:=QF hN hd hW (u:=u) ks (fun j hj=>h j (by simp [hj])) (.int (0+(k:Int)));refine ⟨x',?_⟩;rw [List.map_cons];have a1:b2 getD (b2 getD gF fQ) dO [foD (W.map (sy N)),.lst (W.map (sy N)),.int (0+(k:Int)),u]=.ok (sy N W[k]):=aH (aH rfl rfl rfl) rfl (S_ (i:=k) (by lia) hg);have a2:b2 getD dY dO [foD (W.map (sy N)),.lst (W.map (sy N)),.int (0+(k:Int)),u]=.ok (sy N W[k]):=aH rfl rfl (lJ (i:=k) (by lia) hg);refine fM (ρ1:=[foD (W.map (sy N)),.lst (W.map (sy N)),.int (0+(k:Int)),u]) rfl ?_ e;refine LR (aEx (V0 (b:=true) (aCu (xU a1 rfl))) (gB (aH a1 a2 ((ZC hN hd (hW _ (List.getElem_mem hk)) (hW _ (List.getElem_mem hk))).trans (by simp))))) rfl
theorem T4 {N:List Str} (hN:N.length=26) (hd:N.Nodup) {W:List Nat} (hW:∀i∈W,i<26) (hl:W.length<=1000):cD [foD (W.map (sy N)),.lst (W.map (sy N))]=.ok (.bl true):=by
 refine call_v (n:=2) (m:=4) ?_;rw [T3];refine aP (ρ':=[foD (W.map (sy N)),.lst (W.map (sy N)),.uD,.uD]) rfl ?_;refine aP (ρ':=[foD (W.map (sy N)),.lst (W.map (sy N)),.uD,.uD]) ?_ ?_
 ·refine LR (aEx (V0 (b:=true) (aCu (xU (aH rfl rfl rfl) rfl))) (gB (aH (bB (aD (aH rfl rfl rfl) rfl) (show j6 [.tup (W.map (sy N))]=.ok (.int ((W.map (sy N)).length:Int)) from rfl)) (bB (aD rfl rfl) (show j6 [.lst (W.map (sy N))]=.ok (.int ((W.map (sy N)).length:Int)) from rfl)) ((YX _ _).trans (by simp))))) rfl
 obtain ⟨x,e⟩:=QF hN hd hW (u:=.uD) (List.range W.length) (fun k hk=>List.mem_range.mp hk) .uD;refine aP (qP (pD (n:=(W.length:Int)) (aD (bB (aD rfl rfl) (show j6 [.lst (W.map (sy N))]=.ok (.int (W.length:Int)) from by show Res.ok (D.int ((W.map (sy N)).length:Int))=_;rw [List.length_map])) rfl) (by lia) (by lia)) (by rw [Int.toNat_natCast];exact e)) ?_;refine aP (ρ':=[foD (W.map (sy N)),.lst (W.map (sy N)),x,.int 0]) ?_ rfl;refine qP (xs:=[.int 0,.int 0,.int 0]) ?_ rfl;have hp:D.aN [.tup (W.map (sy N)),.int 0,.int 0,.int 0]=true:=by
  show ((D.tup (W.map (sy N))).pure&&true)=true;rw [D.pure,bT];rfl
 have h:kZ gF (dH (bC (D.int 1))) eX [foD (W.map (sy N)),.lst (W.map (sy N)),x,.uD]=.ok (.tup [.int 0,.int 0,.int 0]):=by
  show Z1 (foD (W.map (sy N))) (some 1) none=_;show Z0 (.tup [.tup (W.map (sy N)),.int 0,.int 0,.int 0]) (some 1) none=_;unfold Z0;simp [hp,cutD]
  try rfl
 unfold bD;rw [h];rfl
end Lk52
end
section
namespace Lk52
open PySem L2 Mi
noncomputable def lw0:FS:=(cM true 1 (aDm (jU (aB (kZ gF (eX) (dH yL)) (aB fQ aU)))) true)
def lw1:FS:=(eE false 2 (bV aL 1 1 aU))
noncomputable def lw2:FS:=(eE false 3 (x2L (aQ .mod) (bV aL 1 1 aU) (bC (.int 2001))))
def lw3:FS:=(eE false 4 (bV cR 1 1 aU))
def lw4:FS:=(NB (bV d7 2 1 (aB eF aU)) [5,6,7,8])
noncomputable def lw5:FS:=(cM false 9 (b2 getD (jU (aB dD (aB G9 (aB J3 (aB (bC (.int 390)) aU))))) (b2 (aQ .mod) (b2 (aQ .fdiv) dO G9) yK)) false)
noncomputable def lw6:FS:=(eE false 10 (bV cT 6 1 (aB pX (aB (bPu (b2 getD fP (b2 (aQ .mod) (b2 (aQ .fdiv) dO W7) (aY j6 (aB fP aU))))) (aB lD (aB (bPu (b2 (dG .eq) (b2 (aQ .mod) (b2 (aQ .fdiv) dO fZ) lL) dD)) (aB n8 aU)))))))
noncomputable def lw7:FS:=(cM false 11 (aY (o6 4 cJ) (aB fP (aB pX (aB mQ (aB eF aU))))) true)
noncomputable def lw8:FS:=(sIf (bTB (b2 (dG .eq) (b2 (aQ .mod) dO fZ) fQ)) (o9 (aY (o6 2 cD) (aB (aY (fun ds=>o6 3 gM (ds++[.int 400])) (aB iI (aB (aY b_ (aB iQ aU)) aU))) (aB iQ aU))) true) (o8))
noncomputable def lw9:FS:=(o9 (aY (o6 2 cD) (aB (aY (o6 3 gM) (aB iI (aB (aY b_ (aB iQ aU)) (aB (b2 getD (jU (aB fQ (aB (bPu cO) aU))) (b2 (aQ .sub) (b2 (aQ .mod) dO fZ) dD)) aU)))) (aB iQ aU))) true)
theorem ZS:YW=(bA lw0 (bA lw1 (bA lw2 (bA lw3 (bA lw4 (bA lw5 (bA lw6 (bA lw7 (bA lw8 lw9))))))))):=rfl
theorem ZV {f:FX} {ρ ρ1 xs:List D} {is:List Nat} (h:f ρ=.ok (.lst xs,ρ1)) (hl:xs.length=is.length) {ρ':List D} (he:wC is xs ρ1=ρ'):NB f is ρ=.ok (.nx ρ'):=by
 subst he;unfold NB;rw [h,Res.aM];dsimp only;rw [if_pos (decide_eq_true hl)]
theorem aGu (ns:List Int):(ns.map D.int).all isI=true:=by
 rw [List.all_eq_true];intro x hx;obtain ⟨i,_,rfl⟩:=List.mem_map.mp hx;rfl
theorem aD7 (ns:List Int) (r:List D):∃cs:List Int,lw0 (.scr (ns.map D.int)::.uD::r)=.ok (.nx (.scr (ns.map D.int)::.lst (dk cs 0)::r)):=by
 refine ⟨cutD ns none (some 120),gK (i:=1) (d:=.lst (dk (cutD ns none (some 120)) 0)) ?_ (jF _ _)⟩;have h1:kZ gF (eX) (dH yL) (.scr (ns.map D.int)::.uD::r)=.ok (.lst ((cutD ns none (some 120)).map D.int)):=by
  rw [<-X5];show (if D.aN (ns.map D.int) then Res.ok (D.lst (cutD (ns.map D.int) none (some 120))) else .bad)=_;rw [m_];rfl
 have h2:jU (aB (kZ gF (eX) (dH yL)) (aB fQ aU)) (.scr (ns.map D.int)::.uD::r)=.ok (.lst [.lst ((cutD ns none (some 120)).map D.int),.int 0]):=V3 (aD h1 rfl) (by rw [bK];simp);unfold aDm;rw [h2,Res.aM];show (do let r <- X8 [.lst ((cutD ns none (some 120)).map D.int),.int 0];Res.ok (D.lst r))=_;have h3:X8 [.lst ((cutD ns none (some 120)).map D.int),.int 0]=.ok (dk (cutD ns none (some 120)) 0):=by
  show (if ((cutD ns none (some 120)).map D.int).all isI&&D.aN [.int 0] then Res.ok (D.scr ((cutD ns none (some 120)).map D.int)::[.int 0]) else .bad)=_;rw [aGu];rfl
 rw [h3];rfl
theorem ZW (i:Int) (h0:0<=i) (h1:i<4):∃t:Nat,getD (.lst [.int 1,.int 6,.int 40,.int 390]) (.int i)=.ok (.int t)/\t<=390:=by
 have:i=0\/i=1\/i=2\/i=3:=by lia
 rcases this with h|h|h|h <;> subst h
 ·exact ⟨1,rfl,by decide⟩
 ·exact ⟨6,rfl,by decide⟩
 ·exact ⟨40,rfl,by decide⟩
 ·exact ⟨390,rfl,by decide⟩
theorem aD8 {m:Nat} {M:List Rw} {T:List Tk} {l:Nat->Nat} (S:Sig m M T l):Prg m M T:=by
 have m3:=S.m3;have tl:=S.tl;refine ⟨S.m1,m3,by have:=S.ml;lia,by lia,fun r hr=>⟨S.mg r hr,by have:=S.mi r hr;lia⟩,fun t ht=>?_,fun k hk=>?_⟩
 ·obtain ⟨u1,u2,u3,u4⟩:=S.tg t ht;have:=S.ti t ht;exact ⟨by lia,by lia,by lia,u4⟩
 ·obtain ⟨r,hr,e,_⟩:=S.ba k hk;exact ⟨r,hr,e⟩
theorem ZX {m:Nat} {M:List Rw} {T:List Tk} {l:Nat->Nat} (S:Sig m M T l):aDo m M l:=by
 refine ⟨S.m3,S.lb,by have:=S.ml;lia,S.mg,fun k hk=>?_⟩;obtain ⟨r,hr,e1,e2,e3⟩:=S.ba k hk;exact ⟨r,hr,e2,e3⟩
theorem aFz {m:Nat} {M:List Rw} {T:List Tk} {l:Nat->Nat} (S:Sig m M T l):Hds M:=by
 have m3:=S.m3;refine ⟨S.mn,fun r hr=>?_,by have:=S.ml;lia⟩;obtain ⟨u1,u2,u3⟩:=S.mg r hr;have:=S.mi r hr;exact ⟨by lia,by lia,fun i hi=>by have:=u2 i hi;lia,by lia⟩
theorem aGv {m:Nat} {M:List Rw} {T:List Tk} {l:Nat->Nat} (S:Sig m M T l):Hds (M++T.map tr):=by
 have m3:=S.m3;have A:=aFz S;refine ⟨?_,fun r hr=>?_,by rw [List.length_append,List.length_map];have:=S.ml;have:=S.tl;lia⟩
 ·rw [List.map_append,List.map_map];refine List.nodup_append.mpr ⟨S.mn,S.tn,fun a ha b hb e=>?_⟩;obtain ⟨r,hr,rfl⟩:=List.mem_map.mp ha;obtain ⟨t,ht,rfl⟩:=List.mem_map.mp hb;have h1:=S.mi r hr;have h2:=S.ti t ht;have h3:r.1=t.1:=e;lia
 ·rcases List.mem_append.mp hr with g|g
  ·exact A.lt r g
  ·obtain ⟨t,ht,rfl⟩:=List.mem_map.mp g;obtain ⟨u1,u2,u3,u4⟩:=S.tg t ht;have:=S.ti t ht;refine ⟨by show t.1<26;lia,by show t.2.1<26;lia,fun i hi=>?_,by show (t.2.2.1::t.2.2.2).length<=10;rw [List.length_cons];lia⟩;rcases List.mem_cons.mp hi with q|q
   ·lia
   ·have:=u3 i q;lia
theorem aD9 {H:List Rw} (hH:∀r∈H,r.1<26) {st W:List Nat} (h:Run H st W):∀i∈W,i<26:=by
 induction h with
 | nil=>intro i hi;simp at hi
 | step hr _ ih=>
  intro i hi;rcases List.mem_cons.mp hi with rfl|hi
  ·exact hH _ hr
  ·exact ih i hi
end Lk52
end
section
namespace Lk52
open PySem L2 Mi
variable {sc:D} {d0 d1:List D} {cell b:Int} {nm ks ms ts ws:List D} {x y z:D} {ld:List (D×D)}
noncomputable abbrev ls (sc:D) (d:List D) (cell b:Int) (nm ks ms ts:List D) (l x y z:D):List D:=[sc,.lst d,.int cell,.int b,.lst nm,.lst ks,.lst ms,.lst ts,l,x,y,z]
theorem aF9 (h:ch1 cR d0 []=.ok (.lst nm,d1)) (hp:D.aN d1=true):lw3 [sc,.lst d0,.int cell,.int b,.uD,.uD,.uD,.uD,.uD,.uD,.uD,.uD]=.ok (.nx [sc,.lst d1,.int cell,.int b,.lst nm,.uD,.uD,.uD,.uD,.uD,.uD,.uD]):=
 fW (i:=4) (iU (fs:=aU) (i:=1) (rest:=[]) rfl rfl rfl h hp rfl) rfl
theorem aFa (h:ch1 d7 d0 [.lst nm]=.ok (.lst [.lst ks,.lst ms,.lst ts,.dct ld],d1)) (hp:D.aN d1=true):lw4 [sc,.lst d0,.int cell,.int b,.lst nm,.uD,.uD,.uD,.uD,.uD,.uD,.uD]=.ok (.nx (ls sc d1 cell b nm ks ms ts (.dct ld) .uD .uD .uD)):=
 ZV (iU (i:=1) (fs:=aB eF aU) (rest:=[.lst nm]) (aD rfl rfl) rfl rfl h hp rfl) rfl rfl
theorem aFb {mo:Int} (h:getD (.lst [.int 1,.int 6,.int 40,.int 390]) (.int (cell / 6 % 4))=.ok (.int mo)):lw5 (ls sc d0 cell b nm ks ms ts (.dct ld) .uD .uD .uD)=.ok (.nx (ls sc d0 cell b nm ks ms ts (.dct ld) (.int mo) .uD .uD)):=
 jE (i:=9) (aH rfl (aH (aH (x:=.int cell) rfl rfl (dC _ _ (by decide) (by decide))) rfl (bO _ _ (by decide))) h) rfl
noncomputable def qk:FE:=(bPu (b2 getD fP (b2 (aQ .mod) (b2 (aQ .fdiv) dO W7) (aY j6 (aB fP aU)))))
noncomputable def qf:FE:=(bPu (b2 (dG .eq) (b2 (aQ .mod) (b2 (aQ .fdiv) dO fZ) lL) dD))
def qa:FA:=aB pX (aB qk (aB lD (aB qf (aB n8 aU))))
theorem aDa:lw6=eE false 10 (bV cT 6 1 qa):=rfl
theorem aFc {mo:Int} {k:D} (hm:0<(ks.length:Int)) (hk:getD (.lst ks) (.int (cell / 24 % (ks.length:Int)))=.ok k) (pk:k.pure=true):qk (ls sc d0 cell b nm ks ms ts (.dct ld) (.int mo) .uD .uD)=.ok k:=
 aC9 (aH (x:=.lst ks) rfl (aH (aH (x:=.int cell) rfl rfl (dC _ _ (by decide) (by decide))) (y:=.int ks.length) (bB (aD rfl rfl) rfl) (bO _ _ (by lia))) hk) pk
theorem aFd {mo:Int}:qf (ls sc d0 cell b nm ks ms ts (.dct ld) (.int mo) .uD .uD)=.ok (.bl (cell / 3 % 2==1)):=
 aC9 (aH (aH (aH (x:=.int cell) rfl rfl (dC _ _ (by decide) (by decide))) rfl (bO _ _ (by decide))) rfl (kO _ _)) rfl
theorem aFe {mo:Int} {k:D} (hm:0<(ks.length:Int)) (hk:getD (.lst ks) (.int (cell / 24 % (ks.length:Int)))=.ok k) (pk:k.pure=true):qa (ls sc d0 cell b nm ks ms ts (.dct ld) (.int mo) .uD .uD)=.ok [.lst ms,k,.int mo,.bl (cell / 3 % 2==1),.dct ld]:=
 aD rfl (aD (aFc hm hk pk) (aD rfl (aD aFd (aD rfl rfl))))
theorem aFf {mo:Int} {k:D} (hm:0<(ks.length:Int)) (hk:getD (.lst ks) (.int (cell / 24 % (ks.length:Int)))=.ok k) (pk:k.pure=true) (h:ch1 cT d0 [.lst ms,k,.int mo,.bl (cell / 3 % 2==1),.dct ld]=.ok (.lst ws,d1)) (hp:D.aN d1=true):lw6 (ls sc d0 cell b nm ks ms ts (.dct ld) (.int mo) .uD .uD)=.ok (.nx (ls sc d1 cell b nm ks ms ts (.dct ld) (.int mo) (.lst ws) .uD)):=by
 rw [aDa];exact fW (iU (aFe hm hk pk) rfl rfl h hp rfl) rfl
theorem aFg {mo:Int} {pr:List D} (h:cJ [.lst ks,.lst ms,.lst ts,.lst nm]=.ok (.tup pr)):lw7 (ls sc d0 cell b nm ks ms ts (.dct ld) (.int mo) (.lst ws) .uD)=.ok (.nx (ls sc d0 cell b nm ks ms ts (.dct ld) (.int mo) (.lst ws) (.tup pr))):=
 eU (i:=11) (bB (aD rfl (aD rfl (aD rfl (aD rfl rfl)))) ((j_ rfl).trans h))
theorem aFh {mo:Int} {pr:List D} {fo:D} (w:∀b:Int,gM [.tup pr,.tup ws,.int b]=.ok fo) (rt:cD [fo,.lst ws]=.ok (.bl true)) (hws:b_ [.lst ws]=.ok (.tup ws)):bA lw8 lw9 (ls sc d0 cell b nm ks ms ts (.dct ld) (.int mo) (.lst ws) (.tup pr))=.ok (.rt (.bl true)):=by
 have hc:bTB (b2 (dG .eq) (b2 (aQ .mod) dO fZ) fQ) (ls sc d0 cell b nm ks ms ts (.dct ld) (.int mo) (.lst ws) (.tup pr))=.ok (cell % 3==0):=gB (aH (aH (x:=.int cell) rfl rfl (bO _ _ (by decide))) rfl (kO _ _));have ht:aY b_ (aB iQ aU) (ls sc d0 cell b nm ks ms ts (.dct ld) (.int mo) (.lst ws) (.tup pr))=.ok (.tup ws):=bB (aD rfl rfl) hws;by_cases h0:(cell % 3==0)=true
 ·have s8:lw8 (ls sc d0 cell b nm ks ms ts (.dct ld) (.int mo) (.lst ws) (.tup pr))=.ok (.rt (.bl true)):=U3 (hc.trans (by rw [h0])) (uJ (bB (aD (bB (xs:=[.tup pr,.tup ws]) (aD rfl (aD ht rfl)) ((j_ rfl).trans (w 400))) (aD rfl rfl)) ((j_ rfl).trans rt)) rfl);unfold bA;rw [s8];rfl
 ·rw [Bool.not_eq_true] at h0;refine aP (LR (hc.trans (by rw [h0])) rfl) ?_;have h3:cell % 3=1\/cell % 3=2:=by
   have:¬cell % 3=0:=fun z=>by rw [z] at h0;cases h0
   lia
  have hl:jU (aB fQ (aB (bPu cO) aU)) (ls sc d0 cell b nm ks ms ts (.dct ld) (.int mo) (.lst ws) (.tup pr))=.ok (.lst [.int 0,.int b]):=rfl;have hb:∃c:Int,b2 getD (jU (aB fQ (aB (bPu cO) aU))) (b2 (aQ .sub) (b2 (aQ .mod) dO fZ) dD) (ls sc d0 cell b nm ks ms ts (.dct ld) (.int mo) (.lst ws) (.tup pr))=.ok (.int c):=by
   rcases h3 with h3|h3
   ·exact ⟨0,aH hl (aH (aH (x:=.int cell) rfl rfl ((bO _ _ (by decide)).trans (by rw [h3]))) rfl rfl) rfl⟩
   ·exact ⟨b,aH hl (aH (aH (x:=.int cell) rfl rfl ((bO _ _ (by decide)).trans (by rw [h3]))) rfl rfl) rfl⟩
  obtain ⟨c,hb⟩:=hb;exact uJ (bB (aD (bB (xs:=[.tup pr,.tup ws,.int c]) (aD rfl (aD ht (aD hb rfl))) ((j_ rfl).trans (w c))) (aD rfl rfl)) ((j_ rfl).trans rt)) rfl
theorem aDb {c0 c1:Int} {d2:List D} (h:ch1 aL d0 []=.ok (.int c0,d1)) (hp:D.aN d1=true) (h2:ch1 aL d1 []=.ok (.int c1,d2)) (hp2:D.aN d2=true) {f:FS} {r:Res Fl} (hr:f [sc,.lst d2,.int c0,.int (c1 % 2001),.uD,.uD,.uD,.uD,.uD,.uD,.uD,.uD]=r):bA lw1 (bA lw2 f) [sc,.lst d0,.uD,.uD,.uD,.uD,.uD,.uD,.uD,.uD,.uD,.uD]=r:=by
 refine aP (fW (i:=2) (iU (fs:=aU) (i:=1) (rest:=[]) rfl rfl rfl h hp rfl) rfl) ?_;exact aP (fW (i:=3) (q_ (iU (fs:=aU) (i:=1) (rest:=[]) rfl rfl rfl h2 hp2 rfl) rfl rfl (bO _ _ (by decide)) rfl) rfl) hr
end Lk52
end
section
namespace Lk52
open PySem L2 Mi
theorem chain {ns:List Int} {cs:List Int} {cell bd:Int} {d1 d2 d3 d4 d5 nm ks ms ts ws:List D} {ld:List (D×D)} {mo:Int} {k:D} {pr:List D} {fo:D}
  (e0:lw0 (.scr (ns.map D.int)::.uD::[.uD,.uD,.uD,.uD,.uD,.uD,.uD,.uD,.uD,.uD])=.ok (.nx (.scr (ns.map D.int)::.lst (dk cs 0)::[.uD,.uD,.uD,.uD,.uD,.uD,.uD,.uD,.uD,.uD])))
  (h1:ch1 aL (dk cs 0) []=.ok (.int cell,d1)) (p1:D.aN d1=true)
  (h2:ch1 aL d1 []=.ok (.int bd,d2)) (p2:D.aN d2=true)
  (h3:ch1 cR d2 []=.ok (.lst nm,d3)) (p3:D.aN d3=true)
  (h4:ch1 d7 d3 [.lst nm]=.ok (.lst [.lst ks,.lst ms,.lst ts,.dct ld],d4)) (p4:D.aN d4=true)
  (h5:getD (.lst [.int 1,.int 6,.int 40,.int 390]) (.int (cell / 6 % 4))=.ok (.int mo))
  (hm:0<(ks.length:Int)) (hk:getD (.lst ks) (.int (cell / 24 % (ks.length:Int)))=.ok k) (pk:k.pure=true)
  (h6:ch1 cT d4 [.lst ms,k,.int mo,.bl (cell / 3 % 2==1),.dct ld]=.ok (.lst ws,d5)) (p5:D.aN d5=true)
  (h7:cJ [.lst ks,.lst ms,.lst ts,.lst nm]=.ok (.tup pr))
  (w:∀b:Int,gM [.tup pr,.tup ws,.int b]=.ok fo) (rt:cD [fo,.lst ws]=.ok (.bl true)) (hws:b_ [.lst ws]=.ok (.tup ws)) :
  xJ [.scr (ns.map D.int)]=.ok (.bl true):=by
 refine call_v ?_;show YW [.scr (ns.map D.int),.uD,.uD,.uD,.uD,.uD,.uD,.uD,.uD,.uD,.uD,.uD]=_;rw [ZS];exact aP e0 (aDb h1 p1 h2 p2 (aP (aF9 h3 p3) (aP (aFa h4 p4) (aP (aFb h5) (aP (aFf hm hk pk h6 p5) (aP (aFg h7) (aFh w rt hws)))))))
theorem main:∀ns:List Int,ns.length<=63->xJ [.scr (ns.map D.int)]=.ok (.bl true):=fun ns _=>by
 obtain ⟨cs,e0⟩:=aD7 ns [.uD,.uD,.uD,.uD,.uD,.uD,.uD,.uD,.uD,.uD];obtain ⟨cell,q1⟩:=gU cs 0 (by lia);obtain ⟨bd,q1b⟩:=gU cs 1 (by lia);obtain ⟨N,hN,hd,q2⟩:=S8 cs 2 (by lia);rw [aCf N hN] at q2;obtain ⟨m,M,T,l,n1,S,hn1,q3⟩:=aCr hN hd cs 5 (by lia);have m1:=S.m1;have m3:=S.m3;obtain ⟨k,k1,k2⟩:=kix m1 (cell / 24);have hF:=aGv S;have hM:=aFz S;obtain ⟨most,o1,o2⟩:=ZW (cell / 6 % 4) (by lia) (by lia);obtain ⟨V,n2,RV',lV,hn2,q4⟩:=TQ hN hd cs (n:=n1) (full:=(cell / 3 % 2==1)) (ZX S) k1 o2 (by lia);obtain ⟨R,hR,lR,q5⟩:=ZQ hN hd (aD8 S);have hV:∀i∈V,i<26:=aD9 (fun r hr=>by have:=S.mi r hr;lia) RV';have w:∀b:Int,gM [.tup [.tup ((List.range m).map (sy N)),.tup (M.map (rwD N)),.tup (T.map (tkD N)),.tup R],.tup (V.map (sy N)),.int b]=.ok (foD (V.map (sy N))):=fun b=>TY hN hd hF hM hR lR RV' (by lia)
 have rt:=T4 hN hd hV (by lia);have hl:(((List.range m).map (sy N)).length:Int)=m:=by rw [List.length_map,List.length_range]
 exact chain e0 q1 (jF ..) q1b (jF ..) q2 (jF ..) q3 (jF ..) o1 (by rw [hl];lia) (by rw [hl];exact fX k2 k1) rfl q4 (jF ..) q5 w rt rfl
end Lk52
end
section
open PySem PySem.W PyProof.Rows
def PySem.W.Fast.tw11042176144072219950 : Unit:=()
def PySem.W.Fast.tw18071575998562692971 : Unit:=()
def PySem.W.Fast.tw11013372206235481853 : Unit:=()
def PySem.W.Fast.tw15881182422241045971 : Unit:=()
def PySem.W.Fast.tw8750739373031837550 : Unit:=()
def PySem.W.Fast.tw2821310466510424390 : Unit:=()
def PySem.W.Fast.tw14524292852426606322 : Unit:=()
def PySem.W.Fast.tw3306137972028496644 : Unit:=()
def PySem.W.Fast.tw2500547831899354130 : Unit:=()
def PySem.W.Fast.tw618267906027449381 : Unit:=()
set_option maxRecDepth 100000 in
set_option maxHeartbeats 0 in
theorem PySem.Challenge.cw_hookmill_k52_values_stay_holds : PySem.Challenge.rw_hookmill_k52_values_stay.Holds := by
 w_on;o_law;k_head;(case hw=>w_witness2)
 k_fill
 refine Lk52.walk (l:=PySem.Challenge.rw_hookmill_k52_values_stay) Lk52.main rfl rfl (fun w h Y=>PySem.W.kIn_of Y) ?F
 case F=>
  intro w mg fa h KX G hmg
  refine' Lk52.aC8 KX G hmg ?a0 ?a1 ?a2 ?l2 ?c2 ?k2 ?t2 ?a3 ?a4 ?a5 ?a6 ?a7 ?a8 ?a9 ?a10 ?l10 ?c10 ?k10 ?z_len ?z_min ?z_max ?z_list ?z_tuple ?z_sorted ?z_range ?z_isinstance ?z_int ?z_bool ?z_str ?z_dict ?z_all ?z_enumerate ?z_sum ?z_zip ?z_abs ?z_reversed ?g_Frame ?g_PlainRun ?pg_Frame ?hd_Frame ?po_Frame ?sa_Frame ?mk_Frame ?kp_Frame ?in_Frame ?li_Frame ?ci_Frame ?ki_Frame ?fn_Frame ?no_Frame_words ?no_Frame_left ?no_Frame_known ?pg_PlainRun ?hd_PlainRun ?po_PlainRun ?sa_PlainRun ?mk_PlainRun ?kp_PlainRun ?in_PlainRun ?li_PlainRun ?ci_PlainRun ?ki_PlainRun ?fn_PlainRun ?no_PlainRun_heads ?no_PlainRun_makers ?no_PlainRun_rules ?no_PlainRun_most ?no_PlainRun_calls ?no_PlainRun_copies ?no_PlainRun_drops ?in_take_word ?li_take_word ?ci_take_word ?ki_take_word ?fn_take_word ?in_value_of ?li_value_of ?ci_value_of ?ki_value_of ?gR
  (case a0|a1|a3|a4|a5|a6|a7|a8|a9=>refine' Lk52.aEw ?a ?b ?c ?d;(case a=>k_is);(case b=>k_is);(case c=>k_is);case d=>k_is)
  (case a2|l2|c2|k2|t2|a10|l10|c10|k10|z_len|z_min|z_max|z_list|z_tuple|z_sorted|z_range|z_isinstance|z_int|z_bool|z_str|z_dict|z_all|z_enumerate|z_sum|z_zip|z_abs|z_reversed|g_Frame|g_PlainRun|pg_Frame|hd_Frame|po_Frame|sa_Frame|mk_Frame|kp_Frame|in_Frame|li_Frame|ci_Frame|ki_Frame|fn_Frame|no_Frame_words|no_Frame_left|no_Frame_known|pg_PlainRun|hd_PlainRun|po_PlainRun|sa_PlainRun|mk_PlainRun|kp_PlainRun|in_PlainRun|li_PlainRun|ci_PlainRun|ki_PlainRun|fn_PlainRun|no_PlainRun_heads|no_PlainRun_makers|no_PlainRun_rules|no_PlainRun_most|no_PlainRun_calls|no_PlainRun_copies|no_PlainRun_drops|in_take_word|li_take_word|ci_take_word|ki_take_word|fn_take_word|in_value_of|li_value_of|ci_value_of|ki_value_of|gR=>k_is)
end
