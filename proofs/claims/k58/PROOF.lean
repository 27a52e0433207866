import PyProof.Rows.All
import Wide.All
import OpenK.AllK
import Wide.FinOn
import PyProof.EqAt
import PyProof.EqKinds
import PyProof.TupleCall
import Lean
import PyProof.Rows.SortRuns
import PySem.Syntax
import PyProof.NeKinds
import PyProof.WalkInts
import KE.KDictList
import PyProof.CompUse
import PyProof.StrWalks
import PyProof.EnumMake
import PyProof.EnumFor
import PyProof.StrCalls2
import PyProof.StrBlock2
import PyProof.StrBlockI
import PyProof.SliceStr2
import PyProof.ConsumeWalk
import PyProof.StrLawsJoin
import KE.KTryMore
import KE.KTryDeep
import OpenK.KOwn
import PyProof.ExcClass3
import KE.KIsAll
import PyProof.ExcArgsOwn
import PyProof.NsDelKeeps
import PyProof.ListRange
import PyProof.DictWalks
import KE.KEqDict
import PyProof.Rows.TupAdd
import PyProof.DictIter
import PyProof.AttrMissHeap
import PyProof.ZipIter
import PyProof.TupleIter
import PyProof.WalksMore
import PyProof.FactsAll.zip
import KE.KDictOf
import PyProof.Conv_int
import PyProof.Conv_int_bool
import PyProof.StrBlockL
import PyProof.MakeMany
import PyProof.MeetsStr2
import PyProof.CallRoads3
import PyProof.Rows.TupIn
import KE.KRevIter
import PyProof.StationsW
import OpenK.KCls
import PyProof.InstStoreFacts
import PyProof.DictItems
import PyProof.Rows.StrInSeq3
import PyProof.MeetsSeq2
import KE.KPairComp
import PySem.Challenge.RW_hookmill_k58_whole_many_rules
set_option Elab.async false
set_option maxRecDepth 100000
set_option maxHeartbeats 4000000
noncomputable section
set_option linter.all false
set_option autoImplicit false
set_option genSizeOfSpec false
set_option genInjectivity true
abbrev nDb (x:PySem.Str):Prop := (x==("__debug__" : PySem.Str))=false
abbrev nCd (x:PySem.Str):Prop := (x==("__classdict__" : PySem.Str))=false
section
namespace L2
open PySem PySem.Spec PyProof.Rows
abbrev Key:=Sum Int Str
noncomputable def uT:Key->Value->Bool
 | .inl k,v=>Value.isInt k v
 | .inr x,v=>Value.isStrOf x v
noncomputable def aFs (w:World):Key->Int
 | .inl k=>hashInt k
 | .inr x=>hashStr w x
theorem bY:∀{k:Key} {v:Value},uT k v=true->(∃i t,k=Sum.inl i/\v=Value.int i t)\/(∃x t,k=Sum.inr x/\v=Value.str x t)
 | .inl i,v,h=>by
  obtain ⟨t,e⟩:=Value.isInt_shape (k:=i) (v:=v) h;exact .inl ⟨i,t,rfl,e⟩
 | .inr x,v,h=>by
  obtain ⟨t,e⟩:=Value.isStrOf_shape (x:=x) (v:=v) h;exact .inr ⟨x,t,rfl,e⟩
theorem DG (i:Int) (t:Tok):uT (.inl i) (.int i t)=true:=by simp [uT,Value.isInt]
theorem DK (x:Str) (t:Tok):uT (.inr x) (.str x t)=true:=by simp [uT,Value.isStrOf]
theorem Z7 (a b:Int):decide ((Sum.inl a:Key)=Sum.inl b)=(a==b):=by
 by_cases e:a=b
 ·subst e;simp
 ·have h:¬(Sum.inl a:Key)=Sum.inl b:=fun q=>e (Sum.inl.inj q)
  rw [decide_eq_false h];exact (beq_eq_false_iff_ne.mpr e).symm
theorem Z8 (a b:Str):decide ((Sum.inr a:Key)=Sum.inr b)=decide (a=b):=by
 by_cases e:a=b
 ·subst e;simp
 ·have h:¬(Sum.inr a:Key)=Sum.inr b:=fun q=>e (Sum.inr.inj q)
  rw [decide_eq_false h,decide_eq_false e]
theorem Z9 (a:Int) (b:Str):decide ((Sum.inl a:Key)=Sum.inr b)=false:=decide_eq_false (fun q=>nomatch q)
theorem Z_ (a:Str) (b:Int):decide ((Sum.inr a:Key)=Sum.inl b)=false:=decide_eq_false (fun q=>nomatch q)
noncomputable def bL (prog:Program) (w:World):PySem.KeyKind prog w Key where
 is:=uT
 hash:=aFs w
 inj:=fun v a b ha hb=>by
  rcases bY ha with ⟨i,t,rfl,rfl⟩|⟨x,t,rfl,rfl⟩
  ·rcases bY hb with ⟨j,u,rfl,e⟩|⟨y,u,rfl,e⟩
   ·injection e with e1 _;rw [e1]
   ·exact nomatch e
  ·rcases bY hb with ⟨j,u,rfl,e⟩|⟨y,u,rfl,e⟩
   ·exact nomatch e
   ·injection e with e1 _;rw [e1]
 byValue:=fun k v h=>by
  rcases bY h with ⟨i,t,rfl,rfl⟩|⟨x,t,rfl,rfl⟩ <;> rfl
 pyHash:=fun hv h=>by
  rcases bY hv with ⟨i,t,rfl,rfl⟩|⟨x,t,rfl,rfl⟩
  ·exact wpAny_pyHash_int h
  ·exact wpAny_pyHash_str h
 eqBool:=fun hu hv h=>by
  rcases bY hu with ⟨i,t,rfl,rfl⟩|⟨x,t,rfl,rfl⟩
  ·rcases bY hv with ⟨j,u,rfl,rfl⟩|⟨y,u,rfl,rfl⟩
   ·rw [Z7] at h;exact wpAny_eqBool_int h
   ·rw [Z9] at h;exact SeqAt.EqAt.int_str i t y u _ _ _ _ h
  ·rcases bY hv with ⟨j,u,rfl,rfl⟩|⟨y,u,rfl,rfl⟩
   ·rw [Z_] at h;exact SeqAt.EqAt.str_int x t j u _ _ _ _ h
   ·rw [Z8] at h;exact wpAny_eqBool_str h
 «strs»:=fun k x t v h=>by
  rcases bY h with ⟨i,u,rfl,e⟩|⟨y,u,rfl,e⟩
  ·exact nomatch e
  ·injection e with e1 _
   subst e1;cases v <;> rfl
theorem uU (prog:Program) (w:World) (i:Int) (t:Tok):(bL prog w).is (.inl i) (.int i t)=true:=DG i t
theorem uV (prog:Program) (w:World) (x:Str) (t:Tok):(bL prog w).is (.inr x) (.str x t)=true:=DK x t
end L2
namespace L2
open PySem PySem.Spec PyProof.Rows
inductive V where
 | non|bl (b:Bool)|int (i:Int)|str (x:Str)|byt (b:Array UInt8)|flt (b:UInt64)|ref (a:Addr)|ty (n:String)
 deriving DecidableEq
noncomputable def RelV:V->Value->Prop
 | .non,u=>u=Value.none
 | .bl b,u=>u=Value.bool b
 | .int i,u=>∃t,u=Value.int i t
 | .str x,u=>∃t,u=Value.str x t
 | .byt b,u=>∃t,u=Value.bytes b t
 | .flt b,u=>∃t,u=Value.float b t
 | .ref a,u=>u=Value.ref a
 | .ty n,u=>u=Value.type n
abbrev Vals:List V->List Value->Prop:=Paired RelV
theorem Vals.length {xs:List V} {us:List Value} (r:Vals xs us):xs.length=us.length:=Paired.length r
theorem Vals.get:∀{xs:List V} {us:List Value} {i:Nat} {x:V},Vals xs us->xs[i]?=some x->∃u,us[i]?=some u/\RelV x u
 | _,_,_,_,.nil,e=>by simp at e
 | _,_,0,_,.cons r _,e=>by simp at e;subst e;exact ⟨_,rfl,r⟩
 | _,_,i+1,x,.cons _ t,e=>by
  obtain ⟨u,h1,h2⟩:=Vals.get (i:=i) (x:=x) t (by simpa using e);exact ⟨u,by simpa using h1,h2⟩
theorem Vals.append:∀{xs ys:List V} {us ws:List Value},Vals xs us->Vals ys ws->Vals (xs++ys) (us++ws)
 | _,_,_,_,.nil,s=>s
 | _,_,_,_,.cons r t,s=>.cons r (Vals.append t s)
theorem Vals.take:∀{xs:List V} {us:List Value} (n:Nat),Vals xs us->Vals (xs.take n) (us.take n)
 | _,_,0,_=>.nil
 | _,_,_+1,.nil=>.nil
 | _,_,n+1,.cons r t=>.cons r (Vals.take n t)
theorem Vals.drop:∀{xs:List V} {us:List Value} (n:Nat),Vals xs us->Vals (xs.drop n) (us.drop n)
 | _,_,0,r=>r
 | _,_,_+1,.nil=>.nil
 | _,_,n+1,.cons _ t=>Vals.drop n t
noncomputable def uN:Option V->Option Value->Prop
 | some v,some u=>RelV v u
 | none,none=>True
 | _,_=>False
noncomputable def KV {κ:Type}:List (κ×V)->List (κ×Value)->Prop:=Paired fun (p:κ×V) (q:κ×Value)=>p.1=q.1/\RelV p.2 q.2
noncomputable def kV:Key->V
 | .inl i=>.int i
 | .inr x=>.str x
inductive HO where
 | lst (xs:List V)
 | tup (xs:List V)
 | dK (kvs:List (Key×V))|dT (kvs:List (List Key×V))
 | set (S:Int->Bool) (n:Nat)
 | ins (C dx:Addr) (fs:List (Str×V))
 | own (x:Addr)
 | xd (fs:List (Str×V))
 | met (f x:Addr)
 | rng (lo hi:Int)
 | frz (o:Obj) (u:HO)
 | tbl (ps:Array Value)
 | ext (φ:Heap->Prop)
abbrev Hp:=Addr->Option HO
def upd (H:Hp) (a:Addr) (o:HO):Hp:=fun b=>if b=a then some o else H b
theorem aC {H:Hp} {a:Addr} {o:HO}:upd H a o a=some o:=by unfold upd;rw [if_pos rfl]
theorem aJ {H:Hp} {a b:Addr} {o:HO} (h:b≠a):upd H a o b=H b:=by unfold upd;rw [if_neg h]
theorem uW {H:Hp} {a:Addr} {o u:HO}:upd (upd H a o) a u=upd H a u:=by
 funext b;unfold upd;split <;> rfl
theorem k_ {H:Hp} {a b:Addr} {o u:HO} (h:H a=some o) (h':H b=some u) (d:o≠u):a≠b:=by
 intro e;subst e;rw [h] at h';exact d (Option.some.inj h')
theorem aR {H:Hp} {a b:Addr} {o:HO} (h:H a=some o) (h':H b=none):a≠b:=by
 intro e;subst e;rw [h] at h';cases h'
noncomputable def gH (h:Heap) (a:Addr) (its:Array Value):Prop:=∃o,h.get? a=some o/\o.cls=.type "tuple"/\∃n,(o.data,o.dict)=(Data.seq its n,none)
theorem gH.tup {h:Heap} {a:Addr} {its:Array Value} (t:gH h a its):IsTup h a its:=let ⟨o,e,c,n,d⟩:=t;⟨o,e,c,n,congrArg (·.1) d⟩
theorem gH.bare {h:Heap} {a:Addr} {its:Array Value} (t:gH h a its):∃o,h.get? a=some o/\o.dict=none:=let ⟨o,e,_,_,d⟩:=t;⟨o,e,congrArg (·.2) d⟩
theorem gH.new (h:Heap) (items:Array Value):gH (h.push {cls:=.type "tuple",data:=.seq items}) h.objs.size items:=⟨_,Heap.get?_push_size _ rfl,rfl,_,rfl⟩
section
variable (P:Program) (w:World)
noncomputable def dX (H:Hp) (h:Heap) (a:Addr):HO->Prop
 | .lst xs=>xs.length<=sizeLine/\∃(its:List Value) (n:Nat),Vals xs its/\h.get? a=some {cls:=.type "list",data:=.seq its.toArray n}
 | .tup xs=>xs.length<=sizeLine/\∃its:List Value,Vals xs its/\gH h a its.toArray
 | .dK kvs=>kvs.length<=sizeLine/\(a==sysModules)=false/\∃vs,KV kvs vs/\h.DictOf (bL P w) a vs
 | .dT kvs=>kvs.length<=sizeLine/\(a==sysModules)=false/\∃xs:List (List Key×Addr×Value),
   Paired (fun (p:List Key×V) (q:List Key×Addr×Value)=>p.1=q.1/\H q.2.1=some (.tup (p.1.map kV))/\RelV p.2 q.2.2) kvs xs/\
   ∃o es ep,h.get? a=some o/\o.ExactDict/\o.data=.dict es ep/\es.toList=xs.map (entryOfKey (tupleKind (bL P w)))/\(xs.map (·.1)).Nodup
 | .set S n=>h.SetOf (intKind P w) a S n
 | .ins C dx fs=>H dx=some (.own a)/\fs.length<=1000/\dx≠a/\h.get? a=some (PySem.W.instObj C dx)/\
   ∃mA,h.Ns1 dx mA/\(∀f,uN (fs.lookup f) (mA f))/\PySem.Within mA (fs.map (·.1))
 | .own _=>∃o,h.get? a=some o
 | .xd fs=>∃mA,h.Ns1 a mA/\∀f,uN (fs.lookup f) (mA f)
 | .rng lo hi=>∃t u v,h.get? a=some {cls:=.type "range",data:=.fields #[.int lo t,.int hi u,.int 1 v]}
 | .frz o u=>h.get? a=some o/\dX H h a u
 | .tbl ps=>h.get? a=some {cls:=.none,data:=.fields ps}
 | .met f x=>h.get? a=some (PySem.W.methodObj (.ref f) (.ref x))
 | .ext φ=>φ h/\(∃o,h.get? a=some o)/\∀h1 h2:Heap,φ h1->(∀o,h1.get? a=some o->h2.get? a=some o)->φ h2
def HOk (H:Hp) (h:Heap):Prop:=∀a o,H a=some o->dX P w H h a o
end
section
variable {P:Program} {w:World} {H H':Hp} {h h':Heap} {a:Addr} {o:HO}
theorem dX.lt (x:dX P w H h a o):a<h.objs.size:=by
 cases o with
 | lst xs=>obtain ⟨_,_,_,_,e⟩:=x;exact Heap.lt_size e
 | tup xs=>obtain ⟨_,_,_,p⟩:=x;exact p.tup.lt
 | dK kvs=>obtain ⟨_,_,_,_,o,_,_,e,_⟩:=x;exact Heap.lt_size e
 | dT kvs=>obtain ⟨_,_,_,_,o,_,_,e,_⟩:=x;exact Heap.lt_size e
 | set S n=>obtain ⟨o,_,_,_,e,_⟩:=x;exact Heap.lt_size e
 | ins C dx fs=>obtain ⟨_,_,_,e,_⟩:=x;exact Heap.lt_size e
 | own y=>obtain ⟨_,e⟩:=x;exact Heap.lt_size e
 | xd fs=>obtain ⟨_,⟨_,_,_,e,_⟩,_⟩:=x;exact Heap.lt_size e
 | rng lo hi=>obtain ⟨_,_,_,e⟩:=x;exact Heap.lt_size e
 | frz ob u=>obtain ⟨e,_⟩:=x;exact Heap.lt_size e
 | tbl ps=>exact Heap.lt_size (show h.get? a=some _ from x)
 | met f y=>exact Heap.lt_size (show h.get? a=some _ from x)
 | ext φ=>obtain ⟨_,⟨_,e⟩,_⟩:=x;exact Heap.lt_size e
theorem Paired.aDd {α β:Type} {F G:α->β->Prop}:∀{l₁:List α} {l₂:List β},Paired F l₁ l₂->(∀a b,F a b->G a b)->Paired G l₁ l₂
 | _,_,.nil,_=>.nil
 | _,_,.cons r t,f=>.cons (f _ _ r) (Paired.aDd t f)
theorem dX.stay (x:dX P w H h a o) (k:∀b u,(b=a\/H b=some (.own a))->h.get? b=some u->h'.get? b=some u)
  (ho:∀b,H b=some (.own a)->H' b=some (.own a)) (ht:∀b xs,H b=some (.tup xs)->H' b=some (.tup xs)):dX P w H' h' a o:=by
 induction o with
 | lst xs=>obtain ⟨z,its,n,r,e⟩:=x;exact ⟨z,its,n,r,k _ _ (.inl rfl) e⟩
 | tup xs=>obtain ⟨z,its,r,ob,e,c⟩:=x;exact ⟨z,its,r,ob,k _ _ (.inl rfl) e,c⟩
 | dK kvs=>obtain ⟨z,y,vs,r,ob,es,ep,e,c⟩:=x;exact ⟨z,y,vs,r,ob,es,ep,k _ _ (.inl rfl) e,c⟩
 | dT kvs=>
  obtain ⟨z,y,xs,r,ob,es,ep,e,c⟩:=x;exact ⟨z,y,xs,Paired.aDd r fun p q z=>⟨z.1,ht _ _ z.2.1,z.2.2⟩,ob,es,ep,k _ _ (.inl rfl) e,c⟩
 | set S n=>obtain ⟨ob,es,ep,t,e,c⟩:=x;exact ⟨ob,es,ep,t,k _ _ (.inl rfl) e,c⟩
 | ins C dx fs=>
  obtain ⟨d,z,ne,e,mA,⟨od,es,ep,e2,c⟩,r⟩:=x;exact ⟨ho _ d,z,ne,k _ _ (.inl rfl) e,mA,⟨od,es,ep,k _ _ (.inr d) e2,c⟩,r⟩
 | own y=>obtain ⟨ob,e⟩:=x;exact ⟨ob,k _ _ (.inl rfl) e⟩
 | xd fs=>obtain ⟨mA,⟨od,es,ep,e,c⟩,r⟩:=x;exact ⟨mA,⟨od,es,ep,k _ _ (.inl rfl) e,c⟩,r⟩
 | rng lo hi=>obtain ⟨t,u,v,e⟩:=x;exact ⟨t,u,v,k _ _ (.inl rfl) e⟩
 | frz ob u ih=>obtain ⟨e,q⟩:=x;exact ⟨k _ _ (.inl rfl) e,ih q⟩
 | tbl ps=>
  have e:h.get? a=some {cls:=.none,data:=.fields ps}:=x;show h'.get? a=some {cls:=.none,data:=.fields ps};exact k a _ (.inl rfl) e
 | met f y=>
  have e:h.get? a=some (PySem.W.methodObj (.ref f) (.ref y)):=x;show h'.get? a=some (PySem.W.methodObj (.ref f) (.ref y));exact k a _ (.inl rfl) e
 | ext φ=>obtain ⟨p,⟨o,e⟩,st⟩:=x;exact ⟨st _ _ p fun o q=>k _ _ (.inl rfl) q,⟨o,k _ _ (.inl rfl) e⟩,st⟩
theorem HOk.lt (x:HOk P w H h) (e:H a=some o):a<h.objs.size:=(x a o e).lt
theorem HOk.fresh (x:HOk P w H h) (e:h.objs.size<=a):H a=none:=by
 cases q:H a with
 | none=>rfl
 | some u=>exact absurd (Nat.lt_of_lt_of_le (x.lt q) e) (Nat.lt_irrefl _)
theorem HOk.kept (x:HOk P w H h) (k:∀b u,h.get? b=some u->h'.get? b=some u):HOk P w H h':=fun a o e=>
 (x a o e).stay (fun b u _ q=>k b u q) (fun _ q=>q) fun _ _ q=>q
theorem HOk.laid (x:HOk P w H h) (k:∀b u,h.get? b=some u->h'.get? b=some u) (hp:h.objs.size<=a) (new:dX P w (upd H a o) h' a o):HOk P w (upd H a o) h':=fun b u e=>by
 have hn:=x.fresh hp;by_cases hb:b=a
 ·subst hb;rw [aC] at e;cases e;exact new
 ·rw [aJ hb] at e;exact (x b u e).stay (fun c v _ q=>k c v q) (fun c q=>by rw [aJ (aR q hn)];exact q) fun c xs q=>by rw [aJ (aR q hn)];exact q
end
def Rd (H:Hp) (a:Addr) (u:HO):Prop:=H a=some u\/∃o,H a=some (.frz o u)
theorem Rd.of {H:Hp} {a:Addr} {u:HO} (h:H a=some u):Rd H a u:=.inl h
theorem Rd.ok {P:Program} {w:World} {H:Hp} {h:Heap} {a:Addr} {u:HO} (r:Rd H a u) (x:HOk P w H h):dX P w H h a u:=by
 rcases r with r|⟨o,r⟩
 ·exact x a u r
 ·obtain ⟨_,q⟩:=x a _ r;exact q
noncomputable def Mut:Option HO->Prop
 | some (.lst _)=>True
 | some (.dK _)=>True
 | some (.dT _)=>True
 | some (.set _ _)=>True
 | some (.ins _ _ _)=>True
 | some (.ext _)=>True
 | _=>False
section
variable {P:Program} {w:World} {H:Hp} {h h':Heap} {x e:Addr} {o':HO}
theorem HOk.write (ok:HOk P w H h) (mu:Mut (H x)) (he:e=x\/H e=some (.own x)) (k:∀b u,b≠e->h.get? b=some u->h'.get? b=some u) (heo:∃u,h'.get? e=some u)
  (new:dX P w (upd H x o') h' x o'):HOk P w (upd H x o') h':=fun b u q=>by
 have nown:∀c y,H c=some (.own y)->c≠x:=fun c y r z=>by subst z;rw [r] at mu;exact mu
 have ntup:∀c xs,H c=some (.tup xs)->c≠x:=fun c xs r z=>by subst z;rw [r] at mu;exact mu
 by_cases hb:b=x
 ·subst hb;rw [aC] at q;cases q;exact new
 ·rw [aJ hb] at q;by_cases hbe:b=e
  ·have q':H b=some (.own x):=by
    rcases he with z|z
    ·exact absurd (hbe.trans z) hb
    ·rw [hbe];exact z
   rw [q] at q';cases q';obtain ⟨v,hv⟩:=heo;exact ⟨v,by rw [hbe];exact hv⟩
  ·refine (ok b u q).stay (fun c v hc r=>k c v ?_ r) (fun c r=>by rw [aJ (nown c b r)];exact r) fun c xs r=>by rw [aJ (ntup c xs r)];exact r
   rcases hc with rfl|hc
   ·exact hbe
   ·rintro rfl;rcases he with z|z
    ·exact nown c b hc z
    ·rw [hc] at z;cases z;exact hb rfl
end
structure Un (fs ex:List Addr) (H H':Hp) (h h':Heap):Prop where
 keep:∀b o,h.get? b=some o->H b=none->b∉fs->b∉ex->h'.get? b=some o
 slot:∀b o,h.get? b=some o->H b=none->b∈fs->b∉ex->∃sl,h'.get? b=some {o with slots:=sl}
 free:∀b o,h.get? b=some o->H b=none->b∉ex->H' b=none
 there:∀b o,h.get? b=some o->b∉ex->∃o',h'.get? b=some o'
 tups:∀b xs,H b=some (.tup xs)->H' b=some (.tup xs)
 frzs:∀b o u,H b=some (.frz o u)->H' b=some (.frz o u)
 tbls:∀b ps,H b=some (.tbl ps)->∃more,H' b=some (.tbl (ps++more))
section
variable {fs fs' ex ex':List Addr} {H H1 H2:Hp} {h h1 h2 h':Heap} {a x e:Addr} {o:HO}
theorem Un.any (u:Un fs ex H H1 h h1) {b:Addr} {ob:Obj} (q:h.get? b=some ob) (n:H b=none) (hx:b∉ex):∃sl,h1.get? b=some {ob with slots:=sl}:=by
 by_cases hb:b∈fs
 ·exact u.slot b ob q n hb hx
 ·exact ⟨ob.slots,u.keep b ob q n hb hx⟩
theorem Un.kept (k:∀b u,h.get? b=some u->h'.get? b=some u):Un fs ex H H h h':=
 ⟨fun b ob q _ _ _=>k b ob q,fun b ob q _ _ _=>⟨ob.slots,k b ob q⟩,fun _ _ _ n _=>n,fun b ob q _=>⟨ob,k b ob q⟩,fun _ _ q=>q,fun _ _ _ q=>q,fun _ ps q=>⟨#[],by rw [q];simp⟩⟩
theorem Un.refl:Un fs ex H H h h:=Un.kept fun _ _ q=>q
theorem Un.laid (k:∀b u,h.get? b=some u->h'.get? b=some u) (hp:h.objs.size<=a) (hn:H a=none):Un fs ex H (upd H a o) h h' where
 keep:=fun b u q _ _ _=>k b u q
 slot:=fun b u q _ _ _=>⟨u.slots,k b u q⟩
 free:=fun b u q n _=>by rw [aJ (Nat.ne_of_lt (Nat.lt_of_lt_of_le (Heap.lt_size q) hp))];exact n
 there:=fun b u q _=>⟨u,k b u q⟩
 tups:=fun b xs q=>by rw [aJ (aR q hn)];exact q
 frzs:=fun b u xs q=>by rw [aJ (aR q hn)];exact q
 tbls:=fun b ps q=>⟨#[],by rw [aJ (aR q hn),q];simp⟩
theorem Un.write (mu:Mut (H x)) (he:e=x\/H e=some (.own x)) (k:∀b u,b≠e->h.get? b=some u->h'.get? b=some u) (heo:∃u,h'.get? e=some u):Un fs ex H (upd H x o) h h':=by
 have hx:∀b,H b=none->b≠x:=fun b n z=>by subst z;rw [n] at mu;exact mu
 have hb:∀b,H b=none->b≠e:=fun b n z=>by
  subst z;rcases he with r|r
  ·exact hx b n r
  ·rw [n] at r;cases r
 have hm:∀b u,H b=some u->¬Mut (some u)->b≠x:=fun b u q nm z=>by subst z;rw [q] at mu;exact nm mu
 refine ⟨fun b u q n _ _=>k b u (hb b n) q,fun b u q n _ _=>⟨u.slots,k b u (hb b n) q⟩,fun b u q n _=>by rw [aJ (hx b n)];exact n,fun b u q _=>?_,
  fun b xs q=>by rw [aJ (hm b _ q fun z=>z)];exact q,fun b u xs q=>by rw [aJ (hm b _ q fun z=>z)];exact q,fun b ps q=>⟨#[],by rw [aJ (hm b _ q fun z=>z),q];simp⟩⟩
 by_cases hbe:b=e
 ·subst hbe;exact heo
 ·exact ⟨u,k b u hbe q⟩
end
noncomputable def trk (h:Heap) (H:Hp):List Addr:=(List.range h.objs.size).filter fun a=>(H a).isSome
def NK (h:Heap) (H:Hp):Heap:=PySem.W.hideAll h (trk h H)
theorem DN (h:Heap) (H:Hp):(NK h H).objs.size=h.objs.size:=PySem.W.hideAll_size _ _
theorem NP {h:Heap} {H:Hp} {b:Addr} {o:Obj} (e:h.get? b=some o) (n:H b=none):(NK h H).get? b=some o:=
 PySem.W.hideAll_get _ e fun hm=>by
  have q:(H b).isSome=true:=(List.mem_filter.mp hm).2;rw [n] at q;simp at q
theorem VD {h:Heap} {H:Hp} {b:Addr} {o:Obj} (e:(NK h H).get? b=some o):h.get? b=some o/\H b=none:=by
 have e':h.get? b=some o:=PySem.W.of_hideAll (trk h H) e;refine ⟨e',?_⟩;cases q:H b with
 | none=>rfl
 | some x=>
  have hm:b∈trk h H:=List.mem_filter.mpr ⟨List.mem_range.mpr (Heap.lt_size e'),by simp [q]⟩;have z:(NK h H).get? b=none:=PySem.W.hideAll_none (trk h H) hm;rw [z] at e;cases e
end L2
namespace L2
open PySem PySem.Spec PyProof.Rows
structure Mod (K:PySem.W.Frag) (mg:Str->Option Value) (base:Heap):Prop where
 kin:K.In base
 glob:base.Ns mainGlobals mg
 blt:∃mb,base.Ns builtinsNs mb/\∀x:Str,x ≠ "__name__"->mb x=bootBuiltins x
 nolimit:base.NoLimit
/-- the context: a def's body (or a comprehension's block) running. base: fixed through the whole law; s₀, H₀: the entry; outer: the frames whose slots others may change (a def's callers); stack: all frames that run;
   ex: iterators that were made ahead of the entry and are walked here (a comprehension's); fn: the names whose cells were made at the entry (a def: all; a comprehension's block: its own); calm: not within an except suite; pn: pins that every state bears; xe: what is wanted of an exception that leaves the code -/
structure Cx where
 prog:Program
 w:World
 K:PySem.W.Frag
 mg:Str->Option Value
 base:Heap
 A:Around
 N:List Str
 s₀:Shared
 H₀:Hp
 env:Env
 outer:List Env
 stack:List Env
 ex:List Addr
 fn:Str->Bool
 calm:Bool
 pn:List (Addr×Obj)
 xe:Value->Shared->Prop
def frs (l:List Env):List Addr:=l.filterMap (·.frame)
abbrev Cx.fs (X:Cx):List Addr:=frs X.outer
noncomputable def Vis (sc:Scope) (x:Str):Prop:=sc.names.lookup x=some .local\/sc.names.lookup x=some .cell\/sc.names.lookup x=some .free
noncomputable def Loc (sc:Scope) (x:Str):Prop:=sc.names.lookup x=some .local\/sc.names.lookup x=some .cell
noncomputable def Look (env:Env) (h:Heap) (m:Str->Option Value) (x:Str) (u:Value):Prop:=
 (env.kindOf x=some .local/\m x=some u)\/((env.kindOf x=some .cell\/env.kindOf x=some .free)/\∃c,env.cells.lookup x=some c/\h.IsCell c (some u))
structure Cx.Ok (X:Cx):Prop where
 mod:Mod X.K X.mg X.base
 kind:X.env.scope.kind=.function
 glob:X.env.globals=mainGlobals
 blt:X.env.builtins=builtinsNs
 above:X.s₀.heap.objs.size<=X.env.locals
 inj:∀x y c,X.env.cells.lookup x=some c->X.env.cells.lookup y=some c->x=y
 has:∀x,(X.env.kindOf x=some .cell\/X.env.kindOf x=some .free)->∃c,X.env.cells.lookup x=some c
 cab:∀x c,X.fn x=true->X.env.cells.lookup x=some c->X.s₀.heap.objs.size<=c
 hd:X.calm=true->X.A.handled=none
 frames:X.A.frames=some X.stack
 stk:X.stack=X.outer\/(X.stack=X.env::X.outer/\X.env.frame=some X.env.locals)
 exf:∀b∈X.ex,b≠X.env.locals/\∀x c,X.env.cells.lookup x=some c->c≠b
 bs:∀b o,X.base.get? b=some o->X.s₀.heap.get? b=some o/\X.H₀ b=none
 bsz:X.base.objs.size<=X.s₀.heap.objs.size
 noex:∀b o,X.base.get? b=some o->b∉X.ex
 exfs:∀b∈X.ex,b∉X.fs
 yW:X.s₀.heap.FunFrames X.base X.outer
 frf:∀b∈X.fs,X.H₀ b=none
structure Inv (X:Cx) (pins:List (Addr×Obj)) (σ:List (Option V)) (H:Hp) (s:Shared):Prop where
 ok:X.Ok
 os:s.os=X.s₀.os
 bare:AllBare s.gens
 base:Un X.fs X.ex X.H₀ H X.s₀.heap s.heap
 loc:∃m,s.heap.Ns X.env.locals m/\∀(i:Nat) (x:Str) (v:V),X.N[i]?=some x->σ[i]?=some (some v)->Vis X.env.scope x->∃u,RelV v u/\Look X.env s.heap m x u
 cell:∀x c,X.env.cells.lookup x=some c->∃v,s.heap.IsCell c v
 free:H X.env.locals=none
 freeC:∀x c,X.env.cells.lookup x=some c->H c=none
 pin:∀p∈X.pn++pins,s.heap.get? p.1=some p.2/\H p.1=none/\p.1≠X.env.locals/\p.1∉X.fs/\∀v,p.2.data≠.cell v
 hok:HOk X.prog X.w H s.heap
 len:σ.length=X.N.length
section
variable {X:Cx} {pins:List (Addr×Obj)} {σ:List (Option V)} {H H':Hp} {s:Shared} {h':Heap}
theorem Cx.Ok.aFt (ok:X.Ok) {b:Addr} {o:Obj} (e:X.base.get? b=some o):b∉X.fs:=fun hb=>by
 have:=(ok.yW.mem hb).1;rw [e] at this;cases this
theorem Inv.bs (I:Inv X pins σ H s):∀b o,X.base.get? b=some o->s.heap.get? b=some o/\H b=none:=fun b o e=>
 ⟨I.base.keep b o (I.ok.bs b o e).1 (I.ok.bs b o e).2 (I.ok.aFt e) (I.ok.noex b o e),I.base.free b o (I.ok.bs b o e).1 (I.ok.bs b o e).2 (I.ok.noex b o e)⟩
theorem Inv.bk (I:Inv X pins σ H s):∀b o,X.base.get? b=some o->s.heap.get? b=some o:=fun b o e=>(I.bs b o e).1
theorem Inv.mod (I:Inv X pins σ H s):Mod X.K X.mg X.base:=I.ok.mod
theorem Inv.kIn (I:Inv X pins σ H s):X.K.In s.heap:=I.ok.mod.kin.keeps I.bk
theorem Inv.lt (I:Inv X pins σ H s):X.env.locals<s.heap.objs.size:=let ⟨_,hn,_⟩:=I.loc;hn.lt
theorem Inv.sz (I:Inv X pins σ H s):X.s₀.heap.objs.size<=s.heap.objs.size:=Nat.le_trans I.ok.above (Nat.le_of_lt I.lt)
theorem Inv.aF0 (I:Inv X pins σ H s) {a:Addr} (h:s.heap.objs.size<=a):a∉X.fs:=fun hb=>by
 obtain ⟨_,o,ho,_⟩:=I.ok.yW.mem hb;exact absurd (Nat.lt_of_lt_of_le (Heap.lt_size ho) (Nat.le_trans I.sz h)) (Nat.lt_irrefl _)
theorem Inv.cne (I:Inv X pins σ H s):∀x c,X.env.cells.lookup x=some c->c≠X.env.locals:=fun x c e z=>by
 obtain ⟨v,o,ho,hd⟩:=I.cell x c e;obtain ⟨m,⟨o',es,ep,ho',hd',_⟩,_⟩:=I.loc;rw [z,ho'] at ho;cases ho;rw [hd'] at hd;cases hd
theorem Inv.yW (I:Inv X pins σ H s):s.heap.FunFrames X.base X.outer:=by
 have all:∀(l:List Env),(∀b∈frs l,b∈X.fs)->X.s₀.heap.FunFrames X.base l->s.heap.FunFrames X.base l:=by
  intro l;induction l with
  | nil=>intro _ _;trivial
  | cons env r ih=>
   intro hs hl;obtain ⟨hk,⟨L,o,hf,hn,ho,hd⟩,hr⟩:=hl;have hL:L∈X.fs:=hs L (by unfold frs;rw [List.filterMap_cons,hf];exact List.mem_cons_self);obtain ⟨sl,e⟩:=I.base.slot L o ho (I.ok.frf L hL) hL fun z=>I.ok.exfs L z hL
   exact ⟨hk,⟨L,_,hf,hn,e,hd⟩,ih (fun b hb=>hs b (by unfold frs;rw [List.filterMap_cons,hf];exact List.mem_cons_of_mem _ hb)) hr⟩
 exact all X.outer (fun _ hb=>hb) I.ok.yW
theorem Inv.stack (I:Inv X pins σ H s):s.heap.FunFrames X.base X.stack:=by
 rcases I.ok.stk with e|⟨e,hf⟩
 ·rw [e];exact I.yW
 ·rw [e];obtain ⟨m,hn,_⟩:=I.loc;refine .cons (by rw [I.ok.kind];decide) hf hn ?_ I.yW;exact Heap.get?_none_of_le (Nat.le_trans I.ok.bsz I.ok.above)
theorem Inv.wF (I:Inv X pins σ H s):∀b∈frs X.stack,b∈X.env.locals::X.fs:=fun b hb=>by
 rcases I.ok.stk with e|⟨e,hf⟩
 ·rw [e] at hb;exact List.mem_cons_of_mem _ hb
 ·rw [e] at hb;unfold frs at hb;rw [List.filterMap_cons,hf] at hb;exact hb
theorem Inv.uX (I:Inv X pins σ H s):∀b∈frs X.stack,H b=none:=fun b hb=>by
 rcases List.mem_cons.mp (I.wF b hb) with e|hb
 ·rw [e];exact I.free
 ·obtain ⟨_,o,ho,_⟩:=I.ok.yW.mem hb;exact I.base.free b o ho (I.ok.frf b hb) fun z=>I.ok.exfs b z hb
theorem Inv.step {g':Array GenState} {t':Nat} {d':Drawn} {ch:List Addr} (I:Inv X pins σ H s)
  (hch:∀b∈ch,(b∈X.ex\/X.s₀.heap.objs.size<=b)/\b≠X.env.locals/\(∀x c,X.env.cells.lookup x=some c->c≠b)/\∀p∈X.pn++pins,p.1≠b)
  (keep:∀b o,b≠X.env.locals->b∉X.fs->b∉ch->s.heap.get? b=some o->H b=none->h'.get? b=some o)
  (slot:∀b o,b≠X.env.locals->b∈X.fs->b∉ch->s.heap.get? b=some o->H b=none->∃sl,h'.get? b=some {o with slots:=sl}) (free:∀b o,b∉ch->s.heap.get? b=some o->H b=none->H' b=none)
  (there:∀b o,b∉ch->s.heap.get? b=some o->∃o',h'.get? b=some o')
  (tups:∀b xs,H b=some (.tup xs)->H' b=some (.tup xs)) (frzs:∀b o u,H b=some (.frz o u)->H' b=some (.frz o u)) (tbls:∀b ps,H b=some (.tbl ps)->∃more,H' b=some (.tbl (ps++more)))
  (ns:∀m,s.heap.Ns X.env.locals m->h'.Ns X.env.locals m) (hok:HOk X.prog X.w H' h') (hg:AllBare g') :
  Inv X pins σ H' {s with heap:=h',gens:=g',drawn:=d',toks:=t'}:=by
 have neL:∀b o,X.s₀.heap.get? b=some o->b≠X.env.locals:=fun b o e=>Nat.ne_of_lt (Nat.lt_of_lt_of_le (Heap.lt_size e) I.ok.above)
 have neC:∀b o,X.s₀.heap.get? b=some o->b∉X.ex->b∉ch:=fun b o e hx hb=>by
  rcases (hch b hb).1 with z|z
  ·exact hx z
  ·exact absurd (Nat.lt_of_lt_of_le (Heap.lt_size e) z) (Nat.lt_irrefl _)
 have cellK:∀x c,X.env.cells.lookup x=some c->∀v,s.heap.IsCell c v->h'.IsCell c v:=fun x c e v ⟨o,ho,hd⟩=>by
  have nch:c∉ch:=fun z=>(hch c z).2.2.1 x c e rfl
  by_cases hc:c∈X.fs
  ·obtain ⟨sl,q⟩:=slot c o (I.cne x c e) hc nch ho (I.freeC x c e);exact ⟨_,q,hd⟩
  ·exact ⟨o,keep c o (I.cne x c e) hc nch ho (I.freeC x c e),hd⟩
 refine ⟨I.ok,I.os,hg,⟨fun b o e n hb hx=>?_,fun b o e n hb hx=>?_,fun b o e n hx=>?_,fun b o e hx=>?_,fun b xs e=>tups b xs (I.base.tups b xs e),fun b o xs e=>frzs b o xs (I.base.frzs b o xs e),fun b ps e=>?_⟩,?_,fun x c e=>?_,?_,fun x c e=>?_,fun p hp=>?_,hok,I.len⟩
 ·exact keep b o (neL b o e) hb (neC b o e hx) (I.base.keep b o e n hb hx) (I.base.free b o e n hx)
 ·obtain ⟨sl,e1⟩:=I.base.slot b o e n hb hx;obtain ⟨sl',e2⟩:=slot b _ (neL b o e) hb (neC b o e hx) e1 (I.base.free b o e n hx);exact ⟨sl',e2⟩
 ·obtain ⟨o',e1⟩:=I.base.there b o e hx;exact free b o' (neC b o e hx) e1 (I.base.free b o e n hx)
 ·obtain ⟨o',e1⟩:=I.base.there b o e hx;exact there b o' (neC b o e hx) e1
 ·obtain ⟨m1,e1⟩:=I.base.tbls b ps e;obtain ⟨m2,e2⟩:=tbls b _ e1;exact ⟨m1++m2,by rw [e2,Array.append_assoc]⟩
 ·obtain ⟨m,hn,hl⟩:=I.loc;refine ⟨m,ns m hn,fun i x v e1 e2 e3=>?_⟩;obtain ⟨u,r,l⟩:=hl i x v e1 e2 e3;refine ⟨u,r,?_⟩;rcases l with l|⟨k,c,e,z⟩
  ·exact .inl l
  ·exact .inr ⟨k,c,e,cellK x c e _ z⟩
 ·obtain ⟨v,z⟩:=I.cell x c e;exact ⟨v,cellK x c e v z⟩
 ·obtain ⟨m,⟨o,_,_,ho,_⟩,_⟩:=I.loc;exact free _ o (fun z=>(hch _ z).2.1 rfl) ho I.free
 ·obtain ⟨v,o,ho,hd⟩:=I.cell x c e;exact free c o (fun z=>(hch c z).2.2.1 x c e rfl) ho (I.freeC x c e)
 ·obtain ⟨e,n,ne,nf,d⟩:=I.pin p hp;have nch:p.1∉ch:=fun z=>(hch p.1 z).2.2.2 p hp rfl
  exact ⟨keep p.1 p.2 ne nf nch e n,free p.1 p.2 nch e n,ne,nf,d⟩
theorem Inv.un {t':Nat} (I:Inv X pins σ H s) (u:Un X.fs [] H H' s.heap h') (hok:HOk X.prog X.w H' h'):Inv X pins σ H' {s with heap:=h',toks:=t'}:=by
 obtain ⟨m,⟨o,es,ep,ho,r⟩,_⟩:=id I.loc;obtain ⟨sl,hL⟩:=u.any ho I.free (by simp);exact I.step (g':=s.gens) (d':=s.drawn) (ch:=[]) (fun _ z=>nomatch z) (fun b o _ hb _ e n=>u.keep b o e n hb (by simp)) (fun b o _ hb _ e n=>u.slot b o e n hb (by simp)) (fun b o _ e n=>u.free b o e n (by simp)) (fun b o _ e=>u.there b o e (by simp)) u.tups u.frzs u.tbls (fun m' hm=>by
  obtain ⟨o',es',ep',ho',r'⟩:=hm;rw [ho] at ho';cases ho';exact ⟨_,es',ep',hL,r'⟩) hok I.bare
theorem Inv.call {g':Array GenState} {t':Nat} {d':Drawn} {ch:List Addr} (I:Inv X pins σ H s) (u:Un (frs X.stack) ch H H' s.heap h') (hok:HOk X.prog X.w H' h') (hg:AllBare g')
  (hch:∀b∈ch,(b∈X.ex\/X.s₀.heap.objs.size<=b)/\b≠X.env.locals/\(∀x c,X.env.cells.lookup x=some c->c≠b)/\∀p∈X.pn++pins,p.1≠b) :
  Inv X pins σ H' {s with heap:=h',gens:=g',drawn:=d',toks:=t'}:=by
 obtain ⟨m,⟨o,es,ep,ho,r⟩,_⟩:=id I.loc;obtain ⟨sl,hL⟩:=u.any ho I.free fun z=>(hch _ z).2.1 rfl
 exact I.step (ch:=ch) hch (fun b o hL hb hc e n=>u.keep b o e n (fun z=>(List.mem_cons.mp (I.wF b z)).elim hL hb) hc) (fun b o _ _ hc e n=>u.any e n hc) (fun b o hc e n=>u.free b o e n hc) (fun b o hc e=>u.there b o e hc) u.tups u.frzs u.tbls (fun m' hm=>by
  obtain ⟨o',es',ep',ho',r'⟩:=hm;rw [ho] at ho';cases ho';exact ⟨_,es',ep',hL,r'⟩) hok hg
theorem Inv.turned {t':Nat} {it:Addr} (I:Inv X pins σ H s) (k:∀b o,b≠it->s.heap.get? b=some o->h'.get? b=some o) (hn:H it=none) (hL:it≠X.env.locals)
  (h1:it∈X.ex\/X.s₀.heap.objs.size<=it) (h2:∀x c,X.env.cells.lookup x=some c->c≠it) (h3:∀p∈X.pn++pins,p.1≠it):Inv X pins σ H {s with heap:=h',toks:=t'}:=by
 have nit:∀b u,H b=some u->b≠it:=fun b u e z=>by rw [z,hn] at e;cases e
 refine I.step (g':=s.gens) (d':=s.drawn) (ch:=[it]) (fun b hb=>?_) (fun b o _ _ hc e _=>k b o (fun z=>hc (by simp [z])) e) (fun b o _ _ hc e _=>⟨o.slots,k b o (fun z=>hc (by simp [z])) e⟩) (fun _ _ _ _ n=>n)
  (fun b o hc e=>⟨o,k b o (fun z=>hc (by simp [z])) e⟩) (fun _ _ e=>e) (fun _ _ _ e=>e) (fun b ps e=>⟨#[],by rw [e];simp⟩) (fun m hm=>?_) (fun b u e=>?_) I.bare
 ·have e:b=it:=by simpa using hb
  subst e;exact ⟨h1,hL,h2,h3⟩
 ·obtain ⟨o,es,ep,ho,r⟩:=hm;exact ⟨o,es,ep,k _ o (Ne.symm hL) ho,r⟩
 ·refine (I.hok b u e).stay (fun c v hc q=>k c v ?_ q) (fun _ q=>q) fun _ _ q=>q
  rcases hc with z|z
  ·rw [z];exact nit b u e
  ·exact nit c _ z
theorem Inv.tok (I:Inv X pins σ H s) (t:Nat):Inv X pins σ H {s with toks:=t}:=I.un (h':=s.heap) (t':=t) Un.refl I.hok
theorem Inv.kept {t':Nat} (I:Inv X pins σ H s) (k:∀b u,s.heap.get? b=some u->h'.get? b=some u):Inv X pins σ H {s with heap:=h',toks:=t'}:=I.un (Un.kept k) (I.hok.kept k)
theorem Inv.laid {a:Addr} {o:HO} {t':Nat} (I:Inv X pins σ H s) (k:∀b u,s.heap.get? b=some u->h'.get? b=some u) (hp:s.heap.objs.size<=a) (new:dX X.prog X.w (upd H a o) h' a o) :
  Inv X pins σ (upd H a o) {s with heap:=h',toks:=t'}:=I.un (Un.laid k hp (I.hok.fresh hp)) (I.hok.laid k hp new)
theorem Inv.write {x e:Addr} {o:HO} {t':Nat} (I:Inv X pins σ H s) (mu:Mut (H x)) (he:e=x\/H e=some (.own x)) (k:∀b u,b≠e->s.heap.get? b=some u->h'.get? b=some u) (heo:∃u,h'.get? e=some u)
  (new:dX X.prog X.w (upd H x o) h' x o):Inv X pins σ (upd H x o) {s with heap:=h',toks:=t'}:=I.un (Un.write mu he k heo) (I.hok.write mu he k heo new)
theorem Inv.weak {σ':List (Option V)} (I:Inv X pins σ H s) (hl:σ'.length=σ.length) (w:∀(i:Nat) v,σ'[i]?=some (some v)->σ[i]?=some (some v)):Inv X pins σ' H s:=
 ⟨I.ok,I.os,I.bare,I.base,let ⟨m,hn,hl'⟩:=I.loc;⟨m,hn,fun i x v e1 e2 e3=>hl' i x v e1 (w i v e2) e3⟩,I.cell,I.free,I.freeC,I.pin,I.hok,hl.trans I.len⟩
theorem Inv.uY {pins':List (Addr×Obj)} (I:Inv X pins σ H s) (h:∀p∈pins',s.heap.get? p.1=some p.2/\H p.1=none/\p.1≠X.env.locals/\p.1∉X.fs/\∀v,p.2.data≠.cell v):Inv X pins' σ H s:=
 ⟨I.ok,I.os,I.bare,I.base,I.loc,I.cell,I.free,I.freeC,fun p hp=>(List.mem_append.mp hp).elim (fun z=>I.pin p (List.mem_append_left _ z)) (h p),I.hok,I.len⟩
theorem p_ {N:List Str} (hN:N.Nodup) {i j:Nat} {x:Str} (a:N[i]?=some x) (b:N[j]?=some x):i=j:=by
 obtain ⟨h1,e1⟩:=List.getElem?_eq_some_iff.mp a;obtain ⟨h2,e2⟩:=List.getElem?_eq_some_iff.mp b;exact (List.getElem_inj hN).mp (e1.trans e2.symm)
theorem rW {M:Model} {A:Around} {E:Value->Shared->Prop} {i:Nat} {x:Str} {v:V} {u:Value} {Q:Unit->Shared->Prop} (I:Inv X pins σ H s) (hN:X.N.Nodup) (hi:X.N[i]?=some x) (hx:Loc X.env.scope x) (r:RelV v u)
  (h:∀s',Inv X pins (σ.set i (some v)) H s'->(∃a,Heap.SameBut a s.heap s'.heap/\(a=X.env.locals\/X.env.cells.lookup x=some a))->Q () s') (hf:X.fn x=true\/X.env.scope.names.lookup x=some .local:=by first|exact .inl rfl|exact .inr rfl|assumption):wpAny M A (storeName X.env x u) Q E s:=by
 obtain ⟨m,hn,hl⟩:=id I.loc;have hcls:(X.env.scope.kind==.class||(X.env.scope.kind==.module&&X.env.locals != X.env.globals))=false:=by rw [I.ok.kind];rfl
 have hiσ:i<σ.length:=by rw [I.len];exact (List.getElem?_eq_some_iff.mp hi).1
 have cne:=I.cne;have tracked:∀{a:Addr} {h':Heap},(∃o,s.heap.get? a=some o/\H a=none)->Heap.SameBut a s.heap h'->HOk X.prog X.w H h':=fun {a h'} ha hs b ob e=>by
  obtain ⟨_,_,hfree⟩:=ha;refine (I.hok b ob e).stay (fun c w' hc q=>(hs.2 c ?_).trans q) (fun _ q=>q) fun _ _ q=>q
  rintro rfl;rcases hc with rfl|hc
  ·rw [hfree] at e;cases e
  ·rw [hfree] at hc;cases hc
 rcases hx with hk|hk
 ·refine wpAny_storeName_local hk hn (fun h' hn' hs=>?_) hcls;obtain ⟨oL,_,_,hoL,_⟩:=id hn;refine h _ ⟨I.ok,I.os,I.bare,⟨fun b o e n hb hx=>?_,fun b o e n hb hx=>?_,I.base.free,fun b o e hx=>?_,I.base.tups,I.base.frzs,I.base.tbls⟩,⟨_,hn',fun j y v' e1 e2 e3=>?_⟩,fun y c e=>?_,I.free,I.freeC,fun p hp=>?_,tracked ⟨oL,hoL,I.free⟩ hs,by simpa using I.len⟩ ⟨_,hs,.inl rfl⟩
  ·exact (hs.2 b (Nat.ne_of_lt (Nat.lt_of_lt_of_le (Heap.lt_size e) I.ok.above))).trans (I.base.keep b o e n hb hx)
  ·obtain ⟨sl,e1⟩:=I.base.slot b o e n hb hx;exact ⟨sl,(hs.2 b (Nat.ne_of_lt (Nat.lt_of_lt_of_le (Heap.lt_size e) I.ok.above))).trans e1⟩
  ·obtain ⟨o',e1⟩:=I.base.there b o e hx;exact ⟨o',(hs.2 b (Nat.ne_of_lt (Nat.lt_of_lt_of_le (Heap.lt_size e) I.ok.above))).trans e1⟩
  ·by_cases hj:j=i
   ·subst hj;rw [hi] at e1;cases e1;rw [List.getElem?_set_self hiσ] at e2;cases e2;exact ⟨u,r,.inl ⟨hk,by simp⟩⟩
   ·rw [List.getElem?_set_ne (Ne.symm hj)] at e2;obtain ⟨u',r',q⟩:=hl j y v' e1 e2 e3;refine ⟨u',r',?_⟩;rcases q with ⟨k,e⟩|⟨k,c,e,z⟩
    ·refine .inl ⟨k,?_⟩;have:y≠x:=fun e=>hj (p_ hN e1 (e▸hi))
     simp [this,e]
    ·exact .inr ⟨k,c,e,z.sameBut hs (cne y c e)⟩
  ·obtain ⟨w',z⟩:=I.cell y c e;exact ⟨w',z.sameBut hs (cne y c e)⟩
  ·obtain ⟨e,n,ne,nf,d⟩:=I.pin p hp;exact ⟨(hs.2 p.1 ne).trans e,n,ne,nf,d⟩
 ·have hfn:X.fn x=true:=by
   rcases hf with z|z
   ·exact z
   ·rw [z] at hk;cases hk
  obtain ⟨c,hc⟩:=I.ok.has x (.inl hk);obtain ⟨w',z⟩:=I.cell x c hc;refine wpAny_storeName_cell I.ok.kind hk hc z (fun h' hc' hs=>?_);obtain ⟨oc,hoc,hocd⟩:=id z;refine h {s with heap:=h'} ⟨I.ok,I.os,I.bare,⟨fun b o e n hb hx=>?_,fun b o e n hb hx=>?_,I.base.free,fun b o e hx=>?_,I.base.tups,I.base.frzs,I.base.tbls⟩,⟨m,hn.sameBut hs (Ne.symm (cne x c hc)),fun j y v' e1 e2 e3=>?_⟩,fun y c' e=>?_,I.free,I.freeC,fun p hp=>?_,tracked ⟨oc,hoc,I.freeC x c hc⟩ hs,by simpa using I.len⟩ ⟨c,hs,.inr hc⟩
  ·exact (hs.2 b (Nat.ne_of_lt (Nat.lt_of_lt_of_le (Heap.lt_size e) (I.ok.cab x c hfn hc)))).trans (I.base.keep b o e n hb hx)
  ·obtain ⟨sl,e1⟩:=I.base.slot b o e n hb hx;exact ⟨sl,(hs.2 b (Nat.ne_of_lt (Nat.lt_of_lt_of_le (Heap.lt_size e) (I.ok.cab x c hfn hc)))).trans e1⟩
  ·obtain ⟨o',e1⟩:=I.base.there b o e hx;exact ⟨o',(hs.2 b (Nat.ne_of_lt (Nat.lt_of_lt_of_le (Heap.lt_size e) (I.ok.cab x c hfn hc)))).trans e1⟩
  ·by_cases hj:j=i
   ·subst hj;rw [hi] at e1;cases e1;rw [List.getElem?_set_self hiσ] at e2;cases e2;exact ⟨u,r,.inr ⟨.inl hk,c,hc,hc'⟩⟩
   ·rw [List.getElem?_set_ne (Ne.symm hj)] at e2;obtain ⟨u',r',q⟩:=hl j y v' e1 e2 e3;refine ⟨u',r',?_⟩;rcases q with q|⟨k,c',e,z'⟩
    ·exact .inl q
    ·refine .inr ⟨k,c',e,z'.sameBut hs ?_⟩;rintro rfl;exact hj (p_ hN e1 (I.ok.inj _ _ _ e hc▸hi))
  ·by_cases hcc:c'=c
   ·subst hcc;exact ⟨_,hc'⟩
   ·obtain ⟨w2,z2⟩:=I.cell y c' e;exact ⟨w2,z2.sameBut hs hcc⟩
  ·obtain ⟨e,n,ne,nf,d⟩:=I.pin p hp;refine ⟨(hs.2 p.1 ?_).trans e,n,ne,nf,d⟩;intro q;rw [q,hoc] at e;have q':oc=p.2:=Option.some.inj e;exact d w' (by rw [<-q'];exact hocd)
theorem wG {M:Model} {A:Around} {E:Value->Shared->Prop} {i:Nat} {x:Str} {v:V} {u:Value} {Q:Unit->Shared->Prop} (I:Inv X pins σ H s) (hN:X.N.Nodup) (hi:X.N[i]?=some x) (hx:Loc X.env.scope x) (r:RelV v u)
  (h:∀s',Inv X pins (σ.set i (some v)) H s'->Q () s') (hf:X.fn x=true\/X.env.scope.names.lookup x=some .local:=by first|exact .inl rfl|exact .inr rfl|assumption):wpAny M A (storeName X.env x u) Q E s:=
 rW I hN hi hx r (fun s' I' _=>h s' I') hf
theorem Inv.call' {s':Shared} {ch:List Addr} (I:Inv X pins σ H s) (ho:s'.os=s.os) (u:Un (frs X.stack) ch H H' s.heap s'.heap) (hok:HOk X.prog X.w H' s'.heap) (hg:AllBare s'.gens)
  (hch:∀b∈ch,(b∈X.ex\/X.s₀.heap.objs.size<=b)/\b≠X.env.locals/\(∀x c,X.env.cells.lookup x=some c->c≠b)/\∀p∈X.pn++pins,p.1≠b):Inv X pins σ H' s':=by
 obtain ⟨h',g',d',t',o'⟩:=s';have e:o'=s.os:=ho;subst e;exact I.call (g':=g') (t':=t') (d':=d') u hok hg hch
end
abbrev XK:=Value->Option Addr->Hp->Prop
abbrev St:=List (Option V)
abbrev VK:=V->Hp->Prop
abbrev TE:=St->Hp->VK->Prop
abbrev TT:=St->Hp->(Bool->Hp->Prop)->Prop
abbrev TA:=St->Hp->(List V->Hp->Prop)->Prop
structure Ends where
 nx:St->Hp->Prop
 rt:VK
 bk:St->Hp->Prop:=fun _ _=>False
 ct:St->Hp->Prop:=fun _ _=>False
abbrev TS:=Ends->St->Hp->Prop
noncomputable def EP (X:Cx) (pins:List (Addr×Obj)) (σ:St) (Q:VK) (u:Value) (s':Shared):Prop:=∃v H',Inv X pins σ H' s'/\RelV v u/\Q v H'
noncomputable def TP (X:Cx) (pins:List (Addr×Obj)) (σ:St) (Q:Bool->Hp->Prop) (b:Bool) (s':Shared):Prop:=∃H',Inv X pins σ H' s'/\Q b H'
noncomputable def AP (X:Cx) (pins:List (Addr×Obj)) (σ:St) (Q:List V->Hp->Prop) (us:List Value) (s':Shared):Prop:=∃vs H',Inv X pins σ H' s'/\Vals vs us/\Q vs H'
noncomputable def SP (X:Cx) (pins:List (Addr×Obj)) (D:Ends) (f:Flow) (s':Shared):Prop:=
 match f with
 | .next=>∃σ' H',Inv X pins σ' H' s'/\D.nx σ' H'
 | .brk=>∃σ' H',Inv X pins σ' H' s'/\D.bk σ' H'
 | .cont=>∃σ' H',Inv X pins σ' H' s'/\D.ct σ' H'
 | .ret u=>∃v σ' H',Inv X pins σ' H' s'/\RelV v u/\D.rt v H'
noncomputable def PE (X:Cx) (e:Expr) (t:TE):Prop:=
 ∀(pins:List (Addr×Obj)) (s:Shared) (σ:St) (H:Hp) (Q:VK),Inv X pins σ H s->t σ H Q->wpAny (model X.prog X.w) X.A (eval e X.env) (EP X pins σ Q) X.xe s
noncomputable def PT (X:Cx) (e:Expr) (t:TT):Prop:=
 ∀(pins:List (Addr×Obj)) (s:Shared) (σ:St) (H:Hp) (Q:Bool->Hp->Prop),Inv X pins σ H s->t σ H Q->wpAny (model X.prog X.w) X.A (isTrue e X.env (eval e X.env)) (TP X pins σ Q) X.xe s
noncomputable def PW (X:Cx) (e:Expr) (t:TT):Prop:=
 ∀(whole:Sem Value) (pins:List (Addr×Obj)) (s:Shared) (σ:St) (H:Hp) (Q:Bool->Hp->Prop),Inv X pins σ H s->t σ H Q->wpAny (model X.prog X.w) X.A (isTrue e X.env whole) (TP X pins σ Q) X.xe s
theorem PW.pt {X:Cx} {e:Expr} {t:TT} (h:PW X e t):PT X e t:=h _
noncomputable def PA (X:Cx) (es:List Expr) (t:TA):Prop:=
 ∀(pos:Pos) (pins:List (Addr×Obj)) (s:Shared) (σ:St) (H:Hp) (Q:List V->Hp->Prop),Inv X pins σ H s->t σ H Q->wpAny (model X.prog X.w) X.A (spliced (backTo pos (starEach es X.env))) (AP X pins σ Q) X.xe s
noncomputable def PS (X:Cx) (st:Stmt) (t:TS):Prop:=
 ∀(pins:List (Addr×Obj)) (s:Shared) (σ:St) (H:Hp) (D:Ends),Inv X pins σ H s->t D σ H->wpAny (model X.prog X.w) X.A (exec st X.env) (SP X pins D) X.xe s
noncomputable def PSs (X:Cx) (st:List Stmt) (t:TS):Prop:=
 ∀(pins:List (Addr×Obj)) (s:Shared) (σ:St) (H:Hp) (D:Ends),Inv X pins σ H s->t D σ H->wpAny (model X.prog X.w) X.A (execs st X.env) (SP X pins D) X.xe s
theorem thn {α:Type} {t:Sem α} {Q Q':α->Shared->Prop} {M:Model} {A:Around} {E:Value->Shared->Prop} {s:Shared} (h:wpAny M A t Q E s) (hQ:∀a s,Q a s->Q' a s):wpAny M A t Q' E s:=wpAny_mono h hQ fun _ _ x=>x
end L2
namespace L2
open PySem PySem.Spec PyProof.Rows
section
variable {X:Cx}
theorem bin {a b:Expr} {ta tb:TE} (ha:PE X a ta) (hb:PE X b tb) {pins:List (Addr×Obj)} {s:Shared} {σ:St} {H:Hp} {R:V->V->Hp->Prop} (I:Inv X pins σ H s) (h:ta σ H fun x H1=>tb σ H1 fun y H2=>R x y H2)
  {α:Type} {Q:α->Shared->Prop} {f:Value->Value->Sem α}
  (hf:∀v u s2 x y H2,Inv X pins σ H2 s2->RelV x v->RelV y u->R x y H2->wpAny (model X.prog X.w) X.A (f v u) Q X.xe s2) :
  wpAny (model X.prog X.w) X.A (eval a X.env) (fun v s₁=>wpAny (model X.prog X.w) X.A (eval b X.env) (fun u s₂=>wpAny (model X.prog X.w) X.A (f v u) Q X.xe s₂) X.xe s₁) X.xe s:=by
 refine thn (ha pins s σ H _ I h) fun v s1 ⟨x,H1,I1,r1,q1⟩=>?_
 refine thn (hb pins s1 σ H1 _ I1 q1) fun u s2 ⟨y,H2,I2,r2,q2⟩=>?_
 exact hf v u s2 x y H2 I2 r1 r2 q2
def dY (i:Nat):TE:=fun σ H Q=>∃v,σ[i]?=some (some v)/\Q v H
def tC (v:V):TE:=fun _ H Q=>Q v H
theorem aN {i:Nat} {x:Str} {pos:Pos} (hN:X.N[i]?=some x) (hv:Vis X.env.scope x) (hd:nDb x:=by decide) (hcd:nCd x:=by decide):PE X (.Name x pos) (dY i):=by
 intro pins s σ H Q I h;obtain ⟨v,e,h⟩:=h;obtain ⟨m,hn,hl⟩:=I.loc;obtain ⟨u,r,l⟩:=hl i x v hN e hv;have fin:EP X pins σ Q u s:=⟨v,H,I,r,h⟩
 rcases l with ⟨hk,hm⟩|⟨hk,c,hc,hcell⟩
 ·exact wpAny_Name (wpAny_loadName_local I.ok.kind hk hn hm fin) hd
 ·rcases hk with hk|hk
  ·exact wpAny_Name (wpAny_loadName_cell I.ok.kind hk hc hcell fin) hd
  ·exact wpAny_Name (wpAny_loadName_free I.ok.kind hk hc hcell fin hcd) hd
theorem lA {i j pos}:PE X (.Constant (.int i) j pos) (tC (.int i)):=fun _ _ _ H _ I h=>wpAny_Constant_int ⟨.int i,H,I.tok _,⟨_,rfl⟩,h⟩
theorem aDe {b j pos}:PE X (.Constant (.bool b) j pos) (tC (.bl b)):=fun _ _ _ H _ I h=>Constant_bool ⟨.bl b,H,I,rfl,h⟩
theorem aA0 {j pos}:PE X (.Constant .none j pos) (tC .non):=fun _ _ _ H _ I h=>Constant_none ⟨.non,H,I,rfl,h⟩
theorem SM {x j pos}:PE X (.Constant (.str x) j pos) (tC (.str x)):=fun _ _ _ H _ I h=>Calls.Constant_str ⟨.str x,H,I.tok _,⟨_,rfl⟩,h⟩
def Gl (X:Cx) (x:Str):Prop:=X.env.kindOf x=some .globalImplicit
theorem nC {E:Value->Shared->Prop} {pins:List (Addr×Obj)} {s:Shared} {σ:St} {H:Hp} {x:Str} {u:Value} {pos:Pos} {Q:Value->Shared->Prop} (I:Inv X pins σ H s) (hg:Gl X x) (hm:X.mg x=some u) (h:Q u s)
  (hd:nDb x:=by decide):wpAny (model X.prog X.w) X.A (eval (.Name x pos) X.env) Q E s:=
 Calls.Name_function_global I.ok.kind hg (Calls.loadGlobal_global (by rw [I.ok.glob];exact I.mod.glob.keeps I.bk) hm h) hd
theorem jA {E:Value->Shared->Prop} {pins:List (Addr×Obj)} {s:Shared} {σ:St} {H:Hp} {x:Str} {u:Value} {pos:Pos} {Q:Value->Shared->Prop} (I:Inv X pins σ H s) (hg:Gl X x) (hm:X.mg x=none) (hv:bootBuiltins x=some u) (h:Q u s)
  (hn:x ≠ "__name__":=by decide) (hd:nDb x:=by decide):wpAny (model X.prog X.w) X.A (eval (.Name x pos) X.env) Q E s:=by
 obtain ⟨mb,h1,h2⟩:=I.mod.blt;exact Calls.Name_function_global I.ok.kind hg (Calls.loadGlobal_builtin (by rw [I.ok.glob];exact I.mod.glob.keeps I.bk) hm (by rw [I.ok.blt];exact h1.keeps I.bk) ((h2 x hn).trans hv) h) hd
theorem VF {x:Str} {v:V} {u:Value} {pos:Pos} (hg:Gl X x) (hm:X.mg x=none) (hv:bootBuiltins x=some u) (r:RelV v u) (hn:x ≠ "__name__":=by decide) (hd:nDb x:=by decide):PE X (.Name x pos) (tC v):=
 fun _ _ _ H _ I h=>jA I hg hm hv ⟨v,H,I,r,h⟩ hn hd
noncomputable def t2I (ta tb:TE) (k:Int->Int->Hp->Prop):St->Hp->Prop:=fun σ H=>ta σ H fun x H1=>tb σ H1 fun y H2=>∃i j,x=.int i/\y=.int j/\k i j H2
noncomputable def ZV (ta tb:TE):TE:=fun σ H Q=>t2I ta tb (fun i j H2=>Q (.int (i+j)) H2) σ H
noncomputable def aDf (ta tb:TE):TE:=fun σ H Q=>t2I ta tb (fun i j H2=>Q (.int (i-j)) H2) σ H
noncomputable def aF1 (ta tb:TE):TE:=fun σ H Q=>t2I ta tb (fun i j H2=>(-(2 ^ 64)<i/\i<2 ^ 64)/\Q (.int (i*j)) H2) σ H
variable {a b:Expr} {ta tb:TE} {pos:Pos}
theorem rY (ha:PE X a ta) (hb:PE X b tb):PE X (.BinOp a .Add b pos) (ZV ta tb):=by
 intro pins s σ H Q I h;refine wpAny_BinOp (bin ha hb I h fun v u s2 x y H2 I2 rx ry q=>?_);obtain ⟨i,j,rfl,rfl,q⟩:=q;obtain ⟨t,rfl⟩:=rx;obtain ⟨t',rfl⟩:=ry;exact add_int ⟨.int _,H2,I2.tok _,⟨_,rfl⟩,q⟩
theorem SN (ha:PE X a ta) (hb:PE X b tb):PE X (.BinOp a .Sub b pos) (aDf ta tb):=by
 intro pins s σ H Q I h;refine wpAny_BinOp (bin ha hb I h fun v u s2 x y H2 I2 rx ry q=>?_);obtain ⟨i,j,rfl,rfl,q⟩:=q;obtain ⟨t,rfl⟩:=rx;obtain ⟨t',rfl⟩:=ry;exact sub_int ⟨.int _,H2,I2.tok _,⟨_,rfl⟩,q⟩
theorem aA1 (ha:PE X a ta) (hb:PE X b tb):PE X (.BinOp a .Mult b pos) (aF1 ta tb):=by
 intro pins s σ H Q I h;refine wpAny_BinOp (bin ha hb I h fun v u s2 x y H2 I2 rx ry q=>?_);obtain ⟨i,j,rfl,rfl,⟨q1,q2⟩,q⟩:=q;obtain ⟨t,rfl⟩:=rx;obtain ⟨t',rfl⟩:=ry;exact mul_int ⟨.int _,H2,I2.tok _,⟨_,rfl⟩,q⟩ (.of_left (intBits_le_64 q1 q2))
noncomputable def PC (X:Cx) (op:CmpOp) (a b:Expr) (t:TE):Prop:=
 ∀(pins:List (Addr×Obj)) (s:Shared) (σ:St) (H:Hp) (Q:VK),Inv X pins σ H s->t σ H Q->
  wpAny (model X.prog X.w) X.A (eval a X.env) (fun v s₁=>wpAny (model X.prog X.w) X.A (eval b X.env) (fun u s₂=>wpAny (model X.prog X.w) X.A (compareOp op v u) (EP X pins σ Q) X.xe s₂) X.xe s₁) X.xe s
theorem NQ (b:Expr) {op:CmpOp} (h:op≠.In) (h2:op≠.NotIn):behindInMarks op b=false:=by
 have e1:(op==CmpOp.In)=false:=by cases op <;> first|rfl|exact absurd rfl h
 have e2:(op==CmpOp.NotIn)=false:=by cases op <;> first|rfl|exact absurd rfl h2
 cases b <;> simp [behindInMarks,e1,e2]
noncomputable def aDg (p:Int->Int->Bool) (ta tb:TE):TE:=fun σ H Q=>t2I ta tb (fun i j H2=>Q (.bl (p i j)) H2) σ H
abbrev tGt:TE->TE->TE:=aDg fun i j=>decide (j<i)
abbrev aDh:TE->TE->TE:=aDg fun i j=>decide (i=j)
theorem SQ {op:CmpOp} {p:Int->Int->Bool} (ha:PE X a ta) (hb:PE X b tb)
  (rule:∀(i j:Int) (t u:Tok) (Q:Value->Shared->Prop) (s:Shared),Q (.bool (p i j)) s->wpAny (model X.prog X.w) X.A (compareOp op (.int i t) (.int j u)) Q X.xe s):PC X op a b (aDg p ta tb):=by
 intro pins s σ H Q I h;refine bin ha hb I h fun v u s2 x y H2 I2 rx ry q=>?_
 obtain ⟨i,j,rfl,rfl,q⟩:=q;obtain ⟨t,rfl⟩:=rx;obtain ⟨t',rfl⟩:=ry;exact rule i j t t' _ s2 ⟨.bl _,H2,I2,rfl,q⟩
theorem aDi (ha:PE X a ta) (hb:PE X b tb):PC X .Gt a b (tGt ta tb):=SQ ha hb fun _ _ _ _ _ _ h=>gt_int h
theorem SX (ha:PE X a ta) (hb:PE X b tb):PC X .Eq a b (aDh ta tb):=SQ ha hb fun _ _ _ _ _ _ h=>eq_int (by rw [Bool.beq_eq_decide_eq];exact h)
def tB (t:TE):TT:=fun σ H Q=>t σ H fun x H1=>∃c,x=.bl c/\Q c H1
theorem DP {op:CmpOp} {t:TE} (h:PC X op a b t) (h1:behindInMarks op b=false:=by first|exact NQ _ (by decide) (by decide)|rfl):PT X (.Compare a [op] [b] pos) (tB t):=by
 intro pins s σ H Q I hw;refine wpAny_isTrue_Compare1 (thn (h pins s σ H _ I hw) fun v s1 h1=>thn h1 fun u s2 h2=>thn h2 fun c s3 ⟨x,H1,I1,r1,q1⟩=>?_) h1;obtain ⟨d,rfl,q⟩:=q1;cases r1;exact wpAny_truthy_bool ⟨H1,I1,q⟩
variable {tA tB':TT} {rest:List Expr}
noncomputable def aFu (t u:TT):TT:=fun σ H Q=>t σ H fun c H1=>if c=true then u σ H1 Q else Q false H1
noncomputable def tOr (t u:TT):TT:=fun σ H Q=>t σ H fun c H1=>if c=true then Q true H1 else u σ H1 Q
def aFv (t:TT):TT:=fun σ H Q=>t σ H fun c H1=>Q (!c) H1
theorem VG (ha:PT X a tA):PW X (.BoolOp .And [a] pos) tA:=by
 intro wh pins s σ H Q I h;refine isTrue_and (thn (ha pins s σ H Q I h) fun c s1 e=>?_);cases c with
 | true=>exact isTrue_and_nil e
 | false=>exact e
theorem aA2 (ha:PT X a tA):PW X (.BoolOp .Or [a] pos) tA:=by
 intro wh pins s σ H Q I h;refine isTrue_or (thn (ha pins s σ H Q I h) fun c s1 e=>?_);cases c with
 | false=>exact isTrue_or_nil e
 | true=>exact e
theorem aA3 (ha:PT X a tA) (hb:PW X (.BoolOp .And (b::rest) pos) tB'):PW X (.BoolOp .And (a::b::rest) pos) (aFu tA tB'):=by
 intro wh pins s σ H Q I h;refine isTrue_and (thn (ha pins s σ H _ I h) fun c s1 ⟨H1,I1,q1⟩=>?_);cases c with
 | true=>exact hb wh pins s1 σ H1 Q I1 q1
 | false=>exact ⟨H1,I1,q1⟩
theorem aDj (ha:PT X a tA) (hb:PW X (.BoolOp .Or (b::rest) pos) tB'):PW X (.BoolOp .Or (a::b::rest) pos) (tOr tA tB'):=by
 intro wh pins s σ H Q I h;refine isTrue_or (thn (ha pins s σ H _ I h) fun c s1 ⟨H1,I1,q1⟩=>?_);cases c with
 | true=>exact ⟨H1,I1,q1⟩
 | false=>exact hb wh pins s1 σ H1 Q I1 q1
theorem aA4 (ha:PT X a tA):PT X (.UnaryOp .Not a pos) (aFv tA):=by
 intro pins s σ H Q I h;exact isTrue_not (ha pins s σ H (fun c H1=>Q (!c) H1) I h)
end
end L2
namespace L2
open PySem PySem.Spec PyProof.Rows
noncomputable def SqL (K:PySem.W.Frag) (H:Hp) (a:Addr) (xs:List V):Prop:=
 Rd H a (.lst xs)\/
  ∃(o:Obj) (its:Array Value) (n:Nat),K.lookup a=some o/\o.cls=.type "list"/\o.dict=none/\o.data=.seq its n/\its.size<=sizeLine/\Vals xs its.toList
noncomputable def SqT (K:PySem.W.Frag) (H:Hp) (a:Addr) (xs:List V):Prop:=
 Rd H a (.tup xs)\/
  ∃(o:Obj) (its:Array Value) (n:Nat),K.lookup a=some o/\o.cls=.type "tuple"/\o.data=.seq its n/\its.size<=sizeLine/\Vals xs its.toList
noncomputable def aFw:Value->Option V
 | .none=>some .non
 | .bool b=>some (.bl b)
 | .int i _=>some (.int i)
 | .str x _=>some (.str x)
 | .bytes b _=>some (.byt b)
 | .float b _=>some (.flt b)
 | .ref a=>some (.ref a)
 | .type n=>some (.ty n)
 | _=>none
theorem RelV.abs {x:V} {u:Value} (r:RelV x u):aFw u=some x:=by
 cases x with
 | non=>cases r;rfl
 | bl _=>cases r;rfl
 | int _=>obtain ⟨t,rfl⟩:=r;rfl
 | str _=>obtain ⟨t,rfl⟩:=r;rfl
 | byt _=>obtain ⟨t,rfl⟩:=r;rfl
 | flt _=>obtain ⟨t,rfl⟩:=r;rfl
 | ref _=>cases r;rfl
 | ty _=>cases r;rfl
theorem RelV.inj {x y:V} {u:Value} (r:RelV x u) (q:RelV y u):x=y:=Option.some.inj (r.abs.symm.trans q.abs)
theorem Vals.inj:∀{xs ys:List V} {us:List Value},Vals xs us->Vals ys us->xs=ys
 | _,_,_,.nil,.nil=>rfl
 | _,_,_,.cons r t,.cons r' t'=>by rw [r.inj r',Vals.inj t t']
section
variable {X:Cx} {pins:List (Addr×Obj)} {σ:St} {H:Hp} {s:Shared} {a:Addr} {xs ys:List V}
theorem SqL.of {K:PySem.W.Frag} (h:H a=some (.lst xs)):SqL K H a xs:=.inl (.inl h)
theorem SqT.of {K:PySem.W.Frag} (h:H a=some (.tup xs)):SqT K H a xs:=.inl (.inl h)
theorem Inv.list (I:Inv X pins σ H s) (h:SqL X.K H a xs):∃its:List Value,Vals xs its/\PlainL s.heap a its.toArray/\xs.length<=sizeLine:=by
 rcases h with h|⟨o,its,n,hk,hc,hd,hs,hz,r⟩
 ·obtain ⟨z,its,n,r,e⟩:=h.ok I.hok;exact ⟨its,r,⟨_,n,e,rfl,rfl,rfl⟩,z⟩
 ·refine ⟨its.toList,r,⟨o,n,I.kIn a o hk,hc,hd,by simpa using hs⟩,?_⟩;have e:=r.length;simp only [Array.length_toList] at e;lia
theorem Inv.tuple (I:Inv X pins σ H s) (h:SqT X.K H a xs):∃its:List Value,Vals xs its/\IsTup s.heap a its.toArray/\xs.length<=sizeLine:=by
 rcases h with h|⟨o,its,n,hk,hc,hs,hz,r⟩
 ·obtain ⟨z,its,r,p⟩:=h.ok I.hok;exact ⟨its,r,p.tup,z⟩
 ·refine ⟨its.toList,r,⟨o,I.kIn a o hk,hc,n,by simpa using hs⟩,?_⟩;have e:=r.length;simp only [Array.length_toList] at e;lia
theorem Inv.wH (I:Inv X pins σ H s) (h:SqL X.K H a xs) (h':SqL X.K H a ys):xs=ys:=by
 obtain ⟨its,r,⟨o,n,e,_,_,d⟩,_⟩:=I.list h;obtain ⟨its',r',⟨o',n',e',_,_,d'⟩,_⟩:=I.list h';rw [e] at e';cases e';rw [d] at d';injection d' with d1 _
 have:its=its':=by simpa using congrArg Array.toList d1
 subst this;exact r.inj r'
theorem Inv.DQ (I:Inv X pins σ H s) (h:SqT X.K H a xs) (h':SqT X.K H a ys):xs=ys:=by
 obtain ⟨its,r,⟨o,e,_,n,d⟩,_⟩:=I.tuple h;obtain ⟨its',r',⟨o',e',_,n',d'⟩,_⟩:=I.tuple h';rw [e] at e';cases e';rw [d] at d';injection d' with d1 _
 have:its=its':=by simpa using congrArg Array.toList d1
 subst this;exact r.inj r'
end
abbrev Cx.wish (X:Cx) (E:Value->Shared->Prop):Cx:={X with xe:=E}
abbrev Cx.nox (X:Cx):Cx:=X.wish fun _ _=>False
theorem Cx.Ok.wish {X:Cx} (ok:X.Ok) (E:Value->Shared->Prop):(X.wish E).Ok:=
 ⟨ok.mod,ok.kind,ok.glob,ok.blt,ok.above,ok.inj,ok.has,ok.cab,ok.hd,ok.frames,ok.stk,ok.exf,ok.bs,ok.bsz,ok.noex,ok.exfs,ok.yW,ok.frf⟩
theorem Cx.Ok.j4 {X:Cx} {E:Value->Shared->Prop} (ok:(X.wish E).Ok):X.Ok:=
 ⟨ok.mod,ok.kind,ok.glob,ok.blt,ok.above,ok.inj,ok.has,ok.cab,ok.hd,ok.frames,ok.stk,ok.exf,ok.bs,ok.bsz,ok.noex,ok.exfs,ok.yW,ok.frf⟩
section
variable {X:Cx} {pins:List (Addr×Obj)} {σ:St} {H:Hp} {s:Shared} {E:Value->Shared->Prop}
theorem Inv.wish (I:Inv X pins σ H s) (E:Value->Shared->Prop):Inv (X.wish E) pins σ H s:=⟨I.ok.wish E,I.os,I.bare,I.base,I.loc,I.cell,I.free,I.freeC,I.pin,I.hok,I.len⟩
theorem Inv.j4 (I:Inv (X.wish E) pins σ H s):Inv X pins σ H s:=⟨I.ok.j4,I.os,I.bare,I.base,I.loc,I.cell,I.free,I.freeC,I.pin,I.hok,I.len⟩
theorem SP.j4 {D:Ends} {f:Flow} {s':Shared} (h:SP (X.wish E) pins D f s'):SP X pins D f s':=by
 cases f with
 | next=>obtain ⟨σ',H',I,q⟩:=h;exact ⟨σ',H',I.j4,q⟩
 | brk=>obtain ⟨σ',H',I,q⟩:=h;exact ⟨σ',H',I.j4,q⟩
 | cont=>obtain ⟨σ',H',I,q⟩:=h;exact ⟨σ',H',I.j4,q⟩
 | ret u=>obtain ⟨v,σ',H',I,r,q⟩:=h;exact ⟨v,σ',H',I.j4,r,q⟩
theorem PSs.nox {st:List Stmt} {t:TS} (h:PSs X.nox st t):PSs X st t:=fun pins s σ H D I hw=>
 wpAny_mono (h pins s σ H D (I.wish _) hw) (fun _ _ q=>q.j4) fun _ _ z=>False.elim z
end
section
variable {X:Cx} {st:Stmt} {rest:List Stmt} {t u:TS} {e:Expr} {te:TE} {pos:Pos}
def VH:TS:=fun D σ H=>D.nx σ H
def o_ (t u:TS):TS:=fun D σ H=>t {D with nx:=u D} σ H
theorem qC:PSs X [] VH:=fun _ _ σ H _ I h=>wpAny_execs_nil ⟨σ,H,I,h⟩
theorem bA (h1:PS X st t) (h2:PSs X rest u):PSs X (st::rest) (o_ t u):=by
 intro pins s σ H D I h;refine wpAny_execs_cons (thn (h1 pins s σ H {D with nx:=u D} I h) fun f s1 q=>?_);cases f with
 | next=>
  obtain ⟨σ',H',I',q⟩:=q;exact h2 pins s1 σ' H' D I' q
 | ret v=>exact q
 | brk=>exact q
 | cont=>exact q
theorem cN (h1:PS X st t):PSs X [st] t:=by
 intro pins s σ H D I h;refine wpAny_execs_cons (thn (h1 pins s σ H D I h) fun f s1 q=>?_);cases f with
 | next=>exact wpAny_execs_nil q
 | ret v=>exact q
 | brk=>exact q
 | cont=>exact q
theorem Inv.quiet {pins:List (Addr×Obj)} {σ:St} {H:Hp} {s:Shared} (I:Inv X pins σ H s):interactive X.env=false:=by simp [interactive,I.ok.kind]
def qD (te:TE):TS:=fun D σ H=>te σ H fun _ H1=>D.nx σ H1
theorem jB (he:PE X e te) (hs:swapsWith e none pos.line X.env=pure false:=by rfl):PS X (.Expr e pos) (qD te):=by
 intro pins s σ H D I h;exact wpAny_Expr_any (thn (he pins s σ H _ I h) fun v s1 ⟨x,H1,I1,r1,q1⟩=>⟨σ,H1,I1,q1⟩) I.quiet hs
def aA5 (te:TE):TS:=fun D σ H=>te σ H D.rt
theorem rZ (he:PE X e te):PS X (.Return (some e) pos) (aA5 te):=by
 intro pins s σ H D I h;exact wpAny_Return_some (thn (he pins s σ H _ I h) fun v s1 ⟨x,H1,I1,r1,q1⟩=>⟨x,σ,H1,I1,r1,q1⟩)
noncomputable def ZW (c:TT) (t u:TS):TS:=fun D σ H=>c σ H fun b H1=>if b=true then t D σ H1 else u D σ H1
theorem yX {c:Expr} {a b:List Stmt} {tc:TT} (hc:PT X c tc) (ha:PSs X a t) (hb:PSs X b u):PS X (.If c a b pos) (ZW tc t u):=by
 intro pins s σ H D I h;refine wpAny_If (thn (hc pins s σ H _ I h) fun d s1 ⟨H1,I1,q1⟩=>?_);cases d with
 | true=>exact ha pins s1 σ H1 D I1 q1
 | false=>exact hb pins s1 σ H1 D I1 q1
end
abbrev TG:=V->St->Hp->(St->Hp->Prop)->Prop
abbrev TGs:=List V->St->Hp->(St->Hp->Prop)->Prop
noncomputable def PG (X:Cx) (target:Expr) (t:TG):Prop:=
 ∀(pins:List (Addr×Obj)) (s:Shared) (σ:St) (H:Hp) (v:V) (u:Value) (Q:St->Hp->Prop),Inv X pins σ H s->RelV v u->t v σ H Q->
  wpAny (model X.prog X.w) X.A (assign target X.env u) (fun _ s'=>∃σ' H',Inv X pins σ' H' s'/\Q σ' H') X.xe s
noncomputable def PGs (X:Cx) (ts:List Expr) (t:TGs):Prop:=
 ∀(pins:List (Addr×Obj)) (s:Shared) (σ:St) (H:Hp) (vs:List V) (us:List Value) (Q:St->Hp->Prop),Inv X pins σ H s->Vals vs us->t vs σ H Q->
  wpAny (model X.prog X.w) X.A (assignInOrder ((assignEach ts X.env).map (·.2)) us) (fun _ s'=>∃σ' H',Inv X pins σ' H' s'/\Q σ' H') X.xe s
section
variable {X:Cx} {pos:Pos}
def dZ (i:Nat):TG:=fun v σ H Q=>Q (σ.set i (some v)) H
theorem aV {i:Nat} {x:Str} (hN:X.N.Nodup) (hi:X.N[i]?=some x) (hx:Loc X.env.scope x) (hf:X.fn x=true\/X.env.scope.names.lookup x=some .local:=by first|exact .inl rfl|exact .inr rfl|assumption):PG X (.Name x pos) (dZ i):=by
 intro pins s σ H v u Q I r h;exact wpAny_assign_Name (wG I hN hi hx r (fun s' I'=>⟨_,H,I',h⟩) hf)
def aCw:TGs:=fun vs σ H Q=>vs=[]/\Q σ H
noncomputable def yZ (t:TG) (u:TGs):TGs:=fun vs σ H Q=>∃v r,vs=v::r/\t v σ H fun σ' H'=>u r σ' H' Q
theorem uZ:PGs X [] aCw:=by
 intro pins s σ H vs us Q I r h;obtain ⟨e,h⟩:=h;subst e;cases r;exact assignInOrder_nil ⟨σ,H,I,h⟩
theorem eY {e:Expr} {es:List Expr} {t:TG} {u:TGs} (h1:PG X e t) (h2:PGs X es u)
  (hs:(assignEach (e::es) X.env).map (·.2)=assign e X.env::(assignEach es X.env).map (·.2):=by rfl):PGs X (e::es) (yZ t u):=by
 intro pins s σ H vs us Q I r h;obtain ⟨v,vr,e1,h⟩:=h;subst e1;cases r with
 | cons r rr=>
  rw [hs];refine assignInOrder_cons (thn (h1 pins s σ H _ _ _ I r h) fun _ s1 ⟨σ1,H1,I1,q1⟩=>?_);exact h2 pins s1 σ1 H1 _ _ Q I1 rr q1
noncomputable def aCx (K:PySem.W.Frag) (n:Nat) (t:TGs):TG:=fun v σ H Q=>∃a xs,v=.ref a/\SqT K H a xs/\xs.length=n/\t xs σ H Q
theorem DR {es:List Expr} {k:Nat} {t:TGs} {n:Nat} (hc:X.calm=true) (h:PGs X es t)
  (hn:(assignEach es X.env).length=n:=by rfl) (hst:(assignEach es X.env).findIdx? (·.1)=none:=by rfl):PG X (.Tuple es k pos) (aCx X.K n t):=by
 intro pins s σ H v u Q I r hw;obtain ⟨a,xs,e1,hq,hl,hw⟩:=hw;subst e1;cases r;obtain ⟨its,rv,ht,hz⟩:=I.tuple hq;refine assign_Tuple_tuple (I.ok.hd hc) ht (by simp [hn,<-hl,rv.length]) hst fun h' hx=>?_
 have I1:Inv X pins σ H {s with heap:=h'}:=I.kept (t':=s.toks) fun b o e=>hx b o (Nat.ne_of_lt (Heap.lt_size e)) e
 exact h pins _ σ H xs _ Q I1 (by simpa using rv) hw
def sE (te:TE) (g:TG):TS:=fun D σ H=>te σ H fun x H1=>g x σ H1 D.nx
theorem lB {tg e:Expr} {te:TE} {g:TG} (he:PE X e te) (hg:PG X tg g) (hs:swapsWithSole [tg] e pos.line X.env=pure false:=by rfl) (hw:swappedStores [tg] e X.env=pure none:=by rfl)
  (h1:(assignEach [tg] X.env).map (·.2)=[assign tg X.env]:=by rfl):PS X (.Assign [tg] e pos) (sE te g):=by
 intro pins s σ H D I h;refine wpAny_Assign_stores (thn (he pins s σ H _ I h) fun v s1 ⟨x,H1,I1,r1,q1⟩=>?_) hs hw;rw [h1];exact thn (hg pins s1 σ H1 x v _ I1 r1 q1) fun _ s2 q=>q
theorem DW {i:Nat} {x:Str} {e:Expr} {te:TE} {pos':Pos} (hN:X.N.Nodup) (hi:X.N[i]?=some x) (hx:Loc X.env.scope x) (he:PE X e te) (hs:swapsWith e (some (.Name x pos')) pos.line X.env=pure false:=by rfl) (hf:X.fn x=true\/X.env.scope.names.lookup x=some .local:=by first|exact .inl rfl|exact .inr rfl|assumption) :
  PS X (.Assign [.Name x pos'] e pos) (sE te (dZ i)):=by
 intro pins s σ H D I h;refine wpAny_Assign_Name (thn (he pins s σ H _ I h) fun v s1 ⟨y,H1,I1,r1,q1⟩=>?_) hs;exact wG I1 hN hi hx r1 (fun s2 I2=>⟨_,H1,I2,q1⟩) hf
end
section
variable {X:Cx} {pos:Pos}
noncomputable def DX (c:TT) (tb:TS):TS:=fun D σ H=>∃W:Nat->St->Hp->Prop,(∃m,W m σ H)/\∀m σ H,W m σ H->
 c σ H fun b H1=>if b=true then ∃N:St->Hp->Prop,(∀σ' H',N σ' H'->∃m',m'<m/\W m' σ' H')/\tb {D with nx:=N,ct:=N,bk:=D.nx} σ H1 else D.nx σ H1
theorem wI {c:Expr} {body:List Stmt} {tc:TT} {tb:TS} (hp:PassesOwn (model X.prog X.w) X.A X.env X.xe) (hc:PT X c tc) (hb:PSs X body tb):PS X (.While c body [] pos) (DX tc tb):=by
 intro pins s σ H D I h;obtain ⟨W,⟨m0,w0⟩,turn⟩:=h;refine wpAny_While (codeAny_whileLoop (fun n s'=>∃σ' H',Inv X pins σ' H' s'/\W n σ' H') ?_ m0 ⟨σ,H,I,w0⟩);rintro n s1 ⟨σ1,H1,I1,w1⟩;refine wpAny_passesOwn hp (thn (hc pins s1 σ1 H1 _ I1 (turn n σ1 H1 w1)) fun b s2 ⟨H2,I2,q2⟩=>?_);cases b with
 | true=>
  obtain ⟨N,hN,q2⟩:=q2;rw [if_pos rfl];refine wpAny_passesOwn hp (thn (hb pins s2 σ1 H2 _ I2 q2) fun f s3 q3=>?_);cases f with
  | next=>
   obtain ⟨σ3,H3,I3,n3⟩:=q3;obtain ⟨m',hm,w3⟩:=hN σ3 H3 n3;exact ⟨m',hm,σ3,H3,I3,w3⟩
  | cont=>
   obtain ⟨σ3,H3,I3,n3⟩:=q3;obtain ⟨m',hm,w3⟩:=hN σ3 H3 n3;exact ⟨m',hm,σ3,H3,I3,w3⟩
  | brk=>exact q3
  | ret v=>exact q3
 | false=>
  rw [if_neg Bool.false_ne_true];exact wpAny_execs_nil ⟨σ1,H2,I2,q2⟩
end
structure It where
 go:Nat->Hp->Prop
 yld:Nat->Hp->V->Hp->Prop
 stop:Nat->Hp->Prop
noncomputable def CT (X:Cx) (pins:List (Addr×Obj)) (H:Hp) (b:Addr):Prop:=
 H b=none/\b≠X.env.locals/\b∉X.fs/\(b∈X.ex\/X.s₀.heap.objs.size<=b)/\(∀x c,X.env.cells.lookup x=some c->c≠b)/\∀p∈X.pn++pins,p.1≠b
theorem Inv.ZX {X:Cx} {pins:List (Addr×Obj)} {σ:St} {H H':Hp} {s:Shared} {b:Addr} (I:Inv X pins σ H s) (hb:s.heap.objs.size<=b) (hn:H' b=none):CT X pins H' b:=by
 refine ⟨hn,Nat.ne_of_gt (Nat.lt_of_lt_of_le I.lt hb),I.aF0 hb,.inr (Nat.le_trans I.sz hb),fun x c e z=>?_,fun p hp z=>?_⟩
 ·obtain ⟨v,q⟩:=I.cell x c e;exact absurd (Nat.lt_of_lt_of_le q.lt (by rw [z];exact hb)) (Nat.lt_irrefl _)
 ·exact absurd (Nat.lt_of_lt_of_le (Heap.lt_size (I.pin p hp).1) (by rw [z];exact hb)) (Nat.lt_irrefl _)
structure Turn (P:Program) (w:World) (K:PySem.W.Frag) (tg:Expr) (J:It) (fp:List Addr) (it:Addr) (tn:Nat->Heap->Prop):Prop where
 mem:it∈fp
 obj:∀i h,tn i h->∀b∈fp,∃o,h.get? b=some o/\∀v,o.data≠.cell v
 keep:∀i h h',tn i h->(∀b∈fp,∀o,h.get? b=some o->h'.get? b=some o)->tn i h'
 item:∀(X:Cx),X.prog=P->X.w=w->X.K=K->X.calm=true->∀(i:Nat) (pins:List (Addr×Obj)) (s:Shared) (σ:St) (H:Hp) (E:Value->Shared->Prop),Inv X pins σ H s->(∀b∈fp,CT X pins H b)->tn i s.heap->J.go i H->
  wpAny (model P w) X.A (pyNext (.ref it)) (fun r s1=>∃u,r=some u/\
   wpAny (model P w) X.A (letOwnedTupleGo tg (.ref it) u) (fun _ s2=>∃x H',Inv X pins σ H' s2/\RelV x u/\J.yld i H x H'/\tn (i+1) s2.heap/\∀b∈fp,H' b=none) E s1) E s
 done:∀(X:Cx),X.prog=P->X.w=w->X.K=K->X.calm=true->∀(i:Nat) (pins:List (Addr×Obj)) (s:Shared) (σ:St) (H:Hp) (E:Value->Shared->Prop),Inv X pins σ H s->(∀b∈fp,CT X pins H b)->tn i s.heap->J.stop i H->
  wpAny (model P w) X.A (pyNext (.ref it)) (fun r s1=>r=none/\Inv X pins σ H s1) E s
 self:∀(A:Around) (i:Nat) (s:Shared) (Q:Value->Shared->Prop) (E:Value->Shared->Prop),tn i s.heap->Q (.ref it) s->wpAny (model P w) A (pyIter (.ref it)) Q E s
abbrev TI:=St->Hp->(It->Hp->Prop)->Prop
noncomputable def PIE (X:Cx) (pins:List (Addr×Obj)) (σ:St) (tg:Expr) (R:It->Hp->Prop) (itv:Value) (s2:Shared):Prop:=
 ∃(it:Addr) (fp:List Addr) (tn:Nat->Heap->Prop) (J:It) (H':Hp),itv=.ref it/\Inv X pins σ H' s2/\Turn X.prog X.w X.K tg J fp it tn/\tn 0 s2.heap/\(∀b∈fp,CT X pins H' b)/\R J H'
noncomputable def PI (X:Cx) (tg iter:Expr) (wi:TI):Prop:=
 ∀(pins:List (Addr×Obj)) (s:Shared) (σ:St) (H:Hp) (R:It->Hp->Prop),Inv X pins σ H s->wi σ H R->
  wpAny (model X.prog X.w) X.A (eval iter X.env) (fun v s1=>wpAny (model X.prog X.w) X.A (pyIter v) (PIE X pins σ tg R) X.xe s1) X.xe s
theorem DY {M:Model} {A:Around} {E:Value -> Shared -> Prop} {s:Shared} {tg:Expr} {it:Addr} {u:Value} {o:Obj} {n:String} {vs:Array Value} {Q:Unit -> Shared -> Prop} (ho:s.heap.get? it=some o) (hc:o.cls=.type n) (hd:o.data=.fields vs)
    (hn:["enumerate", "zip", "dict_itemiterator", "dict_reverseitemiterator", "odict_iterator", "itertools.zip_longest", "itertools.pairwise"].contains n=false) (hQ:Q () s):wpAny M A (letOwnedTupleGo tg (.ref it) u) Q E s := by
  unfold letOwnedTupleGo;cases tg <;> first
    | exact wpAny_pure hQ
    | (cases u <;> first
        | exact wpAny_pure hQ
        | (refine wpAny_bind (wpAny_load ho ?_)
           rw [hc, hd];show wpAny M A (if (["enumerate", "zip", "dict_itemiterator", "dict_reverseitemiterator", "odict_iterator", "itertools.zip_longest", "itertools.pairwise"].contains n&&vs[0]?==some (rawInt _))=true then _ else _) Q E s;rw [if_neg (by intro h; rw [hn, Bool.false_and] at h; cases h)];exact wpAny_pure hQ))
noncomputable def Itl (K:PySem.W.Frag) (a:Addr):It:=
 ⟨fun i H=>∃xs x,SqL K H a xs/\xs[i]?=some x,fun i H x H'=>H'=H/\∀xs,SqL K H a xs->xs[i]?=some x,fun i H=>∃xs,SqL K H a xs/\xs.length<=i⟩
noncomputable def Itt (K:PySem.W.Frag) (a:Addr):It:=
 ⟨fun i H=>∃xs x,SqT K H a xs/\xs[i]?=some x,fun i H x H'=>H'=H/\∀xs,SqT K H a xs->xs[i]?=some x,fun i H=>∃xs,SqT K H a xs/\xs.length<=i⟩
noncomputable def Itr (lo:Int) (n:Nat):It:=⟨fun i _=>i<n,fun i H x H'=>H'=H/\x=.int (lo+i),fun i _=>n<=i⟩
theorem D_ {P:Program} {w:World} {K:PySem.W.Frag} {tg:Expr} (a it:Addr):Turn P w K tg (Itl K a) [it] it (fun i h=>h.IsListIter it a i) where
 mem:=by simp
 obj:=fun i h st b hb=>by
  have e:b=it:=by simpa using hb
  subst e;obtain ⟨o,e,c,d⟩:=st;exact ⟨o,e,fun v z=>by rw [d] at z;cases z⟩
 keep:=fun i h h' st k=>st.at fun o e=>k it (by simp) o e
 item:=by
  intro X hP hw hK hc i pins s σ H E I hf st hg;subst hP hw hK;obtain ⟨xs,x,hq,hx⟩:=hg;obtain ⟨its,rv,p,hz⟩:=I.list hq;obtain ⟨u,hu,ru⟩:=rv.get hx;obtain ⟨f0,f1,f2,f3,f4,f5⟩:=hf it (by simp);refine wpAny_pyNext_list_item st p.isList (x:=u) (by simpa using hu) fun h' st' sb=>?_
  have I1:Inv X pins σ H {s with heap:=h'}:=I.turned (t':=s.toks) (fun b o hb e=>(sb.2 b hb).trans e) f0 f1 f3 f4 f5;obtain ⟨o,e,c,d⟩:=id st';exact ⟨u,rfl,DY (s:={s with heap:=h'}) e c d (by decide) ⟨x,H,I1,ru,⟨rfl,fun ys hy=>by rw [I.wH hy hq];exact hx⟩,st',fun b hb=>(hf b hb).1⟩⟩
 done:=by
  intro X hP hw hK hc i pins s σ H E I hf st hg;subst hP hw hK;obtain ⟨xs,hq,hx⟩:=hg;obtain ⟨its,rv,p,hz⟩:=I.list hq;obtain ⟨f0,f1,f2,f3,f4,f5⟩:=hf it (by simp);have hl:=rv.length;exact wpAny_pyNext_list_end (I.ok.hd hc) st p.isList (by simp;lia) fun h' eb=>⟨rfl,I.turned (t':=s.toks) (fun b o hb e=>eb b o hb e) f0 f1 f3 f4 f5⟩
 self:=fun _ _ _ _ _ st h=>wpAny_pyIter_listiter st h
theorem y_ {P:Program} {w:World} {K:PySem.W.Frag} {tg:Expr} (a it:Addr):Turn P w K tg (Itt K a) [it] it (fun i h=>h.IsTupleIter it a i) where
 mem:=by simp
 obj:=fun i h st b hb=>by
  have e:b=it:=by simpa using hb
  subst e;obtain ⟨o,e,c,d⟩:=st;exact ⟨o,e,fun v z=>by rw [d] at z;cases z⟩
 keep:=fun i h h' st k=>st.at fun o e=>k it (by simp) o e
 item:=by
  intro X hP hw hK hc i pins s σ H E I hf st hg;subst hP hw hK;obtain ⟨xs,x,hq,hx⟩:=hg;obtain ⟨its,rv,p,hz⟩:=I.tuple hq;obtain ⟨u,hu,ru⟩:=rv.get hx;obtain ⟨f0,f1,f2,f3,f4,f5⟩:=hf it (by simp);refine wpAny_pyNext_tuple_item st (show s.heap.IsTuple a its.toArray from p) (x:=u) (by simpa using hu) fun h' st' sb=>?_
  have I1:Inv X pins σ H {s with heap:=h'}:=I.turned (t':=s.toks) (fun b o hb e=>(sb.2 b hb).trans e) f0 f1 f3 f4 f5;obtain ⟨o,e,c,d⟩:=id st';exact ⟨u,rfl,DY (s:={s with heap:=h'}) e c d (by decide) ⟨x,H,I1,ru,⟨rfl,fun ys hy=>by rw [I.DQ hy hq];exact hx⟩,st',fun b hb=>(hf b hb).1⟩⟩
 done:=by
  intro X hP hw hK hc i pins s σ H E I hf st hg;subst hP hw hK;obtain ⟨xs,hq,hx⟩:=hg;obtain ⟨its,rv,p,hz⟩:=I.tuple hq;obtain ⟨f0,f1,f2,f3,f4,f5⟩:=hf it (by simp);have hl:=rv.length;exact wpAny_pyNext_tuple_end (I.ok.hd hc) st (show s.heap.IsTuple a its.toArray from p) (by simp;lia) fun h' eb=>⟨rfl,I.turned (t':=s.toks) (fun b o hb e=>eb b o hb e) f0 f1 f3 f4 f5⟩
 self:=fun _ _ _ _ _ st h=>wpAny_pyIter_tupleiter st h
theorem zA {P:Program} {w:World} {K:PySem.W.Frag} {tg:Expr} (it:Addr) (lo:Int) (n:Nat):Turn P w K tg (Itr lo n) [it] it (fun i h=>IsRangeIter h it (lo+(i:Nat)*1) ((n:Int)-(i:Nat)) 1) where
 mem:=by simp
 obj:=fun i h st b hb=>by
  have e:b=it:=by simpa using hb
  subst e;exact ⟨_,st,fun v z=>by
   have z':Data.fields _=Data.cell v:=z;cases z'⟩
 keep:=fun i h h' st k=>k it (by simp) _ st
 item:=by
  intro X hP hw hK hc i pins s σ H E I hf st hg;subst hP hw hK;obtain ⟨f0,f1,f2,f3,f4,f5⟩:=hf it (by simp);have W:=Walks.range (prog:=X.prog) (w:=X.w) (I.ok.hd hc) it lo 1 n;refine W.item i s _ _ hg st fun v h' tk hv st' kk=>?_
  obtain ⟨t,rfl⟩:=hv;have I1:Inv X pins σ H {s with heap:=h',toks:=tk}:=I.turned (fun b o hb e=>kk b o (by simpa using hb) e) f0 f1 f3 f4 f5;refine ⟨_,rfl,DY (s:={s with heap:=h',toks:=tk}) (n := "range_iterator") st' rfl rfl (by decide) ⟨.int (lo+i),H,I1,⟨t,?_⟩,⟨rfl,rfl⟩,st',fun b hb=>(hf b hb).1⟩⟩;rw [Int.mul_one]
 done:=by
  intro X hP hw hK hc i pins s σ H E I hf st hg;subst hP hw hK;obtain ⟨f0,f1,f2,f3,f4,f5⟩:=hf it (by simp);exact wpAny_pyNext_range_end (I.ok.hd hc) st (by have:n<=i:=hg;lia) fun h' eb=>⟨rfl,I.turned (t':=s.toks) (fun b o hb e=>eb b o hb e) f0 f1 f3 f4 f5⟩
 self:=fun _ _ _ _ _ st h=>wpAny_pyIter_rangeiter st h
end L2
namespace L2
open PySem PySem.Spec PyProof.Rows
section
variable {X:Cx} {tg:Expr}
theorem NT {pins:List (Addr×Obj)} {σ:St} {H:Hp} {s:Shared} {R:It->Hp->Prop} {E:Value->Shared->Prop} {lo hi:Int} {t u v:Tok} {tk:Nat} (I:Inv X pins σ H s) (h1:-(2 ^ 62)<=lo) (h2:lo<2 ^ 62) (h3:-(2 ^ 62)<=hi) (h4:hi<2 ^ 62)
  (q:R (Itr lo (hi-lo).toNat) H):wpAny (model X.prog X.w) X.A (pyIter (.ref s.heap.objs.size)) (PIE X pins σ tg R) E {s with heap:=s.heap.push {cls:=.type "range",data:=.fields #[.int lo t,.int hi u,.int 1 v]},toks:=tk}:=by
 refine wpAny_pyIter_range (IsRange.new ..) (small_one h1 h2 h3 h4) ?_;have I1:Inv X pins σ H {s with heap:=s.heap.push {cls:=.type "range",data:=.fields #[.int lo t,.int hi u,.int 1 v]},toks:=tk}:=I.kept fun b o e=>Heap.get?_push_of_some _ e
 refine ⟨(s.heap.push {cls:=.type "range",data:=.fields #[.int lo t,.int hi u,.int 1 v]}).objs.size,[(s.heap.push {cls:=.type "range",data:=.fields #[.int lo t,.int hi u,.int 1 v]}).objs.size],_,_,H,rfl,
  I1.kept (t':=tk) fun b o e=>Heap.get?_push_of_some _ e,zA _ lo (hi-lo).toNat,?_,fun b hb=>?_,q⟩
 ·have e1:lo+((0:Nat):Int)*1=lo:=by simp
  have e2:(((hi-lo).toNat:Nat):Int)-((0:Nat):Int)=Builtin.Range.rangeSize lo hi 1:=by rw [rangeSize_one];split <;> lia
  show IsRangeIter _ _ (lo+((0:Nat):Int)*1) ((((hi-lo).toNat:Nat):Int)-((0:Nat):Int)) 1;rw [e1,e2];exact Heap.get?_push_size _ rfl
 ·have e:b=(s.heap.push {cls:=.type "range",data:=.fields #[.int lo t,.int hi u,.int 1 v]}).objs.size:=by simpa using hb
  subst e;exact I1.ZX (Nat.le_refl _) (I1.hok.fresh (Nat.le_refl _))
noncomputable def aDk (ta:TA):TI:=fun σ H R=>ta σ H fun vs H1=>∃j:Int,vs=[.int j]/\-(2 ^ 62)<=j/\j<2 ^ 62/\R (Itr 0 j.toNat) H1
theorem EY {a:Expr} {ta:TA} {p pos:Pos} (hg:Gl X "range") (hm:X.mg "range" = none) (ha:PA X [a] ta) (hs:starEach [a] X.env=[(false,eval a X.env)]:=by rfl):PI X tg (.Call (.Name "range" p) [a] [] pos) (aDk ta):=by
 intro pins s σ H R I h;refine Call_ (jA I hg hm boot_range (PyProof.Rows.callWith_type1 (thn (ha pos pins s σ H _ I h) fun us s1 ⟨vs,H1,I1,r1,q1⟩=>?_) hs rfl));obtain ⟨j,e,q1,q2,q⟩:=q1;subst e;cases r1 with
 | cons r rr=>
  cases rr;obtain ⟨t,rfl⟩:=r;exact call_range_1 (NT I1 (by lia) (by lia) q1 q2 (by simpa using q))
noncomputable def aF2 (wi:TI) (g:TG) (tb:TS):TS:=fun D σ H=>wi σ H fun J H1=>∃W:Nat->Nat->St->Hp->Prop,(∃m,W 0 m σ H1)/\∀i m σ H,W i m σ H->
 (J.stop i H/\D.nx σ H)\/(J.go i H/\∃N:St->Hp->Prop,(∀σ' H',N σ' H'->∃m',m'<m/\W (i+1) m' σ' H')/\∀x H',J.yld i H x H'->g x σ H' fun σ2 H2=>tb {D with nx:=N,ct:=N,bk:=D.nx} σ2 H2)
noncomputable def nD (fp:List Addr) (h:Heap):List (Addr×Obj):=fp.filterMap fun b=>(h.get? b).map fun o=>(b,o)
theorem jU {fp:List Addr} {h:Heap} {b:Addr} {o:Obj} (hb:b∈fp) (e:h.get? b=some o):(b,o)∈nD fp h:=List.mem_filterMap.mpr ⟨b,hb,by rw [e];rfl⟩
theorem E_ {fp:List Addr} {h:Heap} {p:Addr×Obj} (hp:p∈nD fp h):p.1∈fp/\h.get? p.1=some p.2:=by
 obtain ⟨b,hb,e⟩:=List.mem_filterMap.mp hp;cases q:h.get? b with
 | none=>rw [q] at e;cases e
 | some o=>
  rw [q] at e;have e':(b,o)=p:=Option.some.inj e;subst e';exact ⟨hb,q⟩
theorem Inv.pinned {pins:List (Addr×Obj)} {σ:St} {H:Hp} {s:Shared} {fp:List Addr} (I:Inv X pins σ H s) (hf:∀b∈fp,CT X pins H b) (ho:∀b∈fp,∃o,s.heap.get? b=some o/\∀v,o.data≠.cell v):Inv X (pins++nD fp s.heap) σ H s:=
 I.uY fun p hp=>(List.mem_append.mp hp).elim (fun z=>I.pin p (List.mem_append_right _ z)) fun z=>by
  obtain ⟨hb,e⟩:=E_ z;obtain ⟨f0,f1,f2,_⟩:=hf p.1 hb;obtain ⟨o,e',d⟩:=ho p.1 hb;rw [e] at e';cases e';exact ⟨e,f0,f1,f2,d⟩
theorem Inv.lC {pins pl:List (Addr×Obj)} {σ:St} {H:Hp} {s:Shared} (I:Inv X (pins++pl) σ H s):Inv X pins σ H s:=I.uY fun p hp=>I.pin p (List.mem_append_right _ (List.mem_append_left _ hp))
theorem FJ {iter:Expr} {body:List Stmt} {wi:TI} {g:TG} {tb:TS} {pos:Pos} (hp:PassesOwn (model X.prog X.w) X.A X.env X.xe) (hc:X.calm=true) (hi:PI X tg iter wi) (hg:PG X tg g) (hb:PSs X body tb)
  (hs:∀x,foldedSetIterable iter X.env x=pure x:=by intro _;rfl):PS X (.For tg iter body [] pos) (aF2 wi g tb):=by
 intro pins s σ H D I h;refine wpAny_For (thn (hi pins s σ H _ I h) fun v s1 h1=>thn h1 fun itv s2 h2=>?_) hs;obtain ⟨it,fp,tn,J,H2,e,I2,T,st2,f2,W,⟨m0,w0⟩,turn⟩:=h2;subst e
 -- what stays true of the iterator's objects through the loop
 have stat:∀{H':Hp},(∀b∈fp,H' b=none)->∀b∈fp,CT X pins H' b:=fun hn b hb=>⟨hn b hb,(f2 b hb).2⟩
 refine codeAny_forLoop_any (fun n s'=>∃i σ' H',Inv X pins σ' H' s'/\tn i s'.heap/\(∀b∈fp,H' b=none)/\W i n σ' H') ?_ m0 ⟨0,σ,H2,I2,st2,fun b hb=>(f2 b hb).1,w0⟩;rintro n s3 ⟨i,σ3,H3,I3,st3,fr3,w3⟩;rcases turn i n σ3 H3 w3 with ⟨stop,qn⟩|⟨go,N,hN,step⟩
 ·refine wpAny_passesOwn hp (thn (T.done X rfl rfl rfl hc i pins s3 σ3 H3 X.xe I3 (stat fr3) st3 stop) fun r s4 ⟨hr,I4⟩=>?_);subst hr;exact wpAny_execs_nil ⟨σ3,H3,I4,qn⟩
 ·refine wpAny_passesOwn hp (thn (T.item X rfl rfl rfl hc i pins s3 σ3 H3 X.xe I3 (stat fr3) st3 go) fun r s4 ⟨u,hr,h4⟩=>?_);subst hr;refine wpAny_passesOwn hp (thn h4 fun _ s5 ⟨x,H5,I5,r5,y5,st5,fr5⟩=>?_);have I5':=I5.pinned (stat fr5) (T.obj _ _ st5);refine wpAny_passesOwn hp (thn (hg _ s5 σ3 H5 x u _ I5' r5 (step x H5 y5)) fun _ s6 ⟨σ6,H6,I6,q6⟩=>?_);refine wpAny_passesOwn hp (thn (hb _ s6 σ6 H6 _ I6 q6) fun f s7 q7=>?_);have again:∀{σ7:St} {H7:Hp},Inv X (pins++nD fp s5.heap) σ7 H7 s7->N σ7 H7->∃m,m<n/\∃i σ' H',Inv X pins σ' H' s7/\tn i s7.heap/\(∀b∈fp,H' b=none)/\W i m σ' H':=fun {σ7 H7} I7 n7=>by
   obtain ⟨m',hm,w7⟩:=hN σ7 H7 n7;refine ⟨m',hm,i+1,σ7,H7,I7.lC,T.keep _ _ _ st5 fun b hb o e=>(I7.pin (b,o) (List.mem_append_right _ (List.mem_append_right _ (jU hb e)))).1,fun b hb=>?_,w7⟩;obtain ⟨o,e,d⟩:=T.obj _ _ st5 b hb;exact (I7.pin (b,o) (List.mem_append_right _ (List.mem_append_right _ (jU hb e)))).2.1
  cases f with
  | next=>obtain ⟨σ7,H7,I7,n7⟩:=q7;exact again I7 n7
  | cont=>obtain ⟨σ7,H7,I7,n7⟩:=q7;exact again I7 n7
  | brk=>obtain ⟨σ7,H7,I7,q7⟩:=q7;exact ⟨σ7,H7,I7.lC,q7⟩
  | ret v=>obtain ⟨x7,σ7,H7,I7,r7,q7⟩:=q7;exact ⟨x7,σ7,H7,I7.lC,r7,q7⟩
end
end L2
namespace L2
open PySem PySem.Spec PyProof.Rows
abbrev R2:=V->V->Hp->VK->Prop
noncomputable def OpR (X:Cx) (f:Value->Value->Sem Value) (r:R2):Prop:=
 ∀(pins:List (Addr×Obj)) (s:Shared) (σ:St) (H:Hp) (x y:V) (v u:Value) (Q:VK),Inv X pins σ H s->RelV x v->RelV y u->r x y H Q->
  wpAny (model X.prog X.w) X.A (f v u) (EP X pins σ Q) X.xe s
noncomputable def UnR (X:Cx) (f:Value->Sem Value) (r:V->Hp->VK->Prop):Prop:=
 ∀(pins:List (Addr×Obj)) (s:Shared) (σ:St) (H:Hp) (x:V) (v:Value) (Q:VK),Inv X pins σ H s->RelV x v->r x H Q->
  wpAny (model X.prog X.w) X.A (f v) (EP X pins σ Q) X.xe s
noncomputable def lO (X:Cx) (f:Value) (r:List V->Hp->VK->Prop):Prop:=
 ∀(pins:List (Addr×Obj)) (s:Shared) (σ:St) (H:Hp) (xs:List V) (us:List Value) (Q:VK),Inv X pins σ H s->Vals xs us->r xs H Q->
  wpAny (model X.prog X.w) X.A (call f us) (EP X pins σ Q) X.xe s
noncomputable def aFx (X:Cx) (r:V->Hp->(Bool->Hp->Prop)->Prop):Prop:=
 ∀(pins:List (Addr×Obj)) (s:Shared) (σ:St) (H:Hp) (x:V) (v:Value) (Q:Bool->Hp->Prop),Inv X pins σ H s->RelV x v->r x H Q->
  wpAny (model X.prog X.w) X.A (truthy v) (TP X pins σ Q) X.xe s
noncomputable def tOp (r:R2) (ta tb:TE):TE:=fun σ H Q=>ta σ H fun x H1=>tb σ H1 fun y H2=>r x y H2 Q
def tUn (r:V->Hp->VK->Prop) (ta:TE):TE:=fun σ H Q=>ta σ H fun x H1=>r x H1 Q
noncomputable def rI (C:Int->Int->Prop) (g:Int->Int->V):R2:=fun x y H Q=>∃i j,x=.int i/\y=.int j/\C i j/\Q (g i j) H
noncomputable def rI0 (g:Int->Int->V):R2:=fun x y H Q=>∃i j,x=.int i/\y=.int j/\Q (g i j) H
def rU (g:Int->V):V->Hp->VK->Prop:=fun x H Q=>∃i,x=.int i/\Q (g i) H
section
variable {X:Cx} {a b c:Expr} {ta tb tc:TE} {pos:Pos}
theorem aDl (ha:PE X a ta) (hb:PE X b tb) {pins:List (Addr×Obj)} {s:Shared} {σ:St} {H:Hp} {R:V->V->Hp->Prop} (I:Inv X pins σ H s)
  (h:ta σ H fun x H1=>tb σ H1 fun y H2=>R x y H2) {Q:Value->Shared->Prop} {f:Value->Value->Sem Value}
  (hf:∀v u s2 x y H2,Inv X pins σ H2 s2->RelV x v->RelV y u->R x y H2->wpAny (model X.prog X.w) X.A (f v u) Q X.xe s2) :
  wpAny (model X.prog X.w) X.A (eval a X.env) (fun v s₁=>wpAny (model X.prog X.w) X.A (eval b X.env) (fun u s₂=>wpAny (model X.prog X.w) X.A (f v u) Q X.xe s₂) X.xe s₁) X.xe s:=by
 refine thn (ha pins s σ H _ I h) fun v s1 ⟨x,H1,I1,r1,q1⟩=>?_
 refine thn (hb pins s1 σ H1 _ I1 q1) fun u s2 ⟨y,H2,I2,r2,q2⟩=>?_
 exact hf v u s2 x y H2 I2 r1 r2 q2
theorem aDm {op:Operator} {r:R2} (ho:OpR X (binaryOp op) r) (ha:PE X a ta) (hb:PE X b tb):PE X (.BinOp a op b pos) (tOp r ta tb):=by
 intro pins s σ H Q I h;exact wpAny_BinOp (aDl ha hb I h fun v u s2 x y H2 I2 rx ry q=>ho pins s2 σ H2 x y v u Q I2 rx ry q)
theorem aA6 {op:UnaryOp} {r:V->Hp->VK->Prop} (ho:UnR X (unaryOp op) r) (ha:PE X a ta):PE X (.UnaryOp op a pos) (tUn r ta):=by
 intro pins s σ H Q I h;exact UnaryOp_ (thn (ha pins s σ H _ I h) fun v s1 ⟨x,H1,I1,r1,q1⟩=>ho pins s1 σ H1 x v Q I1 r1 q1)
theorem opI {f:Value->Value->Sem Value} {C:Int->Int->Prop} {g:Int->Int->Int}
  (rule:∀(i j:Int) (t u:Tok) (s:Shared) (Q:Value->Shared->Prop) (E:Value->Shared->Prop),C i j->Q (.int (g i j) s.toks) {s with toks:=s.toks+1}->wpAny (model X.prog X.w) X.A (f (.int i t) (.int j u)) Q E s) :
  OpR X f (rI C fun i j=>.int (g i j)):=by
 intro pins s σ H x y v u Q I rx ry h;obtain ⟨i,j,rfl,rfl,hc,q⟩:=h;obtain ⟨t,rfl⟩:=rx;obtain ⟨t',rfl⟩:=ry;exact rule i j t t' s _ _ hc ⟨.int (g i j),H,I.tok _,⟨_,rfl⟩,q⟩
theorem aF3 {f:Value->Value->Sem Value} {g:Int->Int->Int}
  (rule:∀(i j:Int) (t u:Tok) (s:Shared) (Q:Value->Shared->Prop) (E:Value->Shared->Prop),Q (.int (g i j) s.toks) {s with toks:=s.toks+1}->wpAny (model X.prog X.w) X.A (f (.int i t) (.int j u)) Q E s) :
  OpR X f (rI0 fun i j=>.int (g i j)):=by
 intro pins s σ H x y v u Q I rx ry h;obtain ⟨i,j,rfl,rfl,q⟩:=h;obtain ⟨t,rfl⟩:=rx;obtain ⟨t',rfl⟩:=ry;exact rule i j t t' s _ _ ⟨.int (g i j),H,I.tok _,⟨_,rfl⟩,q⟩
def aFy (i j:Int):Prop:=0<j/\j<1073741824
def aDn (i j:Int):Prop:=(-(2 ^ 64)<i/\i<2 ^ 64)\/(-(2 ^ 64)<j/\j<2 ^ 64)
theorem aDn.ok {i j:Int} (h:aDn i j):IntMulOk i j:=by
 rcases h with ⟨h1,h2⟩|⟨h1,h2⟩
 ·exact .of_left (intBits_le_64 h1 h2)
 ·exact .of_right (intBits_le_64 h1 h2)
theorem aA7:OpR X (binaryOp .Add) (rI0 fun i j=>.int (i+j)):=aF3 fun _ _ _ _ _ _ _ q=>add_int q
theorem aA8:OpR X (binaryOp .Sub) (rI0 fun i j=>.int (i-j)):=aF3 fun _ _ _ _ _ _ _ q=>sub_int q
theorem aA9:OpR X (binaryOp .Mult) (rI aDn fun i j=>.int (i*j)):=opI fun _ _ _ _ _ _ _ hc q=>mul_int q hc.ok
theorem VJ:OpR X (binaryOp .FloorDiv) (rI aFy fun i j=>.int (i / j)):=opI fun i j _ _ _ _ _ hc q=>by
 have h1:(0:Int)<j:=hc.1;have h2:j<1073741824:=hc.2;exact floordiv_int (by lia) (by rw [Int.fdiv_eq_ediv_of_nonneg i (by lia)];exact q) (.inl (PyProof.noPylong_small (by lia)))
theorem aAa:OpR X (binaryOp .Mod) (rI (fun _ j=>0<j) fun i j=>.int (i % j)):=opI fun i j _ _ _ _ _ hc q=>by
 have h1:(0:Int)<j:=hc;exact mod_int' (by lia) (by rw [Int.fmod_eq_emod_of_nonneg i (by lia)];exact q)
theorem unI {f:Value->Sem Value} {g:Int->Int}
  (rule:∀(i:Int) (t:Tok) (s:Shared) (Q:Value->Shared->Prop) (E:Value->Shared->Prop),Q (.int (g i) s.toks) {s with toks:=s.toks+1}->wpAny (model X.prog X.w) X.A (f (.int i t)) Q E s) :
  UnR X f (rU fun i=>.int (g i)):=by
 intro pins s σ H x v Q I rx h;obtain ⟨i,rfl,q⟩:=h;obtain ⟨t,rfl⟩:=rx;exact rule i t s _ _ ⟨.int (g i),H,I.tok _,⟨_,rfl⟩,q⟩
theorem S5:UnR X (unaryOp .USub) (rU fun i=>.int (-i)):=unI fun _ _ _ _ _ q=>neg_int q
end
section
variable {X:Cx} {a b c:Expr} {ta tb tc:TE} {pos:Pos}
theorem S6 {pins:List (Addr×Obj)} {σ:St} {H:Hp} {s:Shared} {Q:VK} {k k':Bool} (I:Inv X pins σ H s) (q:Q (.bl k) H) (e:k=k'):EP X pins σ Q (.bool k') s:=by
 subst e;exact ⟨.bl k,H,I,rfl,q⟩
theorem FN:OpR X (compareOp .In) (fun x y H Q=>∃i j,x=.str i/\y=.str j/\Q (.bl (!(Builtin.Str.occurrences j i 0 j.length 1).isEmpty)) H):=by
 intro pins s σ H x y v u Q I rx ry h;obtain ⟨i,j,rfl,rfl,q⟩:=h;obtain ⟨t,rfl⟩:=rx;obtain ⟨t',rfl⟩:=ry;exact in_str (S6 I q rfl)
theorem VL:OpR X (compareOp .IsNot) (fun x y H Q=>y=.non/\Q (.bl (!decide (x=.non))) H):=by
 intro pins s σ H x y v u Q I rx ry h;obtain ⟨rfl,q⟩:=h;cases ry;refine isnot_none_gen (S6 I q ?_);cases x <;> first
  | (cases rx;rfl)
  | (obtain ⟨t,rfl⟩:=rx;rfl)
theorem mJ (b:Expr) {op:CmpOp} (h:op≠.In:=by decide) (h2:op≠.NotIn:=by decide):behindInMarks op b=false:=by
 have e1:(op==CmpOp.In)=false:=by cases op <;> first|rfl|exact absurd rfl h
 have e2:(op==CmpOp.NotIn)=false:=by cases op <;> first|rfl|exact absurd rfl h2
 cases b <;> simp [behindInMarks,e1,e2]
theorem VM {op:CmpOp} {r:R2} (ho:OpR X (compareOp op) r) (ha:PE X a ta) (hb:PE X b tb) (hm:behindInMarks op b=false):PE X (.Compare a [op] [b] pos) (tOp r ta tb):=by
 intro pins s σ H Q I h;exact wpAny_Compare1 (aDl ha hb I h fun v u s2 x y H2 I2 rx ry q=>ho pins s2 σ H2 x y v u Q I2 rx ry q) hm
def aDo (t:TE):TT:=fun σ H Q=>t σ H fun x H'=>∃k,x=.bl k/\Q k H'
theorem VN {op:CmpOp} {r:R2} (ho:OpR X (compareOp op) r) (ha:PE X a ta) (hb:PE X b tb) (hm:behindInMarks op b=false):PT X (.Compare a [op] [b] pos) (aDo (tOp r ta tb)):=by
 intro pins s σ H Q I h;refine wpAny_isTrue_Compare1 (thn (ha pins s σ H _ I h) fun v s1 ⟨x,H1,I1,r1,q1⟩=>thn (hb pins s1 σ H1 _ I1 q1) fun u s2 ⟨y,H2,I2,r2,q2⟩=>
  thn (ho pins s2 σ H2 x y v u _ I2 r1 r2 q2) fun c s3 ⟨z,H3,I3,r3,k,e,q3⟩=>?_) hm
 subst e;cases r3;exact wpAny_truthy_bool ⟨H3,I3,q3⟩
noncomputable def aCy (K:PySem.W.Frag) (x:V) (H:Hp) (k:Bool):Prop:=
 match x with
 | .non=>k=false
 | .bl b=>k=b
 | .int i=>k=(i != 0)
 | .str y=>y.length<=sizeLine/\k=((y.length:Int) != 0)
 | .byt y=>y.size<=sizeLine/\k=((y.size:Int) != 0)
 | .ref p=>(∃xs,SqL K H p xs/\k=!xs.isEmpty)\/(∃xs,SqT K H p xs/\k=!xs.isEmpty)\/∃kvs,H p=some (.dK kvs)/\k=!kvs.isEmpty
 | _=>False
theorem zB {κ:Type} {kvs:List (κ×V)} {vs:List (κ×Value)} (r:KV kvs vs):(!vs.isEmpty)=!kvs.isEmpty:=by
 cases r <;> rfl
theorem pI {xs:List V} {its:List Value} (r:Vals xs its):(!its.toArray.isEmpty)=!xs.isEmpty:=by
 cases r <;> simp
theorem pJ:(sizeLine:Nat)<2 ^ 63:=by rw [sizeLine_eq];decide
theorem aAb:aFx X (fun x H Q=>∃k,aCy X.K x H k/\Q k H):=by
 intro pins s σ H x v Q I rx h;obtain ⟨k,e,q⟩:=h;have hl:=pJ;have hs:sizeLine=16777216:=sizeLine_eq;cases x with
 | non=>
  cases rx;have e':k=false:=e;subst e';exact truthy_none ⟨H,I,q⟩
 | bl b=>
  cases rx;have e':k=b:=e;subst e';exact wpAny_truthy_bool ⟨H,I,q⟩
 | int i=>
  obtain ⟨t,rfl⟩:=rx;have e':k=(i != 0):=e;subst e';exact PySem.P.truthy_int ⟨H,I,q⟩
 | str y=>
  obtain ⟨t,rfl⟩:=rx;obtain ⟨hy,e'⟩:y.length<=sizeLine/\k=((y.length:Int) != 0):=e;subst e';exact PySem.P.truthy_str (by lia) ⟨H,I.tok _,q⟩
 | byt y=>
  obtain ⟨t,rfl⟩:=rx;obtain ⟨hy,e'⟩:y.size<=sizeLine/\k=((y.size:Int) != 0):=e;subst e';exact PySem.W.truthy_bytes (by lia) ⟨H,I.tok _,q⟩
 | ref p=>
  cases rx;have e':(∃xs,SqL X.K H p xs/\k=!xs.isEmpty)\/(∃xs,SqT X.K H p xs/\k=!xs.isEmpty)\/∃kvs,H p=some (.dK kvs)/\k=!kvs.isEmpty:=e;rcases e' with ⟨xs,hx,e'⟩|⟨xs,hx,e'⟩|⟨kvs,hx,e'⟩
  ·subst e';obtain ⟨its,r,pl,hz⟩:=I.list hx;have hlen:=r.length;exact wpAny_truthy_list pl.isList (by simp only [List.size_toArray];lia) ⟨H,I.tok _,by rw [pI r];exact q⟩
  ·subst e';obtain ⟨its,r,pl,hz⟩:=I.tuple hx;have hlen:=r.length;exact truthy_tuple pl (by simp only [List.size_toArray];lia) ⟨H,I.tok _,by rw [pI r];exact q⟩
  ·subst e';obtain ⟨hz,hS,vs,r,m⟩:kvs.length<=sizeLine/\(p==sysModules)=false/\∃vs,KV kvs vs/\s.heap.DictOf (bL X.prog X.w) p vs:=I.hok p _ hx;have hlen:kvs.length=vs.length:=Paired.length r;exact wpAny_truthy_dict hS m (by lia) ⟨H,I.tok _,by rw [zB r];exact q⟩
 | _=>exact (show False from e).elim
theorem wJ (ha:PE X a ta) (he:∀whole,isTrue a X.env whole=(do let v <- whole;standAt a.pos;holding [v] (truthy v))) :
  PT X a (fun σ H Q=>ta σ H fun x H'=>∃k,aCy X.K x H' k/\Q k H'):=by
 intro pins s σ H Q I h;exact isTrue_plain (thn (ha pins s σ H _ I h) fun v s1 ⟨x,H1,I1,r1,q1⟩=>aAb pins s1 σ H1 x v Q I1 r1 q1) (he _)
theorem zE:OpR X (binaryOp .Add) (fun x y H Q=>∃i j,x=.str i/\y=.str j/\i.length+j.length<=sizeLine/\Q (.str (i++j)) H):=by
 intro pins s σ H x y v u Q I rx ry h;obtain ⟨i,j,rfl,rfl,hz,q⟩:=h;obtain ⟨t,rfl⟩:=rx;obtain ⟨t',rfl⟩:=ry;exact add_str (fun t' tk=>⟨.str (i++j),H,I.tok _,⟨_,rfl⟩,q⟩) hz
theorem vals1 {x:V} {us:List Value} (r:Vals [x] us):∃u,us=[u]/\RelV x u:=by
 cases r with
 | cons r1 r2=>cases r2;exact ⟨_,rfl,r1⟩
end
end L2
namespace L2
open PySem PySem.Spec PyProof.Rows
structure VP (h:Heap) (x dx C:Addr) (mA:Str->Option Value):Prop where
 obj:h.get? x=some (PySem.W.instObj C dx)
 ns:h.Ns1 dx mA
 ne:dx≠x
theorem FP {h:Heap} {dx:Addr} {mA:Str->Option Value} (n:h.Ns1 dx mA):∃od,h.get? dx=some od/\∀name,PySem.W.lookIn name od=some (mA name):=by
 obtain ⟨o,es,ep,ho,hd,hk,_,hm⟩:=n;refine ⟨o,ho,fun name=>?_⟩;have e:=hm name;unfold nsFind findBy at e;rw [<-Array.find?_toList] at e;unfold PySem.W.lookIn;rw [hd];dsimp only;split
 ·rename_i y q;rw [q] at e;exact congrArg some e
 ·rename_i q;rw [q] at e;have a:es.toList.any (·.refKey)=false:=by
   rw [List.any_eq_false];intro y hy;obtain ⟨z,t,hkey⟩:=hk y (Array.mem_toList_iff.mp hy);simp [DictEntry.refKey,hkey]
  have a':¬es.toList.any (·.refKey)=true:=by rw [a];exact Bool.false_ne_true
  rw [if_neg a'];exact congrArg some e
theorem VP.look {h:Heap} {x dx C:Addr} {mA:Str->Option Value} (I:VP h x dx C mA):∃od,PySem.W.InstAt h x (PySem.W.instObj C dx) C (some od)/\∀name,PySem.W.lookIn name od=some (mA name):=
 let ⟨od,ho,hl⟩:=FP I.ns
 ⟨od,⟨I.obj,rfl,rfl,ho⟩,hl⟩
section
variable {prog:Program} {w:World} {A:Around} {E:Value->Shared->Prop} {s:Shared} {K:PySem.W.Frag} {x dx C f:Addr} {mA:Str->Option Value} {name:Str} {v:Value}
theorem u5 {expr:Bool} {Q:Value->Shared->Prop} (X:K.In s.heap) (I:VP s.heap x dx C mA) (hg:PySem.W.plainGet K C name=true) (hh:PySem.W.hasDictIn K C=true)
  (ha:PySem.W.findIn K (.ref C) name=some none) (hv:mA name=some v) (hv':PySem.W.handedIn v=true) (h:Q v {s with toks:=s.toks+1}) :
  wpAny (model prog w) A (getAttr (.ref x) name expr) Q E s:=by
 obtain ⟨od,J,hl⟩:=I.look;exact PySem.W.get_value X J (PySem.W.plainGet_of hg).1 (PySem.W.findObj_own hh ha rfl (by rw [hl,hv])) hv' h
theorem NZ {pl:Sem Bool} {Q:Value×List Value->Shared->Prop} (X:K.In s.heap) (I:VP s.heap x dx C mA) (hg:PySem.W.plainGet K C name=true)
  (hf:PySem.W.findIn K (.ref C) name=some (some (.ref f))) (ht:PySem.W.isFn K (.ref f)=true) (hv:mA name=none) (h:Q (.ref f,[.ref x]) s) :
  wpAny (model prog w) A (getMethod (.ref x) name pl) Q E s:=by
 obtain ⟨od,J,hl⟩:=I.look;exact PySem.W.method_fn X J (PySem.W.plainGet_of hg).1 (PySem.W.plainGet_of hg).2 hf (beq_iff_eq.mp ht) (by show (PySem.W.lookIn name od).map (·.isSome)=some false;rw [hl,hv];rfl) h
theorem VR {ns:List Str} {Q:Unit->Shared->Prop} (X:K.In s.heap) (I:VP s.heap x dx C mA)
  (hs:PySem.W.findIn K (.ref C) "__setattr__" = some (some (.builtin "object.__setattr__"))) (hp:PySem.W.plainOver K C=true) (ht:PySem.W.takerIn K C name=some none) (hh:PySem.W.hasDictIn K C=true)
  (hw:PySem.Within mA ns) (hsz:ns.length<=sizeLine)
  (h:∀h',VP h' x dx C (fun y=>if y=name then some v else mA y)->Heap.SameBut dx s.heap h'->Q () {s with heap:=h',toks:=s.toks+2}) :
  wpAny (model prog w) A (setAttr (.ref x) name v) Q E s:=by
 obtain ⟨od,J,hl⟩:=I.look;refine PySem.W.set_plain X J hs (PySem.W.osa_open (s:={s with toks:=s.toks+1}) (r:=none) X J hp ht fun b=>?_);obtain ⟨cd,hc,hd'⟩:=PySem.W.any_some hh;have hx:s.heap.get? x=some ⟨.ref C,some dx,.plain,#[]⟩:=I.obj;refine wpAny_bind (wpAny_pure (wpAny_bind (wpAny_bind (wpAny_loadPart hx (wpAny_bind (PySem.W.Looks.here (s:={s with toks:=s.toks+1}) (PySem.W.looks_clsIn X hc) ?_))))));rw [hd'];refine wpAny_pure (a:=some dx) (wpAny_bind (wpAny_pure (wpAny_bind ?_)));refine wpAny_nsSet1 (s:={s with toks:=s.toks+1}) I.ns fun h' hn2 hs2=>?_
 obtain ⟨oD,esD,epD,hoD,hdD,hcD⟩:=hn2.count (PySem.Within.cons name v hw);refine wpAny_bind (wpAny_lookBehind hoD (by rw [hdD];exact pastItsLine_dict (Nat.le_trans hcD (by rw [List.length_cons];lia))) ?_);exact wpAny_pure (h _ ⟨(hs2.2 _ (Ne.symm I.ne)).trans I.obj,hn2,I.ne⟩ hs2)
theorem N5 {R:Result->Shared->Prop} {vs:List Value} {kw:List (Str×Value)} (X:K.In s.heap) (hm:PySem.W.makesIn K C=true)
  (hi:PySem.W.findIn K (.ref C) "__init__" = some (some (.ref f))) (hf:PySem.W.typeIn K (.ref f)=some (.type "function"))
  (h:codeAny (model prog w) (A.under (.builtin "type.__call__" ⟨.ref C::vs,kw⟩)) (.call (.ref f) ⟨.ref (s.heap.objs.size+1)::vs,kw⟩) (PySem.W.InitBack (s.heap.objs.size+1) R)
   {s with heap:=(s.heap.push PySem.W.emptyDict).push (PySem.W.instObj C s.heap.objs.size)}) :
  codeAny (model prog w) A (.call (.ref C) ⟨vs,kw⟩) R s:=by
 obtain ⟨hh,g,d,t,os⟩:=s;exact PySem.W.make_core (PySem.W.makes_of X hm) (PySem.W.looks_findIn X hi) (fun self=>PySem.W.bind_fn X self hf) (.inl rfl) h
end
noncomputable def mK (f:Str) (v:V):List (Str×V)->List (Str×V)
 | []=>[(f,v)]
 | (g,x)::r=>if g=f then (g,v)::r else (g,x)::mK f v r
theorem nF (f g:Str) (v:V):∀fs:List (Str×V),(mK f v fs).lookup g=if g=f then some v else fs.lookup g
 | []=>by
  show List.lookup g [(f,v)]=_;by_cases h:g=f
  ·have hb:(g==f)=true:=beq_iff_eq.mpr h;simp only [List.lookup,hb,if_pos h]
  ·have hb:(g==f)=false:=beq_eq_false_iff_ne.mpr h;simp only [List.lookup,hb,if_neg h]
 | (k,x)::r=>by
  have ih:=nF f g v r;rw [show mK f v ((k,x)::r)=(if k=f then (k,v)::r else (k,x)::mK f v r) from rfl];by_cases hk:k=f
  ·rw [if_pos hk];by_cases h:g=k
   ·have hb:(g==k)=true:=beq_iff_eq.mpr h;simp only [List.lookup,hb,if_pos (h.trans hk)]
   ·have hb:(g==k)=false:=beq_eq_false_iff_ne.mpr h;simp only [List.lookup,hb,if_neg (fun e:g=f=>h (e.trans hk.symm))]
  ·rw [if_neg hk];by_cases h:g=k
   ·have hb:(g==k)=true:=beq_iff_eq.mpr h;simp only [List.lookup,hb,if_neg (fun e:g=f=>hk (h.symm.trans e))]
   ·have hb:(g==k)=false:=beq_eq_false_iff_ne.mpr h;simp only [List.lookup,hb];exact ih
theorem nG (f:Str) (v:V):∀fs:List (Str×V),f∈(mK f v fs).map (·.1)/\∀g,g∈fs.map (·.1)->g∈(mK f v fs).map (·.1)
 | []=>⟨by simp [mK],fun g h=>by simp at h⟩
 | (k,x)::r=>by
  obtain ⟨i1,i2⟩:=nG f v r;rw [show mK f v ((k,x)::r)=(if k=f then (k,v)::r else (k,x)::mK f v r) from rfl];by_cases hk:k=f
  ·rw [if_pos hk];subst hk;exact ⟨by simp,fun g h=>by simpa using h⟩
  ·rw [if_neg hk];refine ⟨?_,fun g h=>?_⟩
   ·rw [List.map_cons];exact List.mem_cons_of_mem _ i1
   ·rw [List.map_cons] at h ⊢;rcases List.mem_cons.mp h with e|e
    ·exact List.mem_cons.mpr (.inl e)
    ·exact List.mem_cons_of_mem _ (i2 g e)
theorem nH (f:Str) (v:V):∀fs:List (Str×V),(mK f v fs).length<=fs.length+1
 | []=>by simp [mK]
 | (k,x)::r=>by
  have ih:=nH f v r;rw [show mK f v ((k,x)::r)=(if k=f then (k,v)::r else (k,x)::mK f v r) from rfl];by_cases hk:k=f
  ·rw [if_pos hk,List.length_cons,List.length_cons];lia
  ·rw [if_neg hk,List.length_cons,List.length_cons];lia
theorem uN.some_of {v:V} {o:Option Value} (r:uN (some v) o):∃u,o=some u/\RelV v u:=by
 cases o with
 | none=>exact (show False from r).elim
 | some u=>exact ⟨u,rfl,r⟩
theorem uN.none_of {o:Option Value} (r:uN none o):o=none:=by
 cases o with
 | none=>rfl
 | some u=>exact (show False from r).elim
theorem FQ {v:V} {u:Value} (r:RelV v u):PySem.W.handedIn u=true:=by
 cases v with
 | non=>cases (show u=Value.none from r);rfl
 | bl b=>cases (show u=Value.bool b from r);rfl
 | int i=>obtain ⟨t,e⟩:=(show ∃t,u=Value.int i t from r);cases e;rfl
 | str x=>obtain ⟨t,e⟩:=(show ∃t,u=Value.str x t from r);cases e;rfl
 | byt b=>obtain ⟨t,e⟩:=(show ∃t,u=Value.bytes b t from r);cases e;rfl
 | flt b=>obtain ⟨t,e⟩:=(show ∃t,u=Value.float b t from r);cases e;rfl
 | ref a=>cases (show u=Value.ref a from r);rfl
 | ty n=>cases (show u=Value.type n from r);rfl
section
variable {P:Program} {w:World} {H H':Hp} {h h':Heap} {a C dx:Addr} {fs fs':List (Str×V)}
theorem u9 (hok:HOk P w H h) (e:H a=some (.ins C dx fs)):∃mA,VP h a dx C mA/\(∀f,uN (fs.lookup f) (mA f))/\PySem.Within mA (fs.map (·.1))/\fs.length<=1000/\H dx=some (.own a):=by
 obtain ⟨d,z,ne,ob,mA,n,r,q⟩:=(show dX P w H h a (.ins C dx fs) from hok a _ e)
 exact ⟨mA,⟨ob,n,ne⟩,r,q,z,d⟩
end
structure Cls (K:PySem.W.Frag) (C:Addr):Prop where
 pg:PySem.W.plainGet K C Str.empty=true
 hd:PySem.W.hasDictIn K C=true
 po:PySem.W.plainOver K C=true
 sa:PySem.W.findIn K (.ref C) "__setattr__" = some (some (.builtin "object.__setattr__"))
theorem Cls.get {K:PySem.W.Frag} {C:Addr} (c:Cls K C) (f:Str):PySem.W.plainGet K C f=true:=c.pg
noncomputable def bQ (K:PySem.W.Frag) (C:Addr) (f:Str):Prop:=PySem.W.findIn K (.ref C) f=some none
theorem bQ.taker {K:PySem.W.Frag} {C:Addr} {f:Str} (n:bQ K C f):PySem.W.takerIn K C f=some none:=by
 unfold PySem.W.takerIn;rw [show PySem.W.findIn K (.ref C) f=some none from n];rfl
structure Meth (K:PySem.W.Frag) (C:Addr) (m:Str) (f:Addr):Prop where
 at_:PySem.W.findIn K (.ref C) m=some (some (.ref f))
 fn:PySem.W.isFn K (.ref f)=true
 kp:PySem.W.keepIn K (.ref f)=true
section
variable {X:Cx} {pins:List (Addr×Obj)} {σ:St} {H:Hp} {s:Shared} {a C dx:Addr} {fs:List (Str×V)} {f:Str} {v:V} {A:Around} {E:Value->Shared->Prop}
theorem zF {b:Bool} {Q:Value->Shared->Prop} (I:Inv X pins σ H s) (e:H a=some (.ins C dx fs)) (c:Cls X.K C) (n:bQ X.K C f) (l:fs.lookup f=some v)
  (h:∀u s',Inv X pins σ H s'->RelV v u->Q u s'):wpAny (model X.prog X.w) A (getAttr (.ref a) f b) Q E s:=by
 obtain ⟨mA,O,r,_,_,_⟩:=u9 I.hok e;obtain ⟨u,hu,ru⟩:=uN.some_of (v:=v) (o:=mA f) (by rw [<-l];exact r f);exact u5 I.kIn O (c.get f) c.hd n hu (FQ ru) (h u _ (I.tok _) ru)
theorem zG {m:Str} {g:Addr} {pl:Sem Bool} {Q:Value×List Value->Shared->Prop} (I:Inv X pins σ H s) (e:H a=some (.ins C dx fs)) (c:Cls X.K C) (k:Meth X.K C m g) (l:fs.lookup m=none)
  (h:Q (.ref g,[.ref a]) s):wpAny (model X.prog X.w) A (getMethod (.ref a) m pl) Q E s:=by
 obtain ⟨mA,O,r,_,_,_⟩:=u9 I.hok e;have hn:mA m=none:=uN.none_of (by rw [<-l];exact r m);exact NZ I.kIn O (c.get m) k.at_ k.fn hn h
theorem zH {y:V} {u:Value} {Q:Unit->Shared->Prop} (I:Inv X pins σ H s) (e:H a=some (.ins C dx fs)) (c:Cls X.K C) (n:bQ X.K C f) (hl:fs.length<1000) (ry:RelV y u)
  (h:∀s',Inv X pins σ (upd H a (.ins C dx (mK f y fs))) s'->Q () s'):wpAny (model X.prog X.w) A (setAttr (.ref a) f u) Q E s:=by
 obtain ⟨mA,O,r,wi,_,ho⟩:=u9 I.hok e;have hz:(fs.map (·.1)).length<=sizeLine:=by rw [List.length_map,sizeLine_eq];lia
 refine VR I.kIn O c.sa c.po n.taker c.hd wi hz fun h' O' sb=>h _ ?_
 have hd:∃o,h'.get? dx=some o:=let ⟨o,_,_,e',_⟩:=O'.ns;⟨o,e'⟩
 refine I.write (x:=a) (e:=dx) (by rw [e];exact True.intro) (.inr ho) (fun b q hb z=>(sb.2 b hb).trans z) hd ?_;refine ⟨by rw [aJ O.ne];exact ho,?_,O.ne,O'.obj,_,O'.ns,fun g=>?_,fun g hg=>?_⟩
 ·have:=nH f y fs;lia
 ·show uN ((mK f y fs).lookup g) (if g=f then some u else mA g);rw [nF];by_cases q:g=f
  ·rw [if_pos q,if_pos q];exact ry
  ·rw [if_neg q,if_neg q];exact r g
 ·by_cases q:g=f
  ·rw [q];exact (nG f y fs).1
  ·refine (nG f y fs).2 g (wi g fun z=>hg ?_);show (if g=f then some u else mA g)=none;rw [if_neg q];exact z
theorem Inv.made (I:Inv X pins σ H s):Inv X pins σ (upd (upd H s.heap.objs.size (.own (s.heap.objs.size+1))) (s.heap.objs.size+1) (.ins C s.heap.objs.size []))
  {s with heap:=(s.heap.push PySem.W.emptyDict).push (PySem.W.instObj C s.heap.objs.size)}:=by
 have e1:(s.heap.push PySem.W.emptyDict).get? s.heap.objs.size=some PySem.W.emptyDict:=Heap.get?_push_size s.heap rfl;have e2:((s.heap.push PySem.W.emptyDict).push (PySem.W.instObj C s.heap.objs.size)).get? (s.heap.objs.size+1)=some (PySem.W.instObj C s.heap.objs.size):=by
  have:=Heap.get?_push_size (s.heap.push PySem.W.emptyDict) (o:=PySem.W.instObj C s.heap.objs.size) rfl;rwa [Heap.size_push] at this
 have e3:(s.heap.push PySem.W.emptyDict).Ns s.heap.objs.size (fun _=>none):=⟨PySem.W.emptyDict,#[],_,e1,rfl,(fun e he=>absurd he (by simp)),fun _=>rfl⟩
 have I1:=I.laid (a:=s.heap.objs.size) (o:=.own (s.heap.objs.size+1)) (h':=s.heap.push PySem.W.emptyDict) (t':=s.toks) (fun b u q=>Heap.get?_push_of_some _ q) (Nat.le_refl _) ⟨_,e1⟩;refine I1.laid (a:=s.heap.objs.size+1) (o:=.ins C s.heap.objs.size []) (t':=s.toks) (fun b u q=>Heap.get?_push_of_some _ q) (Nat.le_of_eq (Heap.size_push _ _)) ?_;have ne:s.heap.objs.size≠s.heap.objs.size+1:=Nat.ne_of_lt (Nat.lt_succ_self _);refine ⟨by rw [aJ ne,aC],Nat.zero_le _,ne,e2,fun _=>none,(Heap.Ns1.of_empty e3).at fun o q=>Heap.get?_push_of_some _ q,fun _=>True.intro,fun y hy=>absurd rfl hy⟩
theorem VV {prog:Program} {w:World} {env:Env} {e:Expr} {f:Str} {pos:Pos} {s:Shared} {Q:Value->Shared->Prop} (hb:attributeBase e f env (eval e env)=eval e env)
  (h:wpAny (model prog w) A (eval e env) (fun o s₁=>wpAny (model prog w) A (getAttr o f true) Q E s₁) E s):wpAny (model prog w) A (eval (.Attribute e f pos) env) Q E s:=
 Attribute_any_ h (by rw [arm_eval_Attribute,hb])
end
noncomputable def wK (K:PySem.W.Frag) (ta:TE) (f:Str):TE:=fun σ H Q=>ta σ H fun x H1=>∃a C dx fs v,x=.ref a/\H1 a=some (.ins C dx fs)/\Cls K C/\bQ K C f/\fs.lookup f=some v/\Q v H1
noncomputable def ZZ (K:PySem.W.Frag) (ta tv:TE) (f:Str):TS:=fun D σ H=>tv σ H fun y H1=>ta σ H1 fun x H2=>∃a C dx fs,x=.ref a/\H2 a=some (.ins C dx fs)/\Cls K C/\bQ K C f/\fs.length<1000/\
 D.nx σ (upd H2 a (.ins C dx (mK f y fs)))
section
variable {X:Cx} {o e value:Expr} {f:Str} {pos pos' tpos:Pos} {ta tv:TE}
theorem fU (he:PE X e ta) (hb:attributeBase e f X.env (eval e X.env)=eval e X.env):PE X (.Attribute e f pos) (wK X.K ta f):=by
 intro pins s σ H Q I h;refine VV hb (thn (he pins s σ H _ I h) fun u s1 ⟨x,H1,I1,rx,a,C,dx,fs,v,ex,ea,c,n,l,q⟩=>?_);subst ex;obtain rfl:u=Value.ref a:=rx;exact zF I1 ea c n l fun u' s2 I2 ru=>⟨v,H1,I2,ru,q⟩
theorem fV (ha:PE X o ta) (hv:PE X value tv) (hs:swapsWith value (some (.Attribute o f pos')) pos.line X.env=pure false):PS X (.Assign [.Attribute o f pos'] value pos) (ZZ X.K ta tv f):=by
 intro pins s σ H D I h;refine plainObj_wpAny_Assign_Attribute (thn (hv pins s σ H _ I h) fun u s1 ⟨y,H1,I1,ry,q⟩=>thn (ha pins s1 σ H1 _ I1 q) fun ov s2 ⟨x,H2,I2,rx,a,C,dx,fs,ex,ea,c,n,l,q2⟩=>?_) hs;subst ex;obtain rfl:ov=Value.ref a:=rx;exact zH I2 ea c n l ry fun s3 I3=>⟨σ,_,I3,q2⟩
end
section
variable {X:Cx} {pins:List (Addr×Obj)} {σ:St} {H:Hp} {s:Shared} {A:Around} {E:Value->Shared->Prop} {Q:Value->Shared->Prop} {c:Value} {b:Bool}
end
end L2
namespace L2
open PySem PySem.Spec PyProof.Rows
structure jC (k:Nat) (A:Around):Prop where
 hd:A.handled=none
 dp:A.depth+3*k+5<recursionLimit
 un:A.units+16*k+200<cLine
theorem jC.mono {j k:Nat} {A:Around} (r:jC k A) (h:j<=k):jC j A:=⟨r.hd,by have:=r.dp;lia,by have:=r.un;lia⟩
theorem jC.deeper {k:Nat} {A:Around} (r:jC (k+1) A) (env:Env):jC k (A.deeper env):=
 ⟨r.hd,by have:=r.dp;show A.depth+1+3*k+5<_;lia,by have:=r.un;show A.units+3+16*k+200<_;lia⟩
theorem zJ {A:Around} {C:Addr} {us:List Value} {kw:List (Str×Value)}:(A.under (.builtin "type.__call__" ⟨.ref C::us,kw⟩)).depth=A.depth+1:=by
 first|rfl|simp [Around.under,Code.weight,Code.isCreation,Code.isGuard,Code.isCaller,Code.frames,Code.isFrame,guardIds]
theorem zK {A:Around} {C:Addr} {us:List Value} {kw:List (Str×Value)}:(A.under (.builtin "type.__call__" ⟨.ref C::us,kw⟩)).units=A.units+1:=by
 first|rfl|simp [Around.under,Code.cUnits,Code.frames,Code.isFrame]
theorem jC.make {k:Nat} {A:Around} (r:jC (k+1) A) (C:Addr) (us:List Value) (kw:List (Str×Value)):jC k (A.under (.builtin "type.__call__" ⟨.ref C::us,kw⟩)):=
 ⟨r.hd,by have:=r.dp;rw [zJ];lia,by have:=r.un;rw [zK];lia⟩
theorem jC.depth {k:Nat} {A:Around} (r:jC k A):A.depth<recursionLimit:=by have:=r.dp;lia
theorem jC.units {k:Nat} {A:Around} (r:jC k A):A.units+64<cLine:=by have:=r.un;lia
def nJ:TA:=fun _ H Q=>Q [] H
noncomputable def cJ (ta:TE) (tr:TA):TA:=fun σ H Q=>ta σ H fun x H1=>tr σ H1 fun xs H2=>Q (x::xs) H2
section
variable {X:Cx} {e:Expr} {es:List Expr} {te:TE} {t:TA} {pos:Pos}
theorem dF:PA X [] nJ:=fun _ _ _ _ H Q I h=>Calls.spliced_nil ⟨[],H,I,.nil,h⟩
theorem bI (ha:PE X e te) (hr:PA X es t) (hs:starEach (e::es) X.env=(false,eval e X.env)::starEach es X.env:=by rfl):PA X (e::es) (cJ te t):=by
 intro pos pins s σ H Q I h;rw [hs];show wpAny _ _ (spliced ((false,eval e X.env)::backTo pos (starEach es X.env))) _ _ s;refine Calls.spliced_cons (thn (ha pins s σ H _ I h) fun u s1 ⟨x,H1,I1,r1,q1⟩=>?_);exact thn (hr pos pins s1 σ H1 _ I1 q1) fun us s2 ⟨xs,H2,I2,r2,q2⟩=>⟨x::xs,H2,I2,.cons r1 r2,q2⟩
noncomputable def aF4 (t:TA):TE:=fun σ H Q=>t σ H fun xs H1=>xs.length<=sizeLine/\∀p,H1 p=none->Q (.ref p) (upd H1 p (.tup xs))
noncomputable def aCz (t:TA):TE:=fun σ H Q=>t σ H fun xs H1=>xs.length<=sizeLine/\∀p,H1 p=none->Q (.ref p) (upd H1 p (.lst xs))
theorem S7 {x1} (h:PA X es t):PE X (.Tuple es x1 pos) (aF4 t):=by
 intro pins s σ H Q I hq;refine wpAny_Tuple_spliced (thn (h pos pins s σ H _ I hq) fun us s1 ⟨xs,H1,I1,r,z,q⟩=>⟨by rw [<-r.length];exact z,?_⟩);have hf:H1 s1.heap.objs.size=none:=I1.hok.fresh (Nat.le_refl _);refine ⟨.ref s1.heap.objs.size,upd H1 s1.heap.objs.size (.tup xs),I1.laid (t':=s1.toks) (fun b u e=>Heap.get?_push_of_some _ e) (Nat.le_refl _) ?_,rfl,q _ hf⟩;exact ⟨z,us,r,⟨_,Heap.get?_push_size _ rfl,rfl,_,rfl⟩⟩
theorem FW (h:PA X es t):PE X (.List es pos) (aCz t):=by
 intro pins s σ H Q I hq;refine wpAny_List_spliced (thn (h pos pins s σ H _ I hq) fun us s1 ⟨xs,H1,I1,r,z,q⟩=>⟨by rw [<-r.length];exact z,?_⟩);have hf:H1 s1.heap.objs.size=none:=I1.hok.fresh (Nat.le_refl _);refine ⟨.ref s1.heap.objs.size,upd H1 s1.heap.objs.size (.lst xs),I1.laid (t':=s1.toks) (fun b u e=>Heap.get?_push_of_some _ e) (Nat.le_refl _) ?_,rfl,q _ hf⟩;exact ⟨z,us,0,r,Heap.get?_push_size _ rfl⟩
end
abbrev Sp:=List V->Hp->VK->XK->Prop
abbrev CXT:=List Env->Hp->Shared->XK->Value->Shared->Prop
structure V0 (P:Program) (w:World) (K:PySem.W.Frag) (mg:Str->Option Value) (base:Heap) (A:Around) (outer:List Env) (s:Shared) (H:Hp):Prop where
 frames:A.frames=some outer
 mod:Mod K mg base
 bs:∀b o,base.get? b=some o->s.heap.get? b=some o/\H b=none
 bsz:base.objs.size<=s.heap.objs.size
 yW:s.heap.FunFrames base outer
 frf:∀b∈frs outer,H b=none
 hok:HOk P w H s.heap
 bare:AllBare s.gens
noncomputable def CE (outer:List Env) (P:Program) (w:World) (H:Hp) (s:Shared) (Q:VK) (u:Value) (s':Shared):Prop:=
 ∃v H',s'.os=s.os/\AllBare s'.gens/\Un (frs outer) [] H H' s.heap s'.heap/\HOk P w H' s'.heap/\RelV v u/\Q v H'
noncomputable def CR (CX:CXT) (outer:List Env) (P:Program) (w:World) (H:Hp) (s:Shared) (Q:VK) (E:XK) (r:Result) (s':Shared):Prop:=
 match r with
 | .ok (.ret u)=>CE outer P w H s Q u s'
 | .ok _=>False
 | .error e=>CX outer H s E e s'
structure i_ (P:Program) (w:World) (K:PySem.W.Frag) (mg:Str->Option Value) (base:Heap) (CX:CXT) (k:Nat) (f:Addr) (fd:FuncData) (ps:List Str) (sp:Sp):Prop where
 len:∀vs H Q E,sp vs H Q E->vs.length=ps.length
 run:∀(A:Around) (outer:List Env) (s:Shared) (H:Hp) (args:Args) (us:List Value) (vs:List V) (Q:VK) (E:XK),jC k A->V0 P w K mg base A outer s H->BindsTo s fd args (ps.zip us)->Vals vs us->sp vs H Q E->
  codeAny (model P w) A (.call (.ref f) args) (CR CX outer P w H s Q E) s
theorem V0.make {P:Program} {w:World} {K:PySem.W.Frag} {mg:Str->Option Value} {base:Heap} {A:Around} {outer:List Env} {s:Shared} {H:Hp} (e:V0 P w K mg base A outer s H) (C:Addr) (us:List Value) (kw:List (Str×Value)) :
  V0 P w K mg base (A.under (.builtin "type.__call__" ⟨.ref C::us,kw⟩)) outer s H:=⟨by first|exact e.frames|(simpa [Around.under,Code.envs,Code.isFrame,pushEnvs] using e.frames),e.mod,e.bs,e.bsz,e.yW,e.frf,e.hok,e.bare⟩
section
variable {X:Cx} {pins:List (Addr×Obj)} {σ:St} {H:Hp} {s s':Shared}
theorem Inv.env0 (I:Inv X pins σ H s):V0 X.prog X.w X.K X.mg X.base X.A X.stack s H:=
 ⟨I.ok.frames,I.ok.mod,I.bs,Nat.le_trans I.ok.bsz I.sz,I.stack,I.uX,I.hok,I.bare⟩
theorem Inv.after {Q:VK} {u:Value} (I:Inv X pins σ H s) (h:CE X.stack X.prog X.w H s Q u s'):EP X pins σ Q u s':=by
 obtain ⟨v,H',os,bare,un,hok,r,q⟩:=h;obtain ⟨hh,g,d,t,os'⟩:=s';obtain rfl:os'=s.os:=os;exact ⟨v,H',I.call (h':=hh) (g':=g) (d':=d) (t':=t) (ch:=[]) un hok bare (fun b z=>absurd z (by simp)),r,q⟩
end
noncomputable def aDp (sp:Sp) (dvs:List V) (E:XK) (t:TA):TE:=fun σ H Q=>t σ H fun vs H1=>sp (vs++dvs) H1 Q E
noncomputable def zL (C:Addr) (m:Str) (sp:Sp) (dvs:List V) (E:XK) (ta:TE) (t:TA):TE:=fun σ H Q=>ta σ H fun x H1=>∃a dx fs,x=.ref a/\H1 a=some (.ins C dx fs)/\fs.lookup m=none/\
 t σ H1 fun vs H2=>sp (x::(vs++dvs)) H2 Q E
noncomputable def aDq (C:Addr) (sp:Sp) (dvs:List V) (E:XK) (t:TA):TE:=fun σ H Q=>t σ H fun vs H1=>∀x dx,H1 x=none->H1 dx=none->dx≠x->
 sp (.ref x::(vs++dvs)) (upd (upd H1 dx (.own x)) x (.ins C dx [])) (fun v H2=>v=.non/\Q (.ref x) H2) E
noncomputable def Binds (K:PySem.W.Frag) (fd:FuncData) (ps:List Str) (ds:List Value):Prop:=
 ∀(s:Shared) (us:List Value),K.In s.heap->(us++ds).length=ps.length->BindsTo s fd ⟨us,[]⟩ (ps.zip (us++ds))
theorem Binds.all {K:PySem.W.Frag} {fd:FuncData} {ps:List Str} (h:∀us:List Value,us.length=ps.length->bindArgs fd ⟨us,[]⟩=pure (ps.zip us)):Binds K fd ps []:=fun s us _ hl=>by
 rw [List.append_nil] at hl ⊢;exact .of_eq (h us hl)
noncomputable def nM (CX:CXT) (X:Cx) (E:XK):Prop:=∀(pins:List (Addr×Obj)) (σ:St) (H:Hp) (s:Shared) (e:Value) (s':Shared),Inv X pins σ H s->CX X.stack H s E e s'->X.xe e s'
section
variable {X:Cx} {CX:CXT} {k:Nat} {f C:Addr} {fd:FuncData} {ps:List Str} {sp:Sp} {dvs:List V} {ds:List Value} {E:XK} {x m:Str} {p pos apos:Pos} {e o:Expr} {es:List Expr} {ta:TE} {t:TA}
theorem S8 {pins:List (Addr×Obj)} {σ:St} {H:Hp} {s:Shared} {Q:VK} {us:List Value} {vs:List V} (F:i_ X.prog X.w X.K X.mg X.base CX k f fd ps sp) (hr:jC k X.A) (hb:Binds X.K fd ps ds) (hd:Vals dvs ds) (hx:nM CX X E)
  (I:Inv X pins σ H s) (r:Vals vs us) (h:sp (vs++dvs) H Q E):wpAny (model X.prog X.w) X.A (call (.ref f) us) (EP X pins σ Q) X.xe s:=by
 have r2:Vals (vs++dvs) (us++ds):=r.append hd;have hl:(us++ds).length=ps.length:=by rw [<-r2.length];exact F.len _ _ _ _ h
 refine wpAny_call (codeAny_mono (F.run X.A X.stack s H ⟨us,[]⟩ (us++ds) (vs++dvs) Q E hr I.env0 (hb s us I.kIn hl) r2 h) fun r s' hq=>?_);cases r with
 | error e=>exact hx pins σ H s e s' I hq
 | ok fl=>
  cases fl with
  | ret u=>exact I.after hq
  | next=>exact False.elim hq
  | brk=>exact False.elim hq
  | cont=>exact False.elim hq
theorem FZ (F:i_ X.prog X.w X.K X.mg X.base CX k f fd ps sp) (hr:jC k X.A) (hg:Gl X x) (hm:X.mg x=some (.ref f)) (hk:PySem.W.keepIn X.K (.ref f)=true) (hb:Binds X.K fd ps ds) (hd:Vals dvs ds) (hx:nM CX X E)
  (ha:PA X (e::es) t) (hdb:nDb x:=by decide) (he:starEach (e::es) X.env=(false,eval e X.env)::starEach es X.env:=by rfl) (hpl:(backTo pos (starEach es X.env)).any (·.1)=false:=by rfl) :
  PE X (.Call (.Name x p) (e::es) [] pos) (aDp sp dvs E t):=by
 intro pins s σ H Q I h;refine wpAny_Call_Name_kw (nC I hg hm ?_ hdb);refine PySem.W.callWith_K (h₀:=X.base) I.ok.mod.kin hk (thn (ha pos pins s σ H _ I h) fun us s1 ⟨vs,H1,I1,r,q⟩=>⟨I1.kIn,?_⟩) he hpl;exact S8 F hr hb hd hx I1 r q
theorem qF {pl:Sem Bool} (he:PE X o ta) (c:Cls X.K C) (hm:Meth X.K C m f) (F:i_ X.prog X.w X.K X.mg X.base CX k f fd ps sp) (hr:jC k X.A) (hb:Binds X.K fd ps ds) (hd:Vals dvs ds) (hx:nM CX X E) (ha:PA X (e::es) t)
  (hst:starEach (e::es) X.env=(false,eval e X.env)::starEach es X.env:=by rfl) (hpl:(backTo pos (starEach es X.env)).any (·.1)=false:=by rfl)
  (ht:eval (.Call (.Attribute o m apos) (e::es) [] pos) X.env=(do
   let ov <- eval o X.env
   standAt apos.atName
   let (f,first) <- holding [ov] (getMethod ov m pl)
   callWith pos f first (backTo pos (starEach (e::es) X.env)) (backToKw pos (keywordEach [] X.env))):=by rfl) :
  PE X (.Call (.Attribute o m apos) (e::es) [] pos) (zL C m sp dvs E ta t):=by
 intro pins s σ H Q I h;refine PySem.W.methodCall_KW (pl:=pl) (thn (he pins s σ H _ I h) fun u s1 ⟨x,H1,I1,rx,a,dx,fs,ex,ea,l,q⟩=>?_) ht;subst ex;obtain rfl:u=Value.ref a:=rx;refine zG I1 ea c hm l ?_;refine PySem.W.callWith_K (first:=[.ref a]) (h₀:=X.base) I.ok.mod.kin hm.kp (thn (ha pos pins s1 σ H1 _ I1 q) fun us s2 ⟨vs,H2,I2,r,q2⟩=>⟨I2.kIn,?_⟩) hst hpl;exact S8 (us:=.ref a::us) (vs:=.ref a::vs) F hr hb hd hx I2 (.cons rfl r) q2
structure Mk (K:PySem.W.Frag) (C f:Addr):Prop where
 makes:PySem.W.makesIn K C=true
 init:PySem.W.findIn K (.ref C) "__init__" = some (some (.ref f))
 fn:PySem.W.isFn K (.ref f)=true
 kp:PySem.W.keepIn K (.ref C)=true
theorem N6 {pins:List (Addr×Obj)} {σ:St} {H:Hp} {s:Shared} {Q:VK} {us:List Value} {vs:List V} (M:Mk X.K C f) (F:i_ X.prog X.w X.K X.mg X.base CX k f fd ps sp) (hr:jC (k+1) X.A) (hb:Binds X.K fd ps ds) (hd:Vals dvs ds)
  (hx:nM CX X E) (I:Inv X pins σ H s) (r:Vals vs us)
  (h:∀x dx,H x=none->H dx=none->dx≠x->sp (.ref x::(vs++dvs)) (upd (upd H dx (.own x)) x (.ins C dx [])) (fun v H2=>v=.non/\Q (.ref x) H2) E) :
  wpAny (model X.prog X.w) X.A (call (.ref C) us) (EP X pins σ Q) X.xe s:=by
 have hq:=h (s.heap.objs.size+1) s.heap.objs.size (I.hok.fresh (Nat.le_succ _)) (I.hok.fresh (Nat.le_refl _)) (Nat.ne_of_lt (Nat.lt_succ_self _));have I2:=Inv.made (C:=C) I;have r2:Vals (V.ref (s.heap.objs.size+1)::(vs++dvs)) (Value.ref (s.heap.objs.size+1)::(us++ds)):=.cons rfl (r.append hd);have hl:(Value.ref (s.heap.objs.size+1)::us++ds).length=ps.length:=by
  have e:=r2.length;rw [F.len _ _ _ _ hq] at e;exact e.symm
 refine wpAny_call (N5 (f:=f) I.kIn M.makes M.init (beq_iff_eq.mp M.fn) (codeAny_mono (F.run _ X.stack _ _ ⟨Value.ref (s.heap.objs.size+1)::us,[]⟩ (Value.ref (s.heap.objs.size+1)::(us++ds)) _ _ E (hr.make C us [])
  (I2.env0.make C us []) (hb _ (Value.ref (s.heap.objs.size+1)::us) I2.kIn hl) r2 hq) fun r s' hq'=>?_))
 cases r with
 | error e=>exact hx pins σ _ _ e s' I2 hq'
 | ok fl=>
  cases fl with
  | ret u=>
   obtain ⟨v,H',I3,rv,ev,q3⟩:=I2.after hq';subst ev;exact ⟨rv,⟨V.ref (s.heap.objs.size+1),H',I3,rfl,q3⟩⟩
  | next=>exact False.elim hq'
  | brk=>exact False.elim hq'
  | cont=>exact False.elim hq'
theorem V1 (M:Mk X.K C f) (F:i_ X.prog X.w X.K X.mg X.base CX k f fd ps sp) (hr:jC (k+1) X.A) (hg:Gl X x) (hm:X.mg x=some (.ref C)) (hb:Binds X.K fd ps ds) (hd:Vals dvs ds) (hx:nM CX X E)
  (ha:PA X (e::es) t) (hdb:nDb x:=by decide) (he:starEach (e::es) X.env=(false,eval e X.env)::starEach es X.env:=by rfl) (hpl:(backTo pos (starEach es X.env)).any (·.1)=false:=by rfl) :
  PE X (.Call (.Name x p) (e::es) [] pos) (aDq C sp dvs E t):=by
 intro pins s σ H Q I h;refine wpAny_Call_Name_kw (nC I hg hm ?_ hdb);refine PySem.W.callWith_K (h₀:=X.base) I.ok.mod.kin M.kp (thn (ha pos pins s σ H _ I h) fun us s1 ⟨vs,H1,I1,r,q⟩=>⟨I1.kIn,?_⟩) he hpl;exact N6 M F hr hb hd hx I1 r q
end
section
variable {X:Cx} {CX:CXT} {k:Nat} {f C:Addr} {fd:FuncData} {ps ks:List Str} {sp:Sp} {E:XK} {x m:Str} {p pos apos kpos:Pos} {e o:Expr} {es:List Expr} {kws:List Keyword} {te ta:TE} {t tk:TA} {nm:Option Str}
variable {g:List Value->List Value->List Value} {gV:List V->List V->List V}
end
structure bZ (N P:List Str) (sc:Scope):Prop where
 kind:sc.kind=.function
 co:sc.isCoroutine=false
 gen:sc.isGenerator=false
 nd:N.Nodup
 pre:N.take P.length=P
 par:∀x∈P,sc.names.lookup x=some .local\/sc.names.lookup x=some .cell
 nofree:∀y∈sc.names,y.2≠.free
theorem sG {kindOf:Str->Option NameKind} {x:Str}:∀{binds:List (Str×Value)} {m:Str->Option Value},(∀v,(x,v)∉binds)->bindL kindOf binds m x=m x
 | [],_,_=>rfl
 | (n,v)::r,m,h=>by
  unfold bindL;rw [sG fun w hw=>h w (List.mem_cons_of_mem _ hw)];split
  ·have:x≠n:=by rintro rfl;exact h v List.mem_cons_self
   simp [this]
  ·rfl
theorem sI {kindOf:Str->Option NameKind} {x:Str}:∀{binds:List (Str×Value)} {m:Str->Option Value},(∀v,(x,v)∉binds)->bindC kindOf binds m x=m x
 | [],_,_=>rfl
 | (n,v)::r,m,h=>by
  unfold bindC;rw [sI fun w hw=>h w (List.mem_cons_of_mem _ hw)];split
  ·rfl
  ·have:x≠n:=by rintro rfl;exact h v List.mem_cons_self
   simp [this]
theorem sJ {kindOf:Str->Option NameKind} {x:Str} {v:Value}:∀{P:List Str} {vs:List Value} {i:Nat} {m:Str->Option Value},P.Nodup->P[i]?=some x->vs[i]?=some v->kindOf x=some .local->
  bindL kindOf (P.zip vs) m x=some v
 | [],_,_,_,_,h,_,_=>by simp at h
 | _::_,[],_,_,_,_,h,_=>by simp at h
 | p::P,w::vs,0,m,nd,h1,h2,hk=>by
  simp at h1 h2;subst h1;subst h2;show bindL kindOf ((p,w)::P.zip vs) m p=_;unfold bindL;rw [sG fun v hv=>(List.nodup_cons.mp nd).1 (List.of_mem_zip hv).1,if_pos hk];simp
 | p::P,w::vs,i+1,m,nd,h1,h2,hk=>by
  show bindL kindOf ((p,w)::P.zip vs) m x=_;unfold bindL;exact sJ (i:=i) (List.nodup_cons.mp nd).2 (by simpa using h1) (by simpa using h2) hk
theorem sO {kindOf:Str->Option NameKind} {x:Str} {v:Value}:∀{P:List Str} {vs:List Value} {i:Nat} {m:Str->Option Value},P.Nodup->P[i]?=some x->vs[i]?=some v->kindOf x≠some .local->
  bindC kindOf (P.zip vs) m x=some v
 | [],_,_,_,_,h,_,_=>by simp at h
 | _::_,[],_,_,_,_,h,_=>by simp at h
 | p::P,w::vs,0,m,nd,h1,h2,hk=>by
  simp at h1 h2;subst h1;subst h2;show bindC kindOf ((p,w)::P.zip vs) m p=_;unfold bindC;rw [sI fun v hv=>(List.nodup_cons.mp nd).1 (List.of_mem_zip hv).1,if_neg hk];simp
 | p::P,w::vs,i+1,m,nd,h1,h2,hk=>by
  show bindC kindOf ((p,w)::P.zip vs) m x=_;unfold bindC;exact sO (i:=i) (List.nodup_cons.mp nd).2 (by simpa using h1) (by simpa using h2) hk
noncomputable def start (N:List Str) (vs:List V):St:=vs.map some++List.replicate (N.length-vs.length) none
noncomputable def wL (CX:CXT) (P:Program) (w:World) (K:PySem.W.Frag) (mg:Str->Option Value) (base:Heap) (N:List Str) (qual:Str) (scope:Scope) (f:Addr) (cd:Value) (A:Around) (outer:List Env) (s:Shared) (H:Hp) (E:XK):Cx where
 prog:=P
 w:=w
 K:=K
 mg:=mg
 base:=base
 A:=A.deeper (envOfC qual scope s.heap.objs.size f cd)
 N:=N
 s₀:=s
 H₀:=H
 env:=envOfC qual scope s.heap.objs.size f cd
 outer:=outer
 stack:=envOfC qual scope s.heap.objs.size f cd::outer
 ex:=[]
 calm:=true
 fn:=fun _=>true
 pn:=[]
 xe:=fun e s'=>wpAny (model P w) (A.deeper (envOfC qual scope s.heap.objs.size f cd)) (leaving (envOfC qual scope s.heap.objs.size f cd) e) (fun _ s''=>CX outer H s E e s'') (fun e' s''=>CX outer H s E e' s'') s'
theorem wM {sc:Scope} {n:Nat} {x:Str} (h:sc.names.lookup x=some .cell):∃c,(cellsFrom n sc.names []).lookup x=some c:=by
 have q:=PySem.W.cellsFrom_some sc.names n [] (.inl h);exact Option.isSome_iff_exists.mp q
theorem F_ {CX:CXT} {P:Program} {w:World} {K:PySem.W.Frag} {mg:Str->Option Value} {base:Heap} {N ps:List Str} {qual:Str} {scope:Scope} {f:Addr} {cd:Value} {A:Around} {outer:List Env} {s s1:Shared} {H:Hp} {E:XK} {us:List Value} {vs:List V}
  (S:bZ N ps scope) (hd:A.handled=none) (e0:V0 P w K mg base A outer s H) (hl:vs.length=ps.length) (r:Vals vs us)
  (x:InCallC s s.heap.objs.size (bindL (envOfC qual scope s.heap.objs.size f cd).kindOf (ps.zip us) fun _=>none) (cellsFrom (s.heap.objs.size+1) scope.names []) (bindC (envOfC qual scope s.heap.objs.size f cd).kindOf (ps.zip us) fun _=>none) s1) :
  Inv (wL CX P w K mg base N qual scope f cd A outer s H E) [] (start N vs) H s1:=by
 have hpl:ps.length<=N.length:=by have:=congrArg List.length S.pre;rw [List.length_take] at this;lia
 obtain ⟨h1,tk,rfl,hk⟩:=x.done;have noA:∀b:Addr,b∉(wL CX P w K mg base N qual scope f cd A outer s H E).ex:=fun b z=>absurd (show b∈([]:List Addr) from z) (by simp)
 refine ⟨⟨e0.mod,S.kind,rfl,rfl,Nat.le_refl _,fun y z c h1 h2=>?_,fun y hy=>?_,fun y c _ h=>?_,fun _=>hd,Around.frames_deeper e0.frames,.inr ⟨rfl,rfl⟩,fun b z=>absurd z (noA b),e0.bs,e0.bsz,fun b _ _=>noA b,fun b z=>absurd z (noA b),e0.yW,e0.frf⟩,
  rfl,e0.bare,Un.kept hk,⟨_,x.toInCall.ns,fun i y v h1 h2 h3=>?_⟩,fun y c h=>⟨_,x.cell y c h⟩,e0.hok.fresh (Nat.le_refl _),fun y c h=>?_,fun p hp=>absurd (show p∈([]:List (Addr×Obj)) from hp) (by simp),e0.hok.kept hk,?_⟩
 ·exact name_of_addr x.apart (PySem.mem_of_lookup h1) (PySem.mem_of_lookup h2)
 ·have hy:scope.names.lookup y=some .cell\/scope.names.lookup y=some .free:=hy;rcases hy with hy|hy
  ·exact wM hy
  ·exact absurd rfl (S.nofree _ (PySem.mem_of_lookup hy))
 ·exact Nat.le_of_lt (x.above y c (PySem.mem_of_lookup h))
 ·have hi:i<vs.length:=by
   unfold start at h2;by_cases hi:i<vs.length
   ·exact hi
   ·rw [List.getElem?_append_right (by simpa using hi)] at h2;rw [List.getElem?_replicate] at h2;split at h2 <;> cases h2
  have ha:vs[i]?=some v:=by
   unfold start at h2;rw [List.getElem?_append_left (by simpa using hi),List.getElem?_map] at h2;cases e:vs[i]? with
   | none=>rw [e] at h2;cases h2
   | some a=>rw [e] at h2;cases h2;rfl
  obtain ⟨u,hu,rv⟩:=r.get ha;have hp:ps[i]?=some y:=by
   rw [<-S.pre,List.getElem?_take_of_lt (by lia)];exact h1
  have ndP:ps.Nodup:=by rw [<-S.pre];exact S.nd.sublist (List.take_sublist _ _)
  refine ⟨u,rv,?_⟩;rcases S.par y (List.mem_of_getElem? hp) with k|k
  ·exact .inl ⟨k,sJ ndP hp hu k⟩
  ·obtain ⟨c,e⟩:=wM (n:=s.heap.objs.size+1) k;refine .inr ⟨.inl k,c,e,?_⟩;have q:=x.cell y c e;rw [sO ndP hp hu (by show scope.names.lookup y≠_;rw [k];decide)] at q;exact q
 ·exact e0.hok.fresh (Nat.le_of_lt (x.above y c (PySem.mem_of_lookup h)))
 ·unfold start;show _=N.length;rw [List.length_append,List.length_map,List.length_replicate];lia
theorem V2 {CX:CXT} {P:Program} {w:World} {K:PySem.W.Frag} {mg:Str->Option Value} {base:Heap} {k:Nat} {f:Addr} {name qual:Str} {params:Arguments} {body:List Stmt} {scope:Scope} {dV kV doc pm cdv ct oc:Value} {an od:Option Addr}
  {osl:Array (Option Value)} {N ps:List Str} {sp:Sp} (lk:K.lookup f=some ⟨oc,od,.func (PySem.W.fnOf name qual params body scope dV kV doc pm an cdv ct),osl⟩) (hcd:PySem.W.codeIn K cdv qual=true) (S:bZ N ps scope)
  (len:∀vs H Q E,sp vs H Q E->vs.length=ps.length)
  (hbody:∀(A:Around) (outer:List Env) (s:Shared) (H:Hp) (vs:List V) (Q:VK) (E:XK),jC k (A.deeper (envOfC qual scope s.heap.objs.size f cdv))->sp vs H Q E->
   ∃t,PSs (wL CX P w K mg base N qual scope f cdv A outer s H E) body t/\t {nx:=fun _ H'=>Q .non H',rt:=Q} (start N vs) H) :
  i_ P w K mg base CX (k+1) f (PySem.W.fnOf name qual params body scope dV kV doc pm an cdv ct) ps sp:=by
 refine ⟨len,fun A outer s H args us vs Q E hr e0 hb r hsp=>?_⟩;have hl:=len _ _ _ _ hsp;have KX:K.In s.heap:=e0.mod.kin.keeps fun b o e=>(e0.bs b o e).1
 have lim:s.heap.NoLimit:=e0.mod.nolimit.keeps fun b o e=>(e0.bs b o e).1
 have hkind:∀y∈ps.zip us,scope.names.lookup y.1=some .local\/(scope.names.lookup y.1=some .cell/\((cellsFrom (s.heap.objs.size+1) scope.names []).lookup y.1).isSome=true):=fun ⟨n,v⟩ hy=>by
  rcases S.par n (List.of_mem_zip hy).1 with q|q
  ·exact .inl q
  ·exact .inr ⟨q,PySem.W.cellsFrom_some _ _ _ (.inl q)⟩
 refine codeAny_call_function hr.depth (KX _ _ lk) rfl S.co S.gen rfl (PySem.W.codeRec_of KX hcd) (hb _ _ _ _ ?_);refine wpAny_newFunctionEnv_cells S.kind hkind fun env he s1 x=>?_
 subst he;refine ⟨lim.keeps x.toInCall.keep,codeAny_func ?_⟩;obtain ⟨t,ht,hq⟩:=hbody A outer s H vs Q E (hr.deeper _) hsp;have I:Inv (wL CX P w K mg base N qual scope f cdv A outer s H E) [] (start N vs) H s1:=F_ S hr.hd e0 hl r x;refine wpAny_mono (ht [] s1 (start N vs) H _ I hq) (fun fl s' hs=>?_) fun e s' hs=>hs
 have fin:∀{σ':St} {H':Hp} {v:V} {u:Value},Inv (wL CX P w K mg base N qual scope f cdv A outer s H E) [] σ' H' s'->RelV v u->Q v H'->CE outer P w H s Q u s':=
  fun {σ' H' v u} J rv q=>⟨v,H',J.os,J.bare,J.base,J.hok,rv,q⟩
 cases fl with
 | ret u=>
  obtain ⟨v,σ',H',J,rv,q⟩:=hs;exact fin J rv q
 | next=>
  obtain ⟨σ',H',J,q⟩:=hs;exact fin (v:=V.non) (u:=Value.none) J rfl q
 | brk=>
  obtain ⟨_,_,_,q⟩:=hs;exact False.elim q
 | cont=>
  obtain ⟨_,_,_,q⟩:=hs;exact False.elim q
end L2
namespace L2
open PySem PySem.Spec PyProof.Rows
section
variable {X:Cx} {x:Str} {p pos:Pos} {e:Expr} {es:List Expr} {t:TA} {id T:String} {r:List V->Hp->VK->Prop}
noncomputable def tCB (r:List V->Hp->VK->Prop) (t:TA):TE:=fun σ H Q=>t σ H fun vs H1=>r vs H1 Q
theorem wN (hc:lO X (.builtin id) r) (hg:Gl X x) (hm:X.mg x=none) (hv:bootBuiltins x=some (.builtin id)) (ha:PA X (e::es) t) (hn:x ≠ "__name__":=by decide) (hdb:nDb x:=by decide)
  (he:starEach (e::es) X.env=(false,eval e X.env)::starEach es X.env:=by rfl) (hpl:(backTo pos (starEach es X.env)).any (·.1)=false:=by rfl):PE X (.Call (.Name x p) (e::es) [] pos) (tCB r t):=by
 intro pins s σ H Q I h;refine wpAny_Call_Name_kw (jA I hg hm hv ?_ hn hdb);exact PyProof.Rows.callWith_builtin1 (thn (ha pos pins s σ H _ I h) fun us s1 ⟨vs,H1,I1,r1,q1⟩=>hc pins s1 σ H1 vs us Q I1 r1 q1) he hpl
theorem GC (hc:lO X (.type T) r) (hg:Gl X x) (hm:X.mg x=none) (hv:bootBuiltins x=some (.type T)) (ha:PA X (e::es) t) (hn:x ≠ "__name__":=by decide) (hdb:nDb x:=by decide)
  (he:starEach (e::es) X.env=(false,eval e X.env)::starEach es X.env:=by rfl) (hpl:(backTo pos (starEach es X.env)).any (·.1)=false:=by rfl):PE X (.Call (.Name x p) (e::es) [] pos) (tCB r t):=by
 intro pins s σ H Q I h;refine wpAny_Call_Name_kw (jA I hg hm hv ?_ hn hdb);exact PyProof.Rows.callWith_type1 (thn (ha pos pins s σ H _ I h) fun us s1 ⟨vs,H1,I1,r1,q1⟩=>hc pins s1 σ H1 vs us Q I1 r1 q1) he hpl
end
end L2
namespace HT
open PySem PyProof.Rows
section
open PySem.SeqAt
open PySem.AutoSeq1 (wpAny_loadPart')
open PySem.MeetsSeq PySem.MeetsSeq2 PySem.MeetsSeq3
end
section
variable {prog:Program} {w:World} {A:Around} {E:Value->Shared->Prop} {s:Shared}
theorem V3 {t b:Addr} {vs ws:List Value} {Q:Value->Shared->Prop} (ht:IsTup s.heap t vs.toArray) (hb:IsTup s.heap b ws.toArray) (hv:vs≠[])
  (h1:ws=[]->Q (.ref t) s) (h2:ws≠[]->Q (.ref s.heap.objs.size) {s with heap:=s.heap.push {cls:=.type "tuple",data:=.seq (vs++ws).toArray}})
  (hsz:vs.length+ws.length<=sizeLine):wpAny (model prog w) A (binaryOp .Add (.ref t) (.ref b)) Q E s:=by
 obtain ⟨⟨cls,dd,data,sl⟩,ho,hc,n,hd⟩:=id ht;obtain ⟨⟨cls2,dd2,data2,sl2⟩,ho2,hc2,n2,hd2⟩:=id hb;simp only at hc hd hc2 hd2;subst hc hd hc2 hd2;have e:vs.toArray++ws.toArray=(vs++ws).toArray:=by simp
 by_cases hw:ws=[]
 ·exact concat_meets ⟨_,ho,rfl⟩ ⟨_,ho2,rfl⟩ noFill_tuple_add seq_tuple_add PySem.F.slot_tuple_add PySem.F.entry_tuple_add (PySem.F.args_tuple_add_2 _ _)
   (tuple_addW1 t b vs.toArray ws.toArray n n2 dd dd2 sl sl2 (by simpa using hv) (by simp [hw])) ⟨ho,ho2,h1 hw⟩
 ·refine concat_meets ⟨_,ho,rfl⟩ ⟨_,ho2,rfl⟩ noFill_tuple_add seq_tuple_add PySem.F.slot_tuple_add PySem.F.entry_tuple_add (PySem.F.args_tuple_add_2 _ _)
   (tuple_addW2 t b vs.toArray ws.toArray n n2 dd dd2 sl sl2 (by simpa using hv) (by simpa using hw) (by rw [List.size_toArray,List.size_toArray];exact hsz)) ⟨ho,ho2,?_⟩
  rw [e];exact h2 hw
noncomputable def sIx (n d:Nat):Option Int->Nat
 | none=>d
 | some v=>if v<0 then (v+(n:Int)).toNat else min v.toNat n
theorem aAc (n d:Nat) (hd:d<=n) (o:Option Int):sIx n d o<=n:=by
 cases o with
 | none=>exact hd
 | some v=>
  show (if v<0 then (v+(n:Int)).toNat else min v.toNat n)<=n;by_cases hv:v<0
  ·rw [if_pos hv];lia
  ·rw [if_neg hv];exact Nat.min_le_right _ _
theorem GD (v:Int) (n d:Nat):(if v<0 then max (v+(n:Int)) 0 else min v (n:Int))=((sIx n d (some v):Nat):Int):=by
 show (if v<0 then max (v+(n:Int)) 0 else min v (n:Int))=(((if v<0 then (v+(n:Int)).toNat else min v.toNat n):Nat):Int);by_cases hv:v<0
 ·simp only [if_pos hv];lia
 ·simp only [if_neg hv];lia
theorem zM (lo hi:Option Int) (n:Nat):Builtin.Slice.sliceAdjust lo hi 1 (n:Int)=(((sIx n 0 lo:Nat):Int),((sIx n n hi:Nat):Int)):=by
 have h1:¬((1:Int)<0):=by lia
 unfold Builtin.Slice.sliceAdjust;simp only [h1,if_false];refine Prod.ext ?_ ?_
 ·cases lo with
  | none=>rfl
  | some v=>exact GD v n 0
 ·cases hi with
  | none=>rfl
  | some v=>exact GD v n n
theorem zN (i j:Nat):Builtin.Slice.slicePlaces (i:Int) (j:Int) 1=j-i:=by
 unfold Builtin.Slice.slicePlaces;have h1:(1:Int) > 0:=by lia
 simp only [h1,if_true,Int.ediv_one];split <;> lia
theorem pK {v:Value} {o:Option Int} {Q:Option Int->Shared->Prop} (p:IsPart v o) (h:Q o s):wpAny (model prog w) A (Builtin.Slice.slicePartIndex v) Q E s:=by
 cases p with
 | none=>exact slicePart_none h
 | int i t=>exact slicePart_int h
theorem mY {sl:Addr} {vl vu:Value} {lo hi:Option Int} {n:Nat} {Q:Int×Int×Nat->Shared->Prop} (hs:s.heap.IsSliceOf sl vl vu .none) (pl:IsPart vl lo) (pu:IsPart vu hi)
  (h:Q (((sIx n 0 lo:Nat):Int),1,sIx n n hi-sIx n 0 lo) s):wpAny (model prog w) A (Builtin.Slice.sliceApplied (.ref sl) (pure (n:Int))) Q E s:=by
 obtain ⟨os,hos,hcs,hds⟩:=id hs;unfold Builtin.Slice.sliceApplied Builtin.Slice.sliceFields;refine wpAny_bind (wpAny_bind (wpAny_field hos hds (x:=vl) rfl (wpAny_bind (wpAny_field hos hds (x:=vu) rfl (wpAny_bind (wpAny_field hos hds (x:=.none) rfl (wpAny_pure ?_)))))));refine wpAny_bind (slicePart_none ?_);show wpAny _ _ (if ((1:Int)==0)=true then _ else _) _ _ s;rw [if_neg (by decide)];refine wpAny_bind (pK pl (wpAny_bind (pK pu (wpAny_bind (wpAny_pure ?_)))));show wpAny _ _ (match Builtin.Slice.sliceAdjust lo hi 1 (n:Int) with|(lo,hi)=>pure (lo,(1:Int),Builtin.Slice.slicePlaces lo hi 1)) _ _ s;rw [zM lo hi n];show wpAny _ _ (pure (((sIx n 0 lo:Nat):Int),(1:Int),Builtin.Slice.slicePlaces ((sIx n 0 lo:Nat):Int) ((sIx n n hi:Nat):Int) 1)) _ _ s;rw [zN];exact wpAny_pure h
theorem N7 (xs:Array Value) (i k:Nat):((List.range k).filterMap fun (m:Nat)=>xs[((i:Int)+(m:Int)*1).toNat]?).toArray=((xs.toList.drop i).take k).toArray:=by
 have e:(fun (m:Nat)=>xs[((i:Int)+(m:Int)*1).toNat]?)=fun m=>xs[i+m]?:=by
  funext m
  have:((i:Int)+(m:Int)*1).toNat=i+m:=by lia
  rw [this]
 rw [e];have:=pick_run xs i k;rw [List.filterMap_map] at this;have e2:((fun x=>xs[x]?) ∘ fun x=>i+x)=fun m=>xs[i+m]?:=rfl
 rw [e2] at this;rw [this]
theorem lR {t sl:Addr} {items:Array Value} {vl vu:Value} {lo hi:Option Int} {Q:Value->Shared->Prop} (ht:IsTup s.heap t items) (hs:s.heap.IsSliceOf sl vl vu .none) (pl:IsPart vl lo) (pu:IsPart vu hi)
  (hw:¬(sIx items.size 0 lo=0/\sIx items.size items.size hi=items.size))
  (h:Q (.ref s.heap.objs.size) {s with heap:=s.heap.push {cls:=.type "tuple",data:=.seq ((items.toList.drop (sIx items.size 0 lo)).take (sIx items.size items.size hi-sIx items.size 0 lo)).toArray}})
  (hsz:items.size<=sizeLine):wpAny (model prog w) A (getItem (.ref t) (.ref sl)) Q E s:=by
 have htake:sizeOk (.seq ((items.toList.drop (sIx items.size 0 lo)).take (sIx items.size items.size hi-sIx items.size 0 lo)).toArray):=by
  show ((items.toList.drop (sIx items.size 0 lo)).take (sIx items.size items.size hi-sIx items.size 0 lo)).toArray.size<=sizeLine;rw [List.size_toArray,List.length_take,List.length_drop,Array.length_toList];lia
 have hj:sIx items.size items.size hi<=items.size:=aAc _ _ (Nat.le_refl _) hi;obtain ⟨os,hos,hcs,hds⟩:=id hs;have hTs:s.TypeIs (.ref sl) "slice":=⟨os,hos,hcs⟩
 unfold getItem
 try with_reducible refine wpAny_holding ?_
 first|refine wpAny_bind (wpAny_pure ?_)|skip
 refine wpAny_bind (wpAny_sequenceKey ht.typeIs (by decide) ?_);refine wpAny_bind (wpAny_callSpecial?_slot (name:=Str.ofString "__getitem__") ht.typeIs PyProof.Rows.slot_tuple_getitem
  (wpAny_call_entry PyProof.Rows.slot_tuple_getitem ht.typeIs entry_tuple_getitem ?_ (args_tuple_getitem _ _)))
 show wpAny _ _ (Builtin.Tuple.tupleItemsOf (.ref t) >>= _) _ _ s;refine wpAny_bind (tupleItemsOf_ ht ?_);refine wpAny_bind (wpAny_typeOf hTs ?_);rw [if_pos (by decide)];refine wpAny_bind (mY hs pl pu ?_);have hno:¬((((sIx items.size 0 lo:Nat):Int)==0&&(1:Int)==1&&(sIx items.size items.size hi-sIx items.size 0 lo)==items.size)=true):=by
  intro q;rw [Bool.and_eq_true,Bool.and_eq_true] at q;have q1:((sIx items.size 0 lo:Nat):Int)=0:=eq_of_beq q.1.1;have q2:sIx items.size items.size hi-sIx items.size 0 lo=items.size:=eq_of_beq q.2;exact hw ⟨by lia,by lia⟩
 show wpAny _ _ (if (((sIx items.size 0 lo:Nat):Int)==0&&(1:Int)==1&&(sIx items.size items.size hi-sIx items.size 0 lo)==items.size)=true then _ else _) _ _ s;rw [if_neg hno,N7]
 first
  | exact wpAny_bind (m:=Builtin.Tuple.tupleExact _) (wpAny_newObj_type (wpAny_pure ⟨_,rfl,wpAny_pure h⟩) htake)
  | exact wpAny_bind (m:=Builtin.Tuple.tupleExact _) (wpAny_newObj_type (wpAny_bind (wpAny_pure (wpAny_pure ⟨_,rfl,wpAny_pure h⟩))) htake)
  | exact wpAny_bind (wpAny_bind (m:=Builtin.Tuple.tupleExact _) (wpAny_newObj_type (wpAny_pure (wpAny_pure ⟨_,rfl,wpAny_pure h⟩)) htake))
  | exact wpAny_bind (wpAny_bind (m:=Builtin.Tuple.tupleExact _) (wpAny_newObj_type (wpAny_pure ⟨_,rfl,wpAny_pure h⟩) htake))
end
end HT
namespace L2
open PySem PySem.Spec PyProof.Rows
abbrev TO:=St->Hp->(Option Int->Hp->Prop)->Prop
noncomputable def PO (X:Cx) (e:Option Expr) (t:TO):Prop:=
 ∀(pins:List (Addr×Obj)) (s:Shared) (σ:St) (H:Hp) (Q:Option Int->Hp->Prop),Inv X pins σ H s->t σ H Q->
  wpAny (model X.prog X.w) X.A (evalPart e X.env) (fun u s'=>∃o H',Inv X pins σ H' s'/\IsPart u o/\Q o H') X.xe s
def V4:TO:=fun _ H Q=>Q none H
def aDr (t:TE):TO:=fun σ H Q=>t σ H fun x H1=>∃i,x=.int i/\Q (some i) H1
section
variable {X:Cx} {e:Expr} {te:TE} {lo hi:Option Expr} {tl th:TO} {pos p2:Pos}
theorem V5:PO X none V4:=by
 intro pins s σ H Q I h;rw [evalPart_none];exact wpAny_pure ⟨none,H,I,.none,h⟩
theorem V6 (h:PE X e te):PO X (some e) (aDr te):=by
 intro pins s σ H Q I hw;rw [evalPart_some];refine thn (h pins s σ H _ I hw) fun u s1 ⟨x,H1,I1,r1,q1⟩=>?_
 obtain ⟨i,rfl,q⟩:=q1;obtain ⟨t,rfl⟩:=r1;exact ⟨some i,H1,I1,.int i t,q⟩
noncomputable def SlR (X:Cx) (r:V->Option Int->Option Int->Hp->VK->Prop):Prop:=
 ∀(pins:List (Addr×Obj)) (s:Shared) (σ:St) (H:Hp) (x:V) (v vl vu:Value) (lo hi:Option Int) (sl:Addr) (Q:VK),Inv X pins σ H s->RelV x v->s.heap.IsSliceOf sl vl vu .none->IsPart vl lo->IsPart vu hi->r x lo hi H Q->
  ∃T id,typeLookup (.type T) "__getitem__" = pure (some (.builtin id))/\s.TypeIs v T/\wpAny (model X.prog X.w) X.A (getItem v (.ref sl)) (EP X pins σ Q) X.xe s
noncomputable def tSl (r:V->Option Int->Option Int->Hp->VK->Prop) (te:TE) (tl th:TO):TE:=fun σ H Q=>te σ H fun x H1=>tl σ H1 fun l H2=>th σ H2 fun u H3=>r x l u H3 Q
theorem N8 {r:V->Option Int->Option Int->Hp->VK->Prop} (hr:SlR X r) (he:PE X e te) (hl:PO X lo tl) (hu:PO X hi th):PE X (.Subscript e (.Slice lo hi none p2) pos) (tSl r te tl th):=by
 intro pins s σ H Q I h;refine Subscript_ (thn (he pins s σ H _ I h) fun v s1 ⟨x,H1,I1,r1,q1⟩=>?_);refine wpAny_Slice (thn (hl pins s1 σ H1 _ I1 q1) fun vl s2 ⟨l,H2,I2,pl,q2⟩=>thn (hu pins s2 σ H2 _ I2 q2) fun vu s3 ⟨u,H3,I3,pu,q3⟩=>?_);rw [evalPart_none];refine wpAny_pure ?_;have I4:Inv X pins σ H3 {s3 with heap:=s3.heap.push {cls:=.type "slice",data:=.fields #[vl,vu,.none]}}:=I3.kept (t':=s3.toks) fun b ob q=>Heap.get?_push_of_some _ q
 obtain ⟨T,id,hT,ht,hg⟩:=hr pins {s3 with heap:=s3.heap.push {cls:=.type "slice",data:=.fields #[vl,vu,.none]}} σ H3 x v vl vu l u s3.heap.objs.size Q I4 r1 (Heap.IsSliceOf.new ..) pl pu q3;show wpAny (model X.prog X.w) X.A (subscriptTail e (.Slice lo hi none p2) v (.ref s3.heap.objs.size)) (EP X pins σ Q) X.xe {s3 with heap:=s3.heap.push {cls:=.type "slice",data:=.fields #[vl,vu,.none]}};exact tail_any (ops:=[.ref s3.heap.objs.size,v]) ht hT hg (by with_unfolding_all rfl)
noncomputable def GF (xs:List V) (lo hi:Option Int):List V:=(xs.drop (HT.sIx xs.length 0 lo)).take (HT.sIx xs.length xs.length hi-HT.sIx xs.length 0 lo)
theorem nO (xs:List V) (lo hi:Option Int):(GF xs lo hi).length<=xs.length:=by
 unfold GF;rw [List.length_take,List.length_drop];lia
noncomputable def aFz (K:PySem.W.Frag):V->Option Int->Option Int->Hp->VK->Prop:=fun x lo hi H Q=>∃a xs,x=.ref a/\SqT K H a xs/\
 ¬(HT.sIx xs.length 0 lo=0/\HT.sIx xs.length xs.length hi=xs.length)/\∀p,H p=none->Q (.ref p) (upd H p (.tup (GF xs lo hi)))
theorem aAd:SlR X (aFz X.K):=by
 intro pins s σ H x v vl vu lo hi sl Q I rx hs pl pu h;obtain ⟨a,xs,rfl,hx,hw,q⟩:=h;cases rx;obtain ⟨its,r,ht,hz⟩:=I.tuple hx;have hlen:its.toArray.size=xs.length:=by rw [List.size_toArray];exact r.length.symm
 refine ⟨"tuple",_,PyProof.Rows.slot_tuple_getitem.lookup,ht.typeIs,?_⟩;refine HT.lR ht hs pl pu (by rw [hlen];exact hw) ?_ (by rw [hlen];exact hz);rw [hlen];refine ⟨.ref s.heap.objs.size,_,I.laid (t':=s.toks) (o:=.tup (GF xs lo hi)) (fun b ob q=>Heap.get?_push_of_some _ q) (Nat.le_refl _) ?_,rfl,q _ (I.hok.fresh (Nat.le_refl _))⟩;exact ⟨Nat.le_trans (nO xs lo hi) hz,_,(r.drop (HT.sIx xs.length 0 lo)).take (HT.sIx xs.length xs.length hi-HT.sIx xs.length 0 lo),gH.new _ _⟩
noncomputable def aDs (K:PySem.W.Frag):R2:=fun x y H Q=>∃a b xs ys,x=.ref a/\y=.ref b/\SqT K H a xs/\SqT K H b ys/\xs≠[]/\xs.length+ys.length<=sizeLine/\
 (ys=[]->Q (.ref a) H)/\(ys≠[]->∀p,H p=none->Q (.ref p) (upd H p (.tup (xs++ys))))
theorem Vals.nP {xs:List V} {us:List Value} (r:Vals xs us):us=[]↔xs=[]:=by
 cases r with
 | nil=>simp
 | cons _ _=>simp
theorem V7:OpR X (binaryOp .Add) (aDs X.K):=by
 intro pins s σ H x y v u Q I rx ry h;obtain ⟨a,b,xs,ys,rfl,rfl,ha,hb,hx,hz,q1,q2⟩:=h;cases rx;cases ry;obtain ⟨its,r1,p1,_⟩:=I.tuple ha;obtain ⟨its2,r2,p2,_⟩:=I.tuple hb;refine HT.V3 p1 p2 (fun z=>hx (r1.nP.mp z)) (fun z=>⟨.ref a,H,I,rfl,q1 (r2.nP.mp z)⟩) (fun z=>?_) (by rw [<-r1.length,<-r2.length];exact hz);refine ⟨.ref s.heap.objs.size,_,I.laid (t':=s.toks) (o:=.tup (xs++ys)) (fun b ob q=>Heap.get?_push_of_some _ q) (Nat.le_refl _) ?_,rfl,q2 (fun w=>z (r2.nP.mpr w)) _ (I.hok.fresh (Nat.le_refl _))⟩;exact ⟨by rw [List.length_append];exact hz,_,r1.append r2,gH.new _ _⟩
end
end L2
namespace L2
open PySem PySem.Spec PyProof.Rows
noncomputable def ixN (n:Nat) (i:Int):Option Nat:=if 0<=i then (if i<n then some i.toNat else none) else if -(n:Int)<=i then some (i+n).toNat else none
noncomputable def atI {α:Type} (xs:List α) (i:Int):Option α:=(ixN xs.length i).bind fun j=>xs[j]?
theorem V8 {n:Nat} {i:Int} {j:Nat} (h:ixN n i=some j):seqIndex? i n=some j/\j<n/\-(n:Int)<=i/\i<n:=by
 unfold ixN at h;by_cases h0:0<=i
 ·rw [if_pos h0] at h;by_cases h1:i<n
  ·rw [if_pos h1] at h;have e:i.toNat=j:=Option.some.inj h;exact ⟨by rw [seqIndex_of h0 h1,e],by lia,by lia,h1⟩
  ·rw [if_neg h1] at h;cases h
 ·rw [if_neg h0] at h;by_cases h1:-(n:Int)<=i
  ·rw [if_pos h1] at h;have e:(i+n).toNat=j:=Option.some.inj h;exact ⟨by rw [seqIndex_neg (by lia) h1,e],by lia,h1,by lia⟩
  ·rw [if_neg h1] at h;cases h
theorem u_ {α:Type} {xs:List α} {i:Int} {v:α} (h:atI xs i=some v):∃j,seqIndex? i xs.length=some j/\xs[j]?=some v/\j<xs.length/\-(xs.length:Int)<=i/\i<xs.length:=by
 unfold atI at h;cases e:ixN xs.length i with
 | none=>rw [e] at h;cases h
 | some j=>
  rw [e] at h;obtain ⟨h1,h2,h3,h4⟩:=V8 e;exact ⟨j,h1,h,h2,h3,h4⟩
theorem V9 {α:Type} {xs:List α} {j:Nat} {v:α} (h:xs[j]?=some v):atI xs (j:Int)=some v:=by
 have hj:j<xs.length:=(List.getElem?_eq_some_iff.mp h).1;have e:ixN xs.length (j:Int)=some j:=by
  unfold ixN;rw [if_pos (by lia),if_pos (by lia)];simp
 unfold atI;rw [e];exact h
theorem wO {α:Type} (xs:List α) (v:α):atI (xs++[v]) (-1)=some v:=by
 have hl:(xs++[v]).length=xs.length+1:=by simp
 have e:ixN (xs++[v]).length (-1)=some xs.length:=by
  unfold ixN;rw [hl,if_neg (by decide),if_pos (by lia)]
  congr 1
  lia
 unfold atI;rw [e];show (xs++[v])[xs.length]?=some v;simp
noncomputable def GJ (b:Expr):Prop:=∀o i,subscripted b false o i=operate [o,i] (getItem o i)
noncomputable def IxR (X:Cx) (r:R2):Prop:=
 ∀(value slice:Expr) (pins:List (Addr×Obj)) (s:Shared) (σ:St) (H:Hp) (x y:V) (v u:Value) (Q:VK),Inv X pins σ H s->RelV x v->RelV y u->r x y H Q->
  subscripted slice false v u=operate [v,u] (getItem v u)->wpAny (model X.prog X.w) X.A (subscriptTail value slice v u) (EP X pins σ Q) X.xe s
noncomputable def MtR (X:Cx) (id:String) (r:V->List V->Hp->VK->Prop):Prop:=
 ∀(pins:List (Addr×Obj)) (s:Shared) (σ:St) (H:Hp) (x:V) (xs:List V) (v:Value) (us:List Value) (Q:VK),Inv X pins σ H s->RelV x v->Vals xs us->r x xs H Q->
  wpAny (model X.prog X.w) X.A (call (.builtin id) (v::us)) (EP X pins σ Q) X.xe s
section
variable {X:Cx} {a b:Expr} {ta tb:TE} {pos:Pos}
theorem N_ {r:R2} (hr:IxR X r) (ha:PE X a ta) (hb:PE X b tb) (hs:GJ b):PE X (.Subscript a b pos) (tOp r ta tb):=by
 intro pins s σ H Q I h;exact Subscript_ (aDl ha hb I h fun v u s2 x y H2 I2 rx ry q=>hr a b pins s2 σ H2 x y v u Q I2 rx ry q (hs _ _))
noncomputable def aD0 (K:PySem.W.Frag):R2:=fun x y H Q=>∃p xs i v,x=.ref p/\y=.int i/\SqL K H p xs/\atI xs i=some v/\Q v H
noncomputable def aG0 (K:PySem.W.Frag):R2:=fun x y H Q=>∃p xs i v,x=.ref p/\y=.int i/\SqT K H p xs/\atI xs i=some v/\Q v H
noncomputable def aG1:R2:=fun x y H Q=>∃z i c,x=.str z/\y=.int i/\z.length<=sizeLine/\atI z.cps.toList i=some c/\Q (.str ⟨#[c]⟩) H
theorem lU:IxR X (aD0 X.K):=by
 intro value slice pins s σ H x y v u Q I rx ry h hs;obtain ⟨p,xs,i,z,rfl,rfl,hq,he,q⟩:=h;cases rx;obtain ⟨t,rfl⟩:=ry;obtain ⟨its,r,pl,hz⟩:=I.list hq;obtain ⟨j,h1,h2,h3,h4,h5⟩:=u_ he;obtain ⟨w,ew,rw'⟩:=r.get h2;have hl:=r.length;have hn:=pJ;have fin:EP X pins σ Q w s:=⟨z,H,I,rw',q⟩
 by_cases h0:0<=i
 ·have hj:i.toNat=j:=by
   rw [seqIndex_of h0 h5] at h1;exact Option.some.inj h1
  exact item_listR pl.isList h0 (by lia) (by rw [hj];simpa using ew) fin hs
 ·have hj:(i+(its.toArray.size:Int)).toNat=j:=by
   rw [seqIndex_neg (by lia) h4] at h1;rw [List.size_toArray,<-hl];exact Option.some.inj h1
  exact subscriptTail_builtinR (x:=w) pl.isList.typeIs slot_list_getitem.lookup
   (wpAny_getItem_list_neg (Q:=fun r s'=>r=w/\EP X pins σ Q r s') pl.isList (by lia) (by rw [List.size_toArray] <;> lia) (by lia) (by rw [hj];simpa using ew) ⟨rfl,fin⟩) hs
theorem aAe:IxR X (aG0 X.K):=by
 intro value slice pins s σ H x y v u Q I rx ry h hs;obtain ⟨p,xs,i,z,rfl,rfl,hq,he,q⟩:=h;cases rx;obtain ⟨t,rfl⟩:=ry;obtain ⟨its,r,pl,hz⟩:=I.tuple hq;obtain ⟨j,h1,h2,h3,h4,h5⟩:=u_ he;obtain ⟨w,ew,rw'⟩:=r.get h2;have hl:=r.length;have hn:=pJ;have fin:EP X pins σ Q w s:=⟨z,H,I,rw',q⟩
 exact subscriptTail_builtinR (x:=w) pl.typeIs slot_tuple_getitem.lookup
  (getItem_tuple (j:=j) (Q:=fun r s'=>r=w/\EP X pins σ Q r s') pl (by lia) (by lia) (by rw [List.size_toArray,<-hl];exact h1) (by simpa using ew) ⟨rfl,fin⟩) hs
theorem aAf:IxR X aG1:=by
 intro value slice pins s σ H x y v u Q I rx ry h hs;obtain ⟨z,i,c,rfl,rfl,hz,he,q⟩:=h;obtain ⟨t,rfl⟩:=rx;obtain ⟨t',rfl⟩:=ry;obtain ⟨j,h1,h2,h3,h4,h5⟩:=u_ he;have hl:z.cps.toList.length=z.length:=by simp [Str.length]
 rw [hl] at h1 h4 h5;have hn:=pJ;exact tail_any (typeIs_str s z t) slot_str_getitem.lookup (getItem_str (c:=c) (by
  have e1:decide (i < -(2 ^ 63:Int))=false:=decide_eq_false (by lia);have e2:decide (i >= 2 ^ 63)=false:=decide_eq_false (by lia);rw [e1,e2,Bool.or_false]) (by rw [h1];simpa using h2) ⟨.str ⟨#[c]⟩,H,I.tok _,⟨_,rfl⟩,q⟩) hs
theorem sS (lo hi:Option Int) (n:Nat):(sliceBounds lo hi none n).1=((HT.sIx n 0 lo:Nat):Int)/\(sliceBounds lo hi none n).2.1=((HT.sIx n n hi:Nat):Int)/\(sliceBounds lo hi none n).2.2=1:=by
 refine ⟨?_,?_,rfl⟩
 ·cases lo with
  | none=>simp [sliceBounds,HT.sIx]
  | some i=>
   simp only [sliceBounds,HT.sIx,Option.getD_none,show (1:Int) > 0 by decide,if_true];by_cases h:i<0
   ·simp only [h,if_true] <;> lia
   ·simp only [h,if_false] <;> lia
 ·cases hi with
  | none=>simp [sliceBounds,HT.sIx]
  | some i=>
   simp only [sliceBounds,HT.sIx,Option.getD_none,show (1:Int) > 0 by decide,if_true];by_cases h:i<0
   ·simp only [h,if_true] <;> lia
   ·simp only [h,if_false] <;> lia
theorem qG (its:List Value) (lo hi:Option Int):slicePick its.toArray lo hi none=((its.drop (HT.sIx its.length 0 lo)).take (HT.sIx its.length its.length hi-HT.sIx its.length 0 lo)).toArray:=by
 obtain ⟨h1,h2,h3⟩:=sS lo hi its.toArray.size;unfold slicePick;rw [h1,h2,h3];simp only [sliceRange_one,pick_run,List.size_toArray] <;> rfl
noncomputable def aG2 (K:PySem.W.Frag):V->Option Int->Option Int->Hp->VK->Prop:=fun x lo hi H Q=>∃a xs,x=.ref a/\SqL K H a xs/\∀p,H p=none->Q (.ref p) (upd H p (.lst (GF xs lo hi)))
theorem GK:SlR X (aG2 X.K):=by
 intro pins s σ H x v vl vu lo hi sl Q I rx hs pl pu h;obtain ⟨a,xs,rfl,hx,q⟩:=h;cases rx;obtain ⟨its,r,ht,hz⟩:=I.list hx;have hlen:=r.length;refine ⟨"list",_,slot_list_getitem.lookup,ht.isList.typeIs,?_⟩;refine wpAny_getItem_list_slice ht.isList hs pl pu .none (by simp) ?_ (by rw [List.size_toArray] <;> lia);rw [qG,<-hlen];refine ⟨.ref s.heap.objs.size,_,I.laid (t':=s.toks) (o:=.lst (GF xs lo hi)) (fun b ob q=>Heap.get?_push_of_some _ q) (Nat.le_refl _) ?_,rfl,q _ (I.hok.fresh (Nat.le_refl _))⟩;exact ⟨Nat.le_trans (nO xs lo hi) hz,_,0,(r.drop (HT.sIx xs.length 0 lo)).take (HT.sIx xs.length xs.length hi-HT.sIx xs.length 0 lo),Heap.get?_push_size _ rfl⟩
theorem fW:lO X (.builtin "len") (fun xs H Q=>∃p ys,xs=[.ref p]/\(SqL X.K H p ys\/SqT X.K H p ys)/\Q (.int ys.length) H):=by
 intro pins s σ H xs us Q I r h;obtain ⟨p,ys,rfl,hq,q⟩:=h;obtain ⟨u,rfl,rx⟩:=vals1 r;cases rx;have hn:=pJ;rcases hq with hq|hq
 ·obtain ⟨its,r',pl,hz⟩:=I.list hq;have hlen:=r'.length;exact Calls.call_len_list pl.isList (by simp only [List.size_toArray] <;> lia) ⟨.int ys.length,H,I.tok _,⟨s.toks+1,by rw [List.size_toArray,hlen]⟩,q⟩
 ·obtain ⟨its,r',pl,hz⟩:=I.tuple hq;have hlen:=r'.length;exact len_tuple pl (by simp only [List.size_toArray] <;> lia) ⟨.int ys.length,H,I.tok _,⟨s.toks+1,by rw [List.size_toArray,hlen]⟩,q⟩
theorem sU:lO X (.builtin "len") (fun xs H Q=>∃z,xs=[.str z]/\z.length<=sizeLine/\Q (.int z.length) H):=by
 intro pins s σ H xs us Q I r h;obtain ⟨z,rfl,hz,q⟩:=h;obtain ⟨u,rfl,t,rfl⟩:=vals1 r;have hn:=pJ;exact len_str (by lia) ⟨.int z.length,H,I.tok _,⟨_,rfl⟩,q⟩
theorem mL:lO X (.type "list") (fun xs H Q=>∃p ys,xs=[.ref p]/\(SqL X.K H p ys\/SqT X.K H p ys)/\∀l,H l=none->Q (.ref l) (upd H l (.lst ys))):=by
 intro pins s σ H xs us Q I r h;obtain ⟨p,ys,rfl,hq,q⟩:=h;obtain ⟨u,rfl,rx⟩:=vals1 r;cases rx;have fin:∀(its:List Value),Vals ys its->ys.length<=sizeLine->∀(h':Heap) (c':Nat),(∀b o',s.heap.get? b=some o'->h'.get? b=some o')->
   h'.get? s.heap.objs.size=some {cls:=.type "list",dict:=none,data:=.seq its.toArray c',slots:=#[]}->EP X pins σ Q (.ref s.heap.objs.size) {s with heap:=h'}:=fun its r' hz h' c' kp e=>
  ⟨.ref s.heap.objs.size,_,I.laid (t':=s.toks) kp (Nat.le_refl _) (show dX X.prog X.w _ h' _ (.lst ys) from ⟨hz,its,c',r',e⟩),rfl,q _ (I.hok.fresh (Nat.le_refl _))⟩
 rcases hq with hq|hq
 ·obtain ⟨its,r',pl,hz⟩:=I.list hq;have hlen:=r'.length;obtain ⟨o,ho,hc,n,hd⟩:=pl.isList;exact call_list_seq p (.inl rfl) ho hc hd (fun h' c' kp e=>fin its r' hz h' c' kp e) (by simp only [List.size_toArray] <;> lia)
 ·obtain ⟨its,r',pl,hz⟩:=I.tuple hq;have hlen:=r'.length;obtain ⟨o,ho,hc,n,hd⟩:=pl;exact call_list_seq p (.inr rfl) ho hc hd (fun h' c' kp e=>fin its r' hz h' c' kp e) (by simp only [List.size_toArray] <;> lia)
theorem lD:lO X (.type "tuple") (fun xs H Q=>∃p ys,xs=[.ref p]/\((SqL X.K H p ys/\∀l,H l=none->Q (.ref l) (upd H l (.tup ys)))\/(SqT X.K H p ys/\Q (.ref p) H))):=by
 intro pins s σ H xs us Q I r h;obtain ⟨p,ys,rfl,h⟩:=h;obtain ⟨u,rfl,rx⟩:=vals1 r;cases rx;rcases h with ⟨hq,q⟩|⟨hq,q⟩
 ·obtain ⟨its,r',pl,hz⟩:=I.list hq;have hlen:=r'.length;refine call_tuple_list pl.isList (fun h' kp=>?_) (by simp only [List.size_toArray] <;> lia);have I1:Inv X pins σ H {s with heap:=h'}:=I.kept (t':=s.toks) kp;have I2:Inv X pins σ (upd H h'.objs.size (.tup ys)) {s with heap:=h'.push {cls:=.type "tuple",data:=.seq its.toArray}}:=
   I1.laid (t':=s.toks) (fun b o e=>Heap.get?_push_of_some _ e) (Nat.le_refl _) (show dX X.prog X.w _ _ _ (.tup ys) from ⟨hz,its,r',gH.new _ _⟩)
  exact ⟨.ref h'.objs.size,_,I2,rfl,q _ (I1.hok.fresh (Nat.le_refl _))⟩
 ·obtain ⟨its,r',pl,hz⟩:=I.tuple hq;exact call_tuple_same pl ⟨.ref p,H,I,rfl,q⟩
noncomputable def tyV (K:PySem.W.Frag) (T:String) (x:V) (H:Hp):Prop:=match x with
 | .str _=>T = "str"
 | .int _=>T = "int"
 | .ref p=>(T = "list"/\∃xs,SqL K H p xs)\/(T = "tuple"/\((∃o,K.lookup p=some o/\o.cls=.type "tuple"/\o.dict=none)\/∃xs,H p=some (.tup xs)))\/
   (T = "dict"/\((∃kvs,H p=some (.dK kvs))\/∃kvs,H p=some (.dT kvs)))\/(T = "set"/\∃S n,H p=some (.set S n))
 | _=>False
theorem S9 {pins:List (Addr×Obj)} {σ:St} {H:Hp} {s:Shared} {T:String} {x:V} {v:Value} (I:Inv X pins σ H s) (r:RelV x v) (ty:tyV X.K T x H) :
  s.TypeIs v T/\∀a,v=.ref a->∃ob,s.heap.get? a=some ob/\ob.dict=none:=by
 cases x with
 | str z=>
  obtain ⟨t,rfl⟩:=r;cases (show T = "str" from ty);exact ⟨typeIs_str s z t,fun _ e=>nomatch e⟩
 | int i=>
  obtain ⟨t,rfl⟩:=r;cases (show T = "int" from ty);exact ⟨typeIs_int s i t,fun _ e=>nomatch e⟩
 | ref p=>
  cases r;rcases ty with ⟨rfl,xs,hq⟩|⟨rfl,⟨o,hk,hc,hd⟩|⟨xs,hk⟩⟩|⟨rfl,hk⟩|⟨rfl,S,n,hk⟩
  ·obtain ⟨its,_,pl,_⟩:=I.list hq;refine ⟨pl.isList.typeIs,fun a e=>?_⟩;cases e;obtain ⟨o,n,e,c,hd,_⟩:=pl;exact ⟨o,e,hd⟩
  ·refine ⟨⟨o,I.kIn p o hk,hc⟩,fun a e=>?_⟩;cases e;exact ⟨o,I.kIn _ o hk,hd⟩
  ·obtain ⟨_,its,_,pl⟩:=I.hok p _ hk;refine ⟨(gH.tup pl).typeIs,fun a e=>?_⟩;cases e;exact gH.bare pl
  ·have z:∃o,s.heap.get? p=some o/\o.ExactDict:=by
    rcases hk with ⟨kvs,hk⟩|⟨kvs,hk⟩
    ·obtain ⟨_,_,_,_,o,_,_,e,ex,_⟩:=I.hok p _ hk;exact ⟨o,e,ex⟩
    ·obtain ⟨_,_,_,_,o,_,_,e,ex,_⟩:=I.hok p _ hk;exact ⟨o,e,ex⟩
   obtain ⟨o,e,ex⟩:=z;refine ⟨⟨o,e,ex.1⟩,fun a e2=>?_⟩;cases e2;exact ⟨o,e,ex.2.1⟩
  ·obtain ⟨o,_,_,_,e,ex,_⟩:=I.hok p _ hk;refine ⟨⟨o,e,ex.1⟩,fun a e2=>?_⟩;cases e2;exact ⟨o,e,ex.2.1⟩
 | _=>exact False.elim ty
noncomputable def aF5 (K:PySem.W.Frag) (T:String) (r:V->List V->Hp->VK->Prop) (to:TE):TE:=fun σ H Q=>to σ H fun x H1=>tyV K T x H1/\r x [] H1 Q
noncomputable def tBM (K:PySem.W.Frag) (T:String) (r:V->List V->Hp->VK->Prop) (to:TE) (t:TA):TE:=fun σ H Q=>to σ H fun x H1=>tyV K T x H1/\t σ H1 fun xs H2=>r x xs H2 Q
variable {o e:Expr} {es:List Expr} {to:TE} {t:TA} {name:Str} {apos cpos:Pos} {T id:String} {r:V->List V->Hp->VK->Prop}
theorem wQ (pa:PlainAttrs T) (slot:Slot T name id) (hty:typeOf (.builtin id)=pure (.type "method_descriptor")) (hm:MtR X id r) (ho:PE X o to)
  (hbase:attributeBase o name X.env (eval o X.env)=eval o X.env:=by rfl) (hline:(apos.endLine==cpos.line)=true:=by rfl):PE X (.Call (.Attribute o name apos) [] [] cpos) (aF5 X.K T r to):=by
 intro pins s σ H Q I h;refine wpAny_Call_method0_late hbase hline (thn (ho pins s σ H _ I h) fun v s1 ⟨x,H1,I1,r1,ty,q1⟩=>?_);obtain ⟨h1,h2⟩:=S9 I1 r1 ty;exact ⟨T,id,pa,slot,hty,h1,h2,Calls.callWith_builtin rfl (PySem.evalArgs_none (hm pins s1 σ H1 x [] v [] Q I1 r1 .nil q1))⟩
theorem zO (pa:PlainAttrs T) (slot:Slot T name id) (hty:typeOf (.builtin id)=pure (.type "method_descriptor")) (hm:MtR X id r) (ho:PE X o to) (ha:PA X (e::es) t)
  (hbase:attributeBase o name X.env (eval o X.env)=eval o X.env:=by rfl)
  (hfew:((backTo cpos (starEach (e::es) X.env)).all (fun x=>!x.1)&&(backToKw cpos (keywordEach [] X.env)).all (fun x=>x.1.isSome)
   && decide ((e::es).length+([]:List Keyword).length+(if ([]:List Keyword).isEmpty then 0 else 1)<30))=true:=by rfl)
  (hline:(apos.endLine==cpos.line)=true:=by rfl) (hs:starEach (e::es) X.env=(false,eval e X.env)::starEach es X.env:=by rfl) (hplain:(backTo cpos (starEach es X.env)).any (·.1)=false:=by rfl) :
  PE X (.Call (.Attribute o name apos) (e::es) [] cpos) (tBM X.K T r to t):=by
 intro pins s σ H Q I h;refine wpAny_Call_method_late hbase hfew hline rfl (thn (ho pins s σ H _ I h) fun v s1 ⟨x,H1,I1,r1,ty,q1⟩=>?_);obtain ⟨h1,h2⟩:=S9 I1 r1 ty;refine ⟨T,id,pa,slot,hty,h1,h2,?_⟩;have hA:=ha cpos pins s1 σ H1 _ I1 q1;rw [hs] at hA ⊢;refine Calls.callWith_builtin (by show (false||(backTo cpos (starEach es X.env)).any (·.1))=false;rw [hplain] <;> rfl) (Calls.evalArgs_plain ?_);exact thn hA fun us s2 ⟨vs,H2,I2,r2,q2⟩=>hm pins s2 σ H2 x vs v us Q I2 r1 r2 q2
end
end L2
namespace L2
open PySem PySem.Spec PyProof.Rows
noncomputable def MtM (X:Cx) (id:String) (r:V->List V->Hp->VK->Prop):Prop:=
 ∀(pins:List (Addr×Obj)) (s:Shared) (σ:St) (H:Hp) (x:V) (xs:List V) (v:Value) (us:List Value) (Q:VK),Inv X pins σ H s->RelV x v->Vals xs us->r x xs H Q->
  wpAny (model X.prog X.w) X.A (call (.builtin id) (v::us)) (EP X pins σ Q) X.xe s
theorem Vals.one:∀{x:V} {us:List Value},Vals [x] us->∃u,us=[u]/\RelV x u
 | _,_,.cons r .nil=>⟨_,rfl,r⟩
theorem Vals.zero:∀{us:List Value},Vals [] us->us=[]
 | _,.nil=>rfl
theorem Vals.dropLast {xs:List V} {us:List Value} (h:Vals xs us):Vals xs.dropLast us.dropLast:=by
 induction h with
 | nil=>exact .nil
 | cons r t ih=>
  cases t with
  | nil=>exact .nil
  | cons q t'=>exact .cons r ih
theorem zP {α:Type} (l:List α):l.eraseIdx (l.length-1)=l.dropLast:=by
 induction l with
 | nil=>rfl
 | cons a r ih=>
  cases r with
  | nil=>rfl
  | cons b r=>
   have e:(a::b::r).length-1=((b::r).length-1)+1:=by
    have h1:(a::b::r).length=r.length+2:=rfl;have h2:(b::r).length=r.length+1:=rfl;lia
   rw [e,List.eraseIdx_cons_succ,ih]
   all_goals rfl
section
variable {X:Cx} {pins:List (Addr×Obj)} {σ:St} {H:Hp} {s:Shared} {l b:Addr} {xs ys zs:List V}
theorem Inv.aDt {its its':List Value} {n:Nat} {f:Array Value->Array Value} {t':Nat} (I:Inv X pins σ H s) (hH:H l=some (.lst xs))
  (e:s.heap.get? l=some {cls:=.type "list",data:=.seq its.toArray n}) (hf:f its.toArray=its'.toArray) (hv:Vals ys its') (hz:ys.length<=sizeLine) :
  Inv X pins σ (upd H l (.lst ys)) {s with heap:=s.heap.update l (Obj.mapSeq f),toks:=t'}:=by
 have q:=PySem.IsL.update e f;rw [hf] at q;refine I.write (x:=l) (e:=l) (by rw [hH];exact trivial) (.inl rfl) (fun b' u hb hu=>(Heap.get?_update_other s.heap (Obj.mapSeq f) (Ne.symm hb)).trans hu) ⟨_,q⟩ ?_;exact ⟨hz,its',_,hv,q⟩
theorem Inv.aG3 {its:List Value} {t':Nat} (I:Inv X pins σ H s) (hv:Vals ys its) (hz:ys.length<=sizeLine) :
  Inv X pins σ (upd H s.heap.objs.size (.lst ys)) {s with heap:=s.heap.push {cls:=.type "list",data:=.seq its.toArray},toks:=t'}:=
 I.laid (fun _ _ q=>Heap.get?_push_of_some _ q) (Nat.le_refl _) ⟨hz,its,0,hv,Heap.get?_push_size _ rfl⟩
theorem Inv.fresh (I:Inv X pins σ H s):H s.heap.objs.size=none:=I.hok.fresh (Nat.le_refl _)
theorem Inv.aD1 (I:Inv X pins σ H s) (hH:H l=some (.lst xs)):xs.length<=sizeLine/\∃(its:List Value) (n:Nat),Vals xs its/\xs.length=its.length/\s.heap.get? l=some {cls:=.type "list",data:=.seq its.toArray n}:=by
 obtain ⟨z,its,n,r,e⟩:=I.hok l _ hH;exact ⟨z,its,n,r,r.length,e⟩
theorem OD {n:Nat} (h:n<=sizeLine):Builtin.List.listTooLong n=false:=by
 unfold Builtin.List.listTooLong;exact decide_eq_false (by lia)
end
section
variable {X:Cx}
noncomputable def qH:V->List V->Hp->VK->Prop:=fun x vs H Q=>∃l xs y,x=.ref l/\vs=[y]/\H l=some (.lst xs)/\xs.length<sizeLine/\Q .non (upd H l (.lst (xs++[y])))
theorem jD:MtM X "list.append" qH:=by
 intro pins s σ H x vs v us Q I rx rv h;obtain ⟨l,xs,y,rfl,rfl,hH,hz,q⟩:=h;cases rx;obtain ⟨u,rfl,ru⟩:=rv.one;obtain ⟨z,its,n,r,hl,e⟩:=I.aD1 hH;refine call_meets F.slot_list_append ⟨_,e,rfl⟩ F.entry_list_append (F.args_list_append_2 _ _) (PySem.list_append l its.toArray n u (by rw [List.size_toArray];lia)) ⟨e,?_⟩;refine ⟨.non,_,I.aDt (its':=its++[u]) hH e (by simp) (r.append (.cons ru .nil)) ?_,rfl,q⟩;rw [List.length_append,List.length_singleton];lia
noncomputable def V_:V->List V->Hp->VK->Prop:=fun x vs H Q=>∃l b xs zs,x=.ref l/\vs=[.ref b]/\H l=some (.lst xs)/\H b=some (.lst zs)/\xs.length+zs.length<=sizeLine/\Q .non (upd H l (.lst (xs++zs)))
theorem GP:MtM X "list.extend" V_:=by
 intro pins s σ H x vs v us Q I rx rv h;obtain ⟨l,b,xs,zs,rfl,rfl,hH,hB,hz,q⟩:=h;cases rx;obtain ⟨u,rfl,ru⟩:=rv.one;cases ru;obtain ⟨z,its,n,r,hl,e⟩:=I.aD1 hH;obtain ⟨z2,its2,n2,r2,hl2,e2⟩:=I.aD1 hB;have hsz:its.toArray.size+its2.toArray.size<=sizeLine:=by rw [List.size_toArray,List.size_toArray];lia
 have hlong:¬(!its.toArray.isEmpty&&Builtin.List.listTooLong (its.toArray.size+its2.toArray.size))=true:=by
  rw [OD hsz,Bool.and_false];exact Bool.false_ne_true
 refine call_meets F.slot_list_extend ⟨_,e,rfl⟩ F.entry_list_extend (F.args_list_extend_2 _ _)
  (AutoSeq1.list_extend_list_list_0 l its.toArray n b its2.toArray n2 hlong (by rw [List.size_toArray];lia) (by lia)) ⟨e,e2,?_⟩
 refine ⟨.non,_,I.aDt (its':=its++its2) hH e (by simp) (r.append r2) ?_,rfl,q⟩;rw [List.length_append];lia
noncomputable def aF6:V->List V->Hp->VK->Prop:=fun x vs H Q=>∃l xs y,x=.ref l/\vs=[]/\H l=some (.lst xs)/\xs[xs.length-1]?=some y/\Q y (upd H l (.lst xs.dropLast))
theorem GQ:MtM X "list.pop" aF6:=by
 intro pins s σ H x vs v us Q I rx rv h;obtain ⟨l,xs,y,rfl,rfl,hH,hy,q⟩:=h;cases rx;have hus:=rv.zero;subst hus;obtain ⟨z,its,n,r,hl,e⟩:=I.aD1 hH;obtain ⟨u,hu,ru⟩:=r.get hy;have hy':its.toArray[its.toArray.size-1]?=some u:=by
  show its.toArray[its.length-1]?=some u;rw [<-Array.getElem?_toList,<-hl];exact hu
 refine call_meets F.slot_list_pop ⟨_,e,rfl⟩ F.entry_list_pop (F.args_list_pop_1 _) (MeetsSeq.list_pop_last l its.toArray n u hy' (by rw [List.size_toArray];lia)) ⟨e,?_⟩;refine ⟨y,_,I.aDt (its':=its.dropLast) hH e ?_ r.dropLast ?_,ru,q⟩
 ·show its.toArray.eraseIdxIfInBounds (its.toArray.size-1)=its.dropLast.toArray;rw [List.size_toArray,List.eraseIdxIfInBounds_toArray,zP]
 ·rw [List.length_dropLast];lia
end
section
variable {prog:Program} {w:World} {A:Around} {E:Value->Shared->Prop} {s:Shared}
end
section
variable {X:Cx}
end
end L2
namespace L2
open PySem PySem.Spec PyProof.Rows
section
variable {κ:Type} [DecidableEq κ]
noncomputable def pL (kvs:List (κ×V)) (k:κ):Option V:=(kvs.find? fun kv=>decide (kv.1=k)).map (·.2)
noncomputable def putK (kvs:List (κ×V)) (k:κ) (v:V):List (κ×V):=
 if (kvs.any fun kv=>decide (kv.1=k))=true then kvs.map (fun kv=>if kv.1=k then (kv.1,v) else kv) else kvs++[(k,v)]
theorem lE {p:κ×V} {r:List (κ×V)} {k:κ} (e:p.1=k):pL (p::r) k=some p.2:=by simp [pL,List.find?_cons,e]
theorem lF {p:κ×V} {r:List (κ×V)} {k:κ} (e:¬p.1=k):pL (p::r) k=pL r k:=by simp [pL,List.find?_cons,e]
theorem lG (k:κ):∀kvs:List (κ×V),(kvs.any fun kv=>decide (kv.1=k))=(pL kvs k).isSome
 | []=>rfl
 | p::r=>by
  rw [List.any_cons];by_cases e:p.1=k
  ·simp only [lE e,decide_eq_true e,Bool.true_or,Option.isSome_some]
  ·rw [lF e,decide_eq_false e,Bool.false_or];exact lG k r
theorem gY (kvs:List (κ×V)) (k:κ) (v:V):(putK kvs k v).length<=kvs.length+1:=by
 unfold putK;split
 ·rw [List.length_map];lia
 ·rw [List.length_append,List.length_cons,List.length_nil];lia
theorem OJ {kvs:List (κ×V)} {k:κ} (v:V) (h:pL kvs k=none):putK kvs k v=kvs++[(k,v)]:=by
 unfold putK;rw [lG,h];exact if_neg (by decide)
theorem uN.nQ {o:Option V} {u:Option Value} (r:uN o u):o.isSome=u.isSome:=by
 cases o with
 | none=>cases u with
  | none=>rfl
  | some _=>exact (show False from r).elim
 | some _=>cases u with
  | none=>exact (show False from r).elim
  | some _=>rfl
theorem KV.val {kvs:List (κ×V)} {vs:List (κ×Value)} (r:KV kvs vs) (k:κ):uN (pL kvs k) (valueAt vs k):=by
 unfold KV at r;induction r with
 | nil=>exact True.intro
 | @cons p q ps qs h t ih=>
  obtain ⟨h1,h2⟩:=h;by_cases e:p.1=k
  ·have e':q.1=k:=h1.symm.trans e;have b:valueAt (q::qs) k=some q.2:=by simp [valueAt,List.find?_cons,e']
   rw [lE e,b];exact h2
  ·have e':¬q.1=k:=fun z=>e (h1.trans z)
   have b:valueAt (q::qs) k=valueAt qs k:=by simp [valueAt,List.find?_cons,e']
   rw [lF e,b];exact ih
theorem KV.any {kvs:List (κ×V)} {vs:List (κ×Value)} (r:KV kvs vs) (k:κ):(kvs.any fun kv=>decide (kv.1=k))=vs.any fun kv=>decide (kv.1=k):=by
 unfold KV at r;induction r with
 | nil=>rfl
 | cons h t ih=>rw [List.any_cons,List.any_cons,ih,h.1]
theorem KV.repl {kvs:List (κ×V)} {vs:List (κ×Value)} (r:KV kvs vs) (k:κ) {y:V} {u:Value} (ry:RelV y u) :
  KV (kvs.map fun kv=>if kv.1=k then (kv.1,y) else kv) (vs.map fun kv=>if kv.1=k then (kv.1,u) else kv):=by
 unfold KV at r ⊢;induction r with
 | nil=>exact .nil
 | @cons p q ps qs h t ih=>
  rw [List.map_cons,List.map_cons];refine .cons ?_ ih;obtain ⟨h1,h2⟩:=h;by_cases e:p.1=k
  ·rw [if_pos e,if_pos (h1.symm.trans e)];exact ⟨h1,ry⟩
  ·rw [if_neg e,if_neg (fun z=>e (h1.trans z))];exact ⟨h1,h2⟩
theorem KV.put {kvs:List (κ×V)} {vs:List (κ×Value)} (r:KV kvs vs) (k:κ) {y:V} {u:Value} (ry:RelV y u):KV (putK kvs k y) (stored vs k u):=by
 unfold putK stored;rw [r.any k];by_cases e:(vs.any fun kv=>decide (kv.1=k))=true
 ·rw [if_pos e,if_pos e];exact r.repl k ry
 ·rw [if_neg e,if_neg e];exact Paired.snoc r ⟨rfl,ry⟩
theorem KV.length {kvs:List (κ×V)} {vs:List (κ×Value)} (r:KV kvs vs):kvs.length=vs.length:=Paired.length r
end
theorem sV {P:Program} {w:World} {k:Key} {u:Value} (r:RelV (kV k) u):(bL P w).is k u=true:=by
 cases k with
 | inl i=>obtain ⟨t,e⟩:=(show ∃t,u=Value.int i t from r);subst e;exact uU P w i t
 | inr x=>obtain ⟨t,e⟩:=(show ∃t,u=Value.str x t from r);subst e;exact uV P w x t
theorem sW {P:Program} {w:World}:∀{ks:List Key} {us:List Value},Vals (ks.map kV) us->ItemsAre (bL P w) ks us
 | [],_,r=>by rw [List.map_nil] at r;cases r;exact .nil
 | k::ks,_,r=>by
  rw [List.map_cons] at r;cases r with
  | cons h t=>exact .cons (sV h) (sW t)
noncomputable abbrev KT (H:Hp):List (List Key×V)->List (List Key×Addr×Value)->Prop:=Paired fun p q=>p.1=q.1/\H q.2.1=some (.tup (p.1.map kV))/\RelV p.2 q.2.2
theorem KT.val {H:Hp} {kvs:List (List Key×V)} {xs:List (List Key×Addr×Value)} (r:KT H kvs xs) (k:List Key):uN (pL kvs k) ((atKey xs k).map (·.2)):=by
 induction r with
 | nil=>exact True.intro
 | @cons p q ps qs h t ih=>
  obtain ⟨h1,_,h2⟩:=h;by_cases e:p.1=k
  ·have e':q.1=k:=h1.symm.trans e;have b:atKey (q::qs) k=some q.2:=by simp [atKey,List.find?_cons,e']
   rw [lE e,b];exact h2
  ·have e':¬q.1=k:=fun z=>e (h1.trans z)
   have b:atKey (q::qs) k=atKey qs k:=by simp [atKey,List.find?_cons,e']
   rw [lF e,b];exact ih
theorem KT.repl {H:Hp} {kvs:List (List Key×V)} {xs:List (List Key×Addr×Value)} (r:KT H kvs xs) (k:List Key) {y:V} {u:Value} (ry:RelV y u) :
  KT H (kvs.map fun kv=>if kv.1=k then (kv.1,y) else kv) (xs.map (putAt k u)):=by
 induction r with
 | nil=>exact .nil
 | @cons p q ps qs h t ih=>
  rw [List.map_cons,List.map_cons];refine .cons ?_ ih;obtain ⟨h1,h2,h3⟩:=h;unfold putAt;by_cases e:p.1=k
  ·rw [if_pos e,if_pos (h1.symm.trans e)];exact ⟨h1,h2,ry⟩
  ·rw [if_neg e,if_neg (fun z=>e (h1.trans z))];exact ⟨h1,h2,h3⟩
theorem KT.put {H:Hp} {kvs:List (List Key×V)} {xs:List (List Key×Addr×Value)} (r:KT H kvs xs) (k:List Key) {b:Addr} {y:V} {u:Value} (hb:H b=some (.tup (k.map kV))) (ry:RelV y u) :
  KT H (putK kvs k y) (storedH xs k b u):=by
 have e:(kvs.any fun kv=>decide (kv.1=k))=(atKey xs k).isSome:=by
  rw [lG,(r.val k).nQ,Option.isSome_map]
 unfold putK storedH;rw [e];by_cases q:(atKey xs k).isSome=true
 ·rw [if_pos q,if_pos q];exact r.repl k ry
 ·rw [if_neg q,if_neg q];exact Paired.snoc r ⟨rfl,hb,ry⟩
theorem KT.keeps {H H':Hp} {kvs:List (List Key×V)} {xs:List (List Key×Addr×Value)} (r:KT H kvs xs) (ht:∀b ys,H b=some (.tup ys)->H' b=some (.tup ys)):KT H' kvs xs:=
 Paired.aDd r fun _ _ z=>⟨z.1,ht _ _ z.2.1,z.2.2⟩
section
variable {P:Program} {w:World} {H:Hp} {h:Heap} {a:Addr}
theorem aAg {u:HO} (ok:HOk P w H h) (e:Rd H a u):dX P w H h a u:=e.ok ok
theorem O3 {kvs:List (Key×V)} (ok:HOk P w H h) (e:Rd H a (.dK kvs)):kvs.length<=sizeLine/\(a==sysModules)=false/\∃vs,KV kvs vs/\h.DictOf (bL P w) a vs:=
 show dX P w H h a (.dK kvs) from aAg ok e
theorem zQ {kvs:List (Key×V)} (ok:HOk P w H h) (e:H a=some (.dK kvs)):kvs.length<=sizeLine/\(a==sysModules)=false/\∃vs,KV kvs vs/\h.DictOf (bL P w) a vs:=O3 ok (.inl e)
theorem sX {ks:List Key} (ok:HOk P w H h) (e:H a=some (.tup (ks.map kV))):(tupleKind (bL P w)).is h ks a:=by
 obtain ⟨_,its,r,o,h1,h2,n,h3⟩:=(show dX P w H h a (.tup (ks.map kV)) from ok a _ e)
 exact ⟨o,its.toArray,n,h1,h2,congrArg (·.1) h3,by simpa using sW r⟩
theorem O4 {kvs:List (List Key×V)} (ok:HOk P w H h) (e:Rd H a (.dT kvs)):kvs.length<=sizeLine/\(a==sysModules)=false/\
  ∃xs,KT H kvs xs/\h.DictOfH (tupleKind (bL P w)) a xs:=by
 obtain ⟨z,y,xs,r,o,es,ep,h1,h2,h3,h4,h5⟩:=(show dX P w H h a (.dT kvs) from aAg ok e)
 refine ⟨z,y,xs,r,o,es,ep,h1,h2,h3,h4,fun x hx=>?_,h5⟩;have all:∀{l:List (List Key×V)} {m:List (List Key×Addr×Value)},KT H l m->∀x∈m,(tupleKind (bL P w)).is h x.1 x.2.1:=by
  intro l m q;induction q with
  | nil=>intro x hx;exact nomatch hx
  | @cons p q ps qs hq t ih=>
   intro x hx;rcases List.mem_cons.mp hx with e|hx
   ·subst e;exact sX ok (by rw [<-hq.1];exact hq.2.1)
   ·exact ih x hx
 exact all r x hx
theorem WD {kvs:List (List Key×V)} (ok:HOk P w H h) (e:H a=some (.dT kvs)):kvs.length<=sizeLine/\(a==sysModules)=false/\
  ∃xs,KT H kvs xs/\h.DictOfH (tupleKind (bL P w)) a xs:=O4 ok (.inl e)
end
noncomputable def M7 (H:Hp) (a:Addr) (y:V) (r:Option V):Prop:=
 (∃kvs k,Rd H a (.dK kvs)/\y=kV k/\r=pL kvs k)\/∃kvs k b,Rd H a (.dT kvs)/\y=.ref b/\H b=some (.tup (k.map kV))/\r=pL kvs k
noncomputable def S_ (H:Hp) (a:Addr) (y v:V) (H':Hp):Prop:=
 (∃kvs k,H a=some (.dK kvs)/\y=kV k/\kvs.length<sizeLine/\H'=upd H a (.dK (putK kvs k v)))\/
 ∃kvs k b,H a=some (.dT kvs)/\y=.ref b/\H b=some (.tup (k.map kV))/\kvs.length<sizeLine/\H'=upd H a (.dT (putK kvs k v))
theorem M7.k {H:Hp} {a:Addr} {kvs:List (Key×V)} {k:Key} (e:H a=some (.dK kvs)):M7 H a (kV k) (pL kvs k):=.inl ⟨kvs,k,.inl e,rfl,rfl⟩
theorem M7.t {H:Hp} {a b:Addr} {kvs:List (List Key×V)} {k:List Key} (e:H a=some (.dT kvs)) (eb:H b=some (.tup (k.map kV))):M7 H a (.ref b) (pL kvs k):=.inr ⟨kvs,k,b,.inl e,rfl,eb,rfl⟩
theorem S_.k {H:Hp} {a:Addr} {kvs:List (Key×V)} {k:Key} {v:V} (e:H a=some (.dK kvs)) (hl:kvs.length<sizeLine):S_ H a (kV k) v (upd H a (.dK (putK kvs k v))):=.inl ⟨kvs,k,e,rfl,hl,rfl⟩
theorem S_.t {H:Hp} {a b:Addr} {kvs:List (List Key×V)} {k:List Key} {v:V} (e:H a=some (.dT kvs)) (eb:H b=some (.tup (k.map kV))) (hl:kvs.length<sizeLine) :
  S_ H a (.ref b) v (upd H a (.dT (putK kvs k v))):=.inr ⟨kvs,k,b,e,rfl,eb,hl,rfl⟩
section
variable {X:Cx} {pins:List (Addr×Obj)} {σ:St} {H:Hp} {s:Shared} {a:Addr} {y v:V} {u r:Value} {o:Option V} {A:Around} {E:Value->Shared->Prop}
theorem Inv.big (I:Inv X pins σ H s):sysModules<s.heap.objs.size:=by
 have h:mainGlobals<s.heap.objs.size:=(I.mod.glob.keeps I.bk).lt;exact Nat.lt_trans (by decide) h
theorem GR {Q:Value->Shared->Prop} (hu:A.units+1<cLine) (I:Inv X pins σ H s) (g:M7 H a y (some v)) (ry:RelV y u) (h:∀w' s',Inv X pins σ H s'->RelV v w'->Q w' s') :
  wpAny (model X.prog X.w) A (getItem (.ref a) u) Q E s:=by
 rcases g with ⟨kvs,k,e,ey,l⟩|⟨kvs,k,b,e,ey,eb,l⟩
 ·subst ey;obtain ⟨z,hd,vs,rel,dd⟩:=O3 I.hok e;obtain ⟨w',hw,rw'⟩:=uN.some_of (v:=v) (o:=valueAt vs k) (by rw [l];exact rel.val k);exact wpAny_getItem_of (sV ry) dd.mapOf hw (h w' _ (I.tok _) rw')
 ·subst ey;cases (show u=Value.ref b from ry);obtain ⟨z,hd,xs,rel,dd⟩:=O4 I.hok e;obtain ⟨w',hw,rw'⟩:=uN.some_of (v:=v) (o:=(atKey xs k).map (·.2)) (by rw [l];exact rel.val k);obtain ⟨p,hp,hp2⟩:=Option.map_eq_some_iff.mp hw;refine wpAny_getItem_heap (tupleKind_room_in1 hu) (sX I.hok eb) dd hp ?_;rw [hp2];exact h w' _ (I.tok _) rw'
theorem aG4 {Q:Value->Shared->Prop} (hu:A.units+1<cLine) (I:Inv X pins σ H s) (g:M7 H a y o) (ry:RelV y u) (h:∀s',Inv X pins σ H s'->Q (.bool o.isSome) s') :
  wpAny (model X.prog X.w) A (compareOp .In u (.ref a)) Q E s:=by
 rcases g with ⟨kvs,k,e,ey,l⟩|⟨kvs,k,b,e,ey,eb,l⟩
 ·subst ey;obtain ⟨z,hd,vs,rel,dd⟩:=O3 I.hok e;refine wpAny_in_of (sV ry) hd dd.mapOf ?_;rw [<-(rel.val k).nQ,<-l];exact h _ (I.tok _)
 ·subst ey;cases (show u=Value.ref b from ry);obtain ⟨z,hd,xs,rel,dd⟩:=O4 I.hok e;refine wpAny_in_heap (tupleKind_room_in1 hu) (sX I.hok eb) hd dd ?_;have q:=(rel.val k).nQ;rw [Option.isSome_map] at q;rw [<-q,<-l];exact h _ (I.tok _)
theorem GX {h':Heap} {t':Nat} {ob:HO} (I:Inv X pins σ H s) (mu:Mut (H a)) (hs:Heap.SameBut a s.heap h') (he:∃q,h'.get? a=some q) (new:dX X.prog X.w (upd H a ob) h' a ob) :
  Inv X pins σ (upd H a ob) {s with heap:=h',toks:=t'}:=
 I.write (x:=a) (e:=a) mu (.inl rfl) (fun b q hb z=>(hs.2 b hb).trans z) he new
theorem GZ {P:Program} {w:World} {H':Hp} {h':Heap} {kvs:List (Key×V)} {vs:List (Key×Value)} (z:kvs.length<=sizeLine) (hd:(a==sysModules)=false) (rel:KV kvs vs) (dd:h'.DictOf (bL P w) a vs) :
  dX P w H' h' a (.dK kvs):=⟨z,hd,vs,rel,dd⟩
theorem G3 {H':Hp} {Q:Unit->Shared->Prop} (hu:A.units+1<cLine) (I:Inv X pins σ H s) (g:S_ H a y v H') (ry:RelV y u) (rv:RelV v r) (h:∀s',Inv X pins σ H' s'->Q () s') :
  wpAny (model X.prog X.w) A (setItem (.ref a) u r) Q E s:=by
 rcases g with ⟨kvs,k,e,ey,l,eH⟩|⟨kvs,k,b,e,ey,eb,l,eH⟩
 ·subst ey eH;obtain ⟨z,hd,vs,rel,dd⟩:=zQ I.hok e;have hz:vs.length<=sizeLine:=by rw [<-rel.length];exact z
  have hl:(putK kvs k v).length<=sizeLine:=by have:=gY kvs k v;lia
  refine wpAny_setItem_pairs (hsz:=hz) (sV ry) dd fun h' dd' hs=>h _ ?_
  have he:∃q,h'.get? a=some q:=let ⟨q,_,_,hq,_⟩:=dd';⟨q,hq⟩
  exact GX I (by rw [e];exact True.intro) hs he (GZ hl hd (rel.put k rv) dd')
 ·subst ey eH;cases (show u=Value.ref b from ry);obtain ⟨z,hd,xs,rel,dd⟩:=WD I.hok e;have hz:xs.length<=sizeLine:=by rw [<-Paired.length rel];exact z
  have hl:(putK kvs k v).length<=sizeLine:=by have:=gY kvs k v;lia
  refine wpAny_setItem_heap (hsz:=hz) (tupleKind_room_in1 hu) (sX I.hok eb) dd fun h' dd' hs=>h _ ?_
  obtain ⟨q,es,ep,hq,h2,h3,h4,_,h5⟩:=dd';refine GX I (by rw [e];exact True.intro) hs ⟨q,hq⟩ ⟨hl,hd,_,(rel.put k eb rv).keeps fun c ys ec=>?_,q,es,ep,hq,h2,h3,h4,h5⟩;rw [aJ (k_ ec e (fun z=>nomatch z))];exact ec
end
section
variable {X:Cx} {pins:List (Addr×Obj)} {σ:St} {H:Hp} {s:Shared} {a:Addr} {kvs:List (Key×V)} {k:Key} {u:Value} {A:Around} {E:Value->Shared->Prop}
end
theorem vA {X:Cx} {pins:List (Addr×Obj)} {σ:St} {H:Hp} {s:Shared} {a:Addr} {y:V} {o:Option V} (I:Inv X pins σ H s) (g:M7 H a y o):s.TypeIs (.ref a) "dict":=by
 rcases g with ⟨kvs,k,e,_,_⟩|⟨kvs,k,b,e,_,_,_⟩
 ·obtain ⟨_,_,vs,_,dd⟩:=O3 I.hok e;exact dd.typeIs
 ·obtain ⟨_,_,xs,_,dd⟩:=O4 I.hok e;exact dd.typeIs
section
variable {X:Cx} {o i e value:Expr} {pos pos' tpos:Pos} {td ty tv:TE}
end
theorem O5 {P:Program} {w:World} {H:Hp} (h:Heap) (hb:sysModules<h.objs.size):dX P w H (h.push {cls:=.type "dict",data:=.dict #[]}) h.objs.size (.dK []):=
 ⟨Nat.zero_le _,beq_eq_false_iff_ne.mpr (Ne.symm (Nat.ne_of_lt hb)),[],.nil,Heap.DictOf.new h⟩
def wR:TE:=fun _ H Q=>∀p,H p=none->Q (.ref p) (upd H p (.dK []))
section
variable {X:Cx} {pos:Pos}
theorem wU:PE X (.Dict [] [] pos) wR:=fun pins s σ H Q I h=>
 wpAny_Dict_empty ⟨.ref s.heap.objs.size,_,I.laid (a:=s.heap.objs.size) (o:=.dK []) (t':=s.toks) (fun _ _ q=>Heap.get?_push_of_some _ q) (Nat.le_refl _) (O5 s.heap I.big),rfl,h _ (I.hok.fresh (Nat.le_refl _))⟩
end
noncomputable def dG (kvs more:List (Key×V)):List (Key×V):=more.foldl (fun acc kv=>putK acc kv.1 kv.2) kvs
theorem KV.merge:∀{more:List (Key×V)} {rs:List (Key×Value)} {kvs:List (Key×V)} {vs:List (Key×Value)},KV more rs->KV kvs vs->KV (dG kvs more) (merged vs rs):=by
 intro more rs kvs vs r;unfold KV at r;induction r generalizing kvs vs with
 | nil=>intro q;exact q
 | @cons p q ps qs h t ih=>
  intro r0;have e:KV (putK kvs p.1 p.2) (stored vs q.1 q.2):=by
   have:=r0.put p.1 h.2;rw [<-h.1];exact this
  exact ih e
theorem gZ:∀(more kvs:List (Key×V)),(dG kvs more).length<=kvs.length+more.length
 | [],kvs=>by show kvs.length<=kvs.length+0;lia
 | p::r,kvs=>by
  have h1:=gZ r (putK kvs p.1 p.2);have h2:=gY kvs p.1 p.2;show (dG (putK kvs p.1 p.2) r).length<=_;rw [List.length_cons];lia
section
variable {X:Cx} {pins:List (Addr×Obj)} {σ:St} {H:Hp} {s:Shared} {a:Addr} {y d:V} {u r:Value} {o:Option V} {A:Around} {E:Value->Shared->Prop}
end
section
variable {X:Cx} {o e f:Expr} {apos cpos:Pos} {td ty tx:TE}
end
section
variable {X:Cx} {pins:List (Addr×Obj)} {σ:St} {H:Hp} {s:Shared} {a:Addr} {kvs:List (Key×V)} {A:Around} {E:Value->Shared->Prop}
end
section
variable {X:Cx} {pins:List (Addr×Obj)} {σ:St} {H:Hp} {s:Shared} {a:Addr} {y:V} {u:Value} {A:Around} {E:Value->Shared->Prop}
end
end L2
namespace Att
open PySem PySem.W PySem.Calls PyProof.Rows
theorem nR {P:Params} {h:Heap}:∀(ns:List Int) (vs:List Value),WellAll P h vs (ns.map WData.int)->IntsAre vs ns:=by
 intro ns;induction ns with
 | nil=>
  intro vs w;rw [List.map_nil] at w;cases w;exact .nil
 | cons n ns ih=>
  intro vs w;rw [List.map_cons] at w;cases w with
  | cons a b=>
   cases a;exact .cons _ _ (ih _ b)
theorem G4 {l:OpenLaw} {n:Nat} (hn:l.most=some n) {P:Params} {h:Heap} {args:List WData} {vals:List Value}
  (hpre:l.row.toRowW.claim.pre args=true) (hwl:WellAll P h vals args) :
  ∃a vs ns,vals=[Value.ref a]/\args=[WData.list (ns.map WData.int)]/\h.get? a=some {cls:=.type "list",data:=.seq vs.toArray}/\IntsAre vs ns/\ns.length<=n:=by
 have hsh:WShape.hasAll [] args [.list .int]=true:=(pre_splitW hpre).1;have hc:l.pre.holds [] {args:=args}=true:=(pre_splitW hpre).2;obtain ⟨d,r,rfl,h1,h2⟩:=hasAllW_cons hsh;obtain rfl:=hasAllW_nil h2;obtain ⟨xs,rfl,h3⟩:=hasW_list h1;obtain ⟨ns,rfl⟩:=items_int h3;have hlen:ns.length<=n:=by
  unfold OpenLaw.pre at hc;have h4:(WTm.not (.lt (.lit (.int (n:Int))) (.len (.arg 0)))).holds [] {args:=[.list (ns.map .int)]}=true:=by
   have h4:=(holds_andW hc).1;rw [hn] at h4;exact h4
  have h5:=condW_of h4 (w_not (w_lt w_lit (w_len_list (w_arg rfl))));rw [List.length_map] at h5;refine Nat.le_of_not_lt fun q=>?_
  have q':(n:Int)<((ns.length:Nat):Int):=by lia
  first
   | (rw [decide_eq_true q'] at h5;exact absurd h5 (by decide))
   | (simp at h5;lia)
 cases hwl with
 | cons w1 w2=>
  cases w2;cases w1 with
  | list ho hall=>exact ⟨_,_,ns,rfl,rfl,ho,nR ns _ hall,hlen⟩
theorem G5 (l:OpenLaw) (args:List WData):l.row.toRowW.claim.post args (.bool true) args=true:=
 postW_of (r:=l.row.toRowW) (X:=(true==true))
  (show WShape.has [] (.bool true) .bool=true by first|rfl|decide|simp [WShape.has,WShape.arms,WShape.armsAll])
  (show (WTm.eq .res (.lit (.bool true))).value [] {args:=args,res:=some (.bool true),after:=args}=some (.bool (true==true)) from w_eq_bool (w_res rfl) w_lit) rfl
theorem vB {l:OpenLaw} {n:Nat} {q:Program} {loose:List Str} {XP:(Str->Option Value)->Heap->Prop} {YP:World->Heap->Prop} {d:DefRec}
  (hn:l.most=some n) (hdf:d.params.defaults=[])
  (call:∀(w:World) (s₀ s₁:Shared) (mg mb:Str->Option Value) (fa:Addr) (o:Obj) (pm cd doc:Value) (a:Addr) (vs:List Value) (ns:List Int),
   Ground q loose [] XP w s₀ mg mb s₁.heap->YP w s₁.heap->
   s₁.heap.get? fa=some o->o.data=.func (docDef d.name d.params d.body d.scope pm cd doc)->s₁.heap.CodeRec cd d.name->mg d.name=some (.ref fa)->
   s₁.heap.get? a=some {cls:=.type "list",data:=.seq vs.toArray}->IntsAre vs ns->ns.length<=n->s₁.gens=#[]->
   codeAny (model l.prog w) callerA (.call (.ref fa) ⟨[.ref a],[]⟩) (fun r s'=>r=.ok (.ret (.bool true))/\OldK s₁.heap s'.heap/\s'.os=s₁.os/\AllBare s'.gens) s₁) :
  WalkO q loose XP YP l.row.toRowW d [] (fun f vs=>PySem.call f vs):=by
 intro w s₀ s₁ mg mb G Y fa o pm cd doc dV kV ho hd hcd hD hmg hg args vals as hpre hlay hrd hwl hlo;obtain rfl:dV=.none:=Dflts.none hD hdf;obtain rfl:kV=.none:=Dflts.noKw hD;obtain ⟨a,vs,ns,rfl,rfl,hobj,hints,hlen⟩:=G4 hn hpre hwl;refine enter_call (codeAny_mono (call w s₀ s₁ mg mb fa o pm cd doc a vs ns G Y ho (fd_plain hd) hcd hmg hobj hints hlen hg) fun r s' hq=>?_);obtain ⟨rfl,h2,h3,h4⟩:=hq;exact ⟨.inl ⟨.bool true,.bool true,[],rfl,fun _=>rfl,.bool true,G5 l _,fun _=>⟨List.Pairwise.nil,fun _ hm=>(nomatch hm)⟩⟩,h2,h3,h4⟩
section
variable {prog:Program} {w:World} {A:Around} {E:Value->Shared->Prop} {s:Shared} {K:Frag}
end
end Att
namespace L2
open PySem PySem.Spec PyProof.Rows
theorem jE:∀{vs:List Value} {ns:List Int},IntsAre vs ns->Vals (ns.map V.int) vs
 | _,_,.nil=>.nil
 | _,_,.cons n t h=>.cons ⟨t,rfl⟩ (jE h)
def Only (H:Hp):Prop:=∀b,H b=none\/∃o xs,H b=some (.frz o (.lst xs))
theorem O6 {P:Program} {w:World} {K:PySem.W.Frag} {mg mb:Str->Option Value} {CX:CXT} {k:Nat} {fa a:Addr} {fd:FuncData} {x:Str} {sp:Sp} {s₁:Shared} {vs:List Value} {ns:List Int}
  (KX:K.In s₁.heap) (hns:s₁.heap.Ns mainGlobals mg) (hb:s₁.heap.Ns builtinsNs mb) (hbb:∀x:Str,x ≠ "__name__"->mb x=bootBuiltins x) (hlim:s₁.heap.NoLimit) (hg:s₁.gens=#[])
  (ha:s₁.heap.get? a=some {cls:=.type "list",data:=.seq vs.toArray}) (hi:IntsAre vs ns) (hl:ns.length<=sizeLine) (hr:jC k callerA)
  (F:∀base:Heap,K.In base->base.Ns mainGlobals mg->i_ P w K mg base CX k fa fd [x] sp) (hbind:∀(s:Shared) (u:Value),BindsTo s fd ⟨[u],[]⟩ [(x,u)])
  (hsp:∀H:Hp,Only H->SqL K H a (ns.map V.int)->sp [.ref a] H (fun v _=>v=.bl true) fun _ _ _=>False)
  (hCX:∀H e s',CX [] H s₁ (fun _ _ _=>False) e s'->False) :
  codeAny (model P w) callerA (.call (.ref fa) ⟨[.ref a],[]⟩) (fun r s'=>r=.ok (.ret (.bool true))/\OldK s₁.heap s'.heap/\s'.os=s₁.os/\AllBare s'.gens) s₁:=by
 have rv:=jE hi;have lenV:=hi.length
 -- from an abstract heap in which nothing but the script may be tracked
 have core:∀H:Hp,Only H->SqL K H a (ns.map V.int)->HOk P w H s₁.heap->(∀b,H b≠none->b=a)->(H a≠none->K.lookup a=none)->
   codeAny (model P w) callerA (.call (.ref fa) ⟨[.ref a],[]⟩) (fun r s'=>r=.ok (.ret (.bool true))/\OldK s₁.heap s'.heap/\s'.os=s₁.os/\AllBare s'.gens) s₁:=by
  intro H hO hS hok hA hK;have base_of:∀{b:Addr} {o:Obj},s₁.heap.get? b=some o->H b=none->(NK s₁.heap H).get? b=some o:=fun e n=>NP e n
  have noA:∀{b:Addr} {o:Obj} {es:Array DictEntry} {ep:Nat},s₁.heap.get? b=some o->o.data=.dict es ep->H b=none:=fun {b o es ep} e d=>by
   cases q:H b with
   | none=>rfl
   | some u=>
    have e':b=a:=hA b (by rw [q];simp);subst e';rw [ha] at e;cases e;have d':Data.seq vs.toArray _=Data.dict es ep:=d;cases d'
  have nsK:∀{b:Addr} {m:Str->Option Value},s₁.heap.Ns b m->(NK s₁.heap H).Ns b m:=fun {b m} ⟨o,es,ep,e,d,r⟩=>⟨o,es,ep,base_of e (noA e d),d,r⟩
  have hKb:K.In (NK s₁.heap H):=fun b o e=>base_of (KX b o e) (by
   cases q:H b with
   | none=>rfl
   | some u=>
    have e':b=a:=hA b (by rw [q];simp);subst e';rw [hK (by rw [q];simp)] at e;cases e)
  have hM:Mod K mg (NK s₁.heap H):=⟨hKb,nsK hns,⟨mb,nsK hb,hbb⟩,let ⟨mc,h1,h2⟩:=hlim;⟨mc,nsK h1,h2⟩⟩
  have e0:V0 P w K mg (NK s₁.heap H) callerA [] s₁ H:=⟨rfl,hM,fun b o e=>VD e,Nat.le_of_eq (DN _ _),trivial,fun b hb=>absurd (show b∈([]:List Addr) from hb) (by simp),hok,.of_eq hg⟩
  refine codeAny_mono ((F _ hKb (nsK hns)).run callerA [] s₁ H ⟨[.ref a],[]⟩ [.ref a] [.ref a] _ _ hr e0 (hbind s₁ (.ref a)) (.cons rfl .nil) (hsp H hO hS)) fun r s' h=>?_
  cases r with
  | error e=>exact (hCX H e s' h).elim
  | ok fl=>
   cases fl with
   | next=>exact False.elim h
   | brk=>exact False.elim h
   | cont=>exact False.elim h
   | ret u=>
    obtain ⟨v,H',os,bare,un,hok',r',q⟩:=h;have q':v=.bl true:=q;subst q';obtain rfl:u=Value.bool true:=r';refine ⟨rfl,OldK.of_keep fun b o e=>?_,os,bare⟩;cases q:H b with
    | none=>exact un.keep b o e q (by intro z;exact absurd (show b∈([]:List Addr) from z) (by simp)) (by simp)
    | some u=>
     rcases hO b with z|⟨ob,xs,z⟩
     ·rw [q] at z;cases z
     ·have z2:=un.frzs b ob _ z;obtain ⟨e1,_⟩:=hok b _ z;obtain ⟨e2,_⟩:=hok' b _ z2;rw [e] at e1;cases e1;exact e2
 cases hk:K.lookup a with
 | some o=>
  -- the script is one of the module's own objects
  have e:=KX a o hk;rw [ha] at e;cases e;refine core (fun _=>none) (fun _=>.inl rfl) (.inr ⟨_,vs.toArray,_,hk,rfl,rfl,rfl,by rw [List.size_toArray,lenV];exact hl,by simpa using rv⟩) (fun b u z=>by have z':(none:Option HO)=some u:=z;cases z') (fun b z=>absurd rfl z) fun z=>absurd rfl z
 | none=>
  refine core (fun b=>if b=a then some (.frz {cls:=.type "list",data:=.seq vs.toArray} (.lst (ns.map V.int))) else none) (fun b=>?_) (.inl (.inr ⟨{cls:=.type "list",data:=.seq vs.toArray},if_pos rfl⟩)) (fun b u z=>?_) (fun b z=>?_) fun _=>hk
  ·by_cases hb:b=a
   ·exact .inr ⟨_,_,if_pos hb⟩
   ·exact .inl (if_neg hb)
  ·by_cases hb:b=a
   ·have z':=(if_pos hb).symm.trans z;cases z';subst hb;exact ⟨ha,by rw [List.length_map];exact hl,vs,_,rv,ha⟩
   ·have z':=(if_neg hb).symm.trans z;cases z'
  ·by_cases hb:b=a
   ·exact hb
   ·exact absurd (if_neg hb) z
end L2
namespace L2
open PySem PySem.Spec PyProof.Rows
theorem WF {l:PySem.W.OpenLaw} {n k:Nat} {q:Program} {loose:List Str} {XP:(Str->Option Value)->Heap->Prop} {YP:World->Heap->Prop} {d:DefRec} {K:Params->PySem.W.Frag} {CX:World->CXT} {sp:World->Sp} {x:Str}
  (hn:l.most=some n) (hn2:n<=sizeLine) (hdf:d.params.defaults=[]) (hr:jC k callerA)
  (hY:∀(w:World) (h:Heap),YP w h->(K w.params).In h)
  (F:∀(w:World) (mg:Str->Option Value) (fa:Addr) (h:Heap),(K w.params).In h->h.Ns mainGlobals mg->mg d.name=some (.ref fa)->
   ∃fd:FuncData,(∀(s:Shared) (u:Value),BindsTo s fd ⟨[u],[]⟩ [(x,u)])/\
    ∀base:Heap,(K w.params).In base->base.Ns mainGlobals mg->i_ l.prog w (K w.params) mg base (CX w) k fa fd [x] (sp w))
  (hsp:∀(w:World) (H:Hp) (a:Addr) (ns:List Int),ns.length<=n->Only H->SqL (K w.params) H a (ns.map V.int)->sp w [.ref a] H (fun v _=>v=.bl true) fun _ _ _=>False)
  (hCX:∀(w:World) (H:Hp) (s:Shared) (e:Value) (s':Shared),CX w [] H s (fun _ _ _=>False) e s'->False) :
  PySem.W.WalkO q loose XP YP l.row.toRowW d [] (fun f vs=>PySem.call f vs):=by
 refine Att.vB hn hdf fun w s₀ s₁ mg mb fa o pm cd doc a vs ns G Y ho hd hcd hmg hobj hints hlen hg=>?_
 have KX:=hY w _ Y;obtain ⟨fd,hb,hF⟩:=F w mg fa _ KX G.T.g hmg;exact O6 KX G.T.g G.T.b G.T.builtins G.T.nolimit hg hobj hints (Nat.le_trans hlen hn2) hr hF hb (fun H hO hS=>hsp w H a ns hlen hO hS) fun H e s'=>hCX w H s₁ e s'
end L2
namespace L2
open PySem PySem.Spec PyProof.Rows
noncomputable def cW (s:Stmt):Arguments:=match s with
 | .FunctionDef _ a _ _ _ _ _ _ _ _=>a
 | _=>{posonlyargs:=[],args:=[],vararg:=none,kwonlyargs:=[],kw_defaults:=[],kwarg:=none,defaults:=[]}
noncomputable def cD (s:Stmt):List Stmt:=match s with
 | .FunctionDef _ _ b _ _ _ _ _ _ _=>b
 | _=>[]
noncomputable def aH (s:Stmt):Scope:=match s with
 | .FunctionDef _ _ _ _ _ _ sc _ _ _=>sc
 | _=>{kind:=.function,names:=[],isGenerator:=false,isCoroutine:=false}
abbrev CX0:CXT:=fun _ _ _ _ _ _=>False
abbrev E0:XK:=fun _ _ _=>False
theorem O7 {X:Cx}:nM CX0 X E0:=fun _ _ _ _ _ _ _ h=>h.elim
structure Fun (K:PySem.W.Frag) (x qual:Str) (st:Stmt) (f:Addr) (fd:FuncData):Prop where
 ex:∃(oc:Value) (od:Option Addr) (kV doc pm:Value) (an:Option Addr) (cdv ct:Value) (osl:Array (Option Value)),
  fd=PySem.W.fnOf x qual (cW st) (cD st) (aH st) .none kV doc pm an cdv ct/\K.lookup f=some ⟨oc,od,.func fd,osl⟩/\PySem.W.codeIn K cdv qual=true
 kp:PySem.W.keepIn K (.ref f)=true
section
variable {P:Program} {w:World} {K:PySem.W.Frag} {mg:Str->Option Value} {base:Heap}
theorem Fun.ok {x qual:Str} {st:Stmt} {f:Addr} {fd:FuncData} {N ps:List Str} {k:Nat} {sp:Sp} (F:Fun K x qual st f fd) (S:bZ N ps (aH st)) (len:∀vs H Q E,sp vs H Q E->vs.length=ps.length)
  (hbody:∀(cdv:Value) (A:Around) (outer:List Env) (s:Shared) (H:Hp) (vs:List V) (Q:VK) (E:XK),jC k (A.deeper (envOfC qual (aH st) s.heap.objs.size f cdv))->sp vs H Q E->
   ∃t,PSs (wL CX0 P w K mg base N qual (aH st) f cdv A outer s H E).nox (cD st) t/\t {nx:=fun _ H'=>Q .non H',rt:=Q} (start N vs) H):i_ P w K mg base CX0 (k+1) f fd ps sp:=by
 obtain ⟨oc,od,kV,doc,pm,an,cdv,ct,osl,rfl,lk,hcd⟩:=F.ex;refine V2 lk hcd S len fun A outer s H vs Q E hr hsp=>?_
 obtain ⟨t,h,q⟩:=hbody cdv A outer s H vs Q E hr hsp;exact ⟨t,h.nox,q⟩
theorem Fun.binds {x qual:Str} {st:Stmt} {f:Addr} {fd:FuncData} {ps:List Str} (F:Fun K x qual st f fd)
  (h:∀(kV doc pm:Value) (an:Option Addr) (cdv ct:Value) (us:List Value),us.length=ps.length->bindArgs (PySem.W.fnOf x qual (cW st) (cD st) (aH st) .none kV doc pm an cdv ct) ⟨us,[]⟩=pure (ps.zip us)):Binds K fd ps []:=by
 obtain ⟨oc,od,kV,doc,pm,an,cdv,ct,osl,rfl,lk,hcd⟩:=F.ex;exact .all (h kV doc pm an cdv ct)
theorem fG {x qual:Str} {st:Stmt} {f:Addr} {oc:Value} {od an:Option Addr} {osl:Array (Option Value)} {kV doc pm cdv ct:Value} (l:K.lookup f=some ⟨oc,od,.func (PySem.W.fnOf x qual (cW st) (cD st) (aH st) .none kV doc pm an cdv ct),osl⟩)
  (c:PySem.W.codeIn K cdv qual=true) (k:PySem.W.keepIn K (.ref f)=true):Fun K x qual st f (PySem.W.fnOf x qual (cW st) (cD st) (aH st) .none kV doc pm an cdv ct):=⟨⟨oc,od,kV,doc,pm,an,cdv,ct,osl,rfl,l,c⟩,k⟩
end
section
variable {X:Cx}
end
def bK (H H':Hp):Prop:=∀b o,H b=some o->H' b=some o
theorem bK.refl (H:Hp):bK H H:=fun _ _ h=>h
theorem bK.trans {H H1 H2:Hp} (a:bK H H1) (b:bK H1 H2):bK H H2:=fun c o h=>b c o (a c o h)
theorem bK.free {H H':Hp} (e:bK H H') {l:Addr} (h:H' l=Option.none):H l=Option.none:=by
 cases q:H l with
 | none=>rfl
 | some o=>
  rw [e l o q] at h;cases h
section
variable {X:Cx}
end
section
variable {κ:Type} [DecidableEq κ]
theorem O8 {kvs:List (κ×V)} {k:κ} (h:pL kvs k=none):¬k∈kvs.map (·.1):=by
 intro m;obtain ⟨p,hp,e⟩:=List.mem_map.mp m;have q:(kvs.any fun kv=>decide (kv.1=k))=true:=List.any_eq_true.mpr ⟨p,hp,decide_eq_true e⟩;rw [lG,h] at q;exact absurd q (by simp)
theorem G6:∀{l:List κ} {k:κ},l.Nodup->¬k∈l->(l++[k]).Nodup
 | [],k,_,_=>by simp
 | a::r,k,h,hk=>by
  obtain ⟨h1,h2⟩:=List.nodup_cons.mp h;show (a::(r++[k])).Nodup;refine List.nodup_cons.mpr ⟨fun m=>?_,G6 h2 fun m=>hk (List.mem_cons.mpr (Or.inr m))⟩;rcases List.mem_append.mp m with q|q
  ·exact h1 q
  ·exact hk (List.mem_cons.mpr (Or.inl (List.mem_singleton.mp q).symm))
theorem WK {kvs:List (κ×V)} {k:κ} (v:V) (hn:(kvs.map (·.1)).Nodup) (h:pL kvs k=none):((putK kvs k v).map (·.1)).Nodup:=by
 rw [OJ v h,List.map_append];exact G6 hn (O8 h)
end
end L2
end
section
namespace TS
open PySem PyProof.Rows
end TS
end
section
namespace TS
open PySem PyProof.Rows
section
variable {prog:Program} {w:World} {A:Around} {E:Value->Shared->Prop} {s:Shared}
end
end TS
end
section
namespace TS
open PySem PyProof.Rows
section
variable {prog:Program} {w:World} {A:Around} {E:Value->Shared->Prop} {s:Shared} {kd:SortKind} {U:Keyed->Prop} {blt:Keyed->Keyed->Bool}
end
section
variable (blt:Keyed->Keyed->Bool)
variable {blt}
variable {a b out:Array Keyed} {ia ib:Nat}
end
end TS
end
section
namespace TS
open PySem PyProof.Rows
section
variable {prog:Program} {w:World} {A:Around} {E:Value->Shared->Prop} {s:Shared} {kd:SortKind} {U:Keyed->Prop} {blt:Keyed->Keyed->Bool}
end
end TS
end
section
namespace TS
open PySem PyProof.Rows
section
variable {blt:Keyed->Keyed->Bool}
variable {a b out:Array Keyed} {na nb:Nat}
variable {U:Keyed->Prop}
end
section
variable {prog:Program} {w:World} {A:Around} {E:Value->Shared->Prop} {s:Shared} {kd:SortKind} {U:Keyed->Prop} {blt:Keyed->Keyed->Bool}
end
end TS
end
section
namespace TS
open PySem PyProof.Rows
section
variable {blt:Keyed->Keyed->Bool} {U:Keyed->Prop}
end
section
variable {prog:Program} {w:World} {A:Around} {E:Value->Shared->Prop} {s:Shared} {kd:SortKind} {U:Keyed->Prop} {blt:Keyed->Keyed->Bool}
end
end TS
end
section
namespace TS
open PySem PyProof.Rows
section
variable {blt:Keyed->Keyed->Bool} {U:Keyed->Prop}
end
section
variable {prog:Program} {w:World} {A:Around} {E:Value->Shared->Prop} {s:Shared} {kd:SortKind} {U:Keyed->Prop} {blt:Keyed->Keyed->Bool}
end
end TS
end
section
namespace TS
open PySem PyProof.Rows
section
variable {blt:Keyed->Keyed->Bool} {U:Keyed->Prop}
end
section
variable {prog:Program} {w:World} {A:Around} {E:Value->Shared->Prop} {s:Shared} {kd:SortKind} {U:Keyed->Prop} {blt:Keyed->Keyed->Bool}
end
section
variable {blt:Keyed->Keyed->Bool} {U:Keyed->Prop}
end
end TS
end
section
namespace TS
open PySem PyProof.Rows
section
variable {prog:Program} {w:World} {A:Around} {E:Value->Shared->Prop} {s:Shared} {kd:SortKind} {U:Keyed->Prop} {blt:Keyed->Keyed->Bool}
end
end TS
end
section
namespace Mi
open PySem
inductive D where
 | uD|non|bl (b:Bool)|int (i:Int)|str (x:Str)
 | tup (xs:List D)|lst (xs:List D)|dct (kvs:List (D×D))|scr (xs:List D)|fdc (kvs:List (D×D))|cel (a:Nat) (xs:List D)|exc (c:Str) (fs:List (Str×Str))|ins (c:Str) (fs:List (Str×D))
 deriving Inhabited
mutual
noncomputable def D.pure:D->Bool
 | .tup xs=>D.aG xs
 | .lst _=>false
 | .dct _=>false
 | .uD=>false
 | .scr xs=>D.aG xs
 | .fdc _=>false
 | .cel _ _=>false
 | .exc _ _=>false
 | .ins _ _=>false
 | _=>true
noncomputable def D.aG:List D->Bool
 | []=>true
 | x::xs=>x.pure&&D.aG xs
end
mutual
noncomputable def eqD:D->D->Bool
 | .non,.non=>true
 | .bl a,.bl b=>a==b
 | .int a,.int b=>a==b
 | .bl a,.int b=>(if a then (1:Int) else 0)==b
 | .int a,.bl b=>a==(if b then (1:Int) else 0)
 | .str a,.str b=>a==b
 | .tup xs,.tup ys=>vC xs ys
 | .lst xs,.lst ys=>vC xs ys
 | _,_=>false
noncomputable def vC:List D->List D->Bool
 | [],[]=>true
 | x::xs,y::ys=>eqD x y&&vC xs ys
 | _,_=>false
end
mutual
noncomputable def D.bF:Nat->D->Bool
 | n+1,.tup xs=>D.fQ n xs
 | n+1,.lst xs=>D.fQ n xs
 | 0,.tup _=>false
 | 0,.lst _=>false
 | _,.dct _=>false
 | _,.uD=>false
 | _,.scr _=>false
 | _,.fdc _=>false
 | _,.cel _ _=>false
 | _,.exc _ _=>false
 | _,.ins _ _=>false
 | _,_=>true
noncomputable def D.fQ:Nat->List D->Bool
 | _,[]=>true
 | n,x::xs=>D.bF n x&&D.fQ n xs
end
inductive nT where|lt|le|gt|ge
 deriving DecidableEq
noncomputable def nT.int:nT->Int->Int->Bool
 | .lt,a,b=>decide (a<b)|.le,a,b=>decide (a<=b)|.gt,a,b=>decide (b<a)|.ge,a,b=>decide (b<=a)
noncomputable def nT.nat:nT->Nat->Nat->Bool
 | .lt,a,b=>decide (a<b)|.le,a,b=>decide (a<=b)|.gt,a,b=>decide (b<a)|.ge,a,b=>decide (b<=a)
def O9 (a b:Str):Bool:=decide (a.cps.toList<b.cps.toList)
noncomputable def nT.str:nT->Str->Str->Bool
 | .lt,a,b=>O9 a b|.le,a,b=>!O9 b a|.gt,a,b=>O9 b a|.ge,a,b=>!O9 a b
mutual
noncomputable def uO (o:nT):D->D->Option Bool
 | .int a,.int b=>some (o.int a b)
 | .str a,.str b=>some (o.str a b)
 | .tup xs,.tup ys=>d8 o xs ys
 | _,_=>none
noncomputable def d8 (o:nT):List D->List D->Option Bool
 | [],ys=>some (o.nat 0 ys.length)
 | x::xs,[]=>some (o.nat (x::xs).length 0)
 | x::xs,y::ys=>if eqD x y then d8 o xs ys else uO o x y
end
inductive Res (α:Type) where
 | ok (a:α)|err (c:Str) (as:List D)|bad
noncomputable def Res.bind {α β:Type}:Res α->(α->Res β)->Res β
 | .ok a,f=>f a
 | .err c as,_=>.err c as
 | .bad,_=>.bad
noncomputable instance:Monad Res where
 pure:=.ok
 bind:=Res.bind
@[simp] theorem Res.aO {α β:Type} (a:α) (f:α->Res β):((Res.ok a) >>= f)=f a:=rfl
@[simp] theorem Res.aD2 {α β:Type} (c:Str) (as:List D) (f:α->Res β):((Res.err c as:Res α) >>= f)=.err c as:=rfl
@[simp] theorem Res.aD3 {α β:Type} (f:α->Res β):((Res.bad:Res α) >>= f)=.bad:=rfl
@[simp] theorem Res.pure_eq {α:Type} (a:α):(pure a:Res α)=.ok a:=rfl
theorem Res.WL {α β:Type} {m:Res α} {f:α->Res β} {b:β} (h:(m >>= f)=.ok b):∃a,m=.ok a/\f a=.ok b:=by
 cases m with
 | ok a=>exact ⟨a,rfl,h⟩
 | err c as=>cases h
 | bad=>cases h
noncomputable def Res.ofOpt {α:Type}:Option α->Res α
 | some a=>.ok a
 | none=>.bad
@[simp] theorem Res.Z0 {α:Type} (a:α):Res.ofOpt (some a)=.ok a:=rfl
theorem Res.g8 {α:Type} {o:Option α} {a:α} (h:Res.ofOpt o=.ok a):o=some a:=by
 cases o with
 | none=>cases h
 | some b=>cases h;rfl
def lim:Nat:=1000000
inductive Bop where|add|sub|mul|fdiv|mod|pow
 deriving DecidableEq
inductive Cop where|eq|ne|ord (o:nT)|isin|notin|isN|notN
 deriving DecidableEq
def iI (i:Int):Bool:=decide (-(2 ^ 64)<i)&&decide (i<2 ^ 64)
noncomputable def aZ:Bop->D->D->Res D
 | .add,.int a,.int b=>.ok (.int (a+b))
 | .sub,.int a,.int b=>.ok (.int (a-b))
 | .mul,.int a,.int b=>if iI a||iI b then .ok (.int (a*b)) else .bad
 | .fdiv,.int a,.int b=>if decide (0<b)&&decide (b<1073741824) then .ok (.int (a / b)) else .bad
 | .mod,.int a,.int b=>if decide (0<b) then .ok (.int (a % b)) else .bad
 | .pow,.int a,.int b=>if decide (0<=b)&&decide (b<=1000000)&&decide (a.natAbs<2 ^ 64) then .ok (.int (a ^ b.toNat)) else .bad
 | .add,.str a,.str b=>if decide (a.length+b.length<=lim) then .ok (.str (a++b)) else .bad
 | .add,.lst a,.lst b=>if decide (a.length+b.length<=lim)&&D.aG a&&D.aG b then .ok (.lst (a++b)) else .bad
 | _,_,_=>.bad
noncomputable def aDu:D->Res Bool
 | .non=>.ok false
 | .bl b=>.ok b
 | .int i=>.ok (i != 0)
 | .str x=>if decide (x.length<=lim) then .ok ((x.length:Int) != 0) else .bad
 | .tup xs=>.ok (!xs.isEmpty)
 | .lst xs=>.ok (!xs.isEmpty)
 | .dct kvs=>.ok (!kvs.isEmpty)
 | .uD=>.bad
 | .fdc _=>.bad
 | .cel _ _=>.bad
 | .exc _ _=>.bad
 | .ins _ _=>.bad
 | .scr xs=>.ok (!xs.isEmpty)
noncomputable def fH:D->Bool
 | .int _=>true
 | .str _=>true
 | _=>false
noncomputable def keyOk:D->Bool
 | .int _=>true
 | .str _=>true
 | .tup xs=>xs.all fH
 | _=>false
noncomputable def isTup:D->Bool
 | .tup _=>true
 | _=>false
noncomputable def b7:List (D×D)->D->Option D
 | [],_=>none
 | (k,v)::r,q=>if eqD k q then some v else b7 r q
noncomputable def putD:List (D×D)->D->D->List (D×D)
 | [],q,w=>[(q,w)]
 | (k,v)::r,q,w=>if eqD k q then (k,w)::r else (k,v)::putD r q w
noncomputable def rT (kvs:List (D×D)) (k:D):Bool:=keyOk k&&kvs.all (fun p=>isTup p.1==isTup k)
def aU:Nat:=12
noncomputable def gJ:Cop->D->D->Res D
 | .eq,a,b=>if a.bF aU&&b.bF aU then .ok (.bl (eqD a b)) else .bad
 | .ne,a,b=>if a.bF aU&&b.bF aU then .ok (.bl (!eqD a b)) else .bad
 | .ord o,a,b=>if a.bF aU&&b.bF aU then (match uO o a b with|some k=>.ok (.bl k)|none=>.bad) else .bad
 | .isin,a,.tup ys=>if a.bF aU&&D.fQ aU ys then .ok (.bl (ys.any fun y=>eqD y a)) else .bad
 | .isin,a,.lst ys=>if a.bF aU&&D.fQ aU ys then .ok (.bl (ys.any fun y=>eqD y a)) else .bad
 | .isin,a,.dct kvs=>if rT kvs a then .ok (.bl (b7 kvs a).isSome) else .bad
 | .notin,a,.tup ys=>if a.bF aU&&D.fQ aU ys then .ok (.bl (!(ys.any fun y=>eqD y a))) else .bad
 | .notin,a,.lst ys=>if a.bF aU&&D.fQ aU ys then .ok (.bl (!(ys.any fun y=>eqD y a))) else .bad
 | .notin,a,.dct kvs=>if rT kvs a then .ok (.bl (!(b7 kvs a).isSome)) else .bad
 | .isN,.scr _,.non=>.bad
 | .notN,.scr _,.non=>.bad
 | .isN,.fdc _,.non=>.bad
 | .notN,.fdc _,.non=>.bad
 | .isN,.cel _ _,.non=>.bad
 | .notN,.cel _ _,.non=>.bad
 | .isN,.non,.non=>.ok (.bl true)
 | .isN,a,.non=>.ok (.bl false)
 | .notN,.non,.non=>.ok (.bl false)
 | .notN,a,.non=>.ok (.bl true)
 | _,_,_=>.bad
noncomputable def ixD (n:Nat) (i:Int):Option Nat:=if 0<=i then (if i<n then some i.toNat else none) else if -(n:Int)<=i then some (i+n).toNat else none
noncomputable def getD (d i:D):Res D:=
 match d,i with
 | .tup xs,.int i=>Res.ofOpt ((ixD xs.length i).bind fun j=>xs[j]?)
 | .lst xs,.int i=>Res.ofOpt ((ixD xs.length i).bind fun j=>xs[j]?)
 | .scr xs,.int i=>Res.ofOpt ((ixD xs.length i).bind fun j=>xs[j]?)
 | .cel _ xs,.int i=>Res.ofOpt ((ixD xs.length i).bind fun j=>xs[j]?)
 | .str x,.int i=>if decide (x.length<=lim) then Res.ofOpt (((ixD x.cps.toList.length i).bind fun j=>x.cps.toList[j]?).map fun c=>D.str ⟨#[c]⟩) else .bad
 | .dct kvs,k=>if keyOk k then Res.ofOpt (b7 kvs k) else .bad
 | .fdc kvs,k=>if keyOk k then Res.ofOpt (b7 kvs k) else .bad
 | _,_=>.bad
noncomputable def TF (n d:Nat):Option Int->Nat
 | none=>d
 | some v=>if v<0 then (max (v+(n:Int)) 0).toNat else (min v (n:Int)).toNat
noncomputable def cutD {α:Type} (xs:List α) (lo hi:Option Int):List α:=(xs.drop (TF xs.length 0 lo)).take (TF xs.length xs.length hi-TF xs.length 0 lo)
inductive Ty where|int|str|bool|list|tuple|dict
 deriving DecidableEq
noncomputable def G7:Ty->D->Res Bool
 | _,.uD=>.bad
 | _,.scr _=>.bad
 | _,.fdc _=>.bad
 | _,.cel _ _=>.bad
 | _,.exc _ _=>.bad
 | _,.ins _ _=>.bad
 | .int,.int _=>.ok true
 | .int,.bl _=>.ok true
 | .bool,.bl _=>.ok true
 | .str,.str _=>.ok true
 | .tuple,.tup _=>.ok true
 | .list,.lst _=>.ok true
 | .dict,.dct _=>.ok true
 | _,_=>.ok false
def nU (i:Int):Bool:=decide (-(2 ^ 62)<=i)&&decide (i<2 ^ 62)
noncomputable def asB:D->Res Bool
 | .bl b=>.ok b
 | _=>.bad
noncomputable def asI:D->Res Int
 | .int i=>.ok i
 | _=>.bad
inductive Fl where
 | nx (ρ:List D)|rt (d:D)|bk (ρ:List D)|ct (ρ:List D)
noncomputable def aG5:Fl->Res D
 | .rt d=>.ok d
 | .nx _=>.ok .non
 | _=>.bad
abbrev FE:=List D->Res D
abbrev FT:=List D->Res Bool
abbrev FA:=List D->Res (List D)
def d9 (i:Nat):FE:=fun ρ=>match ρ.getD i .uD with|.uD=>.bad|d=>.ok d
def bC (d:D):FE:=fun _=>.ok d
abbrev kZ:FE := d9 2
abbrev dU:FE := d9 0
abbrev iJ:FE := d9 1
abbrev fB:FE := d9 3
abbrev mO:FE := d9 4
abbrev qI:FE := d9 6
abbrev O_:FE := d9 7
abbrev iV:FE := d9 5
abbrev pM:FE := d9 8
abbrev qJ:FE := d9 19
abbrev G8:FE := d9 15
abbrev mZ:FE := d9 16
abbrev iW:FE := d9 18
abbrev lH:FE := d9 14
abbrev lJ:FE := d9 17
abbrev gG:FE := bC (.int 0)
abbrev uP:FE := bC (.int 2)
abbrev iK:FE := bC (.int 1)
abbrev zR:FE := bC (.int 3)
abbrev M8:FE := bC (.int 8)
abbrev vD:FE := bC (.int 72)
abbrev lV:FE := bC (.int 26)
abbrev G9:FE := bC (.int 216)
abbrev TJ:FE := bC (.int 4)
abbrev G_:FE := bC (.int 123)
def b2 (f:D->D->Res D) (a b:FE):FE:=fun ρ=>do let x <- a ρ;let y <- b ρ;f x y
def b1 (f:D->Res D) (a:FE):FE:=fun ρ=>do let x <- a ρ;f x
def bTB (a:FE):FT:=fun ρ=>do let x <- a ρ;asB x
def vG (a:FT):FT:=fun ρ=>do let x <- a ρ;pure (!x)
def HB (a b:FT):FT:=fun ρ=>do let x <- a ρ;if x then b ρ else pure false
def bOr (a b:FT):FT:=fun ρ=>do let x <- a ρ;if x then pure true else b ρ
def aY:FA:=fun _=>.ok []
def aB (a:FE) (b:FA):FA:=fun ρ=>do let x <- a ρ;let xs <- b ρ;pure (x::xs)
noncomputable def jF (a:FA):FE:=fun ρ=>do let xs <- a ρ;if decide (xs.length<=lim) then pure (.tup xs) else .bad
noncomputable def qK (a:FA):FE:=fun ρ=>do let xs <- a ρ;if decide (xs.length<=lim) then pure (.lst xs) else .bad
def aQ (f:List D->Res D) (a:FA):FE:=fun ρ=>do let xs <- a ρ;f xs
noncomputable def bM (f:D->List D->Res D) (o:FE) (a:FA):FE:=fun ρ=>do let x <- o ρ;let xs <- a ρ;f x xs
noncomputable def dH (a:FE):List D->Res (Option Int):=fun ρ=>do let x <- a ρ;let i <- asI x;pure (some i)
def lW:List D->Res (Option Int):=fun _=>.ok none
noncomputable def aG6:D->Res Bool
 | .dct _=>.bad
 | .scr _=>.bad
 | .fdc _=>.bad
 | d=>aDu d
def bTr (a:FE):FT:=fun ρ=>do let x <- a ρ;aG6 x
noncomputable def aD4:D->Option Int->Option Int->Res D
 | .lst xs,lo,hi=>if D.aG xs then .ok (.lst (cutD xs lo hi)) else .bad
 | .scr xs,lo,hi=>if D.aG xs then .ok (.lst (cutD xs lo hi)) else .bad
 | .tup xs,lo,hi=>if !D.aG xs||decide (TF xs.length 0 lo=0/\TF xs.length xs.length hi=xs.length) then .bad else .ok (.tup (cutD xs lo hi))
 | _,_,_=>.bad
noncomputable def lN:List D->Res D
 | [.tup xs]=>.ok (.int xs.length)
 | [.lst xs]=>.ok (.int xs.length)
 | [.scr xs]=>.ok (.int xs.length)
 | [.cel _ xs]=>.ok (.int xs.length)
 | [.str x]=>if decide (x.length<=lim) then .ok (.int x.length) else .bad
 | _=>.bad
def aAh (kvs:List (D×D)):List D:=kvs.map (·.1)
noncomputable def PB:List D->Res D
 | [.tup xs]=>if D.aG xs then .ok (.lst xs) else .bad
 | [.lst xs]=>if D.aG xs then .ok (.lst xs) else .bad
 | [.dct kvs]=>if kvs.all (fun p=>!isTup p.1) then .ok (.lst (aAh kvs)) else .bad
 | _=>.bad
noncomputable def fX:List D->Res D
 | [.tup xs]=>.ok (.tup xs)
 | [.lst xs]=>.ok (.tup xs)
 | _=>.bad
noncomputable def Ty.nm:Ty->String
 | .int => "int" | .str => "str" | .bool => "bool" | .list => "list" | .tuple => "tuple" | .dict => "dict"
def nW (t:Ty) (d:D):Res D:=do let k <- G7 t d;pure (.bl k)
noncomputable def f9 (n:Nat) (f:List D->Res D):List D->Res D:=fun ds=>if decide (ds.length=n) then f ds else .bad
abbrev FI:=List D->Res (List D×Bool)
noncomputable def wV:D->Res (List D)
 | .lst xs=>.ok xs
 | .tup xs=>.ok xs
 | _=>.bad
noncomputable def j0:List D->Res (List D×Bool)
 | [.int n]=>if nU n then .ok ((List.range n.toNat).map fun (k:Nat)=>D.int (0+(k:Int)),true) else .bad
 | _=>.bad
noncomputable def j7 (f:FA) (g:List D->Res (List D×Bool)):FI:=fun ρ=>do let xs <- f ρ;g xs
def wW (n:Nat) (ρ:List D):List D:=(List.range n).map fun i=>ρ.getD i .uD
def mQ:D->Res (List D):=fun d=>.ok [d]
noncomputable def vH (n:Nat) (t:D->Res (List D)) (c:FT) (f:FE) (k:Bool) (ρ:List D) (acc:List D) (x:D):Res (List D):=do
 let bs <- t x
 let ok <- c (wW n ρ++bs)
 if ok then (do
  let y <- f (wW n ρ++bs)
  if k||y.pure then pure (acc++[y]) else .bad)
 else pure acc
noncomputable def nY (g:List D->D->Res (List D)):List D->List D->Res (List D)
 | acc,[]=>.ok acc
 | acc,x::xs=>do let a <- g acc x;nY g a xs
noncomputable def dI (n:Nat) (it:FI) (t:D->Res (List D)) (c:FT) (f:FE) (k:Bool):FE:=fun ρ=>do
 let xs <- it ρ
 if decide (xs.1.length<=lim) then (do
  let ys <- nY (vH n t c f k ρ) [] xs.1
  pure (.lst ys)) else .bad
def dW:FT:=fun _=>.ok true
abbrev FS:=List D->Res Fl
noncomputable def inner:D->Bool
 | .lst xs=>D.aG xs
 | .dct kvs=>D.aG (kvs.map (·.2))
 | .cel _ xs=>D.aG xs
 | _=>false
def uQ:FS:=fun ρ=>.ok (.nx ρ)
noncomputable def b8 (f g:FS):FS:=fun ρ=>do
 let r <- f ρ
 match r with
 | .nx ρ'=>g ρ'
 | r=>.ok r
noncomputable def cT (o:Bool) (i:Nat) (f:FE) (k:Bool):FS:=fun ρ=>do
 let d <- f ρ
 if (if o then k&&inner d else k||d.pure) then .ok (.nx (ρ.set i d)) else .bad
noncomputable def sIf (c:FT) (f g:FS):FS:=fun ρ=>do
 let k <- c ρ
 if k then f ρ else g ρ
noncomputable def nZ (f:FE) (k:Bool):FS:=fun ρ=>do
 let d <- f ρ
 if k||d.pure then .ok (.rt d) else .bad
noncomputable def HD (i:Nat):FS:=fun ρ=>do
 let d <- d9 i ρ
 .ok (.rt d)
def rtX:Nat:=1000000
noncomputable def PJ (i:Nat) (f:FE):FS:=fun ρ=>do
 let d <- f ρ
 match ρ.getD i .uD with
 | .lst xs=>if decide (xs.length<lim)&&d.pure then .ok (.nx (ρ.set i (.lst (xs++[d])))) else .bad
 | _=>.bad
noncomputable def WM (i:Nat) (f:FE) (g:FE):FS:=fun ρ=>do
 let d <- g ρ
 let k <- f ρ
 match ρ.getD i .uD with
 | .dct kvs=>if decide (kvs.length<lim)&&rT kvs k&&d.pure then .ok (.nx (ρ.set i (.dct (putD kvs k d)))) else .bad
 | _=>.bad
def tg1 (i:Nat):D->List D->Res (List D):=fun d ρ=>.ok (ρ.set i d)
noncomputable def HF:List Nat->List D->List D->List D
 | i::is,d::ds,ρ=>HF is ds (ρ.set i d)
 | _,_,ρ=>ρ
noncomputable def tgN (is:List Nat):D->List D->Res (List D)
 | .tup ds,ρ=>if decide (ds.length=is.length) then .ok (HF is ds ρ) else .bad
 | _,_=>.bad
noncomputable def sY (t:D->List D->Res (List D)) (body:FS):List D->List D->Res Fl
 | [],ρ=>.ok (.nx ρ)
 | x::xs,ρ=>do
  let ρ1 <- t x ρ
  let r <- body ρ1
  match r with
  | .nx ρ'=>sY t body xs ρ'
  | .ct ρ'=>sY t body xs ρ'
  | .bk ρ'=>.ok (.nx ρ')
  | .rt d=>.ok (.rt d)
noncomputable def zT (it:FI) (t:D->List D->Res (List D)) (body:FS):FS:=fun ρ=>do
 let xs <- it ρ
 if xs.2 then sY t body xs.1 ρ else .bad
noncomputable def fnS (n m:Nat) (f:FS):List D->Res D:=fun ds=>do
 let r <- f (ds++List.replicate (m-n) .uD)
 aG5 r
end Mi
end
section
namespace Mi
open PySem
end Mi
end
section
namespace Mi
open PySem L2
class KFrag where
 K:PySem.W.Frag
variable [KFrag]
noncomputable def WN (H:Hp) (a:Addr) (xs:List V):Prop:=(∃o,H a=some (.frz o (.lst xs)))\/
 ∃(o:Obj) (its:Array Value) (n:Nat),KFrag.K.lookup a=some o/\o.cls=.type "list"/\o.dict=none/\o.data=.seq its n/\its.size<=sizeLine/\Vals xs its.toList
theorem WN.sq {H:Hp} {a:Addr} {xs:List V} {K:PySem.W.Frag} (h:WN H a xs) (hK:KFrag.K=K):SqL K H a xs:=by
 subst hK;rcases h with ⟨o,h⟩|h
 ·exact .inl (.inr ⟨o,h⟩)
 ·exact .inr h
noncomputable def kD:Key->D
 | .inl i=>.int i
 | .inr x=>.str x
noncomputable def CV:HO->Bool
 | .lst _=>true
 | .dK _=>true
 | .dT _=>true
 | _=>false
noncomputable def XO (a C:Addr) (dx:Option Addr) (h:Heap):Prop:=∃o,h.get? a=some o/\o.cls=.ref C/\o.dict=dx/\∃vs,o.data=.fields vs
noncomputable def XD (dx:Addr) (fs:List (Str×Str)) (h:Heap):Prop:=∃mA,h.Ns1 dx mA/\PySem.Within mA (fs.map (·.1))/\∀f,match fs.lookup f with
 | some t=>∃tk,mA f=some (.str t tk)
 | none=>mA f=none
noncomputable def XDs (H:Hp) (fs:List (Str×Str)):Option Addr->Prop
 | none=>fs=[]
 | some d=>H d=some (.ext (XD d fs))
mutual
inductive Rep (P:Addr->Prop) (H:Hp):V->D->Prop
 | non:Rep P H .non .non
 | bl (b:Bool):Rep P H (.bl b) (.bl b)
 | int (i:Int):Rep P H (.int i) (.int i)
 | str (x:Str):Rep P H (.str x) (.str x)
 | tup {a:Addr} {xs:List V} {ds:List D}:H a=some (.tup xs)->aW P H xs ds->Rep P H (.ref a) (.tup ds)
 | lst {a:Addr} {xs:List V} {ds:List D}:H a=some (.lst xs)->P a->aW P H xs ds->Rep P H (.ref a) (.lst ds)
 | cel {a:Addr} {xs:List V} {ds:List D}:H a=some (.lst xs)->P a->aW P H xs ds->Rep P H (.ref a) (.cel a ds)
 | frz {a:Addr} {xs:List V} {ds:List D}:WN H a xs->aW P H xs ds->Rep P H (.ref a) (.scr ds)
 | dK {a:Addr} {kvs:List (Key×V)} {ds:List (D×D)}:H a=some (.dK kvs)->P a->dD P H kvs ds->(kvs.map (·.1)).Nodup->Rep P H (.ref a) (.dct ds)
 | dT {a:Addr} {kvs:List (List Key×V)} {ds:List (D×D)}:H a=some (.dT kvs)->P a->iY P H kvs ds->(kvs.map (·.1)).Nodup->Rep P H (.ref a) (.dct ds)
 | fdK {a:Addr} {o:Obj} {kvs:List (Key×V)} {ds:List (D×D)}:H a=some (.frz o (.dK kvs))->dD P H kvs ds->(kvs.map (·.1)).Nodup->Rep P H (.ref a) (.fdc ds)
 | fdT {a:Addr} {o:Obj} {kvs:List (List Key×V)} {ds:List (D×D)}:H a=some (.frz o (.dT kvs))->iY P H kvs ds->(kvs.map (·.1)).Nodup->Rep P H (.ref a) (.fdc ds)
 | exc {a C:Addr} {dx:Option Addr} {c:Str} {fs:List (Str×Str)}:PySem.W.nsIn KFrag.K mainGlobals c=some (some (.ref C))->H a=some (.ext (XO a C dx))->XDs H fs dx->Rep P H (.ref a) (.exc c fs)
 | ins {a C dx:Addr} {c:Str} {vs:List (Str×V)} {fs:List (Str×D)}:PySem.W.nsIn KFrag.K mainGlobals c=some (some (.ref C))->H a=some (.ins C dx vs)->j8 P H vs fs->Rep P H (.ref a) (.ins c fs)
inductive j8 (P:Addr->Prop) (H:Hp):List (Str×V)->List (Str×D)->Prop
 | nil:j8 P H [] []
 | cons {f:Str} {v:V} {d:D} {r:List (Str×V)} {ds:List (Str×D)}:Rep P H v d->j8 P H r ds->j8 P H ((f,v)::r) ((f,d)::ds)
inductive aW (P:Addr->Prop) (H:Hp):List V->List D->Prop
 | nil:aW P H [] []
 | cons {v:V} {d:D} {vs:List V} {ds:List D}:Rep P H v d->aW P H vs ds->aW P H (v::vs) (d::ds)
inductive dD (P:Addr->Prop) (H:Hp):List (Key×V)->List (D×D)->Prop
 | nil:dD P H [] []
 | cons {k:Key} {v:V} {d:D} {r:List (Key×V)} {ds:List (D×D)}:Rep P H v d->dD P H r ds->dD P H ((k,v)::r) ((kD k,d)::ds)
inductive iY (P:Addr->Prop) (H:Hp):List (List Key×V)->List (D×D)->Prop
 | nil:iY P H [] []
 | cons {k:List Key} {v:V} {d:D} {r:List (List Key×V)} {ds:List (D×D)}:Rep P H v d->iY P H r ds->iY P H ((k,v)::r) ((.tup (k.map kD),d)::ds)
end
noncomputable def HH (P:Addr->Prop) (H H':Hp):Prop:=∀a o,H a=some o->(P a\/CV o=false)->H' a=some o
theorem HH.same {P:Addr->Prop} {H H':Hp} (h:bK H H'):HH P H H':=fun a o e _=>h a o e
mutual
theorem Rep.keep {P P':Addr->Prop} {H H':Hp} (k:HH P H H') (m:∀a,P a->P' a):∀{v:V} {d:D},Rep P H v d->Rep P' H' v d
 | _,_,.non=>.non
 | _,_,.bl b=>.bl b
 | _,_,.int i=>.int i
 | _,_,.str x=>.str x
 | _,_,.tup e r=>.tup (k _ _ e (.inr rfl)) (aW.keep k m r)
 | _,_,.lst e p r=>.lst (k _ _ e (.inl p)) (m _ p) (aW.keep k m r)
 | _,_,.cel e p r=>.cel (k _ _ e (.inl p)) (m _ p) (aW.keep k m r)
 | _,_,.frz e r=>.frz (e.imp (fun ⟨o,e⟩=>⟨o,k _ _ e (.inr rfl)⟩) id) (aW.keep k m r)
 | _,_,.dK e p r n=>.dK (k _ _ e (.inl p)) (m _ p) (dD.keep k m r) n
 | _,_,.dT e p r n=>.dT (k _ _ e (.inl p)) (m _ p) (iY.keep k m r) n
 | _,_,.fdK e r n=>.fdK (k _ _ e (.inr rfl)) (dD.keep k m r) n
 | _,_,.fdT e r n=>.fdT (k _ _ e (.inr rfl)) (iY.keep k m r) n
 | _,_,.exc (dx:=dx) n e q=>.exc n (k _ _ e (.inr rfl)) (match dx,q with|none,q=>q|some _,q=>k _ _ q (.inr rfl))
 | _,_,.ins n e r=>.ins n (k _ _ e (.inr rfl)) (j8.keep k m r)
theorem j8.keep {P P':Addr->Prop} {H H':Hp} (k:HH P H H') (m:∀a,P a->P' a):∀{v:List (Str×V)} {d:List (Str×D)},j8 P H v d->j8 P' H' v d
 | _,_,.nil=>.nil
 | _,_,.cons r t=>.cons (Rep.keep k m r) (j8.keep k m t)
theorem aW.keep {P P':Addr->Prop} {H H':Hp} (k:HH P H H') (m:∀a,P a->P' a):∀{v:List V} {d:List D},aW P H v d->aW P' H' v d
 | _,_,.nil=>.nil
 | _,_,.cons r t=>.cons (Rep.keep k m r) (aW.keep k m t)
theorem dD.keep {P P':Addr->Prop} {H H':Hp} (k:HH P H H') (m:∀a,P a->P' a):∀{v:List (Key×V)} {d:List (D×D)},dD P H v d->dD P' H' v d
 | _,_,.nil=>.nil
 | _,_,.cons r t=>.cons (Rep.keep k m r) (dD.keep k m t)
theorem iY.keep {P P':Addr->Prop} {H H':Hp} (k:HH P H H') (m:∀a,P a->P' a):∀{v:List (List Key×V)} {d:List (D×D)},iY P H v d->iY P' H' v d
 | _,_,.nil=>.nil
 | _,_,.cons r t=>.cons (Rep.keep k m r) (iY.keep k m t)
end
theorem Rep.mono {P P':Addr->Prop} {H:Hp} {v:V} {d:D} (r:Rep P H v d) (m:∀a,P a->P' a):Rep P' H v d:=r.keep (fun _ _ e _=>e) m
theorem aW.mono {P P':Addr->Prop} {H:Hp} {v:List V} {d:List D} (r:aW P H v d) (m:∀a,P a->P' a):aW P' H v d:=r.keep (fun _ _ e _=>e) m
theorem Rep.same {P:Addr->Prop} {H H':Hp} {v:V} {d:D} (r:Rep P H v d) (s:bK H H'):Rep P H' v d:=r.keep (.same s) fun _ h=>h
theorem aW.same {P:Addr->Prop} {H H':Hp} {v:List V} {d:List D} (r:aW P H v d) (s:bK H H'):aW P H' v d:=r.keep (.same s) fun _ h=>h
mutual
theorem Rep.bH {P P':Addr->Prop} {H:Hp}:∀{v:V} {d:D},Rep P H v d->d.pure=true->Rep P' H v d
 | _,_,.non,_=>.non
 | _,_,.bl b,_=>.bl b
 | _,_,.int i,_=>.int i
 | _,_,.str x,_=>.str x
 | _,_,.tup e r,h=>.tup e (aW.bH r (by rw [D.pure] at h;exact h))
 | _,_,.lst _ _ _,h=>by rw [D.pure] at h;cases h
 | _,_,.cel _ _ _,h=>by rw [D.pure] at h;cases h
 | _,_,.frz e r,h=>.frz e (aW.bH r (by rw [D.pure] at h;exact h))
 | _,_,.dK _ _ _ _,h=>by rw [D.pure] at h;cases h
 | _,_,.dT _ _ _ _,h=>by rw [D.pure] at h;cases h
 | _,_,.fdK _ _ _,h=>by rw [D.pure] at h;cases h
 | _,_,.fdT _ _ _,h=>by rw [D.pure] at h;cases h
 | _,_,.exc _ _ _,h=>by rw [D.pure] at h;cases h
 | _,_,.ins _ _ _,h=>by rw [D.pure] at h;cases h
theorem aW.bH {P P':Addr->Prop} {H:Hp}:∀{v:List V} {d:List D},aW P H v d->D.aG d=true->aW P' H v d
 | _,_,.nil,_=>.nil
 | _,_,.cons r t,h=>by
  rw [D.aG,Bool.and_eq_true] at h;exact .cons (Rep.bH r h.1) (aW.bH t h.2)
end
theorem aW.length {P:Addr->Prop} {H:Hp}:∀{v:List V} {d:List D},aW P H v d->v.length=d.length
 | _,_,.nil=>rfl
 | _,_,.cons _ t=>by rw [List.length_cons,List.length_cons,aW.length t]
theorem aW.get {P:Addr->Prop} {H:Hp}:∀{vs:List V} {ds:List D} {i:Nat} {d:D},aW P H vs ds->ds[i]?=some d->∃v,vs[i]?=some v/\Rep P H v d
 | _,_,_,_,.nil,e=>by simp at e
 | _,_,0,_,.cons r _,e=>by simp at e;subst e;exact ⟨_,rfl,r⟩
 | _,_,i+1,d,.cons _ t,e=>by
  obtain ⟨v,h1,h2⟩:=aW.get (i:=i) (d:=d) t (by simpa using e);exact ⟨v,by simpa using h1,h2⟩
theorem aW.append {P:Addr->Prop} {H:Hp}:∀{vs ws:List V} {ds es:List D},aW P H vs ds->aW P H ws es->aW P H (vs++ws) (ds++es)
 | _,_,_,_,.nil,s=>s
 | _,_,_,_,.cons r t,s=>.cons r (aW.append t s)
theorem aW.take {P:Addr->Prop} {H:Hp}:∀{vs:List V} {ds:List D} (n:Nat),aW P H vs ds->aW P H (vs.take n) (ds.take n)
 | _,_,0,_=>.nil
 | _,_,_+1,.nil=>.nil
 | _,_,n+1,.cons r t=>.cons r (aW.take n t)
theorem aW.drop {P:Addr->Prop} {H:Hp}:∀{vs:List V} {ds:List D} (n:Nat),aW P H vs ds->aW P H (vs.drop n) (ds.drop n)
 | _,_,0,r=>r
 | _,_,_+1,.nil=>.nil
 | _,_,n+1,.cons _ t=>aW.drop n t
theorem aW.snoc {P:Addr->Prop} {H:Hp} {vs:List V} {ds:List D} {v:V} {d:D} (t:aW P H vs ds) (r:Rep P H v d):aW P H (vs++[v]) (ds++[d]):=t.append (.cons r .nil)
theorem Rep.uD {P:Addr->Prop} {H:Hp} {v:V}:¬Rep P H v .uD:=fun h=>by cases h
abbrev All:Addr->Prop:=fun _=>True
abbrev New (H:Hp):Addr->Prop:=fun a=>H a=none
theorem Rep.all {P:Addr->Prop} {H:Hp} {v:V} {d:D} (r:Rep P H v d):Rep All H v d:=r.mono fun _ _=>trivial
theorem aW.all {P:Addr->Prop} {H:Hp} {v:List V} {d:List D} (r:aW P H v d):aW All H v d:=r.mono fun _ _=>trivial
theorem bK.new {H H':Hp} (s:bK H H'):∀a,New H' a->New H a:=fun a h=>s.free h
theorem bK.upd {H:Hp} {a:Addr} {o:HO} (h:H a=none):bK H (upd H a o):=fun b u e=>by rw [aJ (aR e h)];exact e
noncomputable def ER (H:Hp) (σ:St) (ρ:List D):Prop:=∀i,ρ.getD i .uD≠.uD->∃v,σ[i]?=some (some v)/\Rep All H v (ρ.getD i .uD)
theorem ER.same {H H':Hp} {σ:St} {ρ:List D} (e:ER H σ ρ) (s:bK H H'):ER H' σ ρ:=fun i h=>by
 obtain ⟨v,h1,h2⟩:=e i h;exact ⟨v,h1,h2.same s⟩
section
variable (cf:Nat->List D->Res D) (ff:Nat->Bool)
end
theorem PE.imp {X:Cx} {e:PySem.Expr} {t t':TE} (h:PE X e t) (i:∀σ H Q,t' σ H Q->t σ H Q):PE X e t':=fun pins s σ H Q I q=>h pins s σ H Q I (i σ H Q q)
theorem PT.imp {X:Cx} {e:PySem.Expr} {t t':TT} (h:PT X e t) (i:∀σ H Q,t' σ H Q->t σ H Q):PT X e t':=fun pins s σ H Q I q=>h pins s σ H Q I (i σ H Q q)
theorem PA.imp {X:Cx} {e:List PySem.Expr} {t t':TA} (h:PA X e t) (i:∀σ H Q,t' σ H Q->t σ H Q):PA X e t':=fun pos pins s σ H Q I q=>h pos pins s σ H Q I (i σ H Q q)
end Mi
end
section
namespace L2
open PySem PySem.Spec PyProof.Rows
noncomputable def g_ (own:List Str) (x:Str):Str:=if own.contains x then x++(" " : Str) else x
noncomputable def clF (env:Env):List (Str×NameKind)->List (Str×Addr)->List (Str×Addr)
 | [],acc=>acc
 | (n,k)::r,acc=>clF env r (if k==.free then (n,(env.cells.lookup n).getD 0)::acc else acc)
theorem lX {env:Env}:∀(names:List (Str×NameKind)) (acc:List (Str×Addr)),(∀y∈names,y.2=.free->∃c,env.cells.lookup y.1=some c)->
  (forIn names acc fun x cs=>(match x with
   | (name,kind)=>if (kind==.free)=true then cellOf env name >>= fun c=>pure (ForInStep.yield ((name,c)::cs)) else pure (ForInStep.yield cs):Sem (ForInStep (List (Str×Addr)))))=(pure (clF env names acc):Sem _)
 | [],acc,_=>by rw [List.forIn_nil];rfl
 | (n,k)::r,acc,h=>by
  rw [List.forIn_cons];by_cases hk:(k==.free)=true
  ·have hk':k=.free:=by simpa using hk
   obtain ⟨c,e⟩:=h (n,k) (List.mem_cons_self ..) hk';have e':cellOf env n=pure c:=by
    unfold cellOf;have e2:env.cells.lookup n=some c:=e;rw [e2]
   dsimp only;rw [if_pos hk,e',pure_bind,pure_bind];dsimp only;rw [lX r _ fun y hy=>h y (List.mem_cons_of_mem _ hy)];have e2:env.cells.lookup n=some c:=e;simp only [clF,hk,if_true,e2,Option.getD_some]
  ·dsimp only;rw [if_neg hk,pure_bind];dsimp only;rw [lX r _ fun y hy=>h y (List.mem_cons_of_mem _ hy)];simp only [clF,hk,Bool.false_eq_true,if_false]
theorem zU {env:Env} {scope:Scope} (h:∀y∈scope.names,y.2=.free->∃c,env.cells.lookup y.1=some c):closureFor scope env=pure (clF env scope.names []):=by
 unfold closureFor;have:=lX (env:=env) scope.names [] h;simp only [bind_pure] at *;exact this
theorem vI {env:Env}:∀{names:List (Str×NameKind)} {acc:List (Str×Addr)} {x:Str} {c:Addr},(∀y∈names,y.2=.free->∃c,env.cells.lookup y.1=some c)->(∀x c,acc.lookup x=some c->env.cells.lookup x=some c)->
  (clF env names acc).lookup x=some c->env.cells.lookup x=some c
 | [],acc,x,c,_,h,e=>h x c e
 | (n,k)::r,acc,x,c,q,h,e=>by
  unfold clF at e;refine vI (fun y hy=>q y (List.mem_cons_of_mem _ hy)) (fun y d hy=>?_) e;by_cases hk:(k==.free)=true
  ·rw [if_pos hk,List.lookup_cons] at hy;obtain ⟨c',e'⟩:=q (n,k) (List.mem_cons_self ..) (by simpa using hk);have e2:env.cells.lookup n=some c':=e';cases hyn:y==n with
   | true=>
    rw [hyn] at hy;have:y=n:=by simpa using hyn
    subst this;rw [e2] at hy;simp only [Option.getD_some] at hy;rw [e2];exact hy
   | false=>rw [hyn] at hy;exact h y d hy
  ·rw [if_neg hk] at hy;exact h y d hy
theorem HJ {env:Env}:∀{names:List (Str×NameKind)} {acc:List (Str×Addr)} {x:Str},(∃c,acc.lookup x=some c)->∃c,(clF env names acc).lookup x=some c
 | [],_,_,h=>h
 | (n,k)::r,acc,x,⟨c,h⟩=>by
  unfold clF;refine HJ ?_;by_cases hk:(k==.free)=true
  ·rw [if_pos hk,List.lookup_cons];cases x==n with
   | true=>exact ⟨_,rfl⟩
   | false=>exact ⟨c,h⟩
  ·rw [if_neg hk];exact ⟨c,h⟩
theorem vJ {env:Env}:∀{names:List (Str×NameKind)} {acc:List (Str×Addr)} {x:Str},(x,NameKind.free)∈names->∃c,(clF env names acc).lookup x=some c
 | (n,k)::r,acc,x,h=>by
  unfold clF;rcases List.mem_cons.mp h with e|h
  ·cases e;refine HJ ?_;rw [if_pos (by decide),List.lookup_cons];simp
  ·exact vJ h
structure cU (N:List Str) (sc scope:Scope) (own:List Str):Prop where
 kind:scope.kind=.function
 nocell:∀y∈scope.names,y.2≠.cell
 names:∀y∈scope.names,y.2=.local->scope.names.lookup y.1=some .local
 free:∀y∈scope.names,y.2=.free->sc.names.lookup y.1=some .cell\/sc.names.lookup y.1=some .free
 ownl:∀x∈own,scope.names.lookup x=some .local
 hid:∀x∈own,scope.names.lookup (x++(" " : Str))=none
 loc:∀y∈scope.names,y.2=.local->y.1∈own\/y.1∉N
structure d_ (X X':Cx) (scope:Scope) (own:List Str):Prop where
 prog:X'.prog=X.prog
 w:X'.w=X.w
 K:X'.K=X.K
 mg:X'.mg=X.mg
 base:X'.base=X.base
 A:X'.A=X.A
 N:X'.N=X.N.map (g_ own)++own
 scope:X'.env.scope=relabel scope X.env
 calm:X'.calm=X.calm
 xe:X'.xe=fun _ _=>False
noncomputable def wX (X:Cx) (scope:Scope) (cl:List (Str×Addr)) (C:Addr) (own:List Str) (s₂:Shared) (H₂:Hp) (fp:List Addr):Cx:=
 {X with N:=X.N.map (g_ own)++own,s₀:=s₂,H₀:=H₂,env:=compEnvC scope cl C X.env,outer:=X.stack,stack:=X.stack,ex:=fp,fn:=fun _=>false,pn:=[],xe:=fun _ _=>False}
theorem HN {X:Cx} {scope:Scope} {cl:List (Str×Addr)} {C:Addr} {own:List Str} {s₂:Shared} {H₂:Hp} {fp:List Addr}:d_ X (wX X scope cl C own s₂ H₂ fp) scope own:=
 ⟨rfl,rfl,rfl,rfl,rfl,rfl,rfl,rfl,rfl,rfl⟩
noncomputable def Ext (σ σ2:St):Prop:=σ2.length=σ.length/\∀(i:Nat) v,σ[i]?=some (some v)->σ2[i]?=some (some v)
noncomputable def zV (wi:TI) (g:TG) (tc:TT) (te:TE) (m:Nat):TE:=fun σ H Q=>wi σ H fun J H1=>∀p,H1 p=none->
 ∃W:Nat->Nat->List V->Hp->Prop,(∃n,W 0 n [] (upd H1 p (.lst [])))/\∀i n ys H,W i n ys H->H p=some (.lst ys)/\((J.stop i H/\Q (.ref p) H)\/(J.go i H/\ys.length<sizeLine/\
  ∀x H2,J.yld i H x H2->g x (σ++List.replicate m none) H2 fun σ2 H3=>Ext (σ++List.replicate m none) σ2/\tc σ2 H3 fun b H4=>if b=true then te σ2 H4 fun y H5=>H5 p=some (.lst ys)/\∃n',n'<n/\W (i+1) n' (ys++[y]) (upd H5 p (.lst (ys++[y])))
   else ∃n',n'<n/\W (i+1) n' ys H4))
section
variable {X:Cx} {scope:Scope} {own:List Str}
theorem Inv.comp {pins:List (Addr×Obj)} {σ:St} {H2:Hp} {s2:Shared} {fp:List Addr} {h1:Heap} {t1:Nat} (I:Inv X pins σ H2 s2) (S:cU X.N X.env.scope scope own) (hf:∀b∈fp,CT X pins H2 b)
  (hfx:∀b∈fp,b<s2.heap.objs.size) (hns:h1.Ns (s2.heap.objs.size+1) (fun _=>none))
  (hk:∀b o,s2.heap.get? b=some o->h1.get? b=some o) (hacc:h1.get? s2.heap.objs.size=some {cls:=.type "list",data:=.seq #[]}) :
  Inv (wX X scope (clF X.env scope.names []) (s2.heap.objs.size+1) own s2 H2 fp) [] (σ++List.replicate own.length none) (upd H2 s2.heap.objs.size (.lst [])) {s2 with heap:=h1,toks:=t1}:=by
 have hD:H2 s2.heap.objs.size=none:=I.hok.fresh (Nat.le_refl _);have hC:H2 (s2.heap.objs.size+1)=none:=I.hok.fresh (Nat.le_succ _);have cells:∀y∈scope.names,y.2=.free->∃c,X.env.cells.lookup y.1=some c:=fun y hy hk=>I.ok.has y.1 (S.free y hy hk)
 have sub:∀x c,(clF X.env scope.names []).lookup x=some c->X.env.cells.lookup x=some c:=fun x c e=>vI cells (fun _ _ h=>by simp at h) e
 have relk:∀x,(relabel scope X.env).names.lookup x=some .cell\/(relabel scope X.env).names.lookup x=some .free->(x,NameKind.free)∈scope.names:=by
  intro x hx;have go:∀(l:List (Str×NameKind)),(∀y∈l,y.2≠.cell)->((l.map fun (n,k)=>if (k==NameKind.free&&X.env.scope.kind==.function&&X.env.kindOf n==some .cell) then (n,NameKind.cell) else (n,k)).lookup x=some .cell\/(l.map fun (n,k)=>if (k==NameKind.free&&X.env.scope.kind==.function&&X.env.kindOf n==some .cell) then (n,NameKind.cell) else (n,k)).lookup x=some .free)->(x,NameKind.free)∈l:=by
   intro l;induction l with
   | nil=>intro _ h;rcases h with h|h <;> simp at h
   | cons p l ih=>
    obtain ⟨n,k⟩:=p;intro nc h;rw [List.map_cons] at h;dsimp only at h;by_cases hc:(k==NameKind.free&&X.env.scope.kind==.function&&X.env.kindOf n==some .cell)=true
    ·rw [if_pos hc] at h;rw [List.lookup_cons] at h;cases e:x==n with
     | true=>
      have:x=n:=by simpa using e
      subst this;simp only [Bool.and_eq_true] at hc;have:k=.free:=by simpa using hc.1.1
      subst this;exact List.mem_cons_self ..
     | false=>
      rw [e] at h;exact List.mem_cons_of_mem _ (ih (fun y hy=>nc y (List.mem_cons_of_mem _ hy)) h)
    ·rw [if_neg hc] at h;rw [List.lookup_cons] at h;cases e:x==n with
     | true=>
      have:x=n:=by simpa using e
      subst this;rw [e] at h;dsimp only at h;rcases h with h|h
      ·exact absurd (Option.some.inj h) (nc (x,k) (List.mem_cons_self ..))
      ·have:=Option.some.inj h;subst this;exact List.mem_cons_self ..
     | false=>
      rw [e] at h;exact List.mem_cons_of_mem _ (ih (fun y hy=>nc y (List.mem_cons_of_mem _ hy)) h)
  exact go scope.names S.nocell hx
 have hne:s2.heap.objs.size≠s2.heap.objs.size+1:=Nat.ne_of_lt (Nat.lt_succ_self _);have hlt:∀b o,s2.heap.get? b=some o->b<s2.heap.objs.size:=fun b o e=>Heap.lt_size e
 have hstk:∀b∈frs X.stack,b<s2.heap.objs.size:=fun b hb=>by
  obtain ⟨_,o,ho,_⟩:=I.stack.mem hb;exact hlt b o ho
 refine ⟨⟨I.mod,?_,I.ok.glob,I.ok.blt,Nat.le_succ _,fun x y c e1 e2=>I.ok.inj x y c (sub x c e1) (sub y c e2),fun x hx=>?_,fun _ _ h=>(by cases h),I.ok.hd,I.ok.frames,.inl rfl,fun b hb=>?_,fun b o e=>I.bs b o e,?_,fun b o e hb=>?_,fun b hb hz=>?_,I.stack,I.uX⟩,
  rfl,I.bare,Un.laid hk (Nat.le_refl _) hD,?_,fun x c e=>?_,?_,fun x c e=>?_,fun p hp=>(by simp [wX] at hp),?_,?_⟩
 ·exact S.kind
 ·have hx':(relabel scope X.env).names.lookup x=some .cell\/(relabel scope X.env).names.lookup x=some .free:=hx;exact vJ (relk x hx')
 ·refine ⟨Nat.ne_of_lt (Nat.lt_succ_of_lt (hfx b hb)),fun x c e z=>?_⟩;exact (hf b hb).2.2.2.2.1 x c (sub x c e) z
 ·exact Nat.le_trans I.ok.bsz I.sz
 ·rcases (hf b hb).2.2.2.1 with z|z
  ·exact I.ok.noex b o e z
  ·exact absurd (Nat.lt_of_lt_of_le (Heap.lt_size e) (Nat.le_trans I.ok.bsz z)) (Nat.lt_irrefl _)
 ·rcases List.mem_cons.mp (I.wF b hz) with z'|z'
  ·exact (hf b hb).2.1 z'
  ·exact (hf b hb).2.2.1 z'
 ·refine ⟨_,hns,fun i x v e1 e2 e3=>?_⟩;have hi:i<σ.length:=by
   rcases Nat.lt_or_ge i σ.length with h|h
   ·exact h
   ·rw [List.getElem?_append_right h,List.getElem?_replicate] at e2;split at e2 <;> cases e2
  rw [List.getElem?_append_left hi] at e2;have hiN:i<X.N.length:=by rw [<-I.len];exact hi
  have e1':(X.N.map (g_ own))[i]?=some x:=by
   have:(X.N.map (g_ own)++own)[i]?=some x:=e1;rwa [List.getElem?_append_left (by rw [List.length_map];exact hiN)] at this
  rw [List.getElem?_map] at e1';obtain ⟨y,hy,ey⟩:=Option.map_eq_some_iff.mp e1';have hyN:y∈X.N:=List.mem_of_getElem? hy;have e3':(relabel scope X.env).names.lookup x=some .local\/(relabel scope X.env).names.lookup x=some .cell\/(relabel scope X.env).names.lookup x=some .free:=e3;have keys:∀z k,(relabel scope X.env).names.lookup z=some k->∃k',scope.names.lookup z=some k'/\(k=.local->k'=.local):=by
   intro z k;show (scope.names.map fun (n,k)=>if (k==NameKind.free&&X.env.scope.kind==.function&&X.env.kindOf n==some .cell) then (n,NameKind.cell) else (n,k)).lookup z=some k->_;generalize scope.names=l;induction l with
   | nil=>intro h;simp at h
   | cons p l ih=>
    obtain ⟨n,k0⟩:=p;intro h;rw [List.map_cons] at h;dsimp only at h;by_cases hc:(k0==NameKind.free&&X.env.scope.kind==.function&&X.env.kindOf n==some .cell)=true
    ·rw [if_pos hc,List.lookup_cons] at h;rw [List.lookup_cons];cases e:z==n with
     | true=>
      rw [e] at h;dsimp only at h;cases h;exact ⟨k0,rfl,fun q=>by cases q⟩
     | false=>rw [e] at h;exact ih h
    ·rw [if_neg hc,List.lookup_cons] at h;rw [List.lookup_cons];cases e:z==n with
     | true=>
      rw [e] at h;dsimp only at h;cases h;exact ⟨_,rfl,fun q=>q⟩
     | false=>rw [e] at h;exact ih h
  by_cases hown:own.contains y=true
  ·exfalso;have ex:x=y++(" " : Str):=by rw [<-ey];unfold g_;rw [if_pos hown]
   have hn:=S.hid y (by simpa using hown);rw [<-ex] at hn;rcases e3' with q|q|q
   all_goals
    obtain ⟨k',hk',_⟩:=keys _ _ q;rw [hn] at hk';cases hk'
  ·have ex:x=y:=by rw [<-ey];unfold g_;rw [if_neg hown]
   subst ex;rcases e3' with q|q
   ·exfalso;obtain ⟨k',hk',hl⟩:=keys _ _ q;have:=hl rfl;subst this;rcases S.loc _ (PySem.mem_of_lookup hk') rfl with z|z
    ·exact hown (by simpa using z)
    ·exact z hyN
   ·have hfr:=relk x q;have hv:=S.free _ hfr rfl;obtain ⟨m,_,hl⟩:=I.loc;obtain ⟨u,ru,lk⟩:=hl i x v hy e2 (.inr hv);refine ⟨u,ru,.inr ⟨q,?_⟩⟩;rcases lk with ⟨z,_⟩|⟨_,c,hc,o,ho,hd⟩
    ·have z':X.env.scope.names.lookup x=some .local:=z;rcases hv with hv|hv <;> (rw [z'] at hv;cases hv)
    ·obtain ⟨c',hc'⟩:=vJ (env:=X.env) (acc:=[]) hfr;have:=sub x c' hc';rw [hc] at this;cases this;exact ⟨c,hc',o,hk c o ho,hd⟩
 ·obtain ⟨v,z⟩:=I.cell x c (sub x c e);obtain ⟨o,ho,hd⟩:=z;exact ⟨v,o,hk c o ho,hd⟩
 ·show upd H2 _ _ (s2.heap.objs.size+1)=none;rw [aJ (Ne.symm hne)];exact hC
 ·obtain ⟨v,o,ho,_⟩:=I.cell x c (sub x c e);show upd H2 _ _ c=none;rw [aJ (Nat.ne_of_lt (hlt c o ho))];exact I.freeC x c (sub x c e)
 ·exact I.hok.laid hk (Nat.le_refl _) ⟨Nat.zero_le _,[],0,.nil,hacc⟩
 ·show (σ++List.replicate own.length none).length=(X.N.map (g_ own)++own).length;rw [List.length_append,List.length_append,List.length_replicate,List.length_map,I.len]
end
section
variable {X:Cx} {scope:Scope} {own:List Str}
noncomputable def cI (X':Cx) (σ:St) (fp:List Addr) (tn:Nat->Heap->Prop) (W:Nat->Nat->List V->Hp->Prop) (n:Nat) (s:Shared):Prop:=∃i ys H',Inv X' [] σ H' s/\tn i s.heap/\(∀b∈fp,H' b=none)/\W i n ys H'
noncomputable abbrev cE (X X':Cx) (use:Option (Value->Sem Unit)) (QQ:Value->Shared->Prop) (p:Addr):Value->Shared->Prop:=notedBy (model X.prog X.w) X.A X'.env fun e s'=>compPost (model X.prog X.w) X.A X.xe use QQ (.ref p) (p+1) (.error e) s'
noncomputable def cB (X':Cx) (σ:St) (fp:List Addr) (tn:Nat->Heap->Prop) (W:Nat->Nat->List V->Hp->Prop) (n i:Nat) (h:Heap):Prop:=∀{ys':List V} {H9:Hp} {s9:Shared} {σ9:St},Ext σ σ9->Inv X' ([]++nD fp h) σ9 H9 s9->(∃n',n'<n/\W (i+1) n' ys' H9)->∃m,m<n/\cI X' σ fp tn W m s9
theorem HQ {elt iter tg:Expr} {ifs:List Expr} {wi:TI} {g:TG} {tc:TT} {te:TE} {pos ps:Pos} {use:Option (Value->Sem Unit)} {QQ:Value->Shared->Prop} {pins:List (Addr×Obj)} {s:Shared} {σ:St} {H:Hp} {R:VK} (S:cU X.N X.env.scope scope own) (hcalm:X.calm=true) (hi:PI X tg iter wi)
  (hg:∀X',d_ X X' scope own->PG X' tg g) (hc:(ifs=[]/\tc=fun _ H Q=>Q true H)\/∃c,ifs=[c]/\∀X',d_ X X' scope own->PT X' c tc) (he:∀X',d_ X X' scope own->PE X' elt te)
  (hs:∀x,foldedSetIterable iter X.env x=pure x) (I:Inv X pins σ H s) (h:zV wi g tc te own.length σ H R)
  (last:∀{p C:Addr} {H5:Hp} {s6:Shared} {m6:Str->Option Value},Inv X pins σ H5 s6->CT X pins H5 C->s6.heap.Ns C m6->R (.ref p) H5->compPost (model X.prog X.w) X.A X.xe use QQ (.ref p) C (.ok .next) s6) :
  wpAny (model X.prog X.w) X.A (comprehension (.ListComp elt [⟨tg,iter,ifs,0⟩] scope pos) scope X.env ps (newList []) false (eval iter X.env) use) QQ X.xe s:=by
 have cells:∀y∈scope.names,y.2=.free->∃c,X.env.cells.lookup y.1=some c:=fun y hy hk=>I.ok.has y.1 (S.free y hy hk)
 refine wpAny_comprehension_free rfl hs (zU cells) S.kind S.names (thn (hi pins s σ H _ I h) fun xv s1 h1=>thn h1 fun itv s2 h2=>?_);obtain ⟨it,fp,tn,J,H2,e,I2,T,st2,f2,hW⟩:=h2;subst e;have hD:H2 s2.heap.objs.size=none:=I2.hok.fresh (Nat.le_refl _);obtain ⟨W,⟨n0,w0⟩,turn⟩:=hW _ hD;have hfx:∀b∈fp,b<s2.heap.objs.size:=fun b hb=>by
  obtain ⟨o,ho,_⟩:=T.obj 0 _ st2 b hb;exact Heap.lt_size ho
 refine wpAny_newObj_type (wpAny_newFunctionEnv S.nocell (by intro y hy;simp at hy) (fun h₁ hns₁ hsb₁=>?_) S.kind);dsimp only at hns₁ hsb₁ ⊢;have hC:(s2.heap.push {cls:=.type "list",dict:=none,data:=.seq ([]:List Value).toArray}).objs.size=s2.heap.objs.size+1:=Heap.size_push ..;have hne:s2.heap.objs.size≠s2.heap.objs.size+1:=Nat.ne_of_lt (Nat.lt_succ_self _);rw [hC] at hns₁ hsb₁ ⊢;have old:∀b o,s2.heap.get? b=some o->h₁.get? b=some o:=fun b o e=>hsb₁.extBut b o (Nat.ne_of_lt (Nat.lt_succ_of_lt (Heap.lt_size e))) (Heap.get?_push_of_some _ (Heap.get?_push_of_some _ e))
 have hacc:h₁.get? s2.heap.objs.size=some {cls:=.type "list",data:=.seq #[]}:=hsb₁.extBut _ _ hne (Heap.get?_push_of_some _ (Heap.get?_push_size _ rfl));have I4:=Inv.comp (t1:=s2.toks+([]:List (Str×Value)).length) I2 S f2 hfx hns₁ old hacc;generalize hX':wX X scope (clF X.env scope.names []) (s2.heap.objs.size+1) own s2 H2 fp=X' at I4;have cc:d_ X X' scope own:=by rw [<-hX'];exact HN
 have eenv:X'.env=compEnvC scope (clF X.env scope.names []) (s2.heap.objs.size+1) X.env:=by rw [<-hX'];rfl
 have eA:X'.A=X.A:=cc.A;have ep:X'.prog=X.prog:=cc.prog;have ew:X'.w=X.w:=cc.w;have efs:X'.fs=frs X.stack:=by rw [<-hX'];rfl
 have eex:X'.ex=fp:=by rw [<-hX'];rfl
 have es0:X'.s₀=s2:=by rw [<-hX'];rfl
 have eH0:X'.H₀=H2:=by rw [<-hX'];rfl
 have epn:X'.pn=[]:=by rw [<-hX'];rfl
 have eK:X'.K=X.K:=cc.K;have exe:=cc.xe;have ecalm:X'.calm=true:=cc.calm.trans hcalm
 -- the iterator's records within the block
 have fpok:∀{H':Hp},(∀b∈fp,H' b=none)->∀b∈fp,CT X' [] H' b:=fun {H'} hn b hb=>by
  obtain ⟨_,f1,f3,_,f5,_⟩:=f2 b hb;refine ⟨hn b hb,?_,?_,.inl (by rw [eex];exact hb),fun x c e=>?_,fun p hp=>by rw [epn] at hp;simp at hp⟩
  ·rw [eenv];exact Nat.ne_of_lt (Nat.lt_succ_of_lt (hfx b hb))
  ·rw [efs];intro z;rcases List.mem_cons.mp (I2.wF b z) with z|z
   ·exact f1 z
   ·exact f3 z
  ·rw [eenv] at e;exact f5 x c (vI cells (fun _ _ h=>by simp at h) e)
 have st4:tn 0 h₁:=T.keep _ _ _ st2 fun b _ o e=>old b o e
 have fr4:∀b∈fp,(upd H2 s2.heap.objs.size (.lst [])) b=none:=fun b hb=>by rw [aJ (Nat.ne_of_lt (hfx b hb))];exact (f2 b hb).1
 have loop:∀s4:Shared,s4={s2 with heap:=h₁,toks:=s2.toks+([]:List (Str×Value)).length}->
   codeAny (model X.prog X.w) X.A (.compLoop (.ListComp elt [⟨tg,iter,ifs,0⟩] scope pos) 0 (.ref it) (.ref s2.heap.objs.size) X'.env)
    (compPost (model X.prog X.w) X.A X.xe use QQ (.ref s2.heap.objs.size) (s2.heap.objs.size+1)) s4:=by
  rintro s4 rfl;have put:∀(n i:Nat) (ys:List V) (s7:Shared) (σ8:St) (H8:Hp) (s8:Shared),cB X' (σ++List.replicate own.length none) fp tn W n i s7.heap->Inv X' ([]++nD fp s7.heap) σ8 H8 s8->Ext (σ++List.replicate own.length none) σ8->ys.length<sizeLine->(te σ8 H8 fun y H5=>H5 s2.heap.objs.size=some (.lst ys)/\∃n',n'<n/\W (i+1) n' (ys++[y]) (upd H5 s2.heap.objs.size (.lst (ys++[y]))))->
    wpAny (model X.prog X.w) X.A (eval elt X'.env) (fun x s₄=>wpAny (model X.prog X.w) X.A (call (.builtin "list.append") [.ref s2.heap.objs.size,x]) (fun _ s₅=>∃m,m<n/\cI X' (σ++List.replicate own.length none) fp tn W m s₅) (cE X X' use QQ s2.heap.objs.size) s₄) (cE X X' use QQ s2.heap.objs.size) s8:=by
   intro n i ys s7 σ8 H8 s8 back I8 ext8 hlen q8;have he':=he X' cc _ s8 _ H8 _ I8 q8;rw [ep,ew,eA,exe] at he';refine wpAny_mono he' (fun yv s10 ⟨y,H10,I10,r10,p10,q10⟩=>?_) fun _ _ z=>False.elim z
   have hm:=jD (X:=X') _ s10 σ8 H10 (.ref s2.heap.objs.size) [y] (.ref s2.heap.objs.size) [yv] (fun _ H11=>∃n',n'<n/\W (i+1) n' (ys++[y]) H11) I10 rfl (.cons r10 .nil) ⟨s2.heap.objs.size,ys,y,rfl,rfl,p10,hlen,q10⟩;rw [ep,ew,eA,exe] at hm;exact wpAny_mono hm (fun _ s11 ⟨_,H11,I11,_,q11⟩=>back ext8 I11 q11) fun _ _ z=>False.elim z
  have key:∀(PO:Nat->Shared->Prop),(∀(n i:Nat) (ys:List V) (s7:Shared) (σ8:St) (H8:Hp) (s8:Shared),cB X' (σ++List.replicate own.length none) fp tn W n i s7.heap->Inv X' ([]++nD fp s7.heap) σ8 H8 s8->Ext (σ++List.replicate own.length none) σ8->ys.length<sizeLine->(tc σ8 H8 fun b H4=>if b=true then te σ8 H4 fun y H5=>H5 s2.heap.objs.size=some (.lst ys)/\∃n',n'<n/\W (i+1) n' (ys++[y]) (upd H5 s2.heap.objs.size (.lst (ys++[y]))) else ∃n',n'<n/\W (i+1) n' ys H4)->PO n s8)->
    ∀n s5,(cI X' (σ++List.replicate own.length none) fp tn W n s5)->wpAny (model X.prog X.w) X.A (pyNext (.ref it)) (fun r s₁=>match r with
     | none=>compPost (model X.prog X.w) X.A X.xe use QQ (.ref s2.heap.objs.size) (s2.heap.objs.size+1) (.ok .next) s₁
     | some v=>wpAny (model X.prog X.w) X.A (letOwnedTupleGo tg (.ref it) v) (fun _ s₀=>wpAny (model X.prog X.w) X.A (assign tg X'.env v) (fun _ s₂=>PO n s₂) (cE X X' use QQ s2.heap.objs.size) s₀) (cE X X' use QQ s2.heap.objs.size) s₁) (cE X X' use QQ s2.heap.objs.size) s5:=by
   intro PO hPO;rintro n s5 ⟨i,ys,H5,I5,st5,fr5,w5⟩;obtain ⟨hacc5,tr⟩:=turn i n ys H5 w5;rcases tr with ⟨stop,q⟩|⟨go,hlen,step⟩
   ·have done:=T.done X' ep ew eK ecalm i [] s5 _ H5 (cE X X' use QQ s2.heap.objs.size) I5 (fpok fr5) st5 stop;rw [eA] at done;refine thn done fun r s6 ⟨hr,I6⟩=>?_
    subst hr;obtain ⟨m6,hn6,_⟩:=id I6.loc;rw [eenv] at hn6;have u6:Un (frs X.stack) fp H2 H5 s2.heap s6.heap:=by
     have:=I6.base;rw [efs,eex,eH0,es0] at this;exact this
    have hCn:H5 (s2.heap.objs.size+1)=none:=by
     have:=I6.free;rw [eenv] at this;exact this
    have hok6:HOk X.prog X.w H5 s6.heap:=by
     have:=I6.hok;rw [ep,ew] at this;exact this
    have hos:s6.os=s2.os:=by have:=I6.os;rw [es0] at this;exact this
    obtain ⟨hh,gg,dd,tt,oo⟩:=s6;obtain rfl:oo=s2.os:=hos;have fin:=Inv.call (h':=hh) (g':=gg) (d':=dd) (t':=tt) (ch:=fp) I2 u6 hok6 I6.bare fun b hb=>⟨(f2 b hb).2.2.2.1,(f2 b hb).2.1,(f2 b hb).2.2.2.2.1,(f2 b hb).2.2.2.2.2⟩
    refine last fin ⟨hCn,Nat.ne_of_gt (Nat.lt_succ_of_lt I2.lt),I2.aF0 (Nat.le_succ _),.inr (Nat.le_trans I2.sz (Nat.le_succ _)),fun x c e z=>?_,fun p hp z=>?_⟩ hn6 q
    ·obtain ⟨v,qq⟩:=I2.cell x c e;exact absurd (Nat.lt_succ_of_lt qq.lt) (by rw [z];exact Nat.lt_irrefl _)
    ·exact absurd (Nat.lt_succ_of_lt (Heap.lt_size (I2.pin p hp).1)) (by rw [z];exact Nat.lt_irrefl _)
   ·have item:=T.item X' ep ew eK ecalm i [] s5 _ H5 (cE X X' use QQ s2.heap.objs.size) I5 (fpok fr5) st5 go;rw [eA] at item;refine thn item fun r s6 ⟨u,hr,h6⟩=>?_
    subst hr;refine thn h6 fun _ s7 ⟨x,H7,I7,r7,y7,st7,fr7⟩=>?_
    have I7':=I7.pinned (fpok fr7) (T.obj _ _ st7);have hg':=hg X' cc _ s7 _ H7 x u _ I7' r7 (step x H7 y7);rw [ep,ew,eA,exe] at hg';refine wpAny_mono hg' (fun _ s8 ⟨σ8,H8,I8,ext8,q8⟩=>?_) fun _ _ z=>False.elim z
    have back:cB X' (σ++List.replicate own.length none) fp tn W n i s7.heap:=by
     rintro ys' H9 s9 σ9 ex9 I9 ⟨n',hn',w9⟩;refine ⟨n',hn',i+1,ys',H9,(I9.weak ex9.1.symm ex9.2).lC,T.keep _ _ _ st7 fun b hb o e=>(I9.pin (b,o) (List.mem_append_right _ (List.mem_append_right _ (jU hb e)))).1,fun b hb=>?_,w9⟩;obtain ⟨o,e,d⟩:=T.obj _ _ st7 b hb;exact (I9.pin (b,o) (List.mem_append_right _ (List.mem_append_right _ (jU hb e)))).2.1
    exact hPO n i ys s7 σ8 H8 s8 back I8 ext8 hlen q8
  rcases hc with ⟨rfl,rfl⟩|⟨c,rfl,hc⟩
  ·refine PySem.W.kcp_loop _ (key _ fun n i ys s7 σ8 H8 s8 back I8 ext8 hlen q8=>?_) n0 ⟨0,[],_,I4,st4,fr4,w0⟩;simp only [if_true] at q8;exact put n i ys s7 σ8 H8 s8 back I8 ext8 hlen q8
  ·refine PySem.W.kct_loop _ (key _ fun n i ys s7 σ8 H8 s8 back I8 ext8 hlen q8=>?_) n0 ⟨0,[],_,I4,st4,fr4,w0⟩;have hc':=hc X' cc _ s8 _ H8 _ I8 q8;rw [ep,ew,eA,exe] at hc';refine wpAny_mono hc' (fun b s9 ⟨H9,I9,q9⟩=>?_) fun _ _ z=>False.elim z
   cases b with
   | false=>
    simp only [Bool.false_eq_true,if_false] at q9 ⊢;exact back ext8 I9 q9
   | true=>
    simp only [if_true] at q9 ⊢;exact put n i ys s7 σ8 H9 s9 back I9 ext8 hlen q9
 have l4:=loop _ rfl;rw [eenv] at l4;exact codeAny_compStart_list l4 (T.self X.A 0 _ _ _ st4 l4)
theorem PK {pins:List (Addr×Obj)} {σ:St} {Q:VK} {p C:Addr} {H5:Hp} {s6:Shared} {m6:Str->Option Value} (f:Inv X pins σ H5 s6) (k:CT X pins H5 C) (n:s6.heap.Ns C m6) (q:Q (.ref p) H5):compPost (model X.prog X.w) X.A X.xe none (EP X pins σ Q) (.ref p) C (.ok .next) s6:=
 ⟨m6,n,fun h' sb=>⟨.ref p,H5,Inv.turned (t':=s6.toks) f (fun b o hb e=>sb.extBut b o hb e) k.1 k.2.1 k.2.2.2.1 k.2.2.2.2.1 k.2.2.2.2.2,rfl,q⟩⟩
theorem PL {elt iter tg:Expr} {wi:TI} {g:TG} {te:TE} {pos:Pos} (S:cU X.N X.env.scope scope own) (hcalm:X.calm=true) (hi:PI X tg iter wi)
  (hg:∀X',d_ X X' scope own->PG X' tg g) (he:∀X',d_ X X' scope own->PE X' elt te)
  (hs:∀x,foldedSetIterable iter X.env x=pure x):PE X (.ListComp elt [⟨tg,iter,[],0⟩] scope pos) (zV wi g (fun _ H Q=>Q true H) te own.length):=by
 intro pins s σ H Q I h;rw [eval_ListComp];exact HQ S hcalm hi hg (.inl ⟨rfl,rfl⟩) he hs I h PK
end
end L2
end
section
namespace Mi
open PySem L2 PySem.SeqAt
variable [KFrag]
theorem fY {X:Cx} {pins:List (Addr×Obj)} {σ:St} {H:Hp} {s:Shared} {a:Addr} {xs:List V} (I:Inv X pins σ H s) (e:H a=some (.tup xs)):∃its:List Value,Vals xs its/\s.heap.IsTuple a its.toArray:=by
 obtain ⟨_,its,r,p⟩:xs.length<=sizeLine/\∃its:List Value,Vals xs its/\gH s.heap a its.toArray:=I.hok a _ e;exact ⟨its,r,p.tup⟩
theorem j5 {X:Cx} {pins:List (Addr×Obj)} {σ:St} {H:Hp} {s:Shared} {a:Addr} {xs:List V} (I:Inv X pins σ H s) (e:SqL X.K H a xs):∃its:List Value,Vals xs its/\s.heap.IsList a its.toArray:=by
 obtain ⟨its,r,p,_⟩:=I.list e;exact ⟨its,r,p.isList⟩
theorem Rep.eZ {P:Addr->Prop} {H:Hp} {K:PySem.W.Frag} {v:V} {ds:List D} (r:Rep P H v (.lst ds)):∃a xs,v=.ref a/\SqL K H a xs/\aW P H xs ds:=by
 cases r with
 | lst e p r=>exact ⟨_,_,rfl,.inl (.inl e),r⟩
theorem Rep.dC {P:Addr->Prop} {H:Hp} {v:V} {ds:List D} (r:Rep P H v (.tup ds)):∃a xs,v=.ref a/\H a=some (.tup xs)/\aW P H xs ds:=by
 cases r with
 | tup e r=>exact ⟨_,_,rfl,e,r⟩
mutual
theorem qL:∀(n:Nat) (d:D),d.bF n=true->eqD d d=true
 | _,.non,_=>rfl
 | _,.bl b,_=>by simp [eqD]
 | _,.int i,_=>by simp [eqD]
 | _,.str x,_=>by simp [eqD]
 | n+1,.tup xs,h=>by rw [D.bF] at h;rw [eqD];exact n6 n xs h
 | n+1,.lst xs,h=>by rw [D.bF] at h;rw [eqD];exact n6 n xs h
 | 0,.tup xs,h=>by simp [D.bF] at h
 | 0,.lst xs,h=>by simp [D.bF] at h
 | n,.dct _,h=>by cases n <;> simp [D.bF] at h
 | n,.uD,h=>by cases n <;> simp [D.bF] at h
 | n,.scr _,h=>by cases n <;> simp [D.bF] at h
 | n,.fdc _,h=>by cases n <;> simp [D.bF] at h
 | n,.exc _ _,h=>by cases n <;> simp [D.bF] at h
 | n,.ins _ _,h=>by cases n <;> simp [D.bF] at h
 | n,.cel _ _,h=>by cases n <;> simp [D.bF] at h
theorem n6:∀(n:Nat) (ds:List D),D.fQ n ds=true->vC ds ds=true
 | _,[],_=>rfl
 | n,d::ds,h=>by
  rw [D.fQ,Bool.and_eq_true] at h;rw [vC,qL n d h.1,n6 n ds h.2];rfl
end
mutual
theorem Rep.inj {P P':Addr->Prop} {H:Hp}:∀(n:Nat) {v:V} {d e:D},d.bF n=true->e.bF n=true->Rep P H v d->Rep P' H v e->d=e
 | _,_,_,_,_,_,.non,.non=>rfl
 | _,_,_,_,_,_,.bl _,.bl _=>rfl
 | _,_,_,_,_,_,.int _,.int _=>rfl
 | _,_,_,_,_,_,.str _,.str _=>rfl
 | n+1,_,.tup ds,_,h,h',.tup e1 r1,q=>by
  cases q with
  | tup e2 r2=>
   rw [e1] at e2;cases e2;rw [D.bF] at h h';rw [aW.inj n h h' r1 r2]
  | lst e2 _ _=>rw [e1] at e2;cases e2
  | frz e2 _=>simp [D.bF] at h'
  | fdK e2 _ _=>simp [D.bF] at h'
  | cel e2 _ _=>simp [D.bF] at h'
  | fdT e2 _ _=>simp [D.bF] at h'
  | exc _ _ _=>simp [D.bF] at h'
  | ins _ _ _=>simp [D.bF] at h'
  | dK e2 _ _ _=>rw [e1] at e2;cases e2
  | dT e2 _ _ _=>rw [e1] at e2;cases e2
 | n+1,_,.lst ds,_,h,h',.lst e1 p r1,q=>by
  cases q with
  | tup e2 r2=>rw [e1] at e2;cases e2
  | lst e2 _ r2=>
   rw [e1] at e2;cases e2;rw [D.bF] at h h';rw [aW.inj n h h' r1 r2]
  | frz e2 _=>simp [D.bF] at h'
  | fdK e2 _ _=>simp [D.bF] at h'
  | cel e2 _ _=>simp [D.bF] at h'
  | fdT e2 _ _=>simp [D.bF] at h'
  | exc _ _ _=>simp [D.bF] at h'
  | ins _ _ _=>simp [D.bF] at h'
  | dK e2 _ _ _=>rw [e1] at e2;cases e2
  | dT e2 _ _ _=>rw [e1] at e2;cases e2
 | 0,_,.tup ds,_,h,_,_,_=>by simp [D.bF] at h
 | 0,_,.lst ds,_,h,_,_,_=>by simp [D.bF] at h
 | n,_,.dct _,_,h,_,_,_=>by cases n <;> simp [D.bF] at h
 | n,_,.scr _,_,h,_,_,_=>by cases n <;> simp [D.bF] at h
 | n,_,.fdc _,_,h,_,_,_=>by cases n <;> simp [D.bF] at h
 | n,_,.exc _ _,_,h,_,_,_=>by cases n <;> simp [D.bF] at h
 | n,_,.ins _ _,_,h,_,_,_=>by cases n <;> simp [D.bF] at h
 | n,_,.cel _ _,_,h,_,_,_=>by cases n <;> simp [D.bF] at h
theorem aW.inj {P P':Addr->Prop} {H:Hp}:∀(n:Nat) {v:List V} {d e:List D},D.fQ n d=true->D.fQ n e=true->aW P H v d->aW P' H v e->d=e
 | _,_,_,_,_,_,.nil,.nil=>rfl
 | n,_,_,_,h,h',.cons r t,.cons r' t'=>by
  rw [D.fQ,Bool.and_eq_true] at h h';rw [Rep.inj n h.1 h'.1 r r',aW.inj n h.2 h'.2 t t']
end
theorem lY:∀(xs ys:List D),vC xs ys=((List.range (min xs.length ys.length)).all (fun j=>eqD (xs.getD j .non) (ys.getD j .non))&&xs.length==ys.length)
 | [],[]=>by simp [vC]
 | [],y::ys=>by simp [vC]
 | x::xs,[]=>by simp [vC]
 | x::xs,y::ys=>by
  have e:min (x::xs).length (y::ys).length=min xs.length ys.length+1:=by simp only [List.length_cons];lia
  rw [vC,lY xs ys,e,List.range_succ_eq_map,List.all_cons,List.all_map,Bool.and_assoc]
  congr 1
  simp [Function.comp_def]
theorem eE {n:Nat}:∀{ds:List D} {j:Nat},D.fQ n ds=true->j<ds.length->(ds.getD j .non).bF n=true
 | [],j,_,h=>by simp at h
 | d::ds,0,h,_=>by rw [D.fQ,Bool.and_eq_true] at h;exact h.1
 | d::ds,j+1,h,hj=>by
  rw [D.fQ,Bool.and_eq_true] at h;simpa using eE (ds:=ds) (j:=j) h.2 (by simpa using hj)
theorem aW.getD {P:Addr->Prop} {H:Hp} {vs:List V} {ds:List D} {j:Nat} (r:aW P H vs ds) (hj:j<ds.length):∃v,vs[j]?=some v/\Rep P H v (ds.getD j .non):=by
 obtain ⟨v,h1,h2⟩:=r.get (i:=j) (d:=ds.getD j .non) (by simp [hj]);exact ⟨v,h1,h2⟩
section
variable {X:Cx} {pins:List (Addr×Obj)} {σ:St} {H:Hp} {s:Shared}
theorem wY (I:Inv X pins σ H s):∀(n:Nat) (A:Around) {x y:V} {a b:D} {u v:Value},A.units+n<cLine->a.bF n=true->b.bF n=true->Rep All H x a->Rep All H y b->RelV x u->RelV y v->
  RcAt A s u v (eqD a b)/\RcNeAt A s u v (!eqD a b)/\EqAt A s u v (eqD a b):=by
 intro n;induction n with
 | zero=>
  intro A x y a b u v hu ha hb rx ry ru rv;cases rx with
  | non=>
   cases ru;cases ry with
   | non=>cases rv;exact ⟨RcAt.none_none,RcNeAt.none_none,EqAt.same _⟩
   | bl _=>cases rv;exact ⟨RcAt.none_bool _,RcNeAt.none_bool _,EqAt.none_bool _⟩
   | int _=>obtain ⟨t,rfl⟩:=rv;exact ⟨RcAt.none_int _ _,RcNeAt.none_int _ _,EqAt.none_int _ _⟩
   | str _=>obtain ⟨t,rfl⟩:=rv;exact ⟨RcAt.none_str _ _,RcNeAt.none_str _ _,EqAt.none_str _ _⟩
   | _=>simp [D.bF] at hb
  | bl _=>
   cases ru;cases ry with
   | non=>cases rv;exact ⟨RcAt.bool_none _,RcNeAt.bool_none _,EqAt.bool_none _⟩
   | bl _=>cases rv;exact ⟨RcAt.bool_bool _ _,RcNeAt.bool_bool _ _,EqAt.bool_bool _ _⟩
   | int _=>obtain ⟨t,rfl⟩:=rv;exact ⟨RcAt.bool_int _ _ _,RcNeAt.bool_int _ _ _,EqAt.bool_int _ _ _⟩
   | str _=>obtain ⟨t,rfl⟩:=rv;exact ⟨RcAt.bool_str _ _ _,RcNeAt.bool_str _ _ _,EqAt.bool_str _ _ _⟩
   | _=>simp [D.bF] at hb
  | int _=>
   obtain ⟨t,rfl⟩:=ru;cases ry with
   | non=>cases rv;exact ⟨RcAt.int_none _ _,RcNeAt.int_none _ _,EqAt.int_none _ _⟩
   | bl _=>cases rv;exact ⟨RcAt.int_bool _ _ _,RcNeAt.int_bool _ _ _,EqAt.int_bool _ _ _⟩
   | int _=>obtain ⟨t',rfl⟩:=rv;exact ⟨RcAt.int_int _ _ _ _,RcNeAt.int_int _ _ _ _,EqAt.int_int _ _ _ _⟩
   | str _=>obtain ⟨t',rfl⟩:=rv;exact ⟨RcAt.int_str _ _ _ _,RcNeAt.int_str _ _ _ _,EqAt.int_str _ _ _ _⟩
   | _=>simp [D.bF] at hb
  | str _=>
   obtain ⟨t,rfl⟩:=ru;cases ry with
   | non=>cases rv;exact ⟨RcAt.str_none _ _,RcNeAt.str_none _ _,EqAt.str_none _ _⟩
   | bl _=>cases rv;exact ⟨RcAt.str_bool _ _ _,RcNeAt.str_bool _ _ _,EqAt.str_bool _ _ _⟩
   | int _=>obtain ⟨t',rfl⟩:=rv;exact ⟨RcAt.str_int _ _ _ _,RcNeAt.str_int _ _ _ _,EqAt.str_int _ _ _ _⟩
   | str _=>obtain ⟨t',rfl⟩:=rv;exact ⟨RcAt.str_str _ _ _ _,RcNeAt.str_str _ _ _ _,EqAt.str_str _ _ _ _⟩
   | _=>simp [D.bF] at hb
  | _=>simp [D.bF] at ha
 | succ n ih=>
  intro A x y a b u v hu ha hb rx ry ru rv;have hu0:A.units<cLine:=by lia
  have hu1:A.in1.units+n<cLine:=by show A.units+1+n<cLine;lia
  cases a with
  | uD=>exact absurd rx Rep.uD
  | dct _=>simp [D.bF] at ha
  | scr _=>simp [D.bF] at ha
  | fdc _=>simp [D.bF] at ha
  | exc _ _=>simp [D.bF] at ha
  | ins _ _=>simp [D.bF] at ha
  | cel _ _=>simp [D.bF] at ha
  | non=>
   cases rx;cases ru;cases b with
   | uD=>exact absurd ry Rep.uD
   | dct _=>simp [D.bF] at hb
   | scr _=>simp [D.bF] at hb
   | fdc _=>simp [D.bF] at hb
   | exc _ _=>simp [D.bF] at hb
   | ins _ _=>simp [D.bF] at hb
   | cel _ _=>simp [D.bF] at hb
   | non=>cases ry;cases rv;exact ⟨RcAt.none_none,RcNeAt.none_none,EqAt.same _⟩
   | bl _=>cases ry;cases rv;exact ⟨RcAt.none_bool _,RcNeAt.none_bool _,EqAt.none_bool _⟩
   | int _=>cases ry;obtain ⟨t2,rfl⟩:=rv;exact ⟨RcAt.none_int _ _,RcNeAt.none_int _ _,EqAt.none_int _ _⟩
   | str _=>cases ry;obtain ⟨t2,rfl⟩:=rv;exact ⟨RcAt.none_str _ _,RcNeAt.none_str _ _,EqAt.none_str _ _⟩
   | tup es=>
    obtain ⟨q,ys,rfl,e2,r2⟩:=ry.dC;cases rv;obtain ⟨its2,vr2,h2⟩:=fY I e2;exact ⟨RcAt.none_tuple h2 hu0,RcNeAt.none_tuple h2 hu0,EqAt.none_tuple h2 hu0⟩
   | lst es=>
    obtain ⟨q,ys,rfl,e2,r2⟩:=ry.eZ (K:=X.K);cases rv;obtain ⟨its2,vr2,h2⟩:=j5 I e2;exact ⟨RcAt.none_list h2 hu0,RcNeAt.none_list h2 hu0,EqAt.none_list h2 hu0⟩
  | bl _=>
   cases rx;cases ru;cases b with
   | uD=>exact absurd ry Rep.uD
   | dct _=>simp [D.bF] at hb
   | scr _=>simp [D.bF] at hb
   | fdc _=>simp [D.bF] at hb
   | exc _ _=>simp [D.bF] at hb
   | ins _ _=>simp [D.bF] at hb
   | cel _ _=>simp [D.bF] at hb
   | non=>cases ry;cases rv;exact ⟨RcAt.bool_none _,RcNeAt.bool_none _,EqAt.bool_none _⟩
   | bl _=>cases ry;cases rv;exact ⟨RcAt.bool_bool _ _,RcNeAt.bool_bool _ _,EqAt.bool_bool _ _⟩
   | int _=>cases ry;obtain ⟨t2,rfl⟩:=rv;exact ⟨RcAt.bool_int _ _ _,RcNeAt.bool_int _ _ _,EqAt.bool_int _ _ _⟩
   | str _=>cases ry;obtain ⟨t2,rfl⟩:=rv;exact ⟨RcAt.bool_str _ _ _,RcNeAt.bool_str _ _ _,EqAt.bool_str _ _ _⟩
   | tup es=>
    obtain ⟨q,ys,rfl,e2,r2⟩:=ry.dC;cases rv;obtain ⟨its2,vr2,h2⟩:=fY I e2;exact ⟨RcAt.bool_tuple _ h2 hu0,RcNeAt.bool_tuple _ h2 hu0,EqAt.bool_tuple _ h2 hu0⟩
   | lst es=>
    obtain ⟨q,ys,rfl,e2,r2⟩:=ry.eZ (K:=X.K);cases rv;obtain ⟨its2,vr2,h2⟩:=j5 I e2;exact ⟨RcAt.bool_list _ h2 hu0,RcNeAt.bool_list _ h2 hu0,EqAt.bool_list _ h2 hu0⟩
  | int _=>
   cases rx;obtain ⟨t1,rfl⟩:=ru;cases b with
   | uD=>exact absurd ry Rep.uD
   | dct _=>simp [D.bF] at hb
   | scr _=>simp [D.bF] at hb
   | fdc _=>simp [D.bF] at hb
   | exc _ _=>simp [D.bF] at hb
   | ins _ _=>simp [D.bF] at hb
   | cel _ _=>simp [D.bF] at hb
   | non=>cases ry;cases rv;exact ⟨RcAt.int_none _ _,RcNeAt.int_none _ _,EqAt.int_none _ _⟩
   | bl _=>cases ry;cases rv;exact ⟨RcAt.int_bool _ _ _,RcNeAt.int_bool _ _ _,EqAt.int_bool _ _ _⟩
   | int _=>cases ry;obtain ⟨t2,rfl⟩:=rv;exact ⟨RcAt.int_int _ _ _ _,RcNeAt.int_int _ _ _ _,EqAt.int_int _ _ _ _⟩
   | str _=>cases ry;obtain ⟨t2,rfl⟩:=rv;exact ⟨RcAt.int_str _ _ _ _,RcNeAt.int_str _ _ _ _,EqAt.int_str _ _ _ _⟩
   | tup es=>
    obtain ⟨q,ys,rfl,e2,r2⟩:=ry.dC;cases rv;obtain ⟨its2,vr2,h2⟩:=fY I e2;exact ⟨RcAt.int_tuple _ _ h2 hu0,RcNeAt.int_tuple _ _ h2 hu0,EqAt.int_tuple _ _ h2 hu0⟩
   | lst es=>
    obtain ⟨q,ys,rfl,e2,r2⟩:=ry.eZ (K:=X.K);cases rv;obtain ⟨its2,vr2,h2⟩:=j5 I e2;exact ⟨RcAt.int_list _ _ h2 hu0,RcNeAt.int_list _ _ h2 hu0,EqAt.int_list _ _ h2 hu0⟩
  | str _=>
   cases rx;obtain ⟨t1,rfl⟩:=ru;cases b with
   | uD=>exact absurd ry Rep.uD
   | dct _=>simp [D.bF] at hb
   | scr _=>simp [D.bF] at hb
   | fdc _=>simp [D.bF] at hb
   | exc _ _=>simp [D.bF] at hb
   | ins _ _=>simp [D.bF] at hb
   | cel _ _=>simp [D.bF] at hb
   | non=>cases ry;cases rv;exact ⟨RcAt.str_none _ _,RcNeAt.str_none _ _,EqAt.str_none _ _⟩
   | bl _=>cases ry;cases rv;exact ⟨RcAt.str_bool _ _ _,RcNeAt.str_bool _ _ _,EqAt.str_bool _ _ _⟩
   | int _=>cases ry;obtain ⟨t2,rfl⟩:=rv;exact ⟨RcAt.str_int _ _ _ _,RcNeAt.str_int _ _ _ _,EqAt.str_int _ _ _ _⟩
   | str _=>cases ry;obtain ⟨t2,rfl⟩:=rv;exact ⟨RcAt.str_str _ _ _ _,RcNeAt.str_str _ _ _ _,EqAt.str_str _ _ _ _⟩
   | tup es=>
    obtain ⟨q,ys,rfl,e2,r2⟩:=ry.dC;cases rv;obtain ⟨its2,vr2,h2⟩:=fY I e2;exact ⟨RcAt.str_tuple _ _ h2 hu0,RcNeAt.str_tuple _ _ h2 hu0,EqAt.str_tuple _ _ h2 hu0⟩
   | lst es=>
    obtain ⟨q,ys,rfl,e2,r2⟩:=ry.eZ (K:=X.K);cases rv;obtain ⟨its2,vr2,h2⟩:=j5 I e2;exact ⟨RcAt.str_list _ _ h2 hu0,RcNeAt.str_list _ _ h2 hu0,EqAt.str_list _ _ h2 hu0⟩
  | tup ds=>
   obtain ⟨p,xs,rfl,e1,r1⟩:=rx.dC;cases ru;obtain ⟨its1,vr1,h1⟩:=fY I e1;rw [D.bF] at ha;cases b with
   | uD=>exact absurd ry Rep.uD
   | dct _=>simp [D.bF] at hb
   | scr _=>simp [D.bF] at hb
   | fdc _=>simp [D.bF] at hb
   | exc _ _=>simp [D.bF] at hb
   | ins _ _=>simp [D.bF] at hb
   | cel _ _=>simp [D.bF] at hb
   | non=>cases ry;cases rv;exact ⟨RcAt.tuple_none h1 hu0,RcNeAt.tuple_none h1 hu0,EqAt.tuple_none h1 hu0⟩
   | bl _=>cases ry;cases rv;exact ⟨RcAt.tuple_bool _ h1 hu0,RcNeAt.tuple_bool _ h1 hu0,EqAt.tuple_bool _ h1 hu0⟩
   | int _=>cases ry;obtain ⟨t2,rfl⟩:=rv;exact ⟨RcAt.tuple_int _ _ h1 hu0,RcNeAt.tuple_int _ _ h1 hu0,EqAt.tuple_int _ _ h1 hu0⟩
   | str _=>cases ry;obtain ⟨t2,rfl⟩:=rv;exact ⟨RcAt.tuple_str _ _ h1 hu0,RcNeAt.tuple_str _ _ h1 hu0,EqAt.tuple_str _ _ h1 hu0⟩
   | tup es=>
    obtain ⟨q,ys,rfl,e2,r2⟩:=ry.dC;cases rv;obtain ⟨its2,vr2,h2⟩:=fY I e2;rw [D.bF] at hb;have z1:its1.toArray.size=ds.length:=by rw [List.size_toArray,<-vr1.length,r1.length]
    have z2:its2.toArray.size=es.length:=by rw [List.size_toArray,<-vr2.length,r2.length]
    have he:∀j (g1:j<its1.toArray.size) (g2:j<its2.toArray.size),EqAt A.in1 s its1.toArray[j] its2.toArray[j] (eqD (ds.getD j .non) (es.getD j .non)):=fun j g1 g2=>by
     obtain ⟨v1,w1,rr1⟩:=r1.getD (j:=j) (by lia);obtain ⟨v2,w2,rr2⟩:=r2.getD (j:=j) (by lia);obtain ⟨u1,k1,l1⟩:=vr1.get w1;obtain ⟨u2,k2,l2⟩:=vr2.get w2;have m1:its1.toArray[j]=u1:=by
      rw [List.getElem?_eq_getElem (by simpa using g1)] at k1;simpa using Option.some.inj k1
     have m2:its2.toArray[j]=u2:=by
      rw [List.getElem?_eq_getElem (by simpa using g2)] at k2;simpa using Option.some.inj k2
     rw [m1,m2];exact (ih A.in1 hu1 (eE ha (by lia)) (eE hb (by lia)) rr1 rr2 l1 l2).2.2
    have ee:eqD (.tup ds) (.tup es)=((List.range (min its1.toArray.size its2.toArray.size)).all (fun j=>eqD (ds.getD j .non) (es.getD j .non))&&its1.toArray.size==its2.toArray.size):=by
     rw [eqD,lY,z1,z2]
    have r0:=RcAt.tuples h1 h2 hu0 he;have r0':=RcNeAt.tuples h1 h2 hu0 he;rw [<-ee] at r0 r0';refine ⟨r0,r0',?_⟩;by_cases hpq:p=q
    ·subst hpq;have hab:(D.tup ds)=(.tup es):=Rep.inj (n+1) (by rw [D.bF];exact ha) (by rw [D.bF];exact hb) rx ry;rw [<-hab,qL (n+1) _ (by rw [D.bF];exact ha)];exact EqAt.same _
    ·exact EqAt.of_refs hpq r0
   | lst es=>
    obtain ⟨q,ys,rfl,e2,r2⟩:=ry.eZ (K:=X.K);cases rv;obtain ⟨its2,vr2,h2⟩:=j5 I e2;exact ⟨RcAt.tuple_list h1 h2 hu0,RcNeAt.tuple_list h1 h2 hu0,EqAt.tuple_list h1 h2 hu0⟩
  | lst ds=>
   obtain ⟨p,xs,rfl,e1,r1⟩:=rx.eZ (K:=X.K);cases ru;obtain ⟨its1,vr1,h1⟩:=j5 I e1;rw [D.bF] at ha;cases b with
   | uD=>exact absurd ry Rep.uD
   | dct _=>simp [D.bF] at hb
   | scr _=>simp [D.bF] at hb
   | fdc _=>simp [D.bF] at hb
   | exc _ _=>simp [D.bF] at hb
   | ins _ _=>simp [D.bF] at hb
   | cel _ _=>simp [D.bF] at hb
   | non=>cases ry;cases rv;exact ⟨RcAt.list_none h1 hu0,RcNeAt.list_none h1 hu0,EqAt.list_none h1 hu0⟩
   | bl _=>cases ry;cases rv;exact ⟨RcAt.list_bool _ h1 hu0,RcNeAt.list_bool _ h1 hu0,EqAt.list_bool _ h1 hu0⟩
   | int _=>cases ry;obtain ⟨t2,rfl⟩:=rv;exact ⟨RcAt.list_int _ _ h1 hu0,RcNeAt.list_int _ _ h1 hu0,EqAt.list_int _ _ h1 hu0⟩
   | str _=>cases ry;obtain ⟨t2,rfl⟩:=rv;exact ⟨RcAt.list_str _ _ h1 hu0,RcNeAt.list_str _ _ h1 hu0,EqAt.list_str _ _ h1 hu0⟩
   | tup es=>
    obtain ⟨q,ys,rfl,e2,r2⟩:=ry.dC;cases rv;obtain ⟨its2,vr2,h2⟩:=fY I e2;exact ⟨RcAt.list_tuple h1 h2 hu0,RcNeAt.list_tuple h1 h2 hu0,EqAt.list_tuple h1 h2 hu0⟩
   | lst es=>
    obtain ⟨q,ys,rfl,e2,r2⟩:=ry.eZ (K:=X.K);cases rv;obtain ⟨its2,vr2,h2⟩:=j5 I e2;rw [D.bF] at hb;have z1:its1.toArray.size=ds.length:=by rw [List.size_toArray,<-vr1.length,r1.length]
    have z2:its2.toArray.size=es.length:=by rw [List.size_toArray,<-vr2.length,r2.length]
    have he:∀j (g1:j<its1.toArray.size) (g2:j<its2.toArray.size),EqAt A.in1 s its1.toArray[j] its2.toArray[j] (eqD (ds.getD j .non) (es.getD j .non)):=fun j g1 g2=>by
     obtain ⟨v1,w1,rr1⟩:=r1.getD (j:=j) (by lia);obtain ⟨v2,w2,rr2⟩:=r2.getD (j:=j) (by lia);obtain ⟨u1,k1,l1⟩:=vr1.get w1;obtain ⟨u2,k2,l2⟩:=vr2.get w2;have m1:its1.toArray[j]=u1:=by
      rw [List.getElem?_eq_getElem (by simpa using g1)] at k1;simpa using Option.some.inj k1
     have m2:its2.toArray[j]=u2:=by
      rw [List.getElem?_eq_getElem (by simpa using g2)] at k2;simpa using Option.some.inj k2
     rw [m1,m2];exact (ih A.in1 hu1 (eE ha (by lia)) (eE hb (by lia)) rr1 rr2 l1 l2).2.2
    have r00:RcAt A s (.ref p) (.ref q) (eqD (.lst ds) (.lst es))/\RcNeAt A s (.ref p) (.ref q) (!eqD (.lst ds) (.lst es)):=by
     rw [eqD,lY];by_cases hz:ds.length=es.length
     ·have r0:=RcAt.lists h1 h2 (by lia) hu0 he;have r0':=RcNeAt.lists h1 h2 (by lia) hu0 he;rw [z1] at r0 r0';rw [show min ds.length es.length=ds.length by lia,show (ds.length==es.length)=true by simpa using hz,Bool.and_true];exact ⟨r0,r0'⟩
     ·have hz':(its1.toArray.size != its2.toArray.size)=true:=by rw [z1,z2];simpa using hz
      rw [show (ds.length==es.length)=false by simpa using hz,Bool.and_false];exact ⟨RcAt.lists_lengths h1 h2 hz' hu0,RcNeAt.lists_lengths h1 h2 hz' hu0⟩
    obtain ⟨r0,r0'⟩:=r00;refine ⟨r0,r0',?_⟩;by_cases hpq:p=q
    ·subst hpq;have hab:(D.lst ds)=(.lst es):=Rep.inj (n+1) (by rw [D.bF];exact ha) (by rw [D.bF];exact hb) rx ry;rw [<-hab,qL (n+1) _ (by rw [D.bF];exact ha)];exact EqAt.same _
    ·exact EqAt.of_refs hpq r0
end
end Mi
end
section
namespace Mi
open PySem L2 PySem.SeqAt
open PySem.AutoSeq1 (wpAny_loadPart')
open PySem.MeetsSeq PySem.MeetsSeq2 PySem.MeetsSeq3
variable [KFrag]
noncomputable def nT.op:nT->CmpOp
 | .lt=>.Lt|.le=>.LtE|.gt=>.Gt|.ge=>.GtE
noncomputable def wZ (op:CmpOp) (A:Around) (s:Shared) (u v:Value) (b:Bool):Prop:=
 ∀(prog:Program) (w:World) (E:Value->Shared->Prop) (Q:Value->Shared->Prop),Q (.bool b) s->wpAny (model prog w) A (richCompare op u v) Q E s
noncomputable def C2 (o:nT) (A:Around) (s:Shared) (vs ws:List Value) (xs ys:List D):Prop:=
 vs.length=xs.length/\ws.length=ys.length/\∀(j:Nat) (v w:Value) (x y:D),vs[j]?=some v->ws[j]?=some w->xs[j]?=some x->ys[j]?=some y->
  EqAt A s v w (eqD x y)/\(eqD x y=false->∀k,uO o x y=some k->wZ o.op A s v w k)
theorem C2.tail {o:nT} {A:Around} {s:Shared} {v w:Value} {vs ws:List Value} {x y:D} {xs ys:List D} (h:C2 o A s (v::vs) (w::ws) (x::xs) (y::ys)):C2 o A s vs ws xs ys:=
 ⟨by simpa using h.1,by simpa using h.2.1,fun j a b c d e1 e2 e3 e4=>h.2.2 (j+1) a b c d (by simpa using e1) (by simpa using e2) (by simpa using e3) (by simpa using e4)⟩
theorem zW (l b:Addr) (items items2:Array Value) (n n2:Nat) (dd dd2:Option Addr) (sl sl2:Array (Option Value)) (xs ys:List D) (res:Bool) (hr:d8 .lt xs ys=some res) :
  Meets (Builtin.«tuple.__lt__» ⟨[.ref l,.ref b],[]⟩)
   (fun A R s=>s.heap.get? l=some {cls:=.type "tuple",dict:=dd,data:=.seq items n,slots:=sl}/\s.heap.get? b=some {cls:=.type "tuple",dict:=dd2,data:=.seq items2 n2,slots:=sl2}/\
    C2 .lt A.in1 s items.toList items2.toList xs ys/\R (.ok (.ret (.bool res))) s):=
 .of_wp fun prog w A R s h=>by
  obtain ⟨hp,g,d,tk,os⟩:=s;obtain ⟨hl,hb,hC,h⟩:=h;have f2:=AutoSeq1.sub_tuple_tuple;have z1:items.size=xs.length:=by rw [<-hC.1];simp
  have z2:items2.size=ys.length:=by rw [<-hC.2.1];simp
  wp_walk using wpAny_loadPart' hl,wpAny_loadPart' hb,wpAny_forIn_list _ (fun rest b s'=>b.1=none/\s'=⟨hp,g,d,tk,os⟩/\∃(vs ws:List Value) (xs' ys':List D),rest=vs.zip ws/\
   C2 .lt A.in1 ⟨hp,g,d,tk,os⟩ vs ws xs' ys'/\xs'.length+items2.size=ys'.length+items.size/\d8 .lt xs' ys'=some res) _
  case turn=>
   rintro ⟨y,x⟩ rest b s' ⟨hb',rfl,vs,ws,xs',ys',hz,hC',hlen,hR⟩;cases vs with
   | nil=>rw [List.zip_nil_left] at hz;cases hz
   | cons v vs=>
    cases ws with
    | nil=>rw [List.zip_nil_right] at hz;cases hz
    | cons w' ws=>
     rw [List.zip_cons_cons] at hz;injection hz with hyx hrest
     injection hyx with hy hx
     subst hy hx;cases xs' with
     | nil=>exact absurd hC'.1 (by simp)
     | cons x0 xs'=>
      cases ys' with
      | nil=>exact absurd hC'.2.1 (by simp)
      | cons y0 ys'=>
       rw [d8] at hR;simp only [List.length_cons] at hlen;obtain ⟨he,hlt⟩:=hC'.2.2 0 _ _ _ _ rfl rfl rfl rfl;refine wpAny_bind (he prog w _ _ ?_);cases e:eqD x0 y0 with
       | true=>
        rw [e] at hR;simp only [if_true] at hR
        wp_walk
        exact ⟨rfl,rfl,_,_,_,_,hrest,hC'.tail,by lia,hR⟩
       | false=>
        rw [e] at hR;simp only [Bool.false_eq_true,if_false] at hR;have hri:∀(E:Value->Shared->Prop) (Q:Value->Shared->Prop),Q (.bool res) ⟨hp,g,d,tk,os⟩->wpAny (model prog w) A.in1 (richCompare .Lt _ _) Q E ⟨hp,g,d,tk,os⟩:=fun E Q q=>hlt e res hR prog w E Q q
        wp_walk using hri
        exact ⟨_,rfl,by simpa using h⟩
  case fin=>
   rintro ⟨b1,b2⟩ s' ⟨hb',rfl,vs,ws,xs',ys',hz,hC',hlen,hR⟩;simp only at hb';subst hb';have hv:res=decide (items.size<items2.size):=by
    cases xs' with
    | nil=>
     rw [d8] at hR;have:=Option.some.inj hR;rw [<-this];simp only [List.length_nil] at hlen;simp only [nT.nat]
     congr 1
     simp only [eq_iff_iff];lia
    | cons x0 xs'=>
     cases ys' with
     | nil=>
      rw [d8] at hR;have:=Option.some.inj hR;rw [<-this];simp only [List.length_nil,List.length_cons] at hlen;simp only [nT.nat,List.length_cons]
      congr 1
      simp only [eq_iff_iff];lia
     | cons y0 ys'=>
      exfalso;cases vs with
      | nil=>exact absurd hC'.1 (by simp)
      | cons v vs=>
       cases ws with
       | nil=>exact absurd hC'.2.1 (by simp)
       | cons w' ws=>rw [List.zip_cons_cons] at hz;cases hz
   rw [hv] at h
   wp_walk
   exact ⟨_,rfl,by simpa [Builtin.Tuple.tupleCompareSizes] using h⟩
  case h=>
   exact ⟨rfl,rfl,items.toList,items2.toList,xs,ys,rfl,hC,by lia,hr⟩
theorem wZ.aAi {A:Around} {s:Shared} {l b:Addr} {items items2:Array Value} {xs ys:List D} {res:Bool} (hl:s.heap.IsTuple l items) (hb:s.heap.IsTuple b items2) (hC:C2 .lt A.in1 s items.toList items2.toList xs ys) (hr:d8 .lt xs ys=some res) (hu:A.units<cLine) :
  wZ .Lt A s (.ref l) (.ref b) res:=fun prog w E Q h=>by
 obtain ⟨⟨cls,dd,data,sl⟩,ho,hc,n,hd⟩:=id hl;obtain ⟨⟨cls2,dd2,data2,sl2⟩,ho2,hc2,n2,hd2⟩:=id hb;simp only at hc hd hc2 hd2;subst hc hd hc2 hd2;exact richCompare_meets_room (op:=.Lt) ⟨_,ho,rfl⟩ ⟨_,ho2,rfl⟩ PySem.F.slot_tuple_lt PySem.F.entry_tuple_lt (PySem.F.args_tuple_lt_2 _ _) (zW l b items items2 n n2 dd dd2 sl sl2 xs ys res hr)
  ⟨ho,ho2,hC,show Value.bool res≠Value.notImplemented/\Q (.bool res) s from ⟨(fun x=>nomatch x),h⟩⟩ hu
theorem zX (l b:Addr) (items items2:Array Value) (n n2:Nat) (dd dd2:Option Addr) (sl sl2:Array (Option Value)) (xs ys:List D) (res:Bool) (hr:d8 .le xs ys=some res) :
  Meets (Builtin.«tuple.__le__» ⟨[.ref l,.ref b],[]⟩)
   (fun A R s=>s.heap.get? l=some {cls:=.type "tuple",dict:=dd,data:=.seq items n,slots:=sl}/\s.heap.get? b=some {cls:=.type "tuple",dict:=dd2,data:=.seq items2 n2,slots:=sl2}/\
    C2 .le A.in1 s items.toList items2.toList xs ys/\R (.ok (.ret (.bool res))) s):=
 .of_wp fun prog w A R s h=>by
  obtain ⟨hp,g,d,tk,os⟩:=s;obtain ⟨hl,hb,hC,h⟩:=h;have f2:=AutoSeq1.sub_tuple_tuple;have z1:items.size=xs.length:=by rw [<-hC.1];simp
  have z2:items2.size=ys.length:=by rw [<-hC.2.1];simp
  wp_walk using wpAny_loadPart' hl,wpAny_loadPart' hb,wpAny_forIn_list _ (fun rest b s'=>b.1=none/\s'=⟨hp,g,d,tk,os⟩/\∃(vs ws:List Value) (xs' ys':List D),rest=vs.zip ws/\
   C2 .le A.in1 ⟨hp,g,d,tk,os⟩ vs ws xs' ys'/\xs'.length+items2.size=ys'.length+items.size/\d8 .le xs' ys'=some res) _
  case turn=>
   rintro ⟨y,x⟩ rest b s' ⟨hb',rfl,vs,ws,xs',ys',hz,hC',hlen,hR⟩;cases vs with
   | nil=>rw [List.zip_nil_left] at hz;cases hz
   | cons v vs=>
    cases ws with
    | nil=>rw [List.zip_nil_right] at hz;cases hz
    | cons w' ws=>
     rw [List.zip_cons_cons] at hz;injection hz with hyx hrest
     injection hyx with hy hx
     subst hy hx;cases xs' with
     | nil=>exact absurd hC'.1 (by simp)
     | cons x0 xs'=>
      cases ys' with
      | nil=>exact absurd hC'.2.1 (by simp)
      | cons y0 ys'=>
       rw [d8] at hR;simp only [List.length_cons] at hlen;obtain ⟨he,hlt⟩:=hC'.2.2 0 _ _ _ _ rfl rfl rfl rfl;refine wpAny_bind (he prog w _ _ ?_);cases e:eqD x0 y0 with
       | true=>
        rw [e] at hR;simp only [if_true] at hR
        wp_walk
        exact ⟨rfl,rfl,_,_,_,_,hrest,hC'.tail,by lia,hR⟩
       | false=>
        rw [e] at hR;simp only [Bool.false_eq_true,if_false] at hR;have hri:∀(E:Value->Shared->Prop) (Q:Value->Shared->Prop),Q (.bool res) ⟨hp,g,d,tk,os⟩->wpAny (model prog w) A.in1 (richCompare .LtE _ _) Q E ⟨hp,g,d,tk,os⟩:=fun E Q q=>hlt e res hR prog w E Q q
        wp_walk using hri
        exact ⟨_,rfl,by simpa using h⟩
  case fin=>
   rintro ⟨b1,b2⟩ s' ⟨hb',rfl,vs,ws,xs',ys',hz,hC',hlen,hR⟩;simp only at hb';subst hb';have hv:res=decide (items.size<=items2.size):=by
    cases xs' with
    | nil=>
     rw [d8] at hR;have:=Option.some.inj hR;rw [<-this];simp only [List.length_nil] at hlen;simp only [nT.nat]
     congr 1
     simp only [eq_iff_iff];lia
    | cons x0 xs'=>
     cases ys' with
     | nil=>
      rw [d8] at hR;have:=Option.some.inj hR;rw [<-this];simp only [List.length_nil,List.length_cons] at hlen;simp only [nT.nat,List.length_cons]
      congr 1
      simp only [eq_iff_iff];lia
     | cons y0 ys'=>
      exfalso;cases vs with
      | nil=>exact absurd hC'.1 (by simp)
      | cons v vs=>
       cases ws with
       | nil=>exact absurd hC'.2.1 (by simp)
       | cons w' ws=>rw [List.zip_cons_cons] at hz;cases hz
   rw [hv] at h
   wp_walk
   exact ⟨_,rfl,by simpa [Builtin.Tuple.tupleCompareSizes] using h⟩
  case h=>
   exact ⟨rfl,rfl,items.toList,items2.toList,xs,ys,rfl,hC,by lia,hr⟩
theorem wZ.aAj {A:Around} {s:Shared} {l b:Addr} {items items2:Array Value} {xs ys:List D} {res:Bool} (hl:s.heap.IsTuple l items) (hb:s.heap.IsTuple b items2) (hC:C2 .le A.in1 s items.toList items2.toList xs ys) (hr:d8 .le xs ys=some res) (hu:A.units<cLine) :
  wZ .LtE A s (.ref l) (.ref b) res:=fun prog w E Q h=>by
 obtain ⟨⟨cls,dd,data,sl⟩,ho,hc,n,hd⟩:=id hl;obtain ⟨⟨cls2,dd2,data2,sl2⟩,ho2,hc2,n2,hd2⟩:=id hb;simp only at hc hd hc2 hd2;subst hc hd hc2 hd2;exact richCompare_meets_room (op:=.LtE) ⟨_,ho,rfl⟩ ⟨_,ho2,rfl⟩ PySem.F.slot_tuple_le PySem.F.entry_tuple_le (PySem.F.args_tuple_le_2 _ _) (zX l b items items2 n n2 dd dd2 sl sl2 xs ys res hr)
  ⟨ho,ho2,hC,show Value.bool res≠Value.notImplemented/\Q (.bool res) s from ⟨(fun x=>nomatch x),h⟩⟩ hu
theorem zY (l b:Addr) (items items2:Array Value) (n n2:Nat) (dd dd2:Option Addr) (sl sl2:Array (Option Value)) (xs ys:List D) (res:Bool) (hr:d8 .gt xs ys=some res) :
  Meets (Builtin.«tuple.__gt__» ⟨[.ref l,.ref b],[]⟩)
   (fun A R s=>s.heap.get? l=some {cls:=.type "tuple",dict:=dd,data:=.seq items n,slots:=sl}/\s.heap.get? b=some {cls:=.type "tuple",dict:=dd2,data:=.seq items2 n2,slots:=sl2}/\
    C2 .gt A.in1 s items.toList items2.toList xs ys/\R (.ok (.ret (.bool res))) s):=
 .of_wp fun prog w A R s h=>by
  obtain ⟨hp,g,d,tk,os⟩:=s;obtain ⟨hl,hb,hC,h⟩:=h;have f2:=AutoSeq1.sub_tuple_tuple;have z1:items.size=xs.length:=by rw [<-hC.1];simp
  have z2:items2.size=ys.length:=by rw [<-hC.2.1];simp
  wp_walk using wpAny_loadPart' hl,wpAny_loadPart' hb,wpAny_forIn_list _ (fun rest b s'=>b.1=none/\s'=⟨hp,g,d,tk,os⟩/\∃(vs ws:List Value) (xs' ys':List D),rest=vs.zip ws/\
   C2 .gt A.in1 ⟨hp,g,d,tk,os⟩ vs ws xs' ys'/\xs'.length+items2.size=ys'.length+items.size/\d8 .gt xs' ys'=some res) _
  case turn=>
   rintro ⟨y,x⟩ rest b s' ⟨hb',rfl,vs,ws,xs',ys',hz,hC',hlen,hR⟩;cases vs with
   | nil=>rw [List.zip_nil_left] at hz;cases hz
   | cons v vs=>
    cases ws with
    | nil=>rw [List.zip_nil_right] at hz;cases hz
    | cons w' ws=>
     rw [List.zip_cons_cons] at hz;injection hz with hyx hrest
     injection hyx with hy hx
     subst hy hx;cases xs' with
     | nil=>exact absurd hC'.1 (by simp)
     | cons x0 xs'=>
      cases ys' with
      | nil=>exact absurd hC'.2.1 (by simp)
      | cons y0 ys'=>
       rw [d8] at hR;simp only [List.length_cons] at hlen;obtain ⟨he,hlt⟩:=hC'.2.2 0 _ _ _ _ rfl rfl rfl rfl;refine wpAny_bind (he prog w _ _ ?_);cases e:eqD x0 y0 with
       | true=>
        rw [e] at hR;simp only [if_true] at hR
        wp_walk
        exact ⟨rfl,rfl,_,_,_,_,hrest,hC'.tail,by lia,hR⟩
       | false=>
        rw [e] at hR;simp only [Bool.false_eq_true,if_false] at hR;have hri:∀(E:Value->Shared->Prop) (Q:Value->Shared->Prop),Q (.bool res) ⟨hp,g,d,tk,os⟩->wpAny (model prog w) A.in1 (richCompare .Gt _ _) Q E ⟨hp,g,d,tk,os⟩:=fun E Q q=>hlt e res hR prog w E Q q
        wp_walk using hri
        exact ⟨_,rfl,by simpa using h⟩
  case fin=>
   rintro ⟨b1,b2⟩ s' ⟨hb',rfl,vs,ws,xs',ys',hz,hC',hlen,hR⟩;simp only at hb';subst hb';have hv:res=decide (items2.size<items.size):=by
    cases xs' with
    | nil=>
     rw [d8] at hR;have:=Option.some.inj hR;rw [<-this];simp only [List.length_nil] at hlen;simp only [nT.nat]
     congr 1
     simp only [eq_iff_iff];lia
    | cons x0 xs'=>
     cases ys' with
     | nil=>
      rw [d8] at hR;have:=Option.some.inj hR;rw [<-this];simp only [List.length_nil,List.length_cons] at hlen;simp only [nT.nat,List.length_cons]
      congr 1
      simp only [eq_iff_iff];lia
     | cons y0 ys'=>
      exfalso;cases vs with
      | nil=>exact absurd hC'.1 (by simp)
      | cons v vs=>
       cases ws with
       | nil=>exact absurd hC'.2.1 (by simp)
       | cons w' ws=>rw [List.zip_cons_cons] at hz;cases hz
   rw [hv] at h
   wp_walk
   exact ⟨_,rfl,by simpa [Builtin.Tuple.tupleCompareSizes] using h⟩
  case h=>
   exact ⟨rfl,rfl,items.toList,items2.toList,xs,ys,rfl,hC,by lia,hr⟩
theorem wZ.aAk {A:Around} {s:Shared} {l b:Addr} {items items2:Array Value} {xs ys:List D} {res:Bool} (hl:s.heap.IsTuple l items) (hb:s.heap.IsTuple b items2) (hC:C2 .gt A.in1 s items.toList items2.toList xs ys) (hr:d8 .gt xs ys=some res) (hu:A.units<cLine) :
  wZ .Gt A s (.ref l) (.ref b) res:=fun prog w E Q h=>by
 obtain ⟨⟨cls,dd,data,sl⟩,ho,hc,n,hd⟩:=id hl;obtain ⟨⟨cls2,dd2,data2,sl2⟩,ho2,hc2,n2,hd2⟩:=id hb;simp only at hc hd hc2 hd2;subst hc hd hc2 hd2;exact richCompare_meets_room (op:=.Gt) ⟨_,ho,rfl⟩ ⟨_,ho2,rfl⟩ PySem.F.slot_tuple_gt PySem.F.entry_tuple_gt (PySem.F.args_tuple_gt_2 _ _) (zY l b items items2 n n2 dd dd2 sl sl2 xs ys res hr)
  ⟨ho,ho2,hC,show Value.bool res≠Value.notImplemented/\Q (.bool res) s from ⟨(fun x=>nomatch x),h⟩⟩ hu
theorem zZ (l b:Addr) (items items2:Array Value) (n n2:Nat) (dd dd2:Option Addr) (sl sl2:Array (Option Value)) (xs ys:List D) (res:Bool) (hr:d8 .ge xs ys=some res) :
  Meets (Builtin.«tuple.__ge__» ⟨[.ref l,.ref b],[]⟩)
   (fun A R s=>s.heap.get? l=some {cls:=.type "tuple",dict:=dd,data:=.seq items n,slots:=sl}/\s.heap.get? b=some {cls:=.type "tuple",dict:=dd2,data:=.seq items2 n2,slots:=sl2}/\
    C2 .ge A.in1 s items.toList items2.toList xs ys/\R (.ok (.ret (.bool res))) s):=
 .of_wp fun prog w A R s h=>by
  obtain ⟨hp,g,d,tk,os⟩:=s;obtain ⟨hl,hb,hC,h⟩:=h;have f2:=AutoSeq1.sub_tuple_tuple;have z1:items.size=xs.length:=by rw [<-hC.1];simp
  have z2:items2.size=ys.length:=by rw [<-hC.2.1];simp
  wp_walk using wpAny_loadPart' hl,wpAny_loadPart' hb,wpAny_forIn_list _ (fun rest b s'=>b.1=none/\s'=⟨hp,g,d,tk,os⟩/\∃(vs ws:List Value) (xs' ys':List D),rest=vs.zip ws/\
   C2 .ge A.in1 ⟨hp,g,d,tk,os⟩ vs ws xs' ys'/\xs'.length+items2.size=ys'.length+items.size/\d8 .ge xs' ys'=some res) _
  case turn=>
   rintro ⟨y,x⟩ rest b s' ⟨hb',rfl,vs,ws,xs',ys',hz,hC',hlen,hR⟩;cases vs with
   | nil=>rw [List.zip_nil_left] at hz;cases hz
   | cons v vs=>
    cases ws with
    | nil=>rw [List.zip_nil_right] at hz;cases hz
    | cons w' ws=>
     rw [List.zip_cons_cons] at hz;injection hz with hyx hrest
     injection hyx with hy hx
     subst hy hx;cases xs' with
     | nil=>exact absurd hC'.1 (by simp)
     | cons x0 xs'=>
      cases ys' with
      | nil=>exact absurd hC'.2.1 (by simp)
      | cons y0 ys'=>
       rw [d8] at hR;simp only [List.length_cons] at hlen;obtain ⟨he,hlt⟩:=hC'.2.2 0 _ _ _ _ rfl rfl rfl rfl;refine wpAny_bind (he prog w _ _ ?_);cases e:eqD x0 y0 with
       | true=>
        rw [e] at hR;simp only [if_true] at hR
        wp_walk
        exact ⟨rfl,rfl,_,_,_,_,hrest,hC'.tail,by lia,hR⟩
       | false=>
        rw [e] at hR;simp only [Bool.false_eq_true,if_false] at hR;have hri:∀(E:Value->Shared->Prop) (Q:Value->Shared->Prop),Q (.bool res) ⟨hp,g,d,tk,os⟩->wpAny (model prog w) A.in1 (richCompare .GtE _ _) Q E ⟨hp,g,d,tk,os⟩:=fun E Q q=>hlt e res hR prog w E Q q
        wp_walk using hri
        exact ⟨_,rfl,by simpa using h⟩
  case fin=>
   rintro ⟨b1,b2⟩ s' ⟨hb',rfl,vs,ws,xs',ys',hz,hC',hlen,hR⟩;simp only at hb';subst hb';have hv:res=decide (items2.size<=items.size):=by
    cases xs' with
    | nil=>
     rw [d8] at hR;have:=Option.some.inj hR;rw [<-this];simp only [List.length_nil] at hlen;simp only [nT.nat]
     congr 1
     simp only [eq_iff_iff];lia
    | cons x0 xs'=>
     cases ys' with
     | nil=>
      rw [d8] at hR;have:=Option.some.inj hR;rw [<-this];simp only [List.length_nil,List.length_cons] at hlen;simp only [nT.nat,List.length_cons]
      congr 1
      simp only [eq_iff_iff];lia
     | cons y0 ys'=>
      exfalso;cases vs with
      | nil=>exact absurd hC'.1 (by simp)
      | cons v vs=>
       cases ws with
       | nil=>exact absurd hC'.2.1 (by simp)
       | cons w' ws=>rw [List.zip_cons_cons] at hz;cases hz
   rw [hv] at h
   wp_walk
   exact ⟨_,rfl,by simpa [Builtin.Tuple.tupleCompareSizes] using h⟩
  case h=>
   exact ⟨rfl,rfl,items.toList,items2.toList,xs,ys,rfl,hC,by lia,hr⟩
theorem wZ.aAl {A:Around} {s:Shared} {l b:Addr} {items items2:Array Value} {xs ys:List D} {res:Bool} (hl:s.heap.IsTuple l items) (hb:s.heap.IsTuple b items2) (hC:C2 .ge A.in1 s items.toList items2.toList xs ys) (hr:d8 .ge xs ys=some res) (hu:A.units<cLine) :
  wZ .GtE A s (.ref l) (.ref b) res:=fun prog w E Q h=>by
 obtain ⟨⟨cls,dd,data,sl⟩,ho,hc,n,hd⟩:=id hl;obtain ⟨⟨cls2,dd2,data2,sl2⟩,ho2,hc2,n2,hd2⟩:=id hb;simp only at hc hd hc2 hd2;subst hc hd hc2 hd2;exact richCompare_meets_room (op:=.GtE) ⟨_,ho,rfl⟩ ⟨_,ho2,rfl⟩ PySem.F.slot_tuple_ge PySem.F.entry_tuple_ge (PySem.F.args_tuple_ge_2 _ _) (zZ l b items items2 n n2 dd dd2 sl sl2 xs ys res hr)
  ⟨ho,ho2,hC,show Value.bool res≠Value.notImplemented/\Q (.bool res) s from ⟨(fun x=>nomatch x),h⟩⟩ hu
section
variable {X:Cx} {pins:List (Addr×Obj)} {σ:St} {H:Hp} {s:Shared}
theorem WP (I:Inv X pins σ H s) (o:nT):∀(n:Nat) (A:Around) {x y:V} {a b:D} {u v:Value} {k:Bool},A.units+n<cLine->a.bF n=true->b.bF n=true->Rep All H x a->Rep All H y b->RelV x u->RelV y v->
  uO o a b=some k->wZ o.op A s u v k:=by
 intro n;induction n with
 | zero=>
  intro A x y a b u v k hu ha hb rx ry ru rv hk;cases a with
  | int i=>
   cases b with
   | int j=>
    cases rx;cases ry;obtain ⟨t,rfl⟩:=ru;obtain ⟨t',rfl⟩:=rv;rw [uO] at hk;have:=Option.some.inj hk;subst this;cases o with
    | lt=>exact fun prog w E Q h=>(PyProof.Rows.lt_int h:wpAny (model prog w) A (compareOp .Lt (.int i t) (.int j t')) Q E s)
    | le=>exact fun prog w E Q h=>(PyProof.Rows.le_int h:wpAny (model prog w) A (compareOp .LtE (.int i t) (.int j t')) Q E s)
    | gt=>exact fun prog w E Q h=>(PyProof.Rows.gt_int h:wpAny (model prog w) A (compareOp .Gt (.int i t) (.int j t')) Q E s)
    | ge=>exact fun prog w E Q h=>(PyProof.Rows.ge_int h:wpAny (model prog w) A (compareOp .GtE (.int i t) (.int j t')) Q E s)
   | _=>simp [uO] at hk
  | str i=>
   cases b with
   | str j=>
    cases rx;cases ry;obtain ⟨t,rfl⟩:=ru;obtain ⟨t',rfl⟩:=rv;rw [uO] at hk;have:=Option.some.inj hk;subst this;cases o with
    | lt=>exact fun prog w E Q h=>(PyProof.Rows.lt_str h:wpAny (model prog w) A (compareOp .Lt (.str i t) (.str j t')) Q E s)
    | le=>exact fun prog w E Q h=>(PySem.P.le_str h:wpAny (model prog w) A (compareOp .LtE (.str i t) (.str j t')) Q E s)
    | gt=>exact fun prog w E Q h=>(PySem.P.gt_str h:wpAny (model prog w) A (compareOp .Gt (.str i t) (.str j t')) Q E s)
    | ge=>exact fun prog w E Q h=>(PySem.P.ge_str h:wpAny (model prog w) A (compareOp .GtE (.str i t) (.str j t')) Q E s)
   | _=>simp [uO] at hk
  | tup _=>simp [D.bF] at ha
  | _=>cases b <;> simp [uO] at hk
 | succ n ih=>
  intro A x y a b u v k hu ha hb rx ry ru rv hk;have hu0:A.units<cLine:=by lia
  have hu1:A.in1.units+n<cLine:=by show A.units+1+n<cLine;lia
  cases a with
  | int i=>
   cases b with
   | int j=>
    cases rx;cases ry;obtain ⟨t,rfl⟩:=ru;obtain ⟨t',rfl⟩:=rv;rw [uO] at hk;have:=Option.some.inj hk;subst this;cases o with
    | lt=>exact fun prog w E Q h=>(PyProof.Rows.lt_int h:wpAny (model prog w) A (compareOp .Lt (.int i t) (.int j t')) Q E s)
    | le=>exact fun prog w E Q h=>(PyProof.Rows.le_int h:wpAny (model prog w) A (compareOp .LtE (.int i t) (.int j t')) Q E s)
    | gt=>exact fun prog w E Q h=>(PyProof.Rows.gt_int h:wpAny (model prog w) A (compareOp .Gt (.int i t) (.int j t')) Q E s)
    | ge=>exact fun prog w E Q h=>(PyProof.Rows.ge_int h:wpAny (model prog w) A (compareOp .GtE (.int i t) (.int j t')) Q E s)
   | _=>simp [uO] at hk
  | str i=>
   cases b with
   | str j=>
    cases rx;cases ry;obtain ⟨t,rfl⟩:=ru;obtain ⟨t',rfl⟩:=rv;rw [uO] at hk;have:=Option.some.inj hk;subst this;cases o with
    | lt=>exact fun prog w E Q h=>(PyProof.Rows.lt_str h:wpAny (model prog w) A (compareOp .Lt (.str i t) (.str j t')) Q E s)
    | le=>exact fun prog w E Q h=>(PySem.P.le_str h:wpAny (model prog w) A (compareOp .LtE (.str i t) (.str j t')) Q E s)
    | gt=>exact fun prog w E Q h=>(PySem.P.gt_str h:wpAny (model prog w) A (compareOp .Gt (.str i t) (.str j t')) Q E s)
    | ge=>exact fun prog w E Q h=>(PySem.P.ge_str h:wpAny (model prog w) A (compareOp .GtE (.str i t) (.str j t')) Q E s)
   | _=>simp [uO] at hk
  | tup ds=>
   cases b with
   | tup es=>
    obtain ⟨p,xs,rfl,e1,r1⟩:=rx.dC;cases ru;obtain ⟨its1,vr1,h1⟩:=fY I e1;obtain ⟨q,ys,rfl,e2,r2⟩:=ry.dC;cases rv;obtain ⟨its2,vr2,h2⟩:=fY I e2;rw [D.bF] at ha hb;rw [uO] at hk;have hC:∀o',o'=o->C2 o' A.in1 s its1.toArray.toList its2.toArray.toList ds es:=by
     rintro o' rfl;refine ⟨by rw [List.toList_toArray,<-vr1.length,r1.length],by rw [List.toList_toArray,<-vr2.length,r2.length],fun j v w x y a1 a2 a3 a4=>?_⟩;rw [List.toList_toArray] at a1 a2;obtain ⟨v1,w1,rr1⟩:=r1.get a3;obtain ⟨v2,w2,rr2⟩:=r2.get a4;obtain ⟨u1,k1,l1⟩:=vr1.get w1;obtain ⟨u2,k2,l2⟩:=vr2.get w2;rw [a1] at k1;cases k1;rw [a2] at k2;cases k2;have g1:x.bF n=true:=by
      have:=eE (j:=j) ha (List.getElem?_eq_some_iff.mp a3).1;rwa [List.getD_eq_getElem?_getD,a3] at this
     have g2:y.bF n=true:=by
      have:=eE (j:=j) hb (List.getElem?_eq_some_iff.mp a4).1;rwa [List.getD_eq_getElem?_getD,a4] at this
     exact ⟨(wY I n A.in1 hu1 g1 g2 rr1 rr2 l1 l2).2.2,fun _ k hk=>ih A.in1 hu1 g1 g2 rr1 rr2 l1 l2 hk⟩
    cases o with
    | lt=>exact wZ.aAi h1 h2 (hC .lt rfl) hk hu0
    | le=>exact wZ.aAj h1 h2 (hC .le rfl) hk hu0
    | gt=>exact wZ.aAk h1 h2 (hC .gt rfl) hk hu0
    | ge=>exact wZ.aAl h1 h2 (hC .ge rfl) hk hu0
   | _=>simp [uO] at hk
  | _=>cases b <;> simp [uO] at hk
end
end Mi
end
section
namespace TS
open PySem PyProof.Rows
end TS
end
section
namespace Mi
open PySem L2 PySem.SeqAt
open PyProof.Rows (Keyed lt' keyLt' oneLt' SortKind SortSt kindOf tuples' oneType' pairsOf wpS wpS_bind wpS_pure wpS_get wpS_lift keyKind')
variable [KFrag]
section
variable {X:Cx} {pins:List (Addr×Obj)} {σ:L2.St} {H:Hp} {s:Shared}
end
end Mi
end
section
namespace Mi
open PySem L2 PySem.SeqAt PySem.Spec PyProof.Rows
variable [KFrag]
noncomputable def kR (H:Hp) (d:D) (fr:Bool) (Q:VK):Prop:=∀v H',bK H H'->Rep All H' v d->(fr=true->Rep (New H) H' v d)->Q v H'
def gE (f:FE) (fr:Bool):TE:=fun σ H Q=>∃ρ d,ER H σ ρ/\f ρ=.ok d/\kR H d fr Q
def gT (f:FT):TT:=fun σ H Q=>∃ρ b,ER H σ ρ/\f ρ=.ok b/\∀H',bK H H'->Q b H'
noncomputable def gA (f:FA) (fr:Bool):TA:=fun σ H Q=>∃ρ ds,ER H σ ρ/\f ρ=.ok ds/\∀vs H',bK H H'->aW All H' vs ds->(fr=true->aW (New H) H' vs ds)->Q vs H'
theorem kR.self {H:Hp} {d:D} {fr:Bool} {Q:VK} {v:V} (q:kR H d fr Q) (r:Rep All H v d) (r2:fr=true->Rep (New H) H v d):Q v H:=q v H (bK.refl H) r r2
theorem kR.imp {H H':Hp} {d:D} {fr fr':Bool} {Q:VK} (q:kR H d fr Q) (s:bK H H') (h:fr=true->fr'=true):kR H' d fr' Q:=fun v H2 s2 r n=>q v H2 (s.trans s2) r fun hf=>(n (h hf)).mono (bK.new s)
theorem kR.int {H:Hp} {i:Int} {fr:Bool} {Q:VK} (q:kR H (.int i) fr Q):Q (.int i) H:=q.self (.int i) fun _=>.int i
theorem kR.bl {H:Hp} {i:Bool} {fr:Bool} {Q:VK} (q:kR H (.bl i) fr Q):Q (.bl i) H:=q.self (.bl i) fun _=>.bl i
theorem kR.str {H:Hp} {i:Str} {fr:Bool} {Q:VK} (q:kR H (.str i) fr Q):Q (.str i) H:=q.self (.str i) fun _=>.str i
theorem kR.non {H:Hp} {fr:Bool} {Q:VK} (q:kR H .non fr Q):Q .non H:=q.self .non fun _=>.non
noncomputable def r2 (f:D->D->Res D) (fr:Bool):R2:=fun x y H Q=>∃a b d,Rep All H x a/\Rep All H y b/\f a b=.ok d/\kR H d fr Q
noncomputable def rs (f:List D->Res D) (fr:Bool):List V->Hp->VK->Prop:=fun xs H Q=>∃ds d,aW All H xs ds/\f ds=.ok d/\kR H d fr Q
noncomputable def rm (f:D->List D->Res D) (fr:Bool):V->List V->Hp->VK->Prop:=fun x xs H Q=>∃a ds d,Rep All H x a/\aW All H xs ds/\f a ds=.ok d/\kR H d fr Q
theorem bG {α β:Type} {m:Res α} {f:α->Res β} {b:β} (h:(do let x <- m;f x)=.ok b):∃a,m=.ok a/\f a=.ok b:=Res.WL h
section
variable {X:Cx} {a b c e:Expr} {pos:Pos} {fa fb fc fe:FE} {ra rb rc re:Bool} {ga gb gc:FT}
theorem ER.var {H:Hp} {σ:L2.St} {ρ:List D} {i:Nat} {d:D} (E:ER H σ ρ) (h:d9 i ρ=.ok d):∃v,σ[i]?=some (some v)/\Rep All H v d/\ρ.getD i .uD=d:=by
 have:ρ.getD i .uD=d/\d≠.uD:=by
  unfold d9 at h;split at h
  ·cases h
  ·cases h;refine ⟨rfl,fun z=>?_⟩;rename_i q;exact q z
 obtain ⟨e1,e2⟩:=this;obtain ⟨v,h1,h2⟩:=E i (by rw [e1];exact e2);exact ⟨v,h1,by rw [e1] at h2;exact h2,e1⟩
theorem aA {i:Nat} {x:Str} (hN:X.N[i]?=some x:=by exact rfl) (hv:Vis X.env.scope x:=by trivial) (hd:nDb x:=by decide) (hcd:nCd x:=by decide):PE X (.Name x pos) (gE (d9 i) false):=
 PE.imp (aN hN hv hd hcd) fun σ H Q ⟨ρ,d,E,h,q⟩=>by
  obtain ⟨v,h1,h2,_⟩:=E.var h;exact ⟨v,h1,q.self h2 (fun z=>by cases z)⟩
theorem aK {i j}:PE X (.Constant (.int i) j pos) (gE (bC (.int i)) true):=PE.imp lA fun σ H Q ⟨ρ,d,E,h,q⟩=>by cases h;exact q.int
theorem vK {i j}:PE X (.Constant (.bool i) j pos) (gE (bC (.bl i)) true):=PE.imp aDe fun σ H Q ⟨ρ,d,E,h,q⟩=>by cases h;exact q.bl
theorem sZ {i j}:PE X (.Constant (.str i) j pos) (gE (bC (.str i)) true):=PE.imp SM fun σ H Q ⟨ρ,d,E,h,q⟩=>by cases h;exact q.str
theorem TQ {j}:PE X (.Constant .none j pos) (gE (bC .non) true):=PE.imp aA0 fun σ H Q ⟨ρ,d,E,h,q⟩=>by cases h;exact q.non
theorem two {f:D->D->Res D} {fr:Bool} {σ:L2.St} {H:Hp} {Q:VK} (h:gE (b2 f fa fb) fr σ H Q):tOp (r2 f fr) (gE fa ra) (gE fb rb) σ H Q:=by
 obtain ⟨ρ,d,E,h,q⟩:=h;obtain ⟨x,h1,h⟩:=bG h;obtain ⟨y,h2,h⟩:=bG h;refine ⟨ρ,x,E,h1,fun v H1 s1 rp1 _=>⟨ρ,y,E.same s1,h2,fun u H2 s2 rp2 _=>⟨x,y,d,rp1.same s2,rp2,h,q.imp (s1.trans s2) id⟩⟩⟩
theorem bN {o:Operator} {f:D->D->Res D} {fr:Bool} (ho:OpR X (binaryOp o) (r2 f fr)) (ha:PE X a (gE fa ra)) (hb:PE X b (gE fb rb)):PE X (.BinOp a o b pos) (gE (b2 f fa fb) fr):=PE.imp (aDm ho ha hb) fun _ _ _=>two
theorem aAm {o:CmpOp} {f:D->D->Res D} {fr:Bool} (ho:OpR X (compareOp o) (r2 f fr)) (ha:PE X a (gE fa ra)) (hb:PE X b (gE fb rb)) (hm:behindInMarks o b=false):PE X (.Compare a [o] [b] pos) (gE (b2 f fa fb) fr):=PE.imp (VM ho ha hb hm) fun _ _ _=>two
theorem jG {o:CmpOp} {f:D->D->Res D} {fr:Bool} (ho:OpR X (compareOp o) (r2 f fr)) (ha:PE X a (gE fa ra)) (hb:PE X b (gE fb rb)) (hm:behindInMarks o b=false):PT X (.Compare a [o] [b] pos) (gT (bTB (b2 f fa fb))):=
 PT.imp (VN ho ha hb hm) fun σ H Q ⟨ρ,k,E,h,q⟩=>by
  obtain ⟨d,h1,h2⟩:=bG h;refine two ⟨ρ,d,E,h1,fun v H' s r _=>?_⟩;cases d <;> simp only [asB] at h2 <;> cases h2
  cases r;exact ⟨_,rfl,q H' s⟩
theorem b_ {f:D->D->Res D} {fr:Bool} (ho:IxR X (r2 f fr)) (ha:PE X a (gE fa ra)) (hb:PE X b (gE fb rb)) (hs:GJ b):PE X (.Subscript a b pos) (gE (b2 f fa fb) fr):=PE.imp (N_ ho ha hb hs) fun _ _ _=>two
theorem aG7 {H:Hp} {v:V} {d:D} {k:Bool} (r:Rep All H v d) (h:aDu d=.ok k) (hd:∀kvs,d≠.dct kvs) (hs:∀xs,d≠.scr xs):aCy X.K v H k:=by
 cases r with
 | non=>cases h;rfl
 | bl b=>cases h;rfl
 | int i=>cases h;rfl
 | str x=>
  simp only [aDu] at h;split at h
  ·rename_i hl;cases h;exact ⟨Nat.le_trans (of_decide_eq_true hl) (by rw [sizeLine_eq];decide),rfl⟩
  ·cases h
 | tup e rr=>cases h;exact .inr (.inl ⟨_,.of e,by cases rr <;> rfl⟩)
 | lst e p rr=>cases h;exact .inl ⟨_,.of e,by cases rr <;> rfl⟩
 | frz e rr=>exact absurd rfl (hs _)
 | dK e p rr n=>exact absurd rfl (hd _)
 | dT e p rr n=>exact absurd rfl (hd _)
 | fdK e rr n=>cases h
 | fdT e rr n=>cases h
 | exc n e q=>cases h
 | ins n e q=>cases h
 | cel e p rr=>cases h
theorem mR (ha:PE X a (gE fa ra)) (he:∀whole,isTrue a X.env whole=(do let v <- whole;standAt a.pos;holding [v] (truthy v)):=by intro _;rfl):PT X a (gT (bTr fa)):=
 PT.imp (wJ ha he) fun σ H Q ⟨ρ,k,E,h,q⟩=>by
  obtain ⟨d,h1,h2⟩:=bG h;refine ⟨ρ,d,E,h1,fun v H' s r _=>⟨k,aG7 r ?_ ?_ ?_,q H' s⟩⟩
  ·cases d <;> first|exact h2|cases h2
  ·rintro kvs rfl;cases h2
  ·rintro kvs rfl;cases h2
theorem pN (ha:PT X a (gT ga)):PT X (.UnaryOp .Not a pos) (gT (vG ga)):=PT.imp (aA4 ha) fun σ H Q ⟨ρ,k,E,h,q⟩=>by
  obtain ⟨d,h1,h2⟩:=bG h;cases h2;exact ⟨ρ,d,E,h1,fun H' s=>q H' s⟩
theorem aAn {d:D} {k:Int} (h:asI d=.ok k):d=.int k:=by cases d <;> simp only [asI] at h <;> cases h;rfl
theorem aM:PA X [] (gA aY true):=PA.imp dF fun σ H Q ⟨ρ,ds,E,h,q⟩=>by cases h;exact q [] H (bK.refl H) .nil fun _=>.nil
theorem aD {es:List Expr} {f:FA} {r:Bool} (he:PE X e (gE fe re)) (hes:PA X es (gA f r)) (hs:starEach (e::es) X.env=(false,eval e X.env)::starEach es X.env:=by rfl):PA X (e::es) (gA (aB fe f) (re&&r)):=PA.imp (bI he hes hs) fun σ H Q ⟨ρ,ds,E,h,q⟩=>by
  obtain ⟨x,h1,h⟩:=bG h;obtain ⟨xs,h2,h⟩:=bG h;cases h;refine ⟨ρ,x,E,h1,fun v H1 s1 r1 n1=>⟨ρ,xs,E.same s1,h2,fun vs H2 s2 r2 n2=>q _ _ (s1.trans s2) (.cons (r1.same s2) r2) fun hf=>?_⟩⟩;obtain ⟨f1,f2⟩:=(Bool.and_eq_true _ _▸hf:re=true/\r=true)
  exact .cons ((n1 f1).same s2) ((n2 f2).mono (bK.new s1))
theorem eF {es:List Expr} {f:FA} {r:Bool} {x1} (h:PA X es (gA f r)):PE X (.Tuple es x1 pos) (gE (jF f) r):=PE.imp (S7 h) fun σ H Q ⟨ρ,d,E,h,q⟩=>by
  obtain ⟨xs,h1,h⟩:=bG h;split at h
  ·rename_i hl;cases h;refine ⟨ρ,xs,E,h1,fun vs H1 s1 r1 n1=>⟨?_,fun p hp=>?_⟩⟩
   ·rw [r1.length];exact Nat.le_trans (of_decide_eq_true hl) (by rw [sizeLine_eq];decide)
   ·have sp:bK H1 (upd H1 p (.tup vs)):=bK.upd hp;exact q _ _ (s1.trans sp) (.tup aC (r1.same sp)) fun hf=>.tup aC ((n1 hf).same sp)
  ·cases h
theorem n8 {es:List Expr} {f:FA} {r:Bool} (h:PA X es (gA f r)):PE X (.List es pos) (gE (qK f) r):=PE.imp (FW h) fun σ H Q ⟨ρ,d,E,h,q⟩=>by
  obtain ⟨xs,h1,h⟩:=bG h;split at h
  ·rename_i hl;cases h;refine ⟨ρ,xs,E,h1,fun vs H1 s1 r1 n1=>⟨?_,fun p hp=>?_⟩⟩
   ·rw [r1.length];exact Nat.le_trans (of_decide_eq_true hl) (by rw [sizeLine_eq];decide)
   ·have sp:bK H1 (upd H1 p (.lst vs)):=bK.upd hp;exact q _ _ (s1.trans sp) (.lst aC trivial (r1.same sp)) fun hf=>.lst aC (s1.free hp) ((n1 hf).same sp)
  ·cases h
theorem PN:PE X (.Dict [] [] pos) (gE (bC (.dct [])) true):=PE.imp wU fun σ H Q ⟨ρ,d,E,h,q⟩=>by
  cases h;exact fun p hp=>q _ _ (bK.upd hp) (.dK aC trivial .nil List.nodup_nil) fun _=>.dK aC hp .nil List.nodup_nil
end
end Mi
end
section
namespace Mi
open PySem L2 PySem.SeqAt PySem.Spec PyProof.Rows
variable [KFrag]
section
variable {X:Cx} {a b c e:Expr} {pos:Pos} {fa fb fc fe:FE} {ra rb rc re:Bool} {ga gb gc:FT}
theorem jV {n:Nat} (h:decide (n<=lim)=true):n<=sizeLine:=Nat.le_trans (of_decide_eq_true h) (by rw [sizeLine_eq];decide)
theorem TV {n:Nat} (h:decide (n<lim)=true):n<sizeLine:=Nat.lt_of_lt_of_le (of_decide_eq_true h) (by rw [sizeLine_eq];decide)
theorem Rep.aAo {P:Addr->Prop} {H:Hp} {v:V} {ds:List D} (r:Rep P H v (.lst ds)):∃a xs,v=.ref a/\Rd H a (.lst xs)/\aW P H xs ds:=by
 cases r with
 | lst e p rr=>exact ⟨_,_,rfl,.inl e,rr⟩
theorem PW.imp {X:Cx} {e:PySem.Expr} {t t':TT} (h:PW X e t) (i:∀σ H Q,t' σ H Q->t σ H Q):PW X e t':=fun wh pins s σ H Q I q=>h wh pins s σ H Q I (i σ H Q q)
theorem WQ (ha:PT X a (gT ga)):PW X (.BoolOp .And [a] pos) (gT ga):=VG ha
theorem xF (ha:PT X a (gT ga)):PW X (.BoolOp .Or [a] pos) (gT ga):=aA2 ha
theorem aAp {rest:List Expr} (ha:PT X a (gT ga)) (hb:PW X (.BoolOp .And (b::rest) pos) (gT gb)):PW X (.BoolOp .And (a::b::rest) pos) (gT (HB ga gb)):=PW.imp (aA3 ha hb) fun σ H Q ⟨ρ,k,E,h,q⟩=>by
 obtain ⟨z,h1,h3⟩:=bG h;refine ⟨ρ,z,E,h1,fun H' s=>?_⟩;cases z with
 | true=>rw [if_pos rfl];rw [if_pos rfl] at h3;exact ⟨ρ,k,E.same s,h3,fun H2 s2=>q H2 (s.trans s2)⟩
 | false=>rw [if_neg (by simp)];rw [if_neg (by simp)] at h3;cases h3;exact q H' s
theorem vL {rest:List Expr} (ha:PT X a (gT ga)) (hb:PW X (.BoolOp .Or (b::rest) pos) (gT gb)):PW X (.BoolOp .Or (a::b::rest) pos) (gT (bOr ga gb)):=PW.imp (aDj ha hb) fun σ H Q ⟨ρ,k,E,h,q⟩=>by
 obtain ⟨z,h1,h3⟩:=bG h;refine ⟨ρ,z,E,h1,fun H' s=>?_⟩;cases z with
 | true=>rw [if_pos rfl];rw [if_pos rfl] at h3;cases h3;exact q H' s
 | false=>rw [if_neg (by simp)];rw [if_neg (by simp)] at h3;exact ⟨ρ,k,E.same s,h3,fun H2 s2=>q H2 (s.trans s2)⟩
theorem dJ:OpR X (binaryOp .Add) (r2 (aZ .add) true):=by
 intro pins s σ H x y v u Q I rx ry h;obtain ⟨a,b,d,p,q,e,k⟩:=h;cases p with
 | int i=>
  cases q with
  | int j=>cases e;exact aA7 pins s σ H _ _ v u Q I rx ry ⟨i,j,rfl,rfl,k.int⟩
  | _=>simp [aZ] at e
 | str i=>
  cases q with
  | str j=>
   simp only [aZ] at e;split at e
   ·rename_i hl;cases e;exact zE pins s σ H _ _ v u Q I rx ry ⟨i,j,rfl,rfl,jV hl,k.str⟩
   ·cases e
  | _=>simp [aZ] at e
 | non=>simp [aZ] at e
 | bl _=>simp [aZ] at e
 | tup _ _=>simp [aZ] at e
 | dK _ _ _ _=>simp [aZ] at e
 | dT _ _ _ _=>simp [aZ] at e
 | fdK _ _ _=>simp [aZ] at e
 | fdT _ _ _=>simp [aZ] at e
 | exc _ _ _=>simp [aZ] at e
 | ins _ _ _=>simp [aZ] at e
 | cel _ _ _=>simp [aZ] at e
 | @lst a1 xs ds e1 p1 r1=>
  have hR:Rep All H (.ref a1) (.lst ds):=.lst e1 p1 r1;cases b with
  | lst es=>
   simp only [aZ] at e;split at e
   ·rename_i hl;cases e;rw [Bool.and_eq_true,Bool.and_eq_true] at hl;obtain ⟨⟨hl,hp1⟩,hp2⟩:=hl;obtain ⟨l1,xs1,e1',rd1,rr1⟩:=hR.aAo;obtain ⟨l2,xs2,rfl,rd2,rr2⟩:=q.aAo;cases e1';cases rx;cases ry;obtain ⟨z,its,n,vr1,ee1⟩:=rd1.ok I.hok;obtain ⟨z2,its2,n2,vr2,ee2⟩:=rd2.ok I.hok;have hz:xs1.length+xs2.length<=sizeLine:=by rw [rr1.length,rr2.length];exact jV hl
    have t1:=vr1.length;have t2:=vr2.length;refine PySem.P.add_list ee1 ee2 ?_ (by rw [List.size_toArray,List.size_toArray];lia);have ea:its.toArray++its2.toArray=(its++its2).toArray:=by simp
    rw [ea];refine ⟨.ref _,_,I.aG3 (t':=s.toks) (vr1.append vr2) (by rw [List.length_append];lia),rfl,?_⟩;have sp:bK H (upd H s.heap.objs.size (.lst (xs1++xs2))):=bK.upd I.fresh;exact k _ _ sp (.lst aC trivial ((rr1.append rr2).same sp)) fun _=>.lst aC I.fresh (((rr1.bH hp1).append (rr2.bH hp2)).same sp)
   ·cases e
  | _=>simp [aZ] at e
 | frz _ _=>simp [aZ] at e
theorem vM {f:Value->Value->Sem Value} {C:Int->Int->Prop} {g:Int->Int->V} {op:D->D->Res D} (h:OpR X f (rI C g))
  (hi:∀i j d,op (.int i) (.int j)=.ok d->C i j/\∃k,d=.int k/\g i j=.int k) (hn:∀a b d,op a b=.ok d->(∃i,a=.int i)/\∃j,b=.int j):OpR X f (r2 op true):=by
 intro pins s σ H x y v u Q I rx ry ⟨a,b,d,p,q,e,k⟩;obtain ⟨⟨i,rfl⟩,⟨j,rfl⟩⟩:=hn a b d e;cases p;cases q;obtain ⟨hc,m,rfl,hm⟩:=hi i j d e;exact h pins s σ H _ _ v u Q I rx ry ⟨i,j,rfl,rfl,hc,by rw [hm];exact k.int⟩
theorem TX:OpR X (binaryOp .Sub) (r2 (aZ .sub) true):=by
 intro pins s σ H x y v u Q I rx ry ⟨a,b,d,p,q,e,k⟩;cases a <;> cases b <;> simp [aZ] at e
 cases p;cases q;subst e;exact aA8 pins s σ H _ _ v u Q I rx ry ⟨_,_,rfl,rfl,k.int⟩
theorem aAq:OpR X (binaryOp .Mult) (r2 (aZ .mul) true):=by
 refine vM aA9 (fun i j d e=>?_) fun a b d e=>?_
 ·simp only [aZ] at e;split at e
  ·rename_i hl;cases e;refine ⟨?_,_,rfl,rfl⟩;simp only [iI,Bool.or_eq_true,Bool.and_eq_true,decide_eq_true_eq] at hl;exact hl
  ·cases e
 ·cases a <;> cases b <;> first|exact ⟨⟨_,rfl⟩,_,rfl⟩|simp [aZ] at e
theorem h_:OpR X (binaryOp .FloorDiv) (r2 (aZ .fdiv) true):=by
 refine vM VJ (fun i j d e=>?_) fun a b d e=>?_
 ·simp only [aZ] at e;split at e
  ·rename_i hl;cases e;refine ⟨?_,_,rfl,rfl⟩;simp only [Bool.and_eq_true,decide_eq_true_eq] at hl;exact hl
  ·cases e
 ·cases a <;> cases b <;> first|exact ⟨⟨_,rfl⟩,_,rfl⟩|simp [aZ] at e
theorem fJ:OpR X (binaryOp .Mod) (r2 (aZ .mod) true):=by
 refine vM aAa (fun i j d e=>?_) fun a b d e=>?_
 ·simp only [aZ] at e;split at e
  ·rename_i hl;cases e;refine ⟨?_,_,rfl,rfl⟩;simp only [Bool.and_eq_true,decide_eq_true_eq] at hl;exact hl
  ·cases e
 ·cases a <;> cases b <;> first|exact ⟨⟨_,rfl⟩,_,rfl⟩|simp [aZ] at e
theorem aDv (hu:X.A.units+20<cLine):OpR X (compareOp .Eq) (r2 (gJ .eq) true):=by
 intro pins s σ H x y v u Q I rx ry ⟨a,b,d,p,q,e,k⟩;simp only [gJ] at e;split at e
 ·rename_i hl;cases e;rw [Bool.and_eq_true] at hl;exact (wY I aU X.A (by have:aU=12:=rfl;lia) hl.1 hl.2 p q rx ry).1 X.prog X.w X.xe _ ⟨.bl _,H,I,rfl,k.bl⟩
 ·cases e
theorem PP (hu:X.A.units+20<cLine):OpR X (compareOp .NotEq) (r2 (gJ .ne) true):=by
 intro pins s σ H x y v u Q I rx ry ⟨a,b,d,p,q,e,k⟩;simp only [gJ] at e;split at e
 ·rename_i hl;cases e;rw [Bool.and_eq_true] at hl;exact (wY I aU X.A (by have:aU=12:=rfl;lia) hl.1 hl.2 p q rx ry).2.1 X.prog X.w X.xe _ ⟨.bl _,H,I,rfl,k.bl⟩
 ·cases e
theorem TY (o:nT) (hu:X.A.units+20<cLine):OpR X (compareOp o.op) (r2 (gJ (.ord o)) true):=by
 intro pins s σ H x y v u Q I rx ry ⟨a,b,d,p,q,e,k⟩;simp only [gJ] at e;split at e
 ·rename_i hl;rw [Bool.and_eq_true] at hl;split at e
  ·rename_i m hm;cases e;have:=WP I o aU X.A (by have:aU=12:=rfl;lia) hl.1 hl.2 p q rx ry hm X.prog X.w X.xe _ (show EP X pins σ Q (.bool m) s from ⟨.bl _,H,I,rfl,k.bl⟩);cases o <;> exact this
  ·cases e
 ·cases e
theorem aDw (hu:X.A.units+20<cLine):OpR X (compareOp .Lt) (r2 (gJ (.ord .lt)) true):=TY .lt hu
theorem aDx (hu:X.A.units+20<cLine):OpR X (compareOp .Gt) (r2 (gJ (.ord .gt)) true):=TY .gt hu
theorem WR:OpR X (compareOp .IsNot) (r2 (gJ .notN) true):=by
 intro pins s σ H x y v u Q I rx ry ⟨a,b,d,p,q,e,k⟩;cases b <;> simp only [gJ] at e <;> (try (cases e;done)) <;> (try (split at e <;> cases e;done))
 cases q;refine VL pins s σ H x .non v u Q I rx ry ⟨rfl,?_⟩;cases p <;> simp only [gJ] at e <;> cases e <;> exact k.bl
end
end Mi
end
section
namespace Mi
open PySem L2 PySem.SeqAt PySem.Spec PyProof.Rows
variable [KFrag]
theorem HR (k q:Key):eqD (kD k) (kD q)=decide (k=q):=by
 cases k <;> cases q <;> simp [kD,eqD,Bool.beq_eq_decide_eq]
theorem T3:∀(k q:List Key),vC (k.map kD) (q.map kD)=decide (k=q)
 | [],[]=>by simp [vC]
 | [],_::_=>by simp [vC]
 | _::_,[]=>by simp [vC]
 | a::k,b::q=>by
  rw [List.map_cons,List.map_cons,vC,HR,T3 k q];by_cases h:a=b <;> by_cases h':k=q <;> simp [h,h']
theorem WT (k q:List Key):eqD (.tup (k.map kD)) (.tup (q.map kD))=decide (k=q):=by rw [eqD,T3]
theorem WW {P:Addr->Prop} {H:Hp} {k:Key}:∀{kvs:List (Key×V)} {ds:List (D×D)},dD P H kvs ds->(∃v d,pL kvs k=some v/\b7 ds (kD k)=some d/\Rep P H v d)\/(pL kvs k=none/\b7 ds (kD k)=none)
 | _,_,.nil=>.inr ⟨rfl,rfl⟩
 | _,_,.cons (k:=k') r t=>by
  by_cases h:k'=k
  ·subst h;exact .inl ⟨_,_,lE rfl,by rw [b7,HR,if_pos (by simp)],r⟩
  ·rw [b7,HR,if_neg (by simpa using h),lF (p:=(k',_)) h];exact WW t
theorem WX {P:Addr->Prop} {H:Hp} {k:List Key}:∀{kvs:List (List Key×V)} {ds:List (D×D)},iY P H kvs ds->(∃v d,pL kvs k=some v/\b7 ds (.tup (k.map kD))=some d/\Rep P H v d)\/(pL kvs k=none/\b7 ds (.tup (k.map kD))=none)
 | _,_,.nil=>.inr ⟨rfl,rfl⟩
 | _,_,.cons (k:=k') r t=>by
  by_cases h:k'=k
  ·subst h;exact .inl ⟨_,_,lE rfl,by rw [b7,WT,if_pos (by simp)],r⟩
  ·rw [b7,WT,if_neg (by simpa using h),lF (p:=(k',_)) h];exact WX t
theorem qM {H:Hp} {v:V} {d:D} (h:fH d=true) (r:Rep All H v d):∃k,v=kV k/\d=kD k:=by
 cases r <;> simp [fH] at h
 ·exact ⟨.inl _,rfl,rfl⟩
 ·exact ⟨.inr _,rfl,rfl⟩
theorem flat_keys {H:Hp}:∀{vs:List V} {ds:List D},ds.all fH=true->aW All H vs ds->∃ks:List Key,vs=ks.map kV/\ds=ks.map kD
 | _,_,_,.nil=>⟨[],rfl,rfl⟩
 | _,_,h,.cons r t=>by
  rw [List.all_cons,Bool.and_eq_true] at h;obtain ⟨k,rfl,rfl⟩:=qM h.1 r;obtain ⟨ks,rfl,rfl⟩:=flat_keys h.2 t;exact ⟨k::ks,rfl,rfl⟩
theorem fK {H:Hp} {y:V} {k:D} (h:keyOk k=true) (r:Rep All H y k):(∃q,y=kV q/\k=kD q)\/∃(b:Addr) (ks:List Key),y=.ref b/\H b=some (.tup (ks.map kV))/\k=.tup (ks.map kD):=by
 cases k <;> simp [keyOk] at h
 ·exact .inl (qM rfl r)
 ·exact .inl (qM rfl r)
 ·obtain ⟨a,xs,rfl,e,rr⟩:=r.dC;obtain ⟨ks,rfl,rfl⟩:=flat_keys (List.all_eq_true.mpr h) rr;exact .inr ⟨a,ks,rfl,e,rfl⟩
theorem jW (k:Key):isTup (kD k)=false:=by cases k <;> rfl
section
variable {X:Cx} {pins:List (Addr×Obj)} {σ:L2.St} {H:Hp} {s:Shared} {a:Addr}
theorem qO {o o':HO} (e:H a=some o):upd (upd H a o') a o=H:=by
 rw [uW]
 funext b
 by_cases h:b=a
 ·subst h;rw [aC,e]
 ·rw [aJ h]
theorem jX (I:Inv X pins σ H s) (e:H a=some (.dK [])):Inv X pins σ (upd H a (.dT [])) s:=by
 obtain ⟨z,hd,vs,rel,o,es,ep,h1,h2,h3,h4,h5,h6⟩:=zQ I.hok e;cases rel;refine I.write (t':=s.toks) (x:=a) (e:=a) (h':=s.heap) (by rw [e];trivial) (.inl rfl) (fun _ _ _ q=>q) ⟨o,h1⟩ ?_;refine ⟨Nat.zero_le _,hd,[],.nil,o,es,ep,h1,h2,h3,?_,List.nodup_nil⟩;cases h5':es.toList with
 | nil=>rfl
 | cons _ _=>rw [h5'] at h5;cases h5
theorem gK (I:Inv X pins σ H s) (e:H a=some (.dT [])):Inv X pins σ (upd H a (.dK [])) s:=by
 obtain ⟨z,hd,vs,rel,o,es,ep,h1,h2,h3,h4,h5,h6⟩:=WD I.hok e;cases rel;refine I.write (t':=s.toks) (x:=a) (e:=a) (h':=s.heap) (by rw [e];trivial) (.inl rfl) (fun _ _ _ q=>q) ⟨o,h1⟩ ?_;have h0:es.toList=[]:=h4;refine ⟨Nat.zero_le _,hd,[],.nil,o,es,ep,h1,h2,h3,?_,?_,List.nodup_nil⟩
 ·intro x hx;have:x∈es.toList:=by simpa using hx
  rw [h0] at this;cases this
 ·rw [h0];exact .nil
theorem xG {P:Addr->Prop}:∀{kvs:List (Key×V)} {ds:List (D×D)},dD P H kvs ds->∀p∈ds,isTup p.1=false
 | _,_,.nil,_,h=>by cases h
 | _,_,.cons r t,p,h=>by
  rcases List.mem_cons.mp h with rfl|h
  ·exact jW _
  ·exact xG t p h
theorem xH {P:Addr->Prop}:∀{kvs:List (List Key×V)} {ds:List (D×D)},iY P H kvs ds->∀p∈ds,isTup p.1=true
 | _,_,.nil,_,h=>by cases h
 | _,_,.cons r t,p,h=>by
  rcases List.mem_cons.mp h with rfl|h
  ·rfl
  ·exact xH t p h
theorem aAr {x y:V} {ds:List (D×D)} {k:D} (I:Inv X pins σ H s) (rd:Rep All H x (.dct ds)) (rk:Rep All H y k) (hk:rT ds k=true) :
  ∃H1 a o,x=.ref a/\Inv X pins σ H1 s/\(∀s',Inv X pins σ H1 s'->Inv X pins σ H s')/\M7 H1 a y o/\((o=none/\b7 ds k=none)\/∃v d,o=some v/\b7 ds k=some d/\Rep All H v d):=by
 unfold rT at hk;rw [Bool.and_eq_true] at hk;obtain ⟨h1,h2⟩:=hk;cases rd with
 | @dK a kvs ds e _ r n=>
  rcases fK h1 rk with ⟨q,rfl,rfl⟩|⟨b,ks,rfl,eb,rfl⟩
  ·refine ⟨H,a,_,rfl,I,fun _ h=>h,.k e,?_⟩;rcases WW (k:=q) r with ⟨v,d,g1,g2,g3⟩|⟨g1,g2⟩
   ·exact .inr ⟨v,d,g1,g2,g3⟩
   ·exact .inl ⟨g1,g2⟩
  ·cases r with
   | nil=>
    have e2:=qO (o':=.dT []) e;refine ⟨upd H a (.dT []),a,none,rfl,jX I e,fun s' I'=>?_,.t (k:=ks) aC (by rw [aJ (k_ eb e (by intro z;cases z))];exact eb),.inl ⟨rfl,rfl⟩⟩;have:=gK I' aC;rwa [e2] at this
   | cons r t=>
    rw [List.all_cons,jW] at h2;simp [isTup] at h2
 | @dT a kvs ds e _ r n=>
  rcases fK h1 rk with ⟨q,rfl,rfl⟩|⟨b,ks,rfl,eb,rfl⟩
  ·cases r with
   | nil=>
    have e2:=qO (o':=.dK []) e;refine ⟨upd H a (.dK []),a,none,rfl,gK I e,fun s' I'=>?_,.k (k:=q) aC,.inl ⟨rfl,rfl⟩⟩;have:=jX I' aC;rwa [e2] at this
   | cons r t=>
    rw [List.all_cons,jW] at h2;simp [isTup] at h2
  ·refine ⟨H,a,_,rfl,I,fun _ h=>h,.t e eb,?_⟩;rcases WX (k:=ks) r with ⟨v,d,g1,g2,g3⟩|⟨g1,g2⟩
   ·exact .inr ⟨v,d,g1,g2,g3⟩
   ·exact .inl ⟨g1,g2⟩
theorem PQ {x:V} {ds:List (D×D)} {k d:D} (rd:Rep All H x (.dct ds)) (hk:keyOk k=true) (h:b7 ds k=some d):rT ds k=true:=by
 have one:∀{ds:List (D×D)},b7 ds k=some d->∃p∈ds,eqD p.1 k=true:=by
  intro ds;induction ds with
  | nil=>intro h;cases h
  | cons p ds ih=>
   intro h;obtain ⟨p1,p2⟩:=p;rw [b7] at h;by_cases hq:eqD p1 k=true
   ·exact ⟨_,List.mem_cons_self ..,hq⟩
   ·rw [if_neg hq] at h;obtain ⟨p,hp,e⟩:=ih h;exact ⟨p,List.mem_cons_of_mem _ hp,e⟩
 obtain ⟨p,hp,he⟩:=one h;unfold rT;rw [hk,Bool.true_and,List.all_eq_true];intro q hq;have same:isTup p.1=isTup k:=by
  obtain ⟨p1,p2⟩:=p;cases p1 <;> cases k <;> simp [eqD,keyOk,isTup] at he hk ⊢
 cases rd with
 | dK e _ r n=>rw [xG r q hq,<-same,xG r p hp];rfl
 | dT e _ r n=>rw [xH r q hq,<-same,xH r p hp];rfl
end
section
variable {X:Cx} {a b c e:Expr} {pos:Pos} {fa fb fc fe:FE} {ra rb rc re:Bool} {ga gb gc:FT}
noncomputable def M9 (H:Hp) (u:Value):D:=by
 classical
 exact if h:∃d,d.bF aU=true/\∃v,RelV v u/\Rep All H v d then Classical.choose h else .non
theorem HS {H:Hp} {u:Value} {v:V} {d:D} (hq:d.bF aU=true) (rv:RelV v u) (r:Rep All H v d):M9 H u=d:=by
 unfold M9;have h:∃d,d.bF aU=true/\∃v,RelV v u/\Rep All H v d:=⟨d,hq,v,rv,r⟩
 rw [dif_pos h];obtain ⟨h2,v',rv',r'⟩:=Classical.choose_spec h;have:=rv'.inj rv;subst this;exact Rep.inj aU h2 hq r' r
theorem vN {H:Hp} {a:D}:∀{xs:List V} {ds:List D} {its:List Value},D.fQ aU ds=true->aW All H xs ds->Vals xs its->(its.any fun u=>eqD (M9 H u) a)=ds.any fun y=>eqD y a
 | _,_,_,_,.nil,.nil=>rfl
 | _,_,_,h,.cons r t,.cons v vt=>by
  rw [D.fQ,Bool.and_eq_true] at h;rw [List.any_cons,List.any_cons,HS h.1 v r,vN h.2 t vt]
theorem HW {pins:List (Addr×Obj)} {σ:L2.St} {H:Hp} {s:Shared} (I:Inv X pins σ H s) (hu:X.A.units+20<cLine) {a:D} {x:V} {v:Value} (ha:a.bF aU=true) (rx:Rep All H x a) (rv:RelV x v)
  {xs:List V} {ds:List D} {its:List Value} (h:D.fQ aU ds=true) (r:aW All H xs ds) (vr:Vals xs its) (u:Value) (hm:u∈its):EqAt X.A.in1 s u v (eqD (M9 H u) a):=by
 obtain ⟨j,hj,e⟩:=List.getElem_of_mem hm;have hj':j<ds.length:=by rw [<-r.length,vr.length];exact hj
 obtain ⟨w,h1,h2⟩:=r.get (i:=j) (d:=ds[j]) (by simp [hj']);obtain ⟨u',h3,h4⟩:=vr.get h1;rw [List.getElem?_eq_getElem hj,e] at h3;cases h3;have hd:ds[j].bF aU=true:=by
  have:=eE (j:=j) h hj';rwa [List.getD_eq_getElem?_getD,List.getElem?_eq_getElem hj'] at this
 rw [HS hd h4 h2];exact (wY I aU X.A.in1 (by show X.A.units+1+12<cLine;lia) hd ha h2 rx h4 rv).2.2
theorem aDy (hu:X.A.units+20<cLine):OpR X (compareOp .In) (r2 (gJ .isin) true):=by
 intro pins s σ H x y v u Q I rx ry ⟨a,b,d,p,q,e,k⟩;cases b with
 | tup ys=>
  simp only [gJ] at e;split at e
  ·rename_i hl;cases e;rw [Bool.and_eq_true] at hl;obtain ⟨l,xs,rfl,ee,rr⟩:=q.dC;cases ry;obtain ⟨its,vr,pl⟩:=fY I ee;refine in_tupleAt (fun u=>eqD (M9 H u) a) pl (fun w hw=>HW I hu hl.1 p rx hl.2 rr vr w (by simpa using hw)) ⟨.bl _,H,I,rfl,?_⟩;rw [show its.toArray.any (fun u=>eqD (M9 H u) a)=its.any (fun u=>eqD (M9 H u) a) by simp,vN hl.2 rr vr];exact k.bl
  ·cases e
 | lst ys=>
  simp only [gJ] at e;split at e
  ·rename_i hl;cases e;rw [Bool.and_eq_true] at hl;obtain ⟨l,xs,rfl,ee,rr⟩:=q.eZ (K:=X.K);cases ry;obtain ⟨its,vr,pl⟩:=j5 I ee;refine in_listAt (fun u=>eqD (M9 H u) a) pl (fun w hw=>HW I hu hl.1 p rx hl.2 rr vr w (by simpa using hw)) ⟨.bl _,H,I,rfl,?_⟩;rw [show its.toArray.any (fun u=>eqD (M9 H u) a)=its.any (fun u=>eqD (M9 H u) a) by simp,vN hl.2 rr vr];exact k.bl
  ·cases e
 | dct kvs=>
  simp only [gJ] at e;split at e
  ·rename_i hl;cases e;obtain ⟨H1,a1,o,rfl,I1,bk,g,hc⟩:=aAr I q p hl;cases ry;refine aG4 (by lia) I1 g rx fun s' I'=>⟨.bl _,H,bk s' I',rfl,?_⟩
   rcases hc with ⟨rfl,h2⟩|⟨w,dd,rfl,h2,_⟩
   ·rw [h2] at k;exact k.bl
   ·rw [h2] at k;exact k.bl
  ·cases e
 | _=>simp [gJ] at e
theorem aAs {α:Type} (xs:List α) (i:Int):L2.atI xs i=(ixD xs.length i).bind fun j=>xs[j]?:=rfl
theorem aW.atI {P:Addr->Prop} {H:Hp} {xs:List V} {ds:List D} {i:Int} {d:D} (r:aW P H xs ds) (h:((ixD ds.length i).bind fun j=>ds[j]?)=some d):∃v,L2.atI xs i=some v/\Rep P H v d:=by
 rw [aAs,r.length];cases hi:ixD ds.length i with
 | none=>rw [hi] at h;cases h
 | some j=>
  rw [hi] at h;obtain ⟨v,h1,h2⟩:=r.get h;exact ⟨v,h1,h2⟩
theorem tD {X:Cx} {value slice:Expr} {pins:List (Addr×Obj)} {s:Shared} {σ:L2.St} {H:Hp} {a:Addr} {y v':V} {u:Value} {Q:VK} (hu:X.A.units+20<cLine) (I:Inv X pins σ H s) (g:M7 H a y (some v')) (ry:RelV y u) {H':Hp}
  (hs:subscripted slice false (.ref a) u=operate [.ref a,u] (getItem (.ref a) u)) (bk:∀s',Inv X pins σ H s'->Inv X pins σ H' s') (q:Q v' H') :
  wpAny (model X.prog X.w) X.A (subscriptTail value slice (.ref a) u) (EP X pins σ Q) X.xe s:=by
 have hT:=vA I g;unfold subscriptTail;refine wpAny_bind ?_;rw [getitemInPython_of_ne hT.not_modules];refine wpAny_bind (wpAny_specialOf hT PySem.F.slot_dict_getitem.lookup ?_);have fin:wpAny (model X.prog X.w) X.A (subscripted slice false (.ref a) u) (fun r s₃=>wpAny (model X.prog X.w) X.A (letTemporaryGo value (.ref a) r >>= fun _=>pure r) (EP X pins σ Q) X.xe s₃) X.xe s:=by
  rw [hs];exact wpAny_operating (GR (by lia) I g ry fun w' s3 I3 rw'=>wpAny_bind (wpAny_letTemporaryGo (wpAny_pure ⟨v',H',bk s3 I3,rw',q⟩)))
 first
  | exact wpAny_pure (wpAny_bind fin)
  | exact wpAny_bind (wpAny_pure (wpAny_bind fin))
  | exact wpAny_bind fin
theorem xJ {k d:D}:∀{ds:List (D×D)},keyOk k=true->b7 ds k=some d->∃p∈ds,isTup p.1=isTup k
 | [],_,h=>by cases h
 | (p1,p2)::ds,hk,h=>by
  rw [b7] at h;by_cases hq:eqD p1 k=true
  ·refine ⟨_,List.mem_cons_self ..,?_⟩;cases p1 <;> cases k <;> simp [eqD,keyOk,isTup] at hq hk ⊢
  ·rw [if_neg hq] at h;obtain ⟨p,hp,e⟩:=xJ hk h;exact ⟨p,List.mem_cons_of_mem _ hp,e⟩
theorem aDz {H:Hp} {x y:V} {ds:List (D×D)} {k d:D} (rd:Rep All H x (.fdc ds)) (rk:Rep All H y k) (hk:keyOk k=true) (h:b7 ds k=some d):∃a v,x=.ref a/\M7 H a y (some v)/\Rep All H v d:=by
 obtain ⟨p,hp,et⟩:=xJ hk h;cases rd with
 | @fdK a o kvs ds e r n=>
  rcases fK hk rk with ⟨q,rfl,rfl⟩|⟨b,ks,rfl,eb,rfl⟩
  ·rcases WW (k:=q) r with ⟨v,d',g1,g2,g3⟩|⟨g1,g2⟩
   ·rw [g2] at h;cases h;exact ⟨a,v,rfl,.inl ⟨kvs,q,.inr ⟨o,e⟩,rfl,g1.symm⟩,g3⟩
   ·rw [g2] at h;cases h
  ·rw [xG r p hp] at et;cases et
 | @fdT a o kvs ds e r n=>
  rcases fK hk rk with ⟨q,rfl,rfl⟩|⟨b,ks,rfl,eb,rfl⟩
  ·rw [xH r p hp,jW] at et;cases et
  ·rcases WX (k:=ks) r with ⟨v,d',g1,g2,g3⟩|⟨g1,g2⟩
   ·rw [g2] at h;cases h;exact ⟨a,v,rfl,.inr ⟨kvs,ks,b,.inr ⟨o,e⟩,rfl,eb,g1.symm⟩,g3⟩
   ·rw [g2] at h;cases h
theorem cA (hK:KFrag.K=X.K) (hu:X.A.units+20<cLine):IxR X (r2 getD false):=by
 intro value slice pins s σ H x y v u Q I rx ry ⟨a,b,d,p,q,e,k⟩ hs;cases a with
 | tup ys=>
  cases b <;> simp only [getD] at e <;> (try (cases e;done))
  have e':=Res.g8 e;obtain ⟨l,xs,rfl,ee,rr⟩:=p.dC;cases q;obtain ⟨w,h1,h2⟩:=rr.atI e';exact aAe value slice pins s σ H _ _ v u Q I rx ry ⟨l,xs,_,w,rfl,rfl,.of ee,h1,k.self h2 fun z=>by cases z⟩ hs
 | lst ys=>
  cases b <;> simp only [getD] at e <;> (try (cases e;done))
  have e':=Res.g8 e;obtain ⟨l,xs,rfl,ee,rr⟩:=p.eZ (K:=X.K);cases q;obtain ⟨w,h1,h2⟩:=rr.atI e';exact lU value slice pins s σ H _ _ v u Q I rx ry ⟨l,xs,_,w,rfl,rfl,ee,h1,k.self h2 fun z=>by cases z⟩ hs
 | cel ca ys=>
  cases b <;> simp only [getD] at e <;> (try (cases e;done))
  have e':=Res.g8 e;cases p with
  | cel ee pp rr=>
   cases q;obtain ⟨w,h1,h2⟩:=rr.atI e';exact lU value slice pins s σ H _ _ v u Q I rx ry ⟨_,_,_,w,rfl,rfl,.inl (.inl ee),h1,k.self h2 fun z=>by cases z⟩ hs
 | scr ys=>
  cases b <;> simp only [getD] at e <;> (try (cases e;done))
  have e':=Res.g8 e;cases p with
  | frz ee rr=>
   cases q;obtain ⟨w,h1,h2⟩:=rr.atI e';exact lU value slice pins s σ H _ _ v u Q I rx ry ⟨_,_,_,w,rfl,rfl,ee.sq hK,h1,k.self h2 fun z=>by cases z⟩ hs
 | str z=>
  cases b <;> simp only [getD] at e <;> (try (cases e;done))
  split at e
  ·rename_i hl;have e':=Res.g8 e;obtain ⟨cc,h1,h2⟩:=Option.map_eq_some_iff.mp e';subst h2;cases p;cases q;exact aAf value slice pins s σ H _ _ v u Q I rx ry ⟨z,_,cc,rfl,rfl,jV hl,h1,k.str⟩ hs
  ·cases e
 | dct kvs=>
  have e':keyOk b=true/\b7 kvs b=some d:=by
   cases b <;> simp only [getD] at e <;> (split at e <;> first|(rename_i hl;exact ⟨hl,Res.g8 e⟩)|cases e)
  obtain ⟨H1,a1,o,rfl,I1,bk,g,hc⟩:=aAr I p q (PQ p e'.1 e'.2);cases rx;rcases hc with ⟨rfl,h2⟩|⟨w,dd,rfl,h2,h3⟩
  ·rw [h2] at e';cases e'.2
  ·rw [h2] at e';cases e'.2;exact tD hu I1 g ry hs bk (k.self h3 fun z=>by cases z)
 | fdc kvs=>
  have e':keyOk b=true/\b7 kvs b=some d:=by
   cases b <;> simp only [getD] at e <;> (split at e <;> first|(rename_i hl;exact ⟨hl,Res.g8 e⟩)|cases e)
  obtain ⟨a1,w,rfl,g,h3⟩:=aDz p q e'.1 e'.2;cases rx;exact tD hu I g ry hs (fun _ h=>h) (k.self h3 fun z=>by cases z)
 | _=>cases b <;> simp [getD] at e
noncomputable def gO (f:List D->Res (Option Int)):TO:=fun σ H Q=>∃ρ i,ER H σ ρ/\f ρ=.ok i/\∀H',bK H H'->Q i H'
theorem PO.imp {X:Cx} {e:Option PySem.Expr} {t t':TO} (h:PO X e t) (i:∀σ H Q,t' σ H Q->t σ H Q):PO X e t':=fun pins s σ H Q I q=>h pins s σ H Q I (i σ H Q q)
theorem n_:PO X none (gO lW):=PO.imp V5 fun σ H Q ⟨ρ,i,E,h,q⟩=>by cases h;exact q H (bK.refl H)
theorem fL (ha:PE X a (gE fa ra)):PO X (some a) (gO (dH fa)):=PO.imp (V6 ha) fun σ H Q ⟨ρ,i,E,h,q⟩=>by
 obtain ⟨x,h1,h⟩:=bG h;obtain ⟨j,h2,h⟩:=bG h;cases h;have e:=aAn h2;subst e;exact ⟨ρ,_,E,h1,fun v H' s r _=>by cases r;exact ⟨j,rfl,q H' s⟩⟩
theorem T4 (n d:Nat) (o:Option Int):HT.sIx n d o=TF n d o:=by
 cases o with
 | none=>rfl
 | some v=>
  show (if v<0 then (v+(n:Int)).toNat else min v.toNat n)=(if v<0 then (max (v+(n:Int)) 0).toNat else (min v (n:Int)).toNat);split <;> lia
theorem aW.cut {P:Addr->Prop} {H:Hp} {xs:List V} {ds:List D} (r:aW P H xs ds) (lo hi:Option Int):aW P H (GF xs lo hi) (cutD ds lo hi):=by
 unfold GF cutD;rw [r.length];simp only [T4];exact (r.drop _).take _
theorem cC {ds:List D}:D.aG ds=true↔∀d∈ds,d.pure=true:=by
 induction ds with
 | nil=>simp [D.aG]
 | cons d ds ih=>rw [D.aG,Bool.and_eq_true,ih];simp
noncomputable def rSl:V->Option Int->Option Int->Hp->VK->Prop:=fun x lo hi H Q=>∃a d,Rep All H x a/\aD4 a lo hi=.ok d/\kR H d true Q
theorem aE0 (hK:KFrag.K=X.K):SlR X rSl:=by
 intro pins s σ H x v vl vu lo hi sl Q I rx hs pl pu ⟨a,d,p,e,k⟩;cases a <;> simp only [aD4] at e <;> (try (cases e;done))
 ·split at e
  ·cases e
  ·rename_i hw;cases e;obtain ⟨l,xs,rfl,ee,rr⟩:=p.dC;refine aAd pins s σ H _ v vl vu lo hi sl Q I rx hs pl pu ⟨l,xs,rfl,.of ee,?_,fun p hp=>?_⟩
   ·simp only [T4,rr.length];simp only [Bool.not_eq_true',Bool.or_eq_true,not_or,Bool.not_eq_false',decide_eq_true_eq] at hw;exact hw.2
   ·have sp:bK H (upd H p (.tup (GF xs lo hi))):=bK.upd hp;have hp2:D.aG ‹List D›=true:=by
     simp only [Bool.or_eq_true,not_or,Bool.not_eq_true'] at hw;simpa using hw.1
    exact k _ _ sp (.tup aC ((rr.cut lo hi).same sp)) fun z=>.tup aC (((rr.bH hp2).cut lo hi).same sp)
 ·split at e
  ·rename_i hl;cases e;obtain ⟨l,xs,rfl,ee,rr⟩:=p.eZ (K:=X.K);refine GK pins s σ H _ v vl vu lo hi sl Q I rx hs pl pu ⟨l,xs,rfl,ee,fun p hp=>?_⟩;have sp:bK H (upd H p (.lst (GF xs lo hi))):=bK.upd hp;exact k _ _ sp (.lst aC trivial ((rr.cut lo hi).same sp)) fun z=>.lst aC hp (((rr.bH hl).cut lo hi).same sp)
  ·cases e
 ·split at e
  ·rename_i hl;cases e;cases p with
   | @frz l xs ds ee rr=>
    refine GK pins s σ H _ v vl vu lo hi sl Q I rx hs pl pu ⟨l,xs,rfl,ee.sq hK,fun p hp=>?_⟩;have sp:bK H (upd H p (.lst (GF xs lo hi))):=bK.upd hp;exact k _ _ sp (.lst aC trivial ((rr.cut lo hi).same sp)) fun z=>.lst aC hp (((rr.bH hl).cut lo hi).same sp)
  ·cases e
end
end Mi
end
section
namespace PySem.Mm
open PySem
section
variable {prog:Program} {w:World} {A:Around} {R:Result->Shared->Prop} {I S:Addr} {fp wr:List Addr} {n:Nat} {P:Nat->Value->Prop} {St:Nat->Heap->Prop} {bt:Nat->Nat->Bool} {Gd:Shared->Prop} {op:CmpOp}
end
section
variable {prog:Program} {w:World} {A:Around} {E:Value->Shared->Prop} {s:Shared} {Q:Value->Shared->Prop}
end
end PySem.Mm
end
section
namespace Mi
open PySem L2 PySem.SeqAt PySem.Spec PyProof.Rows
variable [KFrag]
section
variable {X:Cx} {pins:List (Addr×Obj)} {σ:L2.St} {H:Hp} {s:Shared}
end
section
variable {X:Cx}
end
end Mi
end
section
namespace PySem.Mm
open PySem PyProof.Rows PySem.W
theorem tE {prog:Program} {w:World} {A:Around} {E:Value->Shared->Prop} {s:Shared} {Q:Value->Shared->Prop} {K:Type} [DecidableEq K] {knd:KeyKind prog w K} {d:Addr} {kvs:List (K×Value)} {ep n:Nat} (hh:A.handled=none) (lo:(d==sysModules)=false)
  (hm:s.heap.DictAt knd d kvs ep) (hn:kvs.length=n) (hl:n<=2 ^ 24)
  (q:∀h' tk acc c,(∀b o,s.heap.get? b=some o->h'.get? b=some o)->h'.get? s.heap.objs.size=some {cls:=.type "list",dict:=none,data:=.seq acc c,slots:=#[]}->
   ItemsOf (fun i v=>∃k x,kvs[i]?=some (k,x)/\knd.is k v=true) acc n->Q (.ref s.heap.objs.size) {s with heap:=h',toks:=tk}):wpAny (model prog w) A (call (.type "list") [.ref d]) Q E s:=by
 subst hn;exact kdl_call (kdl_dict lo) hh hm (kdl_size hl) q
end PySem.Mm
end
section
namespace Mi
open PySem L2 PySem.SeqAt PySem.Spec PyProof.Rows
variable [KFrag]
section
variable {X:Cx} {a b c e:Expr} {es:List Expr} {pos p:Pos} {fa fb fc fe:FE} {ra rb rc re:Bool} {fs:FA} {rr:Bool} {x:Str} {id T:String}
theorem gM {P:Addr->Prop} {H:Hp} {xs:List V} {us:List Value} {d:D} (r:aW P H xs [d]) (vr:Vals xs us):∃v u,xs=[v]/\us=[u]/\Rep P H v d/\RelV v u:=by
 cases r with
 | cons r t=>
  cases t;cases vr with
  | cons v vt=>
   cases vt;exact ⟨_,_,rfl,rfl,r,v⟩
theorem xK {f:List D->Res D} {fr:Bool} {σ:L2.St} {H:Hp} {Q:VK} (h:gE (aQ f fs) fr σ H Q):tCB (rs f fr) (gA fs rr) σ H Q:=by
 obtain ⟨ρ,d,E,h,q⟩:=h;obtain ⟨ds,h1,h2⟩:=bG h;exact ⟨ρ,ds,E,h1,fun vs H1 s1 r1 _=>⟨ds,d,r1,h2,q.imp s1 id⟩⟩
theorem cP {f:List D->Res D} {fr:Bool} (hc:lO X (.builtin id) (rs f fr)) (hg:Gl X x) (hm:X.mg x=none) (hv:bootBuiltins x=some (.builtin id)) (ha:PA X (e::es) (gA fs rr)) (hn:x ≠ "__name__":=by decide) (hdb:nDb x:=by decide)
  (he:starEach (e::es) X.env=(false,eval e X.env)::starEach es X.env:=by rfl) (hpl:(backTo pos (starEach es X.env)).any (·.1)=false:=by rfl):PE X (.Call (.Name x p) (e::es) [] pos) (gE (aQ f fs) fr):=
 PE.imp (wN hc hg hm hv ha hn hdb he hpl) fun _ _ _=>xK
theorem fM {f:List D->Res D} {fr:Bool} (hc:lO X (.type T) (rs f fr)) (hg:Gl X x) (hm:X.mg x=none) (hv:bootBuiltins x=some (.type T)) (ha:PA X (e::es) (gA fs rr)) (hn:x ≠ "__name__":=by decide) (hdb:nDb x:=by decide)
  (he:starEach (e::es) X.env=(false,eval e X.env)::starEach es X.env:=by rfl) (hpl:(backTo pos (starEach es X.env)).any (·.1)=false:=by rfl):PE X (.Call (.Name x p) (e::es) [] pos) (gE (aQ f fs) fr):=
 PE.imp (GC hc hg hm hv ha hn hdb he hpl) fun _ _ _=>xK
theorem iM (hK:KFrag.K=X.K):lO X (.builtin "len") (rs lN true):=by
 intro pins s σ H xs us Q I vr ⟨ds,d,r,e,k⟩;unfold lN at e;split at e
 ·cases e;obtain ⟨vv,uu,rfl,rfl,r,v⟩:=gM r vr;obtain ⟨l,ys,rfl,hl,rr⟩:=r.dC;cases v;exact fW pins s σ H [.ref l] [.ref l] Q I (.cons rfl .nil) ⟨l,ys,rfl,.inr (.of hl),by rw [rr.length];exact k.int⟩
 ·cases e;obtain ⟨vv,uu,rfl,rfl,r,v⟩:=gM r vr;obtain ⟨l,ys,rfl,hl,rr⟩:=r.eZ (K:=X.K);cases v;exact fW pins s σ H [.ref l] [.ref l] Q I (.cons rfl .nil) ⟨l,ys,rfl,.inl hl,by rw [rr.length];exact k.int⟩
 ·cases e;obtain ⟨vv,uu,rfl,rfl,r,v⟩:=gM r vr;cases r with
  | @frz l xs ds ee rr=>
   cases v;exact fW pins s σ H [.ref l] [.ref l] Q I (.cons rfl .nil) ⟨l,xs,rfl,.inl (ee.sq hK),by rw [rr.length];exact k.int⟩
 ·cases e;obtain ⟨vv,uu,rfl,rfl,r,v⟩:=gM r vr;cases r with
  | cel ee pp rr=>
   cases v;exact fW pins s σ H [.ref _] [.ref _] Q I (.cons rfl .nil) ⟨_,_,rfl,.inl (.inl (.inl ee)),by rw [rr.length];exact k.int⟩
 ·split at e
  ·rename_i hl;cases e;obtain ⟨vv,uu,rfl,rfl,r,v⟩:=gM r vr;cases r;exact sU pins s σ H _ _ Q I (.cons v .nil) ⟨_,rfl,jV hl,k.int⟩
  ·cases e
 ·cases e
theorem dD.keys {P P':Addr->Prop} {H:Hp}:∀{kvs:List (Key×V)} {ds:List (D×D)},dD P H kvs ds->aW P' H (kvs.map fun p=>kV p.1) (aAh ds)
 | _,_,.nil=>.nil
 | _,_,.cons (k:=k) _ t=>.cons (by cases k <;> first|exact .int _|exact .str _) t.keys
theorem list_dict {pins:List (Addr×Obj)} {s:Shared} {σ:L2.St} {H:Hp} {l:Addr} {kvs:List (Key×V)} (hc:X.calm=true) (I:Inv X pins σ H s) (e:H l=some (.dK kvs)) {Q:Value->Shared->Prop}
  (q:∀p s',H p=none->Inv X pins σ (upd H p (.lst (kvs.map fun p=>kV p.1))) s'->(∀l0 o0,H l0=some o0->l0≠p)->Q (.ref p) s'):wpAny (model X.prog X.w) X.A (call (.type "list") [.ref l]) Q X.xe s:=by
 obtain ⟨z,hd,vs,rel,dd⟩:=zQ I.hok e;obtain ⟨ep,da⟩:=dd.dictAt;have hlen:kvs.length=vs.length:=Paired.length rel;refine Mm.tE (I.ok.hd hc) hd da rfl (by rw [<-hlen];rw [sizeLine_eq] at z;lia) fun h' tk acc' c' kp e1 it=>?_
 obtain ⟨i1,i2⟩:=it;have hfr:H s.heap.objs.size=none:=I.hok.fresh (Nat.le_refl _);refine q _ _ hfr (I.laid (t':=tk) kp (Nat.le_refl _) ?_) fun l0 o0 h0=>aR h0 hfr
 refine ⟨by rw [List.length_map];exact z,acc'.toList,c',?_,by simpa using e1⟩;have gen:∀(kvs:List (Key×V)) (vs:List (Key×Value)) (xs:List Value),KV kvs vs->xs.length=vs.length->(∀(j:Nat) (v:Value),xs[j]?=some v->∃k x,vs[j]?=some (k,x)/\(bL X.prog X.w).is k v=true)->Vals (kvs.map fun p=>kV p.1) xs:=by
  intro kvs vs xs rel;induction rel generalizing xs with
  | nil=>intro hl _;cases xs with|nil=>exact .nil|cons _ _=>simp at hl
  | @cons p q ps qs hpq t ih=>
   intro hl g;cases xs with
   | nil=>simp at hl
   | cons x xs=>
    refine .cons ?_ (ih xs (by simpa using hl) fun j v hv=>g (j+1) v (by simpa using hv));obtain ⟨k,x',h1,h2⟩:=g 0 x rfl;have h1':q=(k,x'):=by simpa using h1
    show RelV (kV p.1) x;rw [hpq.1,h1'];rcases bY h2 with ⟨i,t,rfl,rfl⟩|⟨i,t,rfl,rfl⟩
    ·exact ⟨t,rfl⟩
    ·exact ⟨t,rfl⟩
 exact gen kvs vs acc'.toList rel (by simpa using i1) fun j v hv=>i2 j v (by simpa using hv)
theorem WY (hc:X.calm=true):lO X (.type "list") (rs PB true):=by
 intro pins s σ H xs us Q I vr ⟨ds,d,r,e,k⟩;unfold PB at e;split at e
 ·split at e
  ·rename_i hl;cases e;obtain ⟨vv,uu,rfl,rfl,r,v⟩:=gM r vr;obtain ⟨l,ys,rfl,hl',rr⟩:=r.dC;cases v;refine mL pins s σ H [.ref l] [.ref l] Q I (.cons rfl .nil) ⟨l,ys,rfl,.inr (.of hl'),fun p hp=>?_⟩;have sp:bK H (upd H p (.lst ys)):=bK.upd hp;exact k _ _ sp (.lst aC trivial (rr.same sp)) fun _=>.lst aC hp ((rr.bH hl).same sp)
  ·cases e
 ·split at e
  ·rename_i hl;cases e;obtain ⟨vv,uu,rfl,rfl,r,v⟩:=gM r vr;obtain ⟨l,ys,rfl,hl',rr⟩:=r.eZ (K:=X.K);cases v;refine mL pins s σ H [.ref l] [.ref l] Q I (.cons rfl .nil) ⟨l,ys,rfl,.inl hl',fun p hp=>?_⟩;have sp:bK H (upd H p (.lst ys)):=bK.upd hp;exact k _ _ sp (.lst aC trivial (rr.same sp)) fun _=>.lst aC hp ((rr.bH hl).same sp)
  ·cases e
 ·split at e
  ·rename_i hl;cases e;obtain ⟨vv,uu,rfl,rfl,r,v⟩:=gM r vr;cases r with
   | @dK l kvs ds e _ r n=>
    cases v;refine list_dict hc I e fun p s' hp I' _=>⟨.ref p,_,I',rfl,?_⟩
    have sp:bK H (upd H p (.lst (kvs.map fun p=>kV p.1))):=bK.upd hp;exact k _ _ sp (.lst aC trivial (r.keys.same sp)) fun _=>.lst aC hp (r.keys.same sp)
   | @dT l kvs ds e _ r n=>
    cases v;cases r with
    | cons r t=>simp [isTup] at hl
    | nil=>
     have e2:=qO (o':=.dK []) e;refine list_dict hc (gK I e) aC fun p s' hp I' hne=>?_
     have hp':p≠l:=fun z=>by subst z;rw [aC] at hp;cases hp
     have hpn:H p=none:=by rw [aJ hp'] at hp;exact hp
     have hcm:upd (upd (upd H l (.dK [])) p (.lst [])) l (.dT [])=upd H p (.lst []):=by
      funext b
      by_cases hb:b=l
      ·subst hb;rw [aC,aJ (Ne.symm hp'),e]
      ·rw [aJ hb];by_cases hb2:b=p
       ·subst hb2;rw [aC,aC]
       ·rw [aJ hb2,aJ hb2,aJ hb]
     have I2:=jX I' (a:=l) (by rw [aJ (Ne.symm hp'),aC]);have I3:Inv X pins σ (upd H p (.lst [])) s':=by
      have:Inv X pins σ (upd (upd (upd H l (.dK [])) p (.lst [])) l (.dT [])) s':=I2;rwa [hcm] at this
     have sp:bK H (upd H p (.lst [])):=bK.upd hpn;exact ⟨.ref p,_,I3,rfl,k _ _ sp (.lst aC trivial .nil) fun _=>.lst aC hpn .nil⟩
  ·cases e
 ·cases e
theorem jY:lO X (.type "tuple") (rs fX false):=by
 intro pins s σ H xs us Q I vr ⟨ds,d,r,e,k⟩;unfold fX at e;split at e
 ·cases e;obtain ⟨vv,uu,rfl,rfl,r,v⟩:=gM r vr;obtain ⟨l,ys,rfl,hl',rr⟩:=r.dC;cases v;exact lD pins s σ H [.ref l] [.ref l] Q I (.cons rfl .nil) ⟨l,ys,rfl,.inr ⟨.of hl',k.self (.tup hl' rr) fun z=>by cases z⟩⟩
 ·cases e;obtain ⟨vv,uu,rfl,rfl,r,v⟩:=gM r vr;obtain ⟨l,ys,rfl,hl',rr⟩:=r.eZ (K:=X.K);cases v;refine lD pins s σ H [.ref l] [.ref l] Q I (.cons rfl .nil) ⟨l,ys,rfl,.inl ⟨hl',fun p hp=>?_⟩⟩;have sp:bK H (upd H p (.tup ys)):=bK.upd hp;exact k _ _ sp (.tup aC (rr.same sp)) fun z=>by cases z
 ·cases e
theorem isi {pins:List (Addr×Obj)} {s:Shared} {σ:L2.St} {H:Hp} {v:V} {u:Value} {d:D} {t:Ty} {k:Bool} (I:Inv X pins σ H s) (r:Rep All H v d) (ru:RelV v u) (h:G7 t d=.ok k) {Q:Value->Shared->Prop}
  (q:∀tk,Q (.bool k) {s with toks:=tk}):wpAny (model X.prog X.w) X.A (call (.builtin "isinstance") [u,.type t.nm]) Q X.xe s:=by
 have q0:Q (.bool k) s:=q s.toks;cases r with
 | non=>cases ru;cases t <;> simp only [G7] at h <;> cases h <;> first|exact IsiPair.NoneType_int (q _)|exact IsiPair.NoneType_str (q _)|exact IsiPair.NoneType_bool (q _)|exact IsiPair.NoneType_list (q _)|exact IsiPair.NoneType_tuple (q _)|exact IsiPair.NoneType_dict (q _)
 | bl b=>cases ru;cases t <;> simp only [G7] at h <;> cases h <;> first|exact IsiPair.bool_int q0|exact IsiPair.bool_str (q _)|exact IsiPair.bool_bool q0|exact IsiPair.bool_list (q _)|exact IsiPair.bool_tuple (q _)|exact IsiPair.bool_dict (q _)
 | int b=>obtain ⟨tt,rfl⟩:=ru;cases t <;> simp only [G7] at h <;> cases h <;> first|exact IsiPair.int_int q0|exact IsiPair.int_str (q _)|exact IsiPair.int_bool (q _)|exact IsiPair.int_list (q _)|exact IsiPair.int_tuple (q _)|exact IsiPair.int_dict (q _)
 | str b=>obtain ⟨tt,rfl⟩:=ru;cases t <;> simp only [G7] at h <;> cases h <;> first|exact IsiPair.str_int (q _)|exact IsiPair.str_str q0|exact IsiPair.str_bool (q _)|exact IsiPair.str_list (q _)|exact IsiPair.str_tuple (q _)|exact IsiPair.str_dict (q _)
 | tup e rr=>
  cases ru;obtain ⟨its,vr,o,ho,hc,_⟩:=fY I e;cases t <;> simp only [G7] at h <;> cases h <;> first|exact IsiPair.tuple_int ho hc (q _)|exact IsiPair.tuple_str ho hc (q _)|exact IsiPair.tuple_bool ho hc (q _)|exact IsiPair.tuple_list ho hc (q _)|exact IsiPair.tuple_tuple ho hc q0|exact IsiPair.tuple_dict ho hc (q _)
 | lst e p rr=>
  cases ru;obtain ⟨its,vr,o,ho,hc,_⟩:=j5 I (.of e);cases t <;> simp only [G7] at h <;> cases h <;> first|exact IsiPair.list_int ho hc (q _)|exact IsiPair.list_str ho hc (q _)|exact IsiPair.list_bool ho hc (q _)|exact IsiPair.list_list ho hc q0|exact IsiPair.list_tuple ho hc (q _)|exact IsiPair.list_dict ho hc (q _)
 | frz e rr=>cases t <;> cases h
 | fdK e rr n=>cases t <;> cases h
 | fdT e rr n=>cases t <;> cases h
 | exc n e q=>cases t <;> cases h
 | ins n e q=>cases t <;> cases h
 | cel e p rr=>cases t <;> cases h
 | dK e p rr n=>
  cases ru;obtain ⟨_,_,_,_,o,_,_,ho,hx,_⟩:=zQ I.hok e;have hc:=hx.1;cases t <;> simp only [G7] at h <;> cases h <;> first|exact IsiPair.dict_int ho hc (q _)|exact IsiPair.dict_str ho hc (q _)|exact IsiPair.dict_bool ho hc (q _)|exact IsiPair.dict_list ho hc (q _)|exact IsiPair.dict_tuple ho hc (q _)|exact IsiPair.dict_dict ho hc q0
 | dT e p rr n=>
  cases ru;obtain ⟨_,_,_,_,o,_,_,ho,hx,_⟩:=WD I.hok e;have hc:=hx.1;cases t <;> simp only [G7] at h <;> cases h <;> first|exact IsiPair.dict_int ho hc (q _)|exact IsiPair.dict_str ho hc (q _)|exact IsiPair.dict_bool ho hc (q _)|exact IsiPair.dict_list ho hc (q _)|exact IsiPair.dict_tuple ho hc (q _)|exact IsiPair.dict_dict ho hc q0
noncomputable def aG8 (t:Ty):List V->Hp->VK->Prop:=fun xs H Q=>∃v d k,xs=[v,.ty t.nm]/\Rep All H v d/\G7 t d=.ok k/\Q (.bl k) H
theorem aAt (t:Ty):lO X (.builtin "isinstance") (aG8 t):=by
 intro pins s σ H xs us Q I vr ⟨v,d,k,e,r,h,q⟩;subst e;cases vr with
 | cons rv vt=>
  cases vt with
  | cons rt vt=>
   cases vt;cases rt;exact isi I r rv h fun tk=>⟨.bl k,H,I.tok tk,rfl,q⟩
theorem tG (t:Ty) {y:Str} {p2:Pos} (ha:PE X a (gE fa ra)) (hg:Gl X "isinstance") (hm:X.mg "isinstance" = none) (hv:bootBuiltins "isinstance" = some (.builtin "isinstance")) (gy:Gl X y) (my:X.mg y=none) (vy:bootBuiltins y=some (.type t.nm))
  (hy:y ≠ "__name__":=by decide) (hyd:(y==("__debug__" : Str))=false:=by decide)
  (he:starEach [a,.Name y p2] X.env=(false,eval a X.env)::starEach [.Name y p2] X.env:=by rfl) (he2:starEach [.Name y p2] X.env=(false,eval (.Name y p2) X.env)::starEach [] X.env:=by rfl)
  (hpl:(backTo pos (starEach [.Name y p2] X.env)).any (·.1)=false:=by rfl):PE X (.Call (.Name "isinstance" p) [a,.Name y p2] [] pos) (gE (b1 (nW t) fa) true):=
 PE.imp (wN (aAt t) hg hm hv (bI ha (bI (VF gy my vy (v:=.ty t.nm) rfl hy hyd) dF he2) he) (by decide) (by decide) he hpl) fun σ H Q ⟨ρ,d,E,h,q⟩=>by
  obtain ⟨x,h1,h⟩:=bG h;obtain ⟨k,h2,h⟩:=bG h;cases h;exact ⟨ρ,x,E,h1,fun v H1 s1 r1 _=>⟨v,x,k,rfl,r1,h2,(q.imp s1 id).bl⟩⟩
theorem aAu {o:Expr} {fo:FE} {ro fr:Bool} {name:Str} {apos cpos:Pos} {f:D->List D->Res D} (pa:PlainAttrs T) (slot:Slot T name id) (hty:typeOf (.builtin id)=pure (.type "method_descriptor")) (hm:MtR X id (rm f fr)) (ho:PE X o (gE fo ro)) (ha:PA X (e::es) (gA fs rr))
  (hT:∀(d:D) (ds:List D) (r:D) (v:V) (H:Hp),f d ds=.ok r->Rep All H v d->tyV X.K T v H)
  (hbase:attributeBase o name X.env (eval o X.env)=eval o X.env:=by rfl)
  (hfew:((backTo cpos (starEach (e::es) X.env)).all (fun x=>!x.1)&&(backToKw cpos (keywordEach [] X.env)).all (fun x=>x.1.isSome)
   && decide ((e::es).length+([]:List Keyword).length+(if ([]:List Keyword).isEmpty then 0 else 1)<30))=true:=by rfl)
  (hline:(apos.endLine==cpos.line)=true:=by rfl) (hs:starEach (e::es) X.env=(false,eval e X.env)::starEach es X.env:=by rfl) (hplain:(backTo cpos (starEach es X.env)).any (·.1)=false:=by rfl) :
  PE X (.Call (.Attribute o name apos) (e::es) [] cpos) (gE (bM f fo fs) fr):=
 PE.imp (zO pa slot hty hm ho ha hbase hfew hline hs hplain) fun σ H Q ⟨ρ,d,E,h,q⟩=>by
  obtain ⟨x,h1,h⟩:=bG h;obtain ⟨ds,h2,h⟩:=bG h;exact ⟨ρ,x,E,h1,fun v H1 s1 r1 _=>⟨hT x ds d v H1 h r1,ρ,ds,E.same s1,h2,fun vs H2 s2 r2 _=>⟨x,ds,d,r1.same s2,r2,h,q.imp (s1.trans s2) fun z=>z⟩⟩⟩
noncomputable def spD (f:List D->Res D) (n:Nat):Sp:=fun vs H Q _=>∃ds d,ds.length=n/\aW All H vs ds/\f ds=.ok d/\kR H d true Q
theorem W0 {f:List D->Res D} {n:Nat} {vs:List V} {H:Hp} {Q:VK} {E:XK} (h:spD f n vs H Q E):vs.length=n:=by
 obtain ⟨ds,d,h1,r,_⟩:=h;rw [r.length,h1]
theorem W2 {k:Nat} {fad:Addr} {fd:FuncData} {ps:List Str} {f:List D->Res D} {n:Nat} (F:i_ X.prog X.w X.K X.mg X.base CX0 k fad fd ps (spD f n)) (hr:jC k X.A) (hg:Gl X x) (hm:X.mg x=some (.ref fad)) (hk:PySem.W.keepIn X.K (.ref fad)=true) (hb:Binds X.K fd ps [])
  (ha:PA X (e::es) (gA fs rr)) (hdb:nDb x:=by decide) (he:starEach (e::es) X.env=(false,eval e X.env)::starEach es X.env:=by rfl) (hpl:(backTo pos (starEach es X.env)).any (·.1)=false:=by rfl) :
  PE X (.Call (.Name x p) (e::es) [] pos) (gE (aQ (f9 n f) fs) true):=
 PE.imp (FZ F hr hg hm hk hb .nil O7 ha hdb he hpl) fun σ H Q ⟨ρ,d,E,h,q⟩=>by
  obtain ⟨ds,h1,h⟩:=bG h;unfold f9 at h;split at h
  ·rename_i hl;exact ⟨ρ,ds,E,h1,fun vs H1 s1 r1 _=>⟨ds,d,of_decide_eq_true hl,by rw [List.append_nil];exact r1,h,q.imp s1 id⟩⟩
  ·cases h
end
end Mi
end
section
namespace Mi
open PySem L2 PySem.SeqAt PySem.Spec PyProof.Rows
def tH (x:Str):List D:=x.cps.toList.map fun c=>D.str ⟨#[c]⟩
def HX (xs:List D):List D:=xs.zipIdx.map fun p=>.tup [.int p.2,p.1]
def aD5 (xs ys:List D):List D:=(xs.zip ys).map fun p=>.tup [p.1,p.2]
noncomputable def PX (m:Nat) (xs:List D):List D:=xs.zipIdx.map fun p=>.tup [.int ((m+p.2:Nat):Int),p.1]
variable [KFrag]
noncomputable def aE1 (x:Str):It:=⟨fun i _=>i<x.cps.size,fun i H v H'=>H'=H/\∃c,x.cps[i]?=some c/\v=.str ⟨#[c]⟩,fun i _=>x.cps.size<=i⟩
noncomputable def Ite (K:PySem.W.Frag) (a:Addr):It:=
 ⟨fun i H=>∃xs x,SqL K H a xs/\xs[i]?=some x,fun i H v H'=>∃t x,(∀xs,SqL K H a xs->xs[i]?=some x)/\v=.ref t/\H t=none/\H'=upd H t (.tup [.int i,x]),fun i H=>∃xs,SqL K H a xs/\xs.length<=i⟩
noncomputable def aG9 (K:PySem.W.Frag) (m:Nat) (a:Addr):It:=
 ⟨fun i H=>∃xs x,SqL K H a xs/\xs[i]?=some x,fun i H v H'=>∃t x,(∀xs,SqL K H a xs->xs[i]?=some x)/\v=.ref t/\H t=none/\H'=upd H t (.tup [.int ((m+i:Nat):Int),x]),fun i H=>∃xs,SqL K H a xs/\xs.length<=i⟩
noncomputable def Itz (a b:Addr):It :=
  ⟨fun i H => ∃xs ys x y, H a=some (.tup xs) /\ H b=some (.tup ys) /\ xs[i]?=some x /\ ys[i]?=some y, fun i H v H' => ∃t x y, (∀xs, H a=some (.tup xs) -> xs[i]?=some x) /\ (∀ys, H b=some (.tup ys) -> ys[i]?=some y) /\ v=.ref t /\ H t=none /\ H'=upd H t (.tup [x, y]),
   fun i H => ∃xs ys, H a=some (.tup xs) /\ H b=some (.tup ys) /\ ys.length=xs.length /\ xs.length <= i⟩
noncomputable def aF7 (K:PySem.W.Frag) (a:Addr) (n:Nat):It:=
 ⟨fun i H=>∃xs x,SqL K H a xs/\xs.length=n/\i<n/\xs[n-1-i]?=some x,fun i H x H'=>H'=H/\∀xs,SqL K H a xs->xs[n-1-i]?=some x,fun i _=>n<=i⟩
theorem P_ {m:Nat} {xs:List D} {i:Nat}:(PX m xs)[i]?=(xs[i]?).map fun d=>.tup [.int ((m+i:Nat):Int),d]:=by
 unfold PX;rw [List.getElem?_map,List.getElem?_zipIdx,Nat.zero_add];cases xs[i]? <;> rfl
theorem QB {xs:List D} {i:Nat}:(HX xs)[i]?=(xs[i]?).map fun d=>.tup [.int i,d]:=by
 unfold HX;rw [List.getElem?_map,List.getElem?_zipIdx,Nat.zero_add];cases xs[i]? <;> rfl
theorem HY (xs:List D):(HX xs).length=xs.length:=by simp [HX]
inductive ItQ (K:PySem.W.Frag) (P:Addr->Prop) (J:It) (H:Hp) (items:List D):Prop
 | lst (a:Addr) (e:J=Itl K a) (r:Rep P H (.ref a) (.lst items))
 | tup (a:Addr) (e:J=Itt K a) (r:Rep P H (.ref a) (.tup items))
 | rng (lo:Int) (n:Nat) (e:J=Itr lo n) (r:items=(List.range n).map fun (k:Nat)=>D.int (lo+k))
 | chs (x:Str) (e:J=aE1 x) (r:items=tH x)
 | enm (a:Addr) (ds:List D) (e:J=Ite K a) (r:Rep P H (.ref a) (.lst ds)) (h:items=HX ds)
 | enf (m:Nat) (a:Addr) (ds:List D) (e:J=aG9 K m a) (r:Rep P H (.ref a) (.lst ds)) (h:items=PX m ds)
 | rev (a:Addr) (ds:List D) (e:J=aF7 K a ds.length) (r:Rep P H (.ref a) (.lst ds)) (h:items=ds.reverse)
 | scr (a:Addr) (hK:KFrag.K=K) (e:J=Itl K a) (r:Rep P H (.ref a) (.scr items))
 | zip (a b:Addr) (ds es:List D) (e:J=Itz a b) (r:Rep P H (.ref a) (.tup ds)) (q:Rep P H (.ref b) (.tup es)) (n:es.length=ds.length) (h:items=aD5 ds es)
theorem ItQ.keep {K:PySem.W.Frag} {P P':Addr->Prop} {J:It} {H H':Hp} {items:List D} (h:ItQ K P J H items) (k:HH P H H') (m:∀a,P a->P' a):ItQ K P' J H' items:=by
 cases h with
 | lst a e r=>exact .lst a e (r.keep k m)
 | tup a e r=>exact .tup a e (r.keep k m)
 | rng lo n e r=>exact .rng lo n e r
 | chs x e r=>exact .chs x e r
 | enm a ds e r h=>exact .enm a ds e (r.keep k m) h
 | enf m' a ds e r h=>exact .enf m' a ds e (r.keep k m) h
 | zip a b ds es e r q n h=>exact .zip a b ds es e (r.keep k m) (q.keep k m) n h
 | rev a ds e r h=>exact .rev a ds e (r.keep k m) h
 | scr a hK e r=>exact .scr a hK e (r.keep k m)
theorem ItQ.stop {K:PySem.W.Frag} {P:Addr->Prop} {J:It} {H:Hp} {items:List D} {i:Nat} (h:ItQ K P J H items) (hi:items.length<=i):J.stop i H:=by
 cases h with
 | lst a e r=>
  subst e;obtain ⟨a',xs,e,hq,rr⟩:=r.eZ (K:=K);cases e;exact ⟨xs,hq,by rw [rr.length];exact hi⟩
 | tup a e r=>
  subst e;obtain ⟨a',xs,e,hq,rr⟩:=r.dC;cases e;exact ⟨xs,.of hq,by rw [rr.length];exact hi⟩
 | rng lo n e r=>
  subst e r;show n<=i;simpa using hi
 | chs x e r=>
  subst e r;show x.cps.size<=i;simpa [tH] using hi
 | enm a ds e r h=>
  subst e h;obtain ⟨a',xs,e,hq,rr⟩:=r.eZ (K:=K);cases e;exact ⟨xs,hq,by rw [rr.length,<-HY];exact hi⟩
 | enf m a ds e r h=>
  subst e h;obtain ⟨a',xs,e,hq,rr⟩:=r.eZ (K:=K);cases e;exact ⟨xs,hq,by rw [rr.length];simpa [PX] using hi⟩
 | zip a b ds es e r q n h=>
  subst e h;obtain ⟨a',xs,e,hq,rr⟩:=r.dC;cases e;obtain ⟨b',ys,e,hq2,rr2⟩:=q.dC;cases e;have:(aD5 ds es).length=ds.length:=by simp [aD5,n]
  exact ⟨xs,ys,hq,hq2,by rw [rr.length,rr2.length];exact n,by rw [rr.length];lia⟩
 | rev a ds e r h=>
  subst e h;rw [List.length_reverse] at hi;exact hi
 | scr a hK e r=>
  subst e;cases r with
  | frz ee rr=>exact ⟨_,ee.sq hK,by rw [rr.length];exact hi⟩
theorem ItQ.go {K:PySem.W.Frag} {P:Addr->Prop} {J:It} {H:Hp} {items:List D} {i:Nat} {d:D} (h:ItQ K P J H items) (hi:items[i]?=some d):J.go i H/\∀x H',J.yld i H x H'->bK H H'/\Rep P H' x d:=by
 cases h with
 | lst a e r=>
  subst e;obtain ⟨a',xs,e,hq,rr⟩:=r.eZ (K:=K);cases e;obtain ⟨v,h1,h2⟩:=rr.get hi;refine ⟨⟨xs,v,hq,h1⟩,fun x H' ⟨e,hy⟩=>?_⟩;subst e;refine ⟨bK.refl _,?_⟩;have:=hy xs hq;rw [h1] at this;cases this;exact h2
 | tup a e r=>
  subst e;obtain ⟨a',xs,e,hq,rr⟩:=r.dC;cases e;obtain ⟨v,h1,h2⟩:=rr.get hi;refine ⟨⟨xs,v,.of hq,h1⟩,fun x H' ⟨e,hy⟩=>?_⟩;subst e;refine ⟨bK.refl _,?_⟩;have:=hy xs (.of hq);rw [h1] at this;cases this;exact h2
 | rng lo n e r=>
  subst e r;have hlt:i<n:=by
   have:=(List.getElem?_eq_some_iff.mp hi).1;simpa using this
  refine ⟨hlt,fun x H' ⟨e,hy⟩=>?_⟩;subst e;have e2:D.int (lo+(i:Int))=d:=by simpa [hlt] using hi
  rw [hy,<-e2];exact ⟨bK.refl _,.int _⟩
 | chs z e r=>
  subst e r;have hlt:i<z.cps.size:=by
   have:=(List.getElem?_eq_some_iff.mp hi).1;simpa [tH] using this
  refine ⟨hlt,fun x H' ⟨e,c,hc,hv⟩=>?_⟩;subst e hv;refine ⟨bK.refl _,?_⟩;have e2:D.str ⟨#[c]⟩=d:=by
   unfold tH at hi;rw [List.getElem?_map,Array.getElem?_toList,hc] at hi;simpa using hi
  rw [<-e2];exact .str _
 | enm a ds e r h=>
  subst e h;obtain ⟨a',xs,e,hq,rr⟩:=r.eZ (K:=K);cases e;rw [QB] at hi;cases hd:ds[i]? with
  | none=>rw [hd] at hi;cases hi
  | some y=>
   rw [hd] at hi;cases hi;obtain ⟨v,h1,h2⟩:=rr.get hd;refine ⟨⟨xs,v,hq,h1⟩,fun x H' ⟨t,u,hy,e1,e2,e3⟩=>?_⟩;subst e1 e3;have:=hy xs hq;rw [h1] at this;cases this;have sp:bK H (upd H t (.tup [.int i,v])):=bK.upd e2;exact ⟨sp,.tup aC (.cons (.int _) (.cons (h2.same sp) .nil))⟩
 | enf m a ds e r h=>
  subst e h;obtain ⟨a',xs,e,hq,rr⟩:=r.eZ (K:=K);cases e;rw [P_] at hi;obtain ⟨y,hd,rfl⟩:=Option.map_eq_some_iff.mp hi;obtain ⟨v,h1,h2⟩:=rr.get hd;refine ⟨⟨xs,v,hq,h1⟩,fun x H' ⟨t,u,hy,e1,e2,e3⟩=>?_⟩;subst e1 e3;have:=hy xs hq;rw [h1] at this;cases this;have sp:bK H (upd H t (.tup [.int ((m+i:Nat):Int),v])):=bK.upd e2;exact ⟨sp,.tup aC (.cons (.int _) (.cons (h2.same sp) .nil))⟩
 | zip a b ds es e r q n h=>
  subst e h;obtain ⟨a',xs,e,hq,rr⟩:=r.dC;cases e;obtain ⟨b',ys,e,hq2,rr2⟩:=q.dC;cases e;unfold aD5 at hi;rw [List.getElem?_map] at hi;obtain ⟨⟨x,y⟩,hd,rfl⟩:=Option.map_eq_some_iff.mp hi;rw [List.getElem?_zip_eq_some] at hd;obtain ⟨v,h1,h2⟩:=rr.get hd.1;obtain ⟨v',h3,h4⟩:=rr2.get hd.2;refine ⟨⟨xs,ys,v,v',hq,hq2,h1,h3⟩,fun x H' ⟨t,u,u',hy,hy',e1,e2,e3⟩=>?_⟩;subst e1 e3;have z:=hy xs hq;rw [h1] at z;cases z;have z:=hy' ys hq2;rw [h3] at z;cases z;have sp:bK H (upd H t (.tup [v,v'])):=bK.upd e2;exact ⟨sp,.tup aC (.cons (h2.same sp) (.cons (h4.same sp) .nil))⟩
 | rev a ds e r h=>
  subst e h;obtain ⟨a',xs,e,hq,rr⟩:=r.eZ (K:=K);cases e;have hl:i<ds.length:=by
   rcases Nat.lt_or_ge i ds.length with z|z
   ·exact z
   ·rw [List.getElem?_eq_none (by rw [List.length_reverse];exact z)] at hi;cases hi
  rw [List.getElem?_reverse hl] at hi;obtain ⟨v,h1,h2⟩:=rr.get hi;refine ⟨⟨xs,v,hq,rr.length,hl,h1⟩,fun x H' ⟨e,hy⟩=>?_⟩;subst e;have:=hy xs hq;rw [h1] at this;cases this;exact ⟨bK.refl _,h2⟩
 | scr a hK e r=>
  subst e;cases r with
  | @frz _ xs _ ee rr=>
   obtain ⟨v,h1,h2⟩:=rr.get hi;refine ⟨⟨xs,v,ee.sq hK,h1⟩,fun x H' ⟨e,hy⟩=>?_⟩;subst e;refine ⟨bK.refl _,?_⟩;have:=hy xs (ee.sq hK);rw [h1] at this;cases this;exact h2
noncomputable def gI (K:PySem.W.Frag) (f:FI):TI:=fun σ H R=>∃ρ items k,ER H σ ρ/\f ρ=.ok (items,k)/\∀J H1,bK H H1->ItQ K All J H1 items->(k=true->ItQ K (New H) J H1 items)->R J H1
section
variable {X:Cx} {tg l a b:Expr} {fl fa:FE} {rl ra rr:Bool} {fs:FA} {p pos:Pos}
theorem QC {pins:List (Addr×Obj)} {s1:Shared} {σ:L2.St} {H1:Hp} {R:It->Hp->Prop} {v:V} {u:Value} {d:D} {items:List D} (I1:Inv X pins σ H1 s1) (r:Rep All H1 v d) (ru:RelV v u) (hi:wV d=.ok items)
  (q:∀J,(∀P:Addr->Prop,Rep P H1 v d->ItQ X.K P J H1 items)->R J H1):wpAny (model X.prog X.w) X.A (pyIter u) (PIE X pins σ tg R) X.xe s1:=by
 cases d <;> simp only [wV] at hi <;> cases hi
 ·obtain ⟨a,xs,rfl,e,rr⟩:=r.dC;cases ru;obtain ⟨its,rv,p,hz⟩:=I1.tuple (.of e);refine wpAny_pyIter_tuple (show s1.heap.IsTuple a its.toArray from p) ?_;refine ⟨s1.heap.objs.size,[s1.heap.objs.size],_,_,H1,rfl,I1.kept (t':=s1.toks) fun b o e=>Heap.get?_push_of_some _ e,y_ a _,⟨_,Heap.get?_push_size _ rfl,rfl,rfl⟩,fun b hb=>?_,q _ fun P r=>.tup a rfl r⟩;have e:b=s1.heap.objs.size:=by simpa using hb
  subst e;exact I1.ZX (Nat.le_refl _) (I1.hok.fresh (Nat.le_refl _))
 ·obtain ⟨a,xs,rfl,e,rr⟩:=r.eZ (K:=X.K);cases ru;obtain ⟨its,rv,p,hz⟩:=I1.list e;refine wpAny_pyIter_list p.isList ?_;refine ⟨s1.heap.objs.size,[s1.heap.objs.size],_,_,H1,rfl,I1.kept (t':=s1.toks) fun b o e=>Heap.get?_push_of_some _ e,D_ a _,⟨_,Heap.get?_push_size _ rfl,rfl,rfl⟩,fun b hb=>?_,q _ fun P r=>.lst a rfl r⟩;have e:b=s1.heap.objs.size:=by simpa using hb
  subst e;exact I1.ZX (Nat.le_refl _) (I1.hok.fresh (Nat.le_refl _))
theorem z6 {i:Int} (h:nU i=true):-(2 ^ 62)<=i/\i<2 ^ 62:=by
 simp only [nU,Bool.and_eq_true,decide_eq_true_eq] at h;exact h
theorem PI.imp {w w':TI} (h:PI X tg l w) (i:∀σ H R,w' σ H R->w σ H R):PI X tg l w':=fun pins s σ H R I q=>h pins s σ H R I (i σ H R q)
theorem oA (hg:Gl X "range") (hm:X.mg "range" = none) (ha:PA X [a] (gA fs rr)) (hs:starEach [a] X.env=[(false,eval a X.env)]:=by rfl):PI X tg (.Call (.Name "range" p) [a] [] pos) (gI X.K (j7 fs j0)):=
 PI.imp (EY hg hm ha hs) fun σ H R ⟨ρ,items,k,E,h,q⟩=>by
  obtain ⟨xs,h1,h⟩:=bG h;unfold j0 at h;split at h
  ·split at h
   ·rename_i hb;cases h;obtain ⟨b1,b2⟩:=z6 hb;refine ⟨ρ,_,E,h1,fun vs H1 s1 r1 _=>?_⟩;cases r1 with
    | cons r t=>
     cases t;cases r;exact ⟨_,rfl,b1,b2,q _ H1 s1 (.rng 0 _ rfl rfl) fun _=>.rng 0 _ rfl rfl⟩
   ·cases h
  ·cases h
end
theorem QD (n:Nat) (ρ bs:List D) (i:Nat) (h:i<n):(wW n ρ++bs).getD i .uD=ρ.getD i .uD:=by
 rw [List.getD_eq_getElem?_getD,List.getElem?_append_left (by simp [wW];exact h)];simp [wW,h]
theorem xM (n:Nat) (ρ:List D):(wW n ρ).length=n:=by simp [wW]
noncomputable def TgC (g:TG) (t:D->Res (List D)) (n m:Nat):Prop:=∀(v:V) (d:D) (bs:List D) (σ:L2.St) (H:Hp) (Q:L2.St->Hp->Prop),σ.length=n->Rep All H v d->t d=.ok bs->
 (∀σ2,Ext (σ++List.replicate m none) σ2->(∀j b,bs[j]?=some b->∃w,σ2[n+j]?=some (some w)/\Rep All H w b)->Q σ2 H)->g v (σ++List.replicate m none) H Q
theorem ER.ext {H:Hp} {σ σ2:L2.St} {ρ bs:List D} {n m:Nat} (E:ER H σ ρ) (hn:σ.length=n) (x:Ext (σ++List.replicate m none) σ2) (hb:∀j b,bs[j]?=some b->∃w,σ2[n+j]?=some (some w)/\Rep All H w b):ER H σ2 (wW n ρ++bs):=by
 intro i hi;by_cases h:i<n
 ·rw [QD n ρ bs i h] at hi ⊢;obtain ⟨v,h1,h2⟩:=E i hi;exact ⟨v,x.2 i v (by rw [List.getElem?_append_left (by rw [hn];exact h)];exact h1),h2⟩
 ·have e:(wW n ρ++bs).getD i .uD=bs.getD (i-n) .uD:=by
   rw [List.getD_eq_getElem?_getD,List.getElem?_append_right (by rw [xM];lia),xM,<-List.getD_eq_getElem?_getD]
  rw [e] at hi ⊢;cases hq:bs[i-n]? with
  | none=>rw [List.getD_eq_getElem?_getD,hq] at hi;exact absurd rfl hi
  | some b=>
   obtain ⟨w,h1,h2⟩:=hb (i-n) b hq;rw [List.getD_eq_getElem?_getD,hq];exact ⟨w,by rw [<-h1];congr 1;lia,h2⟩
theorem tK {K:PySem.W.Frag} {it:FI} {t:D->Res (List D)} {c:FT} {f:FE} {k:Bool} {n m:Nat} {g:TG} {tc:TT} (tg:TgC g t n m) (hc:∀σ H Q,gT c σ H Q->tc σ H Q) {σ:L2.St} {H:Hp} {Q:VK} (hn:σ.length=n) (h:gE (dI n it t c f k) true σ H Q) :
  zV (gI K it) g tc (gE f k) m σ H Q:=by
 obtain ⟨ρ,d,E,h,q⟩:=h;obtain ⟨⟨items,kk⟩,h1,h⟩:=bG h;split at h
 ·rename_i hlim;obtain ⟨ys,h2,h⟩:=bG h;cases h;refine ⟨ρ,items,kk,E,h1,fun J H1 s1 hJ _ p hp=>?_⟩;have hp0:H p=none:=s1.free hp;refine ⟨fun i n' vs H'=>n'=items.length-i/\i<=items.length/\H' p=some (.lst vs)/\bK H1 H'/\∃acc,acc.length<=i/\aW (fun a=>H a=none/\a≠p) H' vs acc/\nY (vH n t c f k ρ) acc (items.drop i)=.ok ys,⟨items.length,?_⟩,?_⟩
  ·exact ⟨rfl,Nat.zero_le _,aC,bK.upd hp,[],Nat.zero_le _,.nil,h2⟩
  ·rintro i n' vs H' ⟨rfl,hi,hH,sm,acc,hal,racc,hf⟩;refine ⟨hH,?_⟩;have hJ':ItQ K All J H' items:=hJ.keep (.same sm) fun _ z=>z
   rcases Nat.lt_or_ge i items.length with hlt|hge
   ·refine .inr ?_;have e:items[i]?=some items[i]:=List.getElem?_eq_getElem hlt;obtain ⟨g1,g2⟩:=hJ'.go e;have hl1:items.length<=lim:=of_decide_eq_true hlim;refine ⟨g1,?_,fun x H2 hy=>?_⟩
    ·rw [racc.length];exact Nat.lt_of_le_of_lt hal (Nat.lt_of_lt_of_le hlt (Nat.le_trans hl1 (by rw [sizeLine_eq];decide)))
    ·obtain ⟨sH,rx⟩:=g2 x H2 hy;have hH:=sH p _ hH;have sm:=sm.trans sH;have racc:=racc.same sH;rw [List.drop_eq_getElem_cons hlt] at hf;obtain ⟨acc2,hs,hf⟩:=bG hf;obtain ⟨bs,hb,hs⟩:=bG hs;obtain ⟨ok,hok,hs⟩:=bG hs;refine tg x items[i] bs σ H2 _ hn rx hb fun σ2 hx hbs=>⟨hx,hc _ _ _ ?_⟩
     have E2:ER H2 σ2 (wW n ρ++bs):=(E.same (s1.trans sm)).ext hn hx hbs;refine ⟨_,ok,E2,hok,fun H4 s4=>?_⟩;cases ok with
     | true=>
      rw [if_pos rfl];rw [if_pos rfl] at hs;obtain ⟨y,hy2,hs⟩:=bG hs;split at hs
      ·rename_i hk;cases hs;refine ⟨_,y,E2.same s4,hy2,fun w H5 s5 r5 n5=>⟨s5 p _ (s4 p _ hH),items.length-(i+1),by lia,rfl,hlt,aC,?_,acc++[y],?_,?_,hf⟩⟩
       ·exact fun b o e=>by
         rw [aJ (aR e hp)];exact s5 b o (s4 b o (sm b o e))
       ·rw [List.length_append,List.length_singleton];lia
       ·have hp5:H5 p=some (.lst vs):=s5 p _ (s4 p _ hH);have ry:Rep (fun a=>H a=none/\a≠p) H5 w y:=by
         rw [Bool.or_eq_true] at hk;rcases hk with hk|hk
         ·exact (n5 hk).mono fun a ha=>⟨((s1.trans sm).trans s4).free ha,fun z=>by subst z;have h0:=s4 _ _ hH;rw [show H4 _=none from ha] at h0;cases h0⟩
         ·exact r5.bH hk
        have all:aW (fun a=>H a=none/\a≠p) H5 (vs++[w]) (acc++[y]):=(racc.same (s4.trans s5)).snoc ry;refine all.keep (fun b o e hb=>?_) fun _ z=>z
        rw [aJ]
        ·exact e
        ·rcases hb with hb|hb
         ·exact hb.2
         ·intro z;subst z;rw [hp5] at e;cases e;cases hb
      ·cases hs
     | false=>
      rw [if_neg (by simp)];rw [if_neg (by simp)] at hs;cases hs;exact ⟨items.length-(i+1),by lia,rfl,hlt,s4 p _ hH,sm.trans s4,acc,by lia,racc.same s4,hf⟩
   ·refine .inl ⟨hJ'.stop hge,?_⟩;rw [List.drop_eq_nil_of_le hge] at hf;cases hf;exact q _ _ (s1.trans sm) (.lst hH trivial racc.all) fun _=>.lst hH hp0 (racc.mono fun a z=>z.1)
 ·cases h
noncomputable def gIx:List Nat->TGs
 | []=>aCw
 | i::is=>yZ (dZ i) (gIx is)
noncomputable def z7:List Nat->List V->L2.St->L2.St
 | i::is,v::vs,σ=>z7 is vs (σ.set i (some v))
 | _,_,σ=>σ
theorem H_ {H:Hp} {Q:L2.St->Hp->Prop}:∀(is:List Nat) (vs:List V) (σ:L2.St),vs.length=is.length->Q (z7 is vs σ) H->gIx is vs σ H Q
 | [],[],σ,_,q=>⟨rfl,q⟩
 | i::is,v::vs,σ,h,q=>⟨v,vs,rfl,H_ is vs (σ.set i (some v)) (by simpa using h) q⟩
 | [],_::_,_,h,_=>by simp at h
 | _::_,[],_,h,_=>by simp at h
theorem gB (n:Nat):TgC (dZ n) mQ n 1:=by
 intro v d bs σ H Q hn r h q;cases h;have hl:(σ++List.replicate 1 (none:Option V)).length=n+1:=by simp [hn]
 refine q _ ⟨by simp,fun i w hi=>?_⟩ fun j b hj=>?_
 ·have:i≠n:=fun z=>by
   subst z;rw [List.getElem?_append_right (by lia)] at hi;simp [hn] at hi
  rw [List.getElem?_set_ne (Ne.symm this)];exact hi
 ·have e:j=0:=by
   have:=(List.getElem?_eq_some_iff.mp hj).1;simp at this;exact this
  subst e;have e:d=b:=by simpa using hj
  subst e;exact ⟨v,by rw [Nat.add_zero,List.getElem?_set_self (by lia)],r⟩
section
variable {X:Cx} {scope:Scope} {ownN:List Str} {elt iter tg c:Expr} {it:FI} {t:D->Res (List D)} {g:TG} {gc:FT} {fe:FE} {re:Bool} {pos:Pos}
theorem W3 {n m:Nat} (S:cU X.N X.env.scope scope ownN) (hn:X.N.length=n) (hm:ownN.length=m) (hcalm:X.calm=true) (hi:PI X tg iter (gI X.K it)) (ht:TgC g t n m) (hg:∀X',d_ X X' scope ownN->PG X' tg g) (he:∀X',d_ X X' scope ownN->PE X' elt (gE fe re))
  (hs:∀x,foldedSetIterable iter X.env x=pure x):PE X (.ListComp elt [⟨tg,iter,[],0⟩] scope pos) (gE (dI n it t dW fe re) true):=by
 intro pins s σ H Q I h;subst hm;exact PL S hcalm hi hg he hs pins s σ H Q I (tK ht (fun σ H Q h=>by obtain ⟨ρ,b,E,h,q⟩:=h;cases h;exact q H (bK.refl H)) (I.len.trans hn) h)
end
end Mi
end
section
namespace Mi
open PySem L2 PySem.SeqAt PySem.Spec PyProof.Rows
variable [KFrag]
mutual
theorem Rep.dom {P:Addr->Prop} {H:Hp}:∀{v:V} {d:D},Rep P H v d->Rep (fun a=>P a/\H a≠none) H v d
 | _,_,.non=>.non
 | _,_,.bl b=>.bl b
 | _,_,.int i=>.int i
 | _,_,.str x=>.str x
 | _,_,.tup e r=>.tup e (aW.dom r)
 | _,_,.lst e p r=>.lst e ⟨p,by rw [e];simp⟩ (aW.dom r)
 | _,_,.cel e p r=>.cel e ⟨p,by rw [e];simp⟩ (aW.dom r)
 | _,_,.frz e r=>.frz e (aW.dom r)
 | _,_,.dK e p r n=>.dK e ⟨p,by rw [e];simp⟩ (dD.dom r) n
 | _,_,.dT e p r n=>.dT e ⟨p,by rw [e];simp⟩ (iY.dom r) n
 | _,_,.fdK e r n=>.fdK e (dD.dom r) n
 | _,_,.fdT e r n=>.fdT e (iY.dom r) n
 | _,_,.exc n e q=>.exc n e q
 | _,_,.ins n e q=>.ins n e (j8.dom q)
theorem j8.dom {P:Addr->Prop} {H:Hp}:∀{v:List (Str×V)} {d:List (Str×D)},j8 P H v d->j8 (fun a=>P a/\H a≠none) H v d
 | _,_,.nil=>.nil
 | _,_,.cons r t=>.cons (Rep.dom r) (j8.dom t)
theorem aW.dom {P:Addr->Prop} {H:Hp}:∀{v:List V} {d:List D},aW P H v d->aW (fun a=>P a/\H a≠none) H v d
 | _,_,.nil=>.nil
 | _,_,.cons r t=>.cons (Rep.dom r) (aW.dom t)
theorem dD.dom {P:Addr->Prop} {H:Hp}:∀{v:List (Key×V)} {d:List (D×D)},dD P H v d->dD (fun a=>P a/\H a≠none) H v d
 | _,_,.nil=>.nil
 | _,_,.cons r t=>.cons (Rep.dom r) (dD.dom t)
theorem iY.dom {P:Addr->Prop} {H:Hp}:∀{v:List (List Key×V)} {d:List (D×D)},iY P H v d->iY (fun a=>P a/\H a≠none) H v d
 | _,_,.nil=>.nil
 | _,_,.cons r t=>.cons (Rep.dom r) (iY.dom t)
end
theorem dD.bH {P P':Addr->Prop} {H:Hp}:∀{v:List (Key×V)} {d:List (D×D)},dD P H v d->D.aG (d.map (·.2))=true->dD P' H v d
 | _,_,.nil,_=>.nil
 | _,_,.cons r t,h=>by
  rw [List.map_cons,D.aG,Bool.and_eq_true] at h;exact .cons (r.bH h.1) (t.bH h.2)
theorem iY.bH {P P':Addr->Prop} {H:Hp}:∀{v:List (List Key×V)} {d:List (D×D)},iY P H v d->D.aG (d.map (·.2))=true->iY P' H v d
 | _,_,.nil,_=>.nil
 | _,_,.cons r t,h=>by
  rw [List.map_cons,D.aG,Bool.and_eq_true] at h;exact .cons (r.bH h.1) (t.bH h.2)
theorem Rep.aE2 {P P':Addr->Prop} {H:Hp} {a:Addr} {d:D} (r:Rep P H (.ref a) d) (h:inner d=true) (hp:P' a):Rep P' H (.ref a) d:=by
 cases r with
 | tup e r=>cases h
 | lst e p r=>exact .lst e hp (r.bH h)
 | cel e p r=>exact .cel e hp (r.bH h)
 | frz e r=>cases h
 | dK e p r n=>exact .dK e hp (r.bH h) n
 | dT e p r n=>exact .dT e hp (r.bH h) n
 | fdK e r n=>cases h
 | fdT e r n=>cases h
 | exc n e q=>cases h
 | ins n e q=>cases h
noncomputable def Own (own:Nat->Bool) (σ:L2.St) (a:Addr):Prop:=∃i,own i=true/\σ[i]?=some (some (.ref a))
structure ES (own:Nat->Bool) (H:Hp) (σ:L2.St) (ρ:List D):Prop where
 len:σ.length=ρ.length
 at_:∀i,ρ.getD i .uD≠.uD->∃v,σ[i]?=some (some v)/\(own i=false->Rep (fun a=>¬Own own σ a) H v (ρ.getD i .uD))
 own:∀i v,own i=true->σ[i]?=some (some v)->∃a o,v=.ref a/\Rep All H v (ρ.getD i .uD)/\inner (ρ.getD i .uD)=true/\H a=some o/\CV o=true/\∀j,own j=true->σ[j]?=some (some (.ref a))->j=i
variable {own:Nat->Bool}
theorem ES.er {H:Hp} {σ:L2.St} {ρ:List D} (e:ES own H σ ρ):ER H σ ρ:=fun i hi=>by
 obtain ⟨v,h1,h2⟩:=e.at_ i hi;cases ho:own i with
 | false=>exact ⟨v,h1,(h2 ho).all⟩
 | true=>
  obtain ⟨a,o,_,h3,_⟩:=e.own i v ho h1;exact ⟨v,h1,h3⟩
theorem ES.live {H:Hp} {σ:L2.St} {ρ:List D} (e:ES own H σ ρ) {a:Addr} (h:Own own σ a):∃o,H a=some o/\CV o=true:=by
 obtain ⟨i,hi,hs⟩:=h;obtain ⟨b,o,eb,_,_,h3,h4,_⟩:=e.own i _ hi hs;cases eb;exact ⟨o,h3,h4⟩
theorem ES.same {H H':Hp} {σ:L2.St} {ρ:List D} (e:ES own H σ ρ) (s:bK H H'):ES own H' σ ρ:=by
 refine ⟨e.len,fun i hi=>?_,fun i v hi hv=>?_⟩
 ·obtain ⟨v,h1,h2⟩:=e.at_ i hi;exact ⟨v,h1,fun ho=>(h2 ho).same s⟩
 ·obtain ⟨a,o,h1,h2,h3,h4,h5,h6⟩:=e.own i v hi hv;exact ⟨a,o,h1,h2.same s,h3,s _ _ h4,h5,h6⟩
noncomputable def KU (own:Nat->Bool) (σ:L2.St) (H:Hp) (σ':L2.St) (H':Hp):Prop:=∀a o,H a=some o->¬Own own σ a->H' a=some o/\¬Own own σ' a
theorem KU.trans {σ σ1 σ2:L2.St} {H H1 H2:Hp} (a:KU own σ H σ1 H1) (b:KU own σ1 H1 σ2 H2):KU own σ H σ2 H2:=fun c o e n=>let ⟨e1,n1⟩:=a c o e n;b c o e1 n1
theorem KU.same {σ:L2.St} {H H':Hp} (s:bK H H'):KU own σ H σ H':=fun a o e n=>⟨s a o e,n⟩
theorem KU.keep {σ σ':L2.St} {H H':Hp} {ρ:List D} (k:KU own σ H σ' H') (e:ES own H σ ρ):HH (fun a=>¬Own own σ a) H H':=fun a o h hp=>by
 by_cases ho:Own own σ a
 ·obtain ⟨o',h1,h2⟩:=e.live ho;rw [h] at h1;cases h1;rcases hp with hp|hp
  ·exact absurd ho hp
  ·rw [h2] at hp;cases hp
 ·exact (k a o h ho).1
theorem KU.rep {σ σ':L2.St} {H H':Hp} {ρ:List D} (k:KU own σ H σ' H') (e:ES own H σ ρ) {v:V} {d:D} (r:Rep (fun a=>¬Own own σ a) H v d):Rep (fun a=>¬Own own σ' a) H' v d:=by
 refine r.dom.keep (P':=fun a=>¬Own own σ' a) (fun a o h hp=>?_) fun a ⟨h1,h2⟩=>?_
 ·refine k.keep e a o h (hp.imp (fun z=>z.1) id)
 ·cases q:H a with
  | none=>exact absurd q h2
  | some o=>exact (k a o q h1).2
noncomputable def kRt (own:Nat->Bool) (D:Ends) (σ:L2.St) (H:Hp) (d:Mi.D):Prop:=if own rtX=true then ∃d0 ρ',d=.tup (d0::ρ')/\∀v σ' H',KU own σ H σ' H'->ES own H' σ' ρ'->Rep (fun a=>(Own own σ a\/H a=none)/\∀i b xs,ρ'.getD i .uD=.cel b xs->a≠b) H' v d0->D.rt v H'
  else ∀v H',(∀a o,H a=some o->¬Own own σ a->H' a=some o)->Rep (fun a=>Own own σ a\/H a=none) H' v d->D.rt v H'
theorem kRt.old {own:Nat->Bool} {D:Ends} {σ:L2.St} {H:Hp} {d:Mi.D} (h:kRt own D σ H d) (hx:own rtX=false):∀v H',(∀a o,H a=some o->¬Own own σ a->H' a=some o)->Rep (fun a=>Own own σ a\/H a=none) H' v d->D.rt v H':=by
 unfold kRt at h;rw [if_neg (by rw [hx];simp)] at h;exact h
theorem kRt.mk {own:Nat->Bool} {D:Ends} {σ:L2.St} {H:Hp} {d:Mi.D} (hx:own rtX=false) (h:∀v H',(∀a o,H a=some o->¬Own own σ a->H' a=some o)->Rep (fun a=>Own own σ a\/H a=none) H' v d->D.rt v H'):kRt own D σ H d:=by
 unfold kRt;rw [if_neg (by rw [hx];simp)];exact h
noncomputable def kS (own:Nat->Bool) (D:Ends) (σ:L2.St) (H:Hp):Fl->Prop
 | .nx ρ=>∀σ' H',KU own σ H σ' H'->ES own H' σ' ρ->D.nx σ' H'
 | .bk ρ=>∀σ' H',KU own σ H σ' H'->ES own H' σ' ρ->D.bk σ' H'
 | .ct ρ=>∀σ' H',KU own σ H σ' H'->ES own H' σ' ρ->D.ct σ' H'
 | .rt d=>kRt own D σ H d
theorem kS.step {D:Ends} {σ σ':L2.St} {H H':Hp} {fl:Fl} (k:KU own σ H σ' H') (h:kS own D σ H fl):kS own D σ' H' fl:=by
 cases fl with
 | nx ρ=>exact fun σ2 H2 k2 e=>h σ2 H2 (k.trans k2) e
 | bk ρ=>exact fun σ2 H2 k2 e=>h σ2 H2 (k.trans k2) e
 | ct ρ=>exact fun σ2 H2 k2 e=>h σ2 H2 (k.trans k2) e
 | rt d=>
  have old:∀a,(Own own σ' a\/H' a=none)->Own own σ a\/H a=none:=fun a ha=>by
   cases q:H a with
   | none=>exact .inr rfl
   | some o=>
    refine .inl (Classical.byContradiction fun n=>?_);obtain ⟨e1,n1⟩:=k a o q n;rcases ha with ha|ha
    ·exact n1 ha
    ·rw [e1] at ha;cases ha
  have h:kRt own D σ H d:=h;show kRt own D σ' H' d;unfold kRt at h ⊢;by_cases hx:own rtX=true
  ·rw [if_pos hx] at h ⊢;obtain ⟨d0,ρ',e,g⟩:=h;exact ⟨d0,ρ',e,fun v σ2 H2 k2 E2 r=>g v σ2 H2 (k.trans k2) E2 (r.mono fun a ha=>⟨old a ha.1,ha.2⟩)⟩
  ·rw [if_neg hx] at h ⊢;exact fun v H2 hk r=>h v H2 (fun a o e n=>let ⟨e1,n1⟩:=k a o e n;hk a o e1 n1) (r.mono fun a ha=>old a ha)
noncomputable def tS (own:Nat->Bool) (f:FS):TS:=fun D σ H=>∃ρ fl,ES own H σ ρ/\f ρ=.ok fl/\kS own D σ H fl
theorem PS.imp {X:Cx} {st:Stmt} {t t':TS} (h:PS X st t) (i:∀D σ H,t' D σ H->t D σ H):PS X st t':=fun pins s σ H D I q=>h pins s σ H D I (i D σ H q)
theorem PSs.imp {X:Cx} {st:List Stmt} {t t':TS} (h:PSs X st t) (i:∀D σ H,t' D σ H->t D σ H):PSs X st t':=fun pins s σ H D I q=>h pins s σ H D I (i D σ H q)
section
variable {X:Cx} {a b c e:Expr} {pos pos':Pos} {fa fb fc fe:FE} {ra rb rc re:Bool} {ga gb gc:FT} {f g:FS} {st:Stmt} {rest s1 s2:List Stmt}
theorem jH:PSs X [] (tS own uQ):=PSs.imp qC fun D σ H ⟨ρ,fl,E,h,q⟩=>by
 cases h;exact q σ H (fun a o e n=>⟨e,n⟩) E
theorem W4 {D:Ends} {σ:L2.St} {H:Hp} (h:tS own (b8 f g) D σ H):o_ (tS own f) (tS own g) D σ H:=by
 obtain ⟨ρ,fl,E,h,q⟩:=h;obtain ⟨r,h1,h2⟩:=bG h;refine ⟨ρ,r,E,h1,?_⟩;cases r with
 | nx ρ'=>exact fun σ' H' k E'=>⟨ρ',fl,E',h2,q.step k⟩
 | bk ρ'=>cases h2;exact q
 | ct ρ'=>cases h2;exact q
 | rt d=>cases h2;exact q
theorem aL (h1:PS X st (tS own f)) (h2:PSs X rest (tS own g)):PSs X (st::rest) (tS own (b8 f g)):=PSs.imp (bA h1 h2) fun _ _ _=>W4
theorem bU (h1:PS X st (tS own f)):PSs X [st] (tS own f):=cN h1
theorem tL (hc:PT X c (gT gc)) (ha:PSs X s1 (tS own f)) (hb:PSs X s2 (tS own g)):PS X (.If c s1 s2 pos) (tS own (sIf gc f g)):=PS.imp (yX hc ha hb) fun D σ H ⟨ρ,fl,E,h,q⟩=>by
 obtain ⟨k,h1,h2⟩:=bG h;refine ⟨ρ,k,E.er,h1,fun H' s=>?_⟩;cases k with
 | true=>rw [if_pos rfl];rw [if_pos rfl] at h2;exact ⟨ρ,fl,E.same s,h2,q.step (.same s)⟩
 | false=>rw [if_neg (by simp)];rw [if_neg (by simp)] at h2;exact ⟨ρ,fl,E.same s,h2,q.step (.same s)⟩
theorem iQ (he:PE X e (gE fe re)) (hx:own rtX=false:=by rfl):PS X (.Return (some e) pos) (tS own (nZ fe re)):=PS.imp (rZ he) fun D σ H ⟨ρ,fl,E,h,q⟩=>by
 obtain ⟨d,h1,h2⟩:=bG h;split at h2
 ·rename_i hk;cases h2;refine ⟨ρ,d,E.er,h1,fun v H' s r n=>q.old hx v H' (fun a o e _=>s a o e) ?_⟩;rw [Bool.or_eq_true] at hk;rcases hk with hk|hk
  ·exact (n hk).mono fun a ha=>.inr ha
  ·exact r.bH hk
 ·cases h2
theorem IK {i:Nat} {x:Str} (ho:own i=true) (hN:X.N[i]?=some x) (hv:Vis X.env.scope x) (hd:nDb x:=by decide) (hcd:nCd x:=by decide) (hx:own rtX=false:=by rfl):PS X (.Return (some (.Name x pos')) pos) (tS own (HD i)):=
 PS.imp (rZ (aN hN hv hd hcd)) fun D σ H ⟨ρ,fl,E,h,q⟩=>by
 obtain ⟨d,h1,h2⟩:=bG h;cases h2;obtain ⟨v,hv,r,e⟩:=E.er.var h1;obtain ⟨a,o,rfl,r2,hin,_⟩:=E.own i v ho hv;rw [e] at hin;exact ⟨_,hv,q.old hx _ H (fun a o e _=>e) (r.aE2 hin (.inl ⟨i,ho,hv⟩))⟩
theorem jJ {σ:L2.St} {i:Nat} {v:V} (ho:own i=false) (a:Addr):Own own (σ.set i (some v)) a↔Own own σ a:=by
 constructor
 ·rintro ⟨j,hj,e⟩;have:i≠j:=fun z=>by subst z;rw [ho] at hj;cases hj
  rw [List.getElem?_set_ne this] at e;exact ⟨j,hj,e⟩
 ·rintro ⟨j,hj,e⟩;have:i≠j:=fun z=>by subst z;rw [ho] at hj;cases hj
  exact ⟨j,hj,by rw [List.getElem?_set_ne this];exact e⟩
theorem dM {ρ:List D} {i j:Nat} {d:D}:(ρ.set i d).getD j .uD=if i=j/\i<ρ.length then d else ρ.getD j .uD:=by
 rw [List.getD_eq_getElem?_getD,List.getD_eq_getElem?_getD,List.getElem?_set];by_cases h:i=j
 ·subst h;by_cases h2:i<ρ.length
  ·simp [h2]
  ·simp [h2]
 ·simp [h]
theorem ES.set {H:Hp} {σ:L2.St} {ρ:List D} {i:Nat} {v:V} {d:D} (E:ES own H σ ρ) (ho:own i=false) (r:Rep (fun a=>¬Own own σ a) H v d):ES own H (σ.set i (some v)) (ρ.set i d):=by
 have hO:(fun a=>¬Own own (σ.set i (some v)) a)=fun a=>¬Own own σ a:=funext fun a=>by rw [jJ ho]
 refine ⟨by simp [E.len],fun j hj=>?_,fun j w hj hw=>?_⟩
 ·rw [dM] at hj ⊢;rw [hO];by_cases h:i=j/\i<ρ.length
  ·rw [if_pos h];obtain ⟨rfl,hl⟩:=h;exact ⟨v,by rw [List.getElem?_set_self (by rw [E.len];exact hl)],fun _=>r⟩
  ·rw [if_neg h] at hj ⊢;obtain ⟨w,h1,h2⟩:=E.at_ j hj;by_cases hij:i=j
   ·subst hij;have:i<σ.length:=(List.getElem?_eq_some_iff.mp h1).1;rw [E.len] at this;exact absurd ⟨rfl,this⟩ h
   ·exact ⟨w,by rw [List.getElem?_set_ne hij];exact h1,h2⟩
 ·have hij:i≠j:=fun z=>by subst z;rw [ho] at hj;cases hj
  rw [List.getElem?_set_ne hij] at hw;rw [dM,if_neg fun z=>hij z.1];obtain ⟨a,o,h1,h2,h3,h4,h5,h6⟩:=E.own j w hj hw;refine ⟨a,o,h1,h2,h3,h4,h5,fun k hk hs=>h6 k hk ?_⟩;have hik:i≠k:=fun z=>by subst z;rw [ho] at hk;cases hk
  rwa [List.getElem?_set_ne hik] at hs
theorem ES.aGa {H H':Hp} {σ:L2.St} {ρ:List D} {i:Nat} {a:Addr} {o:HO} {d:D} (E:ES own H σ ρ) (s:bK H H') (ho:own i=true) (hn:H a=none) (r:Rep All H' (.ref a) d) (hin:inner d=true) (ha:H' a=some o) (hm:CV o=true) :
  ES own H' (σ.set i (some (.ref a))) (ρ.set i d)/\KU own σ H (σ.set i (some (.ref a))) H':=by
 have hO:∀b,H b≠none->¬Own own σ b->¬Own own (σ.set i (some (.ref a))) b:=fun b hb n ⟨j,hj,e⟩=>by
  by_cases hij:i=j
  ·subst hij;by_cases hl:i<σ.length
   ·rw [List.getElem?_set_self hl] at e;cases e;exact hb hn
   ·rw [List.getElem?_set,if_pos rfl,if_neg hl] at e;cases e
  ·rw [List.getElem?_set_ne hij] at e;exact n ⟨j,hj,e⟩
 refine ⟨⟨by simp [E.len],fun j hj=>?_,fun j w hj hw=>?_⟩,fun b ob e n=>⟨s b ob e,hO b (by rw [e];simp) n⟩⟩
 ·rw [dM] at hj ⊢;by_cases h:i=j/\i<ρ.length
  ·rw [if_pos h];obtain ⟨rfl,hl⟩:=h;exact ⟨.ref a,by rw [List.getElem?_set_self (by rw [E.len];exact hl)],fun z=>by rw [ho] at z;cases z⟩
  ·rw [if_neg h] at hj ⊢;obtain ⟨w,h1,h2⟩:=E.at_ j hj;by_cases hij:i=j
   ·subst hij;have:i<σ.length:=(List.getElem?_eq_some_iff.mp h1).1;rw [E.len] at this;exact absurd ⟨rfl,this⟩ h
   ·exact ⟨w,by rw [List.getElem?_set_ne hij];exact h1,fun hj=>((h2 hj).dom.same s).mono fun b ⟨n,hb⟩=>hO b hb n⟩
 ·by_cases hij:i=j
  ·subst hij;have hl:i<σ.length:=by
    have:=(List.getElem?_eq_some_iff.mp hw).1;simpa using this
   rw [List.getElem?_set_self hl] at hw;cases hw;rw [dM,if_pos ⟨rfl,by rw [<-E.len];exact hl⟩];refine ⟨a,o,rfl,r,hin,ha,hm,fun k hk hs=>?_⟩;by_cases hik:i=k
   ·exact hik.symm
   ·rw [List.getElem?_set_ne hik] at hs;obtain ⟨o',h1,_⟩:=E.live ⟨k,hk,hs⟩;rw [hn] at h1;cases h1
  ·rw [List.getElem?_set_ne hij] at hw;rw [dM,if_neg fun z=>hij z.1];obtain ⟨b,ob,h1,h2,h3,h4,h5,h6⟩:=E.own j w hj hw;refine ⟨b,ob,h1,h2.same s,h3,s _ _ h4,h5,fun k hk hs=>?_⟩;by_cases hik:i=k
   ·subst hik;by_cases hl:i<σ.length
    ·rw [List.getElem?_set_self hl] at hs;cases hs;rw [hn] at h4;cases h4
    ·rw [List.getElem?_set,if_pos rfl,if_neg hl] at hs;cases hs
   ·rw [List.getElem?_set_ne hik] at hs;exact h6 k hk hs
theorem aAv {P:Addr->Prop} {H:Hp} {v:V} {d:D} (r:Rep P H v d) (hin:inner d=true):∃a o,v=.ref a/\P a/\H a=some o/\CV o=true:=by
 cases r with
 | lst e p r=>exact ⟨_,_,rfl,p,e,rfl⟩
 | cel e p r=>exact ⟨_,_,rfl,p,e,rfl⟩
 | dK e p r n=>exact ⟨_,_,rfl,p,e,rfl⟩
 | dT e p r n=>exact ⟨_,_,rfl,p,e,rfl⟩
 | fdK e r n=>cases hin
 | fdT e r n=>cases hin
 | _=>cases hin
theorem W5 {H H':Hp} {σ:L2.St} {ρ:List D} (E:ES own H σ ρ) {v:V} {d:D} (r:Rep (New H) H' v d):Rep (fun a=>¬Own own σ a) H' v d:=r.mono fun a ha ho=>by
 obtain ⟨o,h1,_⟩:=E.live ho;rw [show H a=none from ha] at h1;cases h1
theorem IV {o:Bool} {i:Nat} {D':Ends} {σ:L2.St} {H:Hp} (ho:own i=o) (h:tS own (cT o i fe re) D' σ H):sE (gE fe re) (dZ i) D' σ H:=by
 obtain ⟨ρ,fl,E,h,q⟩:=h;obtain ⟨d,h1,h2⟩:=bG h;cases o with
 | true=>
  simp only [if_true] at h2;split at h2
  ·rename_i hk;cases h2;refine ⟨ρ,d,E.er,h1,fun v H' s r n=>?_⟩;rw [Bool.and_eq_true] at hk;obtain ⟨a,ob,rfl,hn,ha,hm⟩:=aAv (n hk.1) hk.2;obtain ⟨E2,k⟩:=E.aGa s ho hn r hk.2 ha hm;exact q _ H' k E2
  ·cases h2
 | false=>
  simp only [Bool.false_eq_true,if_false] at h2;split at h2
  ·rename_i hk;cases h2;refine ⟨ρ,d,E.er,h1,fun v H' s r n=>?_⟩;rw [Bool.or_eq_true] at hk;have r2:Rep (fun a=>¬Own own σ a) H' v d:=by
    rcases hk with hk|hk
    ·exact W5 E (n hk)
    ·exact r.bH hk
   exact q _ H' (fun a ob e hn=>⟨s a ob e,by rw [jJ ho];exact hn⟩) ((E.same s).set ho r2)
  ·cases h2
theorem cF {i:Nat} {x:Str} {o:Bool} (ho:own i=o) (hN:X.N.Nodup) (hi:X.N[i]?=some x) (hx:Loc X.env.scope x) (he:PE X e (gE fe re)) (hs:swapsWith e (some (.Name x pos')) pos.line X.env=pure false:=by rfl) (hf:X.fn x=true\/X.env.scope.names.lookup x=some .local:=by first|exact .inl rfl|exact .inr rfl|assumption) :
  PS X (.Assign [.Name x pos'] e pos) (tS own (cT o i fe re)):=PS.imp (DW hN hi hx he hs hf) fun _ _ _=>IV ho
theorem ES.mut {H:Hp} {σ:L2.St} {ρ:List D} {i:Nat} {a:Addr} {o:HO} {d:D} (E:ES own H σ ρ) (ho:own i=true) (hi:σ[i]?=some (some (.ref a))) (hm:CV o=true) (r:Rep All (upd H a o) (.ref a) d) (hin:inner d=true) :
  ES own (upd H a o) σ (ρ.set i d)/\KU own σ H σ (upd H a o):=by
 have hOa:Own own σ a:=⟨i,ho,hi⟩
 obtain ⟨a',oa,ea,_,_,hHa,hma,huq⟩:=E.own i _ ho hi;cases ea;have k:KU own σ H σ (upd H a o):=fun b ob e n=>⟨by rw [aJ (fun z=>by subst z;exact n hOa)];exact e,n⟩
 have hl:i<ρ.length:=by rw [<-E.len];exact (List.getElem?_eq_some_iff.mp hi).1
 refine ⟨⟨by simp [E.len],fun j hj=>?_,fun j w hj hw=>?_⟩,k⟩
 ·rw [dM] at hj ⊢;by_cases h:i=j/\i<ρ.length
  ·obtain ⟨rfl,_⟩:=h;exact ⟨_,hi,fun z=>by rw [ho] at z;cases z⟩
  ·rw [if_neg h] at hj ⊢;obtain ⟨w,h1,h2⟩:=E.at_ j hj;exact ⟨w,h1,fun hj=>k.rep E (h2 hj)⟩
 ·by_cases hij:i=j
  ·subst hij;rw [hi] at hw;cases hw;rw [dM,if_pos ⟨rfl,hl⟩];exact ⟨a,o,rfl,r,hin,aC,hm,huq⟩
  ·rw [dM,if_neg fun z=>hij z.1];obtain ⟨b,ob,h1,h2,h3,h4,h5,h6⟩:=E.own j w hj hw;subst h1;have hba:b≠a:=fun z=>by subst z;exact hij (h6 i ho hi)
   refine ⟨b,ob,rfl,?_,h3,by rw [aJ hba];exact h4,h5,h6⟩;refine (h2.aE2 (P':=fun c=>c=b) h3 rfl).keep (fun c oc hc hp=>?_) fun _ _=>trivial
   rw [aJ]
   ·exact hc
   ·intro z;subst z;rcases hp with hp|hp
    ·exact hba hp.symm
    ·rw [hHa] at hc;cases hc;rw [hma] at hp;cases hp
theorem ES.ownAt {H:Hp} {σ:L2.St} {ρ:List D} {i:Nat} (E:ES own H σ ρ) (ho:own i=true) (hd:ρ.getD i .uD≠.uD):∃a o,σ[i]?=some (some (.ref a))/\Rep All H (.ref a) (ρ.getD i .uD)/\inner (ρ.getD i .uD)=true/\H a=some o/\CV o=true:=by
 obtain ⟨v,h1,_⟩:=E.at_ i hd;obtain ⟨a,o,rfl,h2,h3,h4,h5,_⟩:=E.own i v ho h1;exact ⟨a,o,h1,h2,h3,h4,h5⟩
theorem IW {H:Hp} {a:Addr} {xs:List D} (r:Rep All H (.ref a) (.lst xs)):∃vs,H a=some (.lst vs)/\aW All H vs xs:=by
 cases r with
 | lst e _ r=>exact ⟨_,e,r⟩
theorem aW.upd {H:Hp} {a:Addr} {vs:List V} {xs:List D} {o:HO} {ob:HO} (r:aW All H vs xs) (hp:D.aG xs=true) (ha:H a=some ob) (hm:CV ob=true):aW All (upd H a o) vs xs:=by
 refine (r.bH (P':=fun _=>False) hp).keep (fun c oc hc h=>?_) fun _ h=>h.elim
 rw [aJ]
 ·exact hc
 ·intro z;subst z;rcases h with h|h
  ·exact h
  ·rw [ha] at hc;cases hc;rw [hm] at h;cases h
theorem gP {xs ys:List D}:D.aG (xs++ys)=(D.aG xs&&D.aG ys):=by
 induction xs with
 | nil=>simp [D.aG]
 | cons x xs ih=>rw [List.cons_append,D.aG,D.aG,ih,Bool.and_assoc]
theorem I_ {i:Nat} {x:Str} {p1 apos cpos:Pos} (ho:own i=true) (hN:X.N[i]?=some x) (hv:Vis X.env.scope x) (he:PE X e (gE fe re)) (hd:nDb x:=by decide) (hcd:nCd x:=by decide)
  (hbase:attributeBase (.Name x p1) "append" X.env (eval (.Name x p1) X.env)=eval (.Name x p1) X.env:=by rfl)
  (hs1:starEach [e] X.env=(false,eval e X.env)::starEach [] X.env:=by rfl)
  (hfew:((backTo cpos (starEach [e] X.env)).all (fun x=>!x.1)&&(backToKw cpos (keywordEach [] X.env)).all (fun x=>x.1.isSome)
   && decide (([e]:List Expr).length+([]:List Keyword).length+(if ([]:List Keyword).isEmpty then 0 else 1)<30))=true:=by rfl)
  (hline:(apos.endLine==cpos.line)=true:=by rfl)
  (hs:swapsWith (.Call (.Attribute (.Name x p1) "append" apos) [e] [] cpos) none pos.line X.env=pure false:=by rfl) :
  PS X (.Expr (.Call (.Attribute (.Name x p1) "append" apos) [e] [] cpos) pos) (tS own (PJ i fe)):=
 PS.imp (jB (zO PySem.F.plainAttrs_list PySem.F.slot_list_append PySem.F.type_list_append jD (aN hN hv hd hcd) (bI he dF hs1) hbase hfew hline hs1 rfl) hs) fun D' σ H ⟨ρ,fl,E,h,q⟩=>by
 obtain ⟨d,h1,h2⟩:=bG h;split at h2
 ·rename_i xs hx;split at h2
  ·rename_i hk;cases h2;rw [Bool.and_eq_true] at hk;obtain ⟨a,o,hσ,r,hin,ha,hm⟩:=E.ownAt ho (by rw [hx];intro z;cases z);rw [hx] at r hin;obtain ⟨vs,hl,rr⟩:=IW r;refine ⟨_,hσ,.inl ⟨rfl,vs,.of hl⟩,ρ,d,E.er,h1,fun v H' s rv _=>⟨a,vs,v,rfl,rfl,s _ _ hl,by rw [rr.length];exact TV hk.1,?_⟩⟩;have E':=E.same s;have hl':=s _ _ hl;obtain ⟨E2,k2⟩:=E'.mut (o:=.lst (vs++[v])) (d:=.lst (xs++[d])) ho hσ rfl (.lst aC trivial (((rr.same s).snoc rv).upd (by rw [gP];simp only [Bool.and_eq_true];exact ⟨hin,by simp [D.aG,hk.2]⟩) hl' rfl)) (by show D.aG (xs++[d])=true;rw [gP];simp only [Bool.and_eq_true];exact ⟨hin,by simp [D.aG,hk.2]⟩);exact q _ _ ((KU.same s).trans k2) E2
  ·cases h2
 ·cases h2
end
end Mi
end
section
namespace L2
open PySem PySem.Spec PyProof.Rows
section
variable {X:Cx} {scope:Scope} {own:List Str}
theorem QF {y:Str} {py:Pos} {iy:Nat} (hNn:X.N.Nodup) (hiy:X.N[iy]?=some y) (hxy:Loc X.env.scope y) (hfy:X.fn y=true\/X.env.scope.names.lookup y=some .local) {pins:List (Addr×Obj)} {σ:St} {D:Ends} {p C:Addr} {H5:Hp} {s6:Shared} {m6:Str->Option Value} (f:Inv X pins σ H5 s6) (k:CT X pins H5 C) (n:s6.heap.Ns C m6) (q:dZ iy (.ref p) σ H5 D.nx):compPost (model X.prog X.w) X.A X.xe (some (assign (.Name y py) X.env)) (fun _ s'=>SP X pins D .next s') (.ref p) C (.ok .next) s6:=by
 obtain ⟨oC,esC,epC,hoC,hdC,_⟩:=id n;have finP:=f.uY (pins':=pins++[(C,oC)]) fun p hp=>(List.mem_append.mp hp).elim (fun z=>f.pin p (List.mem_append_right _ z)) fun z=>by
  have z':p=(C,oC):=by simpa using z
  subst z';exact ⟨hoC,k.1,k.2.1,k.2.2.1,fun v z=>by rw [hdC] at z;cases z⟩
 refine thn (aV (pos:=py) hNn hiy hxy hfy _ _ σ H5 (.ref p) (.ref p) D.nx finP rfl q) fun _ s7 ⟨σ7,H7,I7,q7⟩=>?_
 obtain ⟨g7,hC7,_⟩:=I7.pin (C,oC) (List.mem_append_right _ (List.mem_append_right _ (by simp)));refine ⟨m6,n.at' fun o e=>?_,fun h' sb=>⟨σ7,H7,Inv.turned (t':=s7.toks) I7.lC (fun b o hb e=>sb.extBut b o hb e) hC7 k.2.1 k.2.2.2.1 k.2.2.2.2.1 k.2.2.2.2.2,q7⟩⟩;rw [hoC] at e;cases e;exact g7
theorem aE3 {elt iter tg:Expr} {ifs:List Expr} {wi:TI} {g:TG} {tc:TT} {te:TE} {pos:Pos} (S:cU X.N X.env.scope scope own) (hcalm:X.calm=true) (hi:PI X tg iter wi)
  (hg:∀X',d_ X X' scope own->PG X' tg g) (hc:(ifs=[]/\tc=fun _ H Q=>Q true H)\/∃c,ifs=[c]/\∀X',d_ X X' scope own->PT X' c tc) (he:∀X',d_ X X' scope own->PE X' elt te)
  (hs:∀x,foldedSetIterable iter X.env x=pure x) {y:Str} {py pos2:Pos} {iy:Nat} (hNn:X.N.Nodup) (hiy:X.N[iy]?=some y) (hxy:Loc X.env.scope y) (hfy:X.fn y=true\/X.env.scope.names.lookup y=some .local) (hsw:swapsWith (.ListComp elt [⟨tg,iter,ifs,0⟩] scope pos) (some (.Name y py)) pos2.line X.env=pure true):PS X (.Assign [.Name y py] (.ListComp elt [⟨tg,iter,ifs,0⟩] scope pos) pos2) (sE (zV wi g tc te own.length) (dZ iy)):=by
 intro pins s σ H D I h;rw [exec_Assign_Name_used _ _ _ _ hsw];refine wpAny_bind (wpAny_standAt (wpAny_bind ?_));show wpAny _ X.A (do let _ <- comprehension (.ListComp elt [⟨tg,iter,ifs,0⟩] scope pos) scope X.env _ (newList []) false (eval iter X.env) (some (assign (.Name y py) X.env))) _ _ s;exact wpAny_bind (wpAny_mono (HQ (QQ:=fun _ s'=>SP X pins D .next s') S hcalm hi hg hc he hs I h (QF hNn hiy hxy hfy)) (fun _ s' hq=>wpAny_pure (wpAny_pure hq)) fun _ _ e=>e)
theorem xN {elt iter tg:Expr} {wi:TI} {g:TG} {te:TE} {pos:Pos} (S:cU X.N X.env.scope scope own) (hcalm:X.calm=true) (hi:PI X tg iter wi)
  (hg:∀X',d_ X X' scope own->PG X' tg g) (he:∀X',d_ X X' scope own->PE X' elt te)
  (hs:∀x,foldedSetIterable iter X.env x=pure x) {y:Str} {py pos2:Pos} {iy:Nat} (hNn:X.N.Nodup) (hiy:X.N[iy]?=some y) (hxy:Loc X.env.scope y) (hfy:X.fn y=true\/X.env.scope.names.lookup y=some .local) (hsw:swapsWith (.ListComp elt [⟨tg,iter,[],0⟩] scope pos) (some (.Name y py)) pos2.line X.env=pure true):PS X (.Assign [.Name y py] (.ListComp elt [⟨tg,iter,[],0⟩] scope pos) pos2) (sE (zV wi g (fun _ H Q=>Q true H) te own.length) (dZ iy)):=
 aE3 S hcalm hi hg (.inl ⟨rfl,rfl⟩) he hs hNn hiy hxy hfy hsw
end
end L2
end
section
namespace Mi
open PySem L2 PySem.SeqAt PySem.Spec PyProof.Rows
variable [KFrag]
variable {own:Nat->Bool}
section
variable {X:Cx} {a b c e:Expr} {pos pos':Pos} {fa fb fc fe:FE} {ra rb rc re:Bool} {ga gb gc:FT} {f g:FS} {st:Stmt} {rest s1 s2:List Stmt}
variable {scope:Scope} {ownN:List Str} {elt iter tg:Expr} {it:FI} {t:D->Res (List D)} {gt:TG}
theorem W6 {n m:Nat} {y:Str} {py pos2:Pos} {iy:Nat} {o:Bool} (S:cU X.N X.env.scope scope ownN) (hn:X.N.length=n) (hm:ownN.length=m) (hcalm:X.calm=true) (hi:PI X tg iter (gI X.K it)) (ht:TgC gt t n m) (hg:∀X',d_ X X' scope ownN->PG X' tg gt) (he:∀X',d_ X X' scope ownN->PE X' elt (gE fe re))
  (hs:∀x,foldedSetIterable iter X.env x=pure x) (ho:own iy=o) (hNn:X.N.Nodup) (hiy:X.N[iy]?=some y) (hxy:Loc X.env.scope y) (hfy:X.fn y=true\/X.env.scope.names.lookup y=some .local) (hsw:swapsWith (.ListComp elt [⟨tg,iter,[],0⟩] scope pos) (some (.Name y py)) pos2.line X.env=pure true) :
  PS X (.Assign [.Name y py] (.ListComp elt [⟨tg,iter,[],0⟩] scope pos) pos2) (tS own (cT o iy (dI n it t dW fe re) true)):=by
 intro pins s σ H D I h;subst hm;refine xN S hcalm hi hg he hs hNn hiy hxy hfy hsw pins s σ H D I ?_;exact tK ht (fun σ H Q h=>by obtain ⟨ρ,b,E,h,q⟩:=h;cases h;exact q H (bK.refl H)) (I.len.trans hn) (IV ho h)
theorem qP {κ:Type} [DecidableEq κ] {p:κ×V} {r:List (κ×V)} {k:κ} {v:V} (e:p.1=k) (h:k∉r.map (·.1)):putK (p::r) k v=(k,v)::r:=by
 unfold putK;rw [if_pos (by simp [e]),List.map_cons,if_pos e,e]
 congr 1
 have:∀q∈r,(fun kv:κ×V=>if kv.1=k then (kv.1,v) else kv) q=id q:=fun q hq=>by
  have:q.1≠k:=fun z=>h (List.mem_map.mpr ⟨q,hq,z⟩)
  simp [this]
 rw [List.map_congr_left this,List.map_id]
theorem qQ {κ:Type} [DecidableEq κ] {p:κ×V} {r:List (κ×V)} {k:κ} {v:V} (e:¬p.1=k):putK (p::r) k v=p::putK r k v:=by
 unfold putK;rw [List.any_cons,decide_eq_false e,Bool.false_or];split
 ·rw [List.map_cons,if_neg e]
 ·rfl
theorem fO {κ:Type} [DecidableEq κ] {k:κ} {v:V}:∀{kvs:List (κ×V)},(kvs.map (·.1)).Nodup->((putK kvs k v).map (·.1)).Nodup:=fun {kvs} h=>by
 by_cases hk:pL kvs k=none
 ·exact WK v h hk
 ·unfold putK;rw [if_pos (by rw [lG];exact Option.isSome_iff_ne_none.mpr hk),List.map_map];have:(fun x:κ×V=>x.1) ∘ (fun kv:κ×V=>if kv.1=k then (kv.1,v) else kv)=fun x=>x.1:=by
   funext q
   simp only [Function.comp];split <;> rfl
  rw [this];exact h
theorem qR {P:Addr->Prop} {H:Hp} {k:Key} {v:V} {d:D} (rv:Rep P H v d):∀{kvs:List (Key×V)} {ds:List (D×D)},dD P H kvs ds->(kvs.map (·.1)).Nodup->dD P H (putK kvs k v) (putD ds (kD k) d)
 | _,_,.nil,_=>.cons rv .nil
 | _,_,.cons (k:=k') (v:=v') (r:=rs) r t,hn=>by
  rw [List.map_cons] at hn;obtain ⟨h1,h2⟩:=List.nodup_cons.mp hn;rw [putD,HR];by_cases h:k'=k
  ·subst h;rw [if_pos (by simp),qP rfl h1];exact .cons rv t
  ·rw [if_neg (by simpa using h),qQ (p:=(k',v')) h];exact .cons r (qR rv t h2)
theorem m7 {P:Addr->Prop} {H:Hp} {k:List Key} {v:V} {d:D} (rv:Rep P H v d):∀{kvs:List (List Key×V)} {ds:List (D×D)},iY P H kvs ds->(kvs.map (·.1)).Nodup->iY P H (putK kvs k v) (putD ds (.tup (k.map kD)) d)
 | _,_,.nil,_=>.cons rv .nil
 | _,_,.cons (k:=k') (v:=v') (r:=rs) r t,hn=>by
  rw [List.map_cons] at hn;obtain ⟨h1,h2⟩:=List.nodup_cons.mp hn;rw [putD,WT];by_cases h:k'=k
  ·subst h;rw [if_pos (by simp),qP rfl h1];exact .cons rv t
  ·rw [if_neg (by simpa using h),qQ (p:=(k',v')) h];exact .cons r (m7 rv t h2)
theorem dD.length {P:Addr->Prop} {H:Hp}:∀{kvs:List (Key×V)} {ds:List (D×D)},dD P H kvs ds->kvs.length=ds.length
 | _,_,.nil=>rfl
 | _,_,.cons _ t=>by rw [List.length_cons,List.length_cons,dD.length t]
theorem iY.length {P:Addr->Prop} {H:Hp}:∀{kvs:List (List Key×V)} {ds:List (D×D)},iY P H kvs ds->kvs.length=ds.length
 | _,_,.nil=>rfl
 | _,_,.cons _ t=>by rw [List.length_cons,List.length_cons,iY.length t]
theorem oE {H:Hp} {a:Addr} {o ob:HO} (ha:H a=some ob) (hm:CV ob=true):HH (fun _=>False) H (L2.upd H a o):=fun c oc hc h=>by
 rw [aJ]
 ·exact hc
 ·intro z;subst z;rcases h with h|h
  ·exact h.elim
  ·rw [ha] at hc;cases hc;rw [hm] at h;cases h
theorem gQ {d:D} {k:D} (hd:d.pure=true):∀{ds:List (D×D)},D.aG (ds.map (·.2))=true->D.aG ((putD ds k d).map (·.2))=true
 | [],_=>by simp [putD,D.aG,hd]
 | (q,w)::r,h=>by
  rw [List.map_cons,D.aG,Bool.and_eq_true] at h;rw [putD];split
  ·rw [List.map_cons,D.aG,Bool.and_eq_true];exact ⟨hd,h.2⟩
  ·rw [List.map_cons,D.aG,Bool.and_eq_true];exact ⟨h.1,gQ hd h.2⟩
theorem aE4 {pins:List (Addr×Obj)} {s:Shared} {σ:L2.St} {H:Hp} {ad:Addr} {y v:V} {ds:List (D×D)} {k d:D} (I:Inv X pins σ H s) (rd:Rep All H (.ref ad) (.dct ds)) (hin:D.aG (ds.map (·.2))=true) (rk:Rep All H y k) (hk:rT ds k=true) (hl:ds.length<sizeLine) (rv:Rep All H v d) (hd:d.pure=true) :
  ∃H1 o,Inv X pins σ H1 s/\S_ H1 ad y v (L2.upd H ad o)/\CV o=true/\Rep All (L2.upd H ad o) (.ref ad) (.dct (putD ds k d)):=by
 unfold rT at hk;rw [Bool.and_eq_true] at hk;obtain ⟨h1,h2⟩:=hk;have rv':Rep (fun _=>False) H v d:=rv.bH hd;cases rd with
 | @dK _ kvs ds e _ r n=>
  have hlen:=r.length;rcases fK h1 rk with ⟨q,rfl,rfl⟩|⟨b,ks,rfl,eb,rfl⟩
  ·refine ⟨H,.dK (putK kvs q v),I,.k e (by lia),rfl,.dK aC trivial ?_ (fO n)⟩;exact (qR rv' (r.bH hin) n).keep (oE e rfl) fun _ z=>z.elim
  ·cases r with
   | nil=>
    refine ⟨L2.upd H ad (.dT []),.dT (putK [] ks v),jX I e,?_,rfl,.dT aC trivial ?_ (fO List.nodup_nil)⟩
    ·have:=S_.t (H:=L2.upd H ad (.dT [])) (a:=ad) (b:=b) (kvs:=[]) (k:=ks) (v:=v) aC (by rw [aJ (k_ eb e (by intro z;cases z))];exact eb) hl;rwa [uW] at this
    ·exact (m7 (k:=ks) rv' .nil List.nodup_nil).keep (oE e rfl) fun _ z=>z.elim
   | cons r t=>
    rw [List.all_cons,jW] at h2;simp [isTup] at h2
 | @dT _ kvs ds e _ r n=>
  have hlen:=r.length;rcases fK h1 rk with ⟨q,rfl,rfl⟩|⟨b,ks,rfl,eb,rfl⟩
  ·cases r with
   | nil=>
    refine ⟨L2.upd H ad (.dK []),.dK (putK [] q v),gK I e,?_,rfl,.dK aC trivial ?_ (fO List.nodup_nil)⟩
    ·have:=S_.k (H:=L2.upd H ad (.dK [])) (a:=ad) (kvs:=[]) (k:=q) (v:=v) aC hl;rwa [uW] at this
    ·exact (qR (k:=q) rv' .nil List.nodup_nil).keep (oE e rfl) fun _ z=>z.elim
   | cons r t=>
    rw [List.all_cons,jW] at h2;simp [isTup] at h2
  ·refine ⟨H,.dT (putK kvs ks v),I,.t e eb (by lia),rfl,.dT aC trivial ?_ (fO n)⟩;exact (m7 rv' (r.bH hin) n).keep (oE e rfl) fun _ z=>z.elim
theorem T5 {i:Nat} {x:Str} {p1:Pos} {value k:Expr} {fv fk:FE} {rv rk:Bool} (hu:X.A.units+20<cLine) (ho:own i=true) (hN:X.N[i]?=some x) (hvi:Vis X.env.scope x) (hk:PE X k (gE fk rk)) (hv:PE X value (gE fv rv))
  (hs:swapsWith value (some (.Subscript (.Name x p1) k pos')) pos.line X.env=pure false:=by rfl) (hd:nDb x:=by decide) (hcd:nCd x:=by decide) :
  PS X (.Assign [.Subscript (.Name x p1) k pos'] value pos) (tS own (WM i fk fv)):=by
 intro pins s σ H D' I ⟨ρ,fl,E,h,q⟩;obtain ⟨d,h0,h⟩:=bG h;obtain ⟨kd,h1,h2⟩:=bG h;split at h2
 ·rename_i kvs hx;split at h2
  ·rename_i hg;cases h2;simp only [Bool.and_eq_true] at hg;obtain ⟨⟨hg1,hg2⟩,hg3⟩:=hg;obtain ⟨a,o,hσ,r,hin,ha,hm⟩:=E.ownAt ho (by rw [hx];intro z;cases z);rw [hx] at r hin;refine wpAny_Assign_Subscript (thn (hv pins s σ H (fun v H1=>bK H H1/\Rep All H1 v d) I ⟨ρ,d,E.er,h0,fun v H1 s1 r1 _=>⟨s1,r1⟩⟩) fun rr s1 ⟨v,H1,I1,rv1,sm1,rp1⟩=>
    thn (aN hN hvi hd hcd pins s1 σ H1 (fun w H2=>w=.ref a/\H2=H1) I1 ⟨_,hσ,rfl,rfl⟩) fun u s2 ⟨xx,H2,I2,rx,ex,eH⟩=>
    thn (hk pins s2 σ H2 (fun w H3=>bK H2 H3/\Rep All H3 w kd) I2 ⟨ρ,kd,by rw [eH];exact E.er.same sm1,h1,fun v H1 s1 r1 _=>⟨s1,r1⟩⟩) fun iv s3 ⟨y,H3,I3,ry,sm3,rp3⟩=>?_) hs
   subst ex eH;obtain rfl:u=Value.ref a:=rx;have sm:=sm1.trans sm3;obtain ⟨H4,o4,I4,g,hmo,rp⟩:=aE4 I3 (r.same sm) hin rp3 hg2 (TV hg1) (rp1.same sm3) hg3;obtain ⟨E2,k2⟩:=(E.same sm).mut ho hσ hmo rp (gQ hg3 hin);exact G3 (by lia) I4 g ry rv1 fun s4 I5=>⟨σ,_,I5,q _ _ ((KU.same sm).trans k2) E2⟩
  ·cases h2
 ·cases h2
noncomputable def TgS (own:Nat->Bool) (g:TG) (t:D->List D->Res (List D)):Prop:=∀(v:V) (d:D) (ρ ρ':List D) (σ:L2.St) (H:Hp) (Q:L2.St->Hp->Prop),ES own H σ ρ->Rep (fun a=>¬Own own σ a) H v d->t d ρ=.ok ρ'->
 (∀σ',ES own H σ' ρ'->(∀a,Own own σ' a↔Own own σ a)->Q σ' H)->g v σ H Q
theorem oF {i:Nat} (ho:own i=false):TgS own (dZ i) (tg1 i):=fun v d ρ ρ' σ H Q E r h q=>by
 cases h;exact q _ (E.set ho r) fun a=>jJ ho a
theorem ES.sets {H:Hp}:∀{is:List Nat} {vs:List V} {ds:List D} {σ:L2.St} {ρ:List D},(∀i∈is,own i=false)->ES own H σ ρ->aW (fun a=>¬Own own σ a) H vs ds->ES own H (z7 is vs σ) (HF is ds ρ)/\∀a,Own own (z7 is vs σ) a↔Own own σ a
 | [],_,_,_,_,_,E,_=>by simp only [z7,HF];exact ⟨E,fun _=>trivial⟩
 | i::is,_,_,σ,ρ,h,E,.nil=>by simp only [z7,HF];exact ⟨E,fun _=>trivial⟩
 | i::is,_,_,σ,ρ,h,E,.cons (v:=v) r t=>by
  have ho:=h i (List.mem_cons_self ..);have hO:(fun a=>¬Own own (σ.set i (some v)) a)=fun a=>¬Own own σ a:=funext fun a=>by rw [jJ ho]
  obtain ⟨h1,h2⟩:=ES.sets (is:=is) (fun j hj=>h j (List.mem_cons_of_mem _ hj)) (E.set ho r) (by rw [hO];exact t);exact ⟨h1,fun a=>(h2 a).trans (jJ ho a)⟩
theorem JB (K:PySem.W.Frag) {is:List Nat} (ho:∀i∈is,own i=false):TgS own (aCx K is.length (gIx is)) (tgN is):=fun v d ρ ρ' σ H Q E r h q=>by
 cases d <;> simp only [tgN] at h <;> (try (cases h;done))
 split at h
 ·rename_i hl;cases h;have hl':=of_decide_eq_true hl;obtain ⟨a,xs,rfl,e,rr⟩:=r.dC;obtain ⟨h1,h2⟩:=E.sets ho rr;exact ⟨a,xs,rfl,.of e,by rw [rr.length];exact hl',H_ _ _ _ (by rw [rr.length];exact hl') (q _ h1 h2)⟩
 ·cases h
theorem ItQ.ku {K:PySem.W.Frag} {J:It} {items:List D} {σ σ':L2.St} {H H':Hp} {ρ:List D} (h:ItQ K (fun a=>¬Own own σ a) J H items) (k:KU own σ H σ' H') (E:ES own H σ ρ):ItQ K (fun a=>¬Own own σ' a) J H' items:=by
 cases h with
 | lst a e r=>exact .lst a e (k.rep E r)
 | tup a e r=>exact .tup a e (k.rep E r)
 | rng lo n e r=>exact .rng lo n e r
 | chs x e r=>exact .chs x e r
 | enm a ds e r h=>exact .enm a ds e (k.rep E r) h
 | enf m a ds e r h=>exact .enf m a ds e (k.rep E r) h
 | zip a b ds es e r q n h=>exact .zip a b ds es e (k.rep E r) (k.rep E q) n h
 | rev a ds e r h=>exact .rev a ds e (k.rep E r) h
 | scr a hK e r=>exact .scr a hK e (k.rep E r)
theorem xO {K:PySem.W.Frag} {g:TG} {t:D->List D->Res (List D)} {body:FS} {D':Ends} {J:It} {items:List D} {σ:L2.St} {H1:Hp} {ρ:List D} {fl:Fl} (tg:TgS own g t) (E:ES own H1 σ ρ) (hJ:ItQ K (fun a=>¬Own own σ a) J H1 items) (hf:sY t body items ρ=.ok fl) (q:kS own D' σ H1 fl) :
  ∃W:Nat->Nat->L2.St->Hp->Prop,(∃m,W 0 m σ H1)/\∀i m σ H,W i m σ H->
   (J.stop i H/\D'.nx σ H)\/(J.go i H/\∃N:L2.St->Hp->Prop,(∀σ' H',N σ' H'->∃m',m'<m/\W (i+1) m' σ' H')/\∀x H',J.yld i H x H'->g x σ H' fun σ2 H2=>tS own body {D' with nx:=N,ct:=N,bk:=D'.nx} σ2 H2):=by
 refine ⟨fun i m σ' H'=>m=items.length-i/\i<=items.length/\ItQ K (fun a=>¬Own own σ' a) J H' items/\∃ρ',ES own H' σ' ρ'/\sY t body (items.drop i) ρ'=.ok fl/\kS own D' σ' H' fl,⟨items.length,rfl,Nat.zero_le _,hJ,ρ,E,hf,q⟩,?_⟩;rintro i m σ' H' ⟨rfl,hi,hJ',ρ',E',hf',q'⟩;rcases Nat.lt_or_ge i items.length with hlt|hge
 ·refine .inr ?_;have e:items[i]?=some items[i]:=List.getElem?_eq_getElem hlt;obtain ⟨g1,g2⟩:=hJ'.go e;rw [List.drop_eq_getElem_cons hlt] at hf';obtain ⟨ρ1,h1,hf2⟩:=bG hf';obtain ⟨r,h2,hf3⟩:=bG hf2;refine ⟨g1,fun σ2 H2=>ItQ K (fun a=>¬Own own σ2 a) J H2 items/\∃ρ',ES own H2 σ2 ρ'/\sY t body (items.drop (i+1)) ρ'=.ok fl/\kS own D' σ2 H2 fl,fun σ2 H2 ⟨n1,n2⟩=>⟨items.length-(i+1),by lia,rfl,hlt,n1,n2⟩,fun x H2 hy=>?_⟩;obtain ⟨sH,rx⟩:=g2 x H2 hy;have ks:KU own σ' H' σ' H2:=fun a o e n=>⟨sH a o e,n⟩
  have hJ':=hJ'.ku ks E';have q':=q'.step ks;have E':=E'.same sH;refine tg x items[i] ρ' ρ1 σ' H2 _ E' rx h1 fun σ2 E2 hO=>?_
  have k0:KU own σ' H2 σ2 H2:=fun a o e n=>⟨e,by rw [hO];exact n⟩
  have hJ2:=hJ'.ku k0 E';have q2:=q'.step k0;refine ⟨ρ1,r,E2,h2,?_⟩;cases r with
  | nx ρ2=>exact fun σ3 H3 k3 E3=>⟨hJ2.ku k3 E2,ρ2,E3,hf3,q2.step k3⟩
  | ct ρ2=>exact fun σ3 H3 k3 E3=>⟨hJ2.ku k3 E2,ρ2,E3,hf3,q2.step k3⟩
  | bk ρ2=>cases hf3;exact fun σ3 H3 k3 E3=>q2 σ3 H3 k3 E3
  | rt d=>cases hf3;exact q2
 ·refine .inl ⟨hJ'.stop hge,?_⟩;rw [List.drop_eq_nil_of_le hge] at hf';cases hf';exact q' σ' H' (fun a o e n=>⟨e,n⟩) E'
theorem pO {tg iter:Expr} {body:List Stmt} {g:TG} {t:D->List D->Res (List D)} {it:FI} {fb:FS} (hp:PassesOwn (model X.prog X.w) X.A X.env X.xe) (hc:X.calm=true) (hi:PI X tg iter (gI X.K it)) (ht:TgS own g t) (hg:PG X tg g) (hb:PSs X body (tS own fb))
  (hs:∀x,foldedSetIterable iter X.env x=pure x:=by intro _;rfl):PS X (.For tg iter body [] pos) (tS own (zT it t fb)):=PS.imp (FJ hp hc hi hg hb hs) fun D' σ H ⟨ρ,fl,E,h,q⟩=>by
 obtain ⟨⟨items,k⟩,h1,h2⟩:=bG h;split at h2
 ·rename_i hk;exact ⟨ρ,items,k,E.er,h1,fun J H1 s1 _ hJ=>xO ht (E.same s1) ((hJ hk).keep (fun _ _ e _=>e) fun a ha ho=>by
   obtain ⟨o,e1,_⟩:=E.live ho;rw [show H a=none from ha] at e1;cases e1) h2 (q.step (.same s1))⟩
 ·cases h2
theorem QG {own:Nat->Bool} {N ps:List Str} {vs:List V} {ds:List D} {H:Hp} (hst:start N vs=vs.map some++List.replicate (N.length-ps.length) none) (hl:ds.length=ps.length) (r:aW All H vs ds) (hown:∀i,i<ps.length->own i=false) (noown:∀a,¬Own own (start N vs) a):ES own H (start N vs) (ds++List.replicate (N.length-ps.length) .uD):=by
 refine ⟨by rw [hst];simp [r.length],fun i hi=>?_,fun i v hi hv=>?_⟩
 ·have hlt:i<ds.length:=Nat.lt_of_not_le fun hge=>hi (by
   rw [List.getD_eq_getElem?_getD,List.getElem?_append_right hge,List.getElem?_replicate];split <;> rfl)
  have e:(ds++List.replicate (N.length-ps.length) D.uD).getD i .uD=ds[i]:=by
   rw [List.getD_eq_getElem?_getD,List.getElem?_append_left hlt,List.getElem?_eq_getElem hlt];rfl
  obtain ⟨v,g1,g2⟩:=r.get (i:=i) (d:=ds[i]) (by simp [hlt]);refine ⟨v,by rw [hst,List.getElem?_append_left (by simp [r.length,hlt])];simp [g1],fun _=>?_⟩;rw [e];exact g2.mono fun a _=>noown a
 ·exfalso;rw [hst] at hv;by_cases h:i<ps.length
  ·rw [hown i h] at hi;cases hi
  ·rw [List.getElem?_append_right (by simp [r.length,hl];lia)] at hv;rw [List.getElem?_replicate] at hv;split at hv <;> cases hv
theorem W7 {own:Nat->Bool} {N ps:List Str} {f:FS} {vs:List V} {H:Hp} {Q:VK} {E:XK} (hx:own rtX=false) (hown:∀i,i<ps.length->own i=false) (h0:spD (fnS ps.length N.length f) ps.length vs H Q E):tS own f {nx:=fun _ H'=>Q .non H',rt:=Q} (start N vs) H:=by
 obtain ⟨ds,d,hl,r,h,q⟩:=h0
 ·obtain ⟨fl,h1,h2⟩:=bG h;have hst:start N vs=vs.map some++List.replicate (N.length-ps.length) none:=by
   show vs.map some++List.replicate (N.length-vs.length) none=_;rw [r.length,hl]
  have noown:∀a,¬Own own (start N vs) a:=fun a ⟨i,hi,e⟩=>by
   rw [hst] at e;by_cases h:i<ps.length
   ·rw [hown i h] at hi;cases hi
   ·rw [List.getElem?_append_right (by simp [r.length,hl];lia)] at e;rw [List.getElem?_replicate] at e;split at e <;> cases e
  have E0:ES own H (start N vs) (ds++List.replicate (N.length-ps.length) .uD):=QG hst hl r hown noown;refine ⟨_,fl,E0,h1,?_⟩;have sm:∀{σ':L2.St} {H':Hp},KU own (start N vs) H σ' H'->bK H H':=fun k a o e=>(k a o e (noown a)).1
  cases fl with
  | nx ρ'=>cases h2;exact fun σ' H' k E'=>q .non H' (sm k) .non fun _=>.non
  | rt d'=>
   cases h2;refine kRt.mk hx fun v H' hk rp=>q v H' (fun a o e=>hk a o e (noown a)) rp.all fun _=>rp.mono fun a ha=>?_
   rcases ha with ha|ha
   ·exact absurd ha (noown a)
   ·exact ha
  | bk ρ'=>cases h2
  | ct ρ'=>cases h2
theorem aAw {P:Program} {w:World} {K:PySem.W.Frag} {mg:Str->Option Value} {base:Heap} {x qual:Str} {st:Stmt} {fad:Addr} {fd:FuncData} {N ps:List Str} {k:Nat} {f:FS} (F:Fun K x qual st fad fd) (S:bZ N ps (aH st)) (own:Nat->Bool) (hown:∀i,i<ps.length->own i=false) (hNl:ps.length<=N.length)
  (hbody:∀(cdv:Value) (A:Around) (outer:List Env) (s:Shared) (H:Hp) (E:XK),jC k (A.deeper (envOfC qual (aH st) s.heap.objs.size fad cdv))->PSs (wL CX0 P w K mg base N qual (aH st) fad cdv A outer s H E).nox (cD st) (tS own f)) (hx:own rtX=false:=by rfl):i_ P w K mg base CX0 (k+1) fad fd ps (spD (fnS ps.length N.length f) ps.length):=
 F.ok S (fun vs H Q E h=>W0 h) fun cdv A outer s H vs Q E hr h=>⟨_,hbody cdv A outer s H E hr,W7 hx hown h⟩
end
end Mi
end
section
namespace Mi
open PySem L2 PySem.SeqAt PySem.Spec PyProof.Rows
variable [KFrag]
structure aE5 where
 s₀:Shared
 H₀:Hp
 env:Env
 outer:List Env
 stack:List Env
 ex:List Addr
 fn:Str->Bool
 pn:List (Addr×Obj)
noncomputable abbrev mkC (X:Cx) (scope:Scope) (ownN:List Str) (y:aE5):Cx:=
 {X with N:=X.N.map (g_ ownN)++ownN,s₀:=y.s₀,H₀:=y.H₀,env:={y.env with scope:=relabel scope X.env},outer:=y.outer,stack:=y.stack,ex:=y.ex,fn:=y.fn,pn:=y.pn,xe:=fun _ _=>False}
theorem pP {X X':Cx} {scope:Scope} {ownN:List Str} (cc:d_ X X' scope ownN):∃y,X'=mkC X scope ownN y:=by
 refine ⟨⟨X'.s₀,X'.H₀,X'.env,X'.outer,X'.stack,X'.ex,X'.fn,X'.pn⟩,?_⟩;obtain ⟨h1,h2,h3,h4,h5,h6,h7,h8,h9,h10⟩:=cc;cases X' with
 | mk a b c d e f g h i j k l m n o p q=>
  cases j;dsimp only at *;subst h1 h2 h3 h4 h5 h6 h7 h8 h9 h10;rfl
section
variable {own:Nat->Bool} {X:Cx} {scope:Scope} {ownN:List Str} {elt iter tg c:Expr} {it:FI} {t:D->Res (List D)} {g:TG} {gc:FT} {fe:FE} {re:Bool} {pos:Pos} {n m:Nat}
theorem iB (S:cU X.N X.env.scope scope ownN) (hn:X.N.length=n) (hm:ownN.length=m) (hcalm:X.calm=true) (hi:PI X tg iter (gI X.K it)) (ht:TgC g t n m) (hg:∀y,PG (mkC X scope ownN y) tg g) (he:∀y,PE (mkC X scope ownN y) elt (gE fe re))
  (hs:∀x,foldedSetIterable iter X.env x=pure x):PE X (.ListComp elt [⟨tg,iter,[],0⟩] scope pos) (gE (dI n it t dW fe re) true):=
 W3 S hn hm hcalm hi ht (fun X' cc=>by obtain ⟨y,rfl⟩:=pP cc;exact hg y) (fun X' cc=>by obtain ⟨y,rfl⟩:=pP cc;exact he y) hs
theorem qT {y:Str} {py pos2:Pos} {iy:Nat} {o:Bool} (S:cU X.N X.env.scope scope ownN) (hn:X.N.length=n) (hm:ownN.length=m) (hcalm:X.calm=true) (hi:PI X tg iter (gI X.K it)) (ht:TgC g t n m) (hg:∀y,PG (mkC X scope ownN y) tg g) (he:∀y,PE (mkC X scope ownN y) elt (gE fe re))
  (hs:∀x,foldedSetIterable iter X.env x=pure x) (ho:own iy=o) (hNn:X.N.Nodup) (hiy:X.N[iy]?=some y) (hxy:Loc X.env.scope y) (hfy:X.fn y=true\/X.env.scope.names.lookup y=some .local) (hsw:swapsWith (.ListComp elt [⟨tg,iter,[],0⟩] scope pos) (some (.Name y py)) pos2.line X.env=pure true) :
  PS X (.Assign [.Name y py] (.ListComp elt [⟨tg,iter,[],0⟩] scope pos) pos2) (tS own (cT o iy (dI n it t dW fe re) true)):=
 W6 S hn hm hcalm hi ht (fun X' cc=>by obtain ⟨y,rfl⟩:=pP cc;exact hg y) (fun X' cc=>by obtain ⟨y,rfl⟩:=pP cc;exact he y) hs ho hNn hiy hxy hfy hsw
end
noncomputable def jK (P:Program) (w:World) (K:PySem.W.Frag) (mg:Str->Option Value) (base:Heap) (k:Nat) (x:Str) (n:Nat) (f:List D->Res D):Prop:=
 ∃(fad:Addr) (fd:FuncData) (ps:List Str),i_ P w K mg base CX0 k fad fd ps (spD f n)/\mg x=some (.ref fad)/\PySem.W.keepIn K (.ref fad)=true/\Binds K fd ps []
section
variable {X:Cx} {e:Expr} {es:List Expr} {pos p:Pos} {fs:FA} {rr:Bool} {x:Str} {k n:Nat} {f:List D->Res D}
theorem cV {k':Nat} (C:jK X.prog X.w X.K X.mg X.base k x n f) (hr:jC k' X.A) (hkk:k<=k') (hg:Gl X x) (ha:PA X (e::es) (gA fs rr)) (hdb:nDb x:=by decide) (he:starEach (e::es) X.env=(false,eval e X.env)::starEach es X.env:=by rfl) (hpl:(backTo pos (starEach es X.env)).any (·.1)=false:=by rfl) :
  PE X (.Call (.Name x p) (e::es) [] pos) (gE (aQ (f9 n f) fs) true):=by
 obtain ⟨fad,fd,ps,F,hm,hk,hb⟩:=C;exact W2 F (hr.mono hkk) hg hm hk hb ha hdb he hpl
theorem oG {P:Program} {w:World} {K:PySem.W.Frag} {mg:Str->Option Value} {base:Heap} {st:Stmt} {fad:Addr} {fd:FuncData} {N ps:List Str} {fs:FS} (F:Fun K x x st fad fd) (hm:mg x=some (.ref fad)) (hb:Binds K fd ps []) (S:bZ N ps (aH st)) (own:Nat->Bool) (hown:∀i,i<ps.length->own i=false) (hNl:ps.length<=N.length)
  (hbody:∀(cdv:Value) (A:Around) (outer:List Env) (s:Shared) (H:Hp) (E:XK),jC k (A.deeper (envOfC x (aH st) s.heap.objs.size fad cdv))->PSs (wL CX0 P w K mg base N x (aH st) fad cdv A outer s H E).nox (cD st) (tS own fs)) (hx:own rtX=false:=by rfl):jK P w K mg base (k+1) x ps.length (fnS ps.length N.length fs):=
 ⟨fad,fd,ps,aAw F S own hown hNl hbody hx,hm,F.kp,hb⟩
end
theorem xP {A:Around} {k:Nat} (hr:jC k A):A.units+20<cLine:=Nat.lt_of_le_of_lt (Nat.add_le_add_left (by decide:20<=64) _) hr.units
structure Bt (mg:Str->Option Value):Prop where
 len:mg "len" = none
 min:mg "min" = none
 max:mg "max" = none
 list:mg "list" = none
 tuple:mg "tuple" = none
 sorted:mg "sorted" = none
 range:mg "range" = none
 isi:mg "isinstance" = none
 int:mg "int" = none
 bool:mg "bool" = none
 str:mg "str" = none
 dict:mg "dict" = none
 all:mg "all" = none
 enum:mg "enumerate" = none
 sum:mg "sum" = none
 zip:mg "zip" = none
 abs:mg "abs" = none
 reversed:mg "reversed" = none
theorem iR:bootBuiltins "len" = some (.builtin "len"):=by decide +kernel
theorem dN:bootBuiltins "isinstance" = some (.builtin "isinstance"):=by decide +kernel
theorem JC:bootBuiltins "list" = some (.type "list"):=by decide +kernel
theorem fZ:bootBuiltins "tuple" = some (.type "tuple"):=by decide +kernel
theorem aAx:bootBuiltins "int" = some (.type "int"):=by decide +kernel
theorem W8:bootBuiltins "bool" = some (.type "bool"):=by decide +kernel
theorem aAy:bootBuiltins "str" = some (.type "str"):=by decide +kernel
theorem ints_rep {P:Addr->Prop} {H:Hp}:∀ns:List Int,aW P H (ns.map V.int) (ns.map D.int)
 | []=>.nil
 | n::ns=>.cons (.int n) (ints_rep ns)
end Mi
namespace Mi
open PySem L2
theorem JD {K:PySem.W.Frag} {f:List D->Res D} {H:Hp} {a:Addr} {ns:List Int} {E:XK} (main:∀ns:List Int,ns.length<=63->f [.scr (ns.map D.int)]=.ok (.bl true)) (hl:ns.length<=63) (hO:Only H) (hS:SqL K H a (ns.map V.int)):@spD ⟨K⟩ f 1 [.ref a] H (fun v _=>v=.bl true) E:=by
 letI:KFrag:=⟨K⟩
 refine ⟨[.scr (ns.map D.int)],.bl true,rfl,.cons (.frz ?_ (ints_rep ns)) .nil,main ns hl,fun v H' s r n=>by cases r;rfl⟩;rcases hS with (h|⟨o,h⟩)|h
 ·rcases hO a with z|⟨o,xs,z⟩
  ·rw [h] at z;cases z
  ·rw [h] at z;cases z
 ·exact .inl ⟨o,h⟩
 ·exact .inr h
end Mi
end
section
namespace Mi
open PySem L2 PySem.SeqAt PySem.Spec PyProof.Rows
noncomputable def oH:D->D->Res D
 | .str x,.int n=>if decide (0<=n)&&decide (n<=100000)&&decide (x.length*n.toNat<=lim) then .ok (.str (Txt.mul x n)) else .bad
 | a,b=>aZ .mul a b
noncomputable def inX:D->D->Res D
 | .str c,.str x=>.ok (.bl (!(Builtin.Str.occurrences x c 0 x.length 1).isEmpty))
 | a,b=>gJ .isin a b
noncomputable def aAz:D->Option Int->Option Int->Res D
 | .str x,lo,hi=>if decide (x.length<=lim) then .ok (.str (Txt.slice x lo hi)) else .bad
 | d,lo,hi=>aD4 d lo hi
noncomputable def m8 (a:FE) (lo hi:List D->Res (Option Int)):FE:=fun ρ=>do let x <- a ρ;let l <- lo ρ;let h <- hi ρ;aAz x l h
noncomputable def tM:D->Res (List D)
 | .str x=>if decide (x.length<=lim) then .ok (tH x) else .bad
 | d=>wV d
noncomputable def bJ (a:FE) (fr:Bool):FI:=fun ρ=>do let x <- a ρ;let xs <- tM x;pure (xs,fr||x.pure)
noncomputable def oJ:List D->Option (List Str)
 | []=>some []
 | .str x::r=>(oJ r).map (x::·)
 | _::_=>none
noncomputable def joinM:D->List D->Res D
 | .str sep,[.lst ds]=>match oJ ds with
  | some ts=>if JoinOk sep ts then .ok (.str (Txt.join sep ts)) else .bad
  | none=>.bad
 | _,_=>.bad
variable [KFrag]
section
variable {X:Cx}
theorem fP:OpR X (binaryOp .Mult) (r2 oH true):=by
 intro pins s σ H x y v u Q I rx ry ⟨a,b,d,p,q,e,k⟩;by_cases hs:∃z n,a=.str z/\b=.int n
 ·obtain ⟨z,n,rfl,rfl⟩:=hs;simp only [oH] at e;split at e
  ·rename_i hl;cases e;simp only [Bool.and_eq_true,decide_eq_true_eq] at hl;obtain ⟨⟨h0,h1⟩,h2⟩:=hl;cases p;cases q;obtain ⟨t,rfl⟩:=rx;obtain ⟨t',rfl⟩:=ry;have hz:z.length*n.toNat<=sizeLine:=Nat.le_trans h2 (by rw [sizeLine_eq];decide);refine SB.mul ⟨?_,fun h3 _=>?_,fun _ _=>?_⟩ fun t2 k2=>⟨.str _,H,I.tok k2,⟨t2,rfl⟩,k.str⟩
   ·rw [decide_eq_false (by lia),decide_eq_false (by lia)];rfl
   ·have hn:0<n:=by lia
    have h4:(z.length:Int)*n<=2 ^ 63-1:=by
     have h5:((z.length*n.toNat:Nat):Int)<=1000000:=by
      have:lim=1000000:=by unfold lim;exact Eq.refl _
      lia
     rw [Int.natCast_mul,Int.toNat_of_nonneg h0] at h5;lia
    have h6:=(Int.le_ediv_iff_mul_le hn).mpr h4;lia
   ·unfold Builtin.Str.tooLong;exact decide_eq_false (by lia)
  ·cases e
 ·have he:oH a b=aZ .mul a b:=by
   unfold oH;split
   ·exact absurd ⟨_,_,rfl,rfl⟩ hs
   ·rfl
  rw [he] at e;exact aAq pins s σ H x y v u Q I rx ry ⟨a,b,d,p,q,e,k⟩
theorem xQ (hu:X.A.units+20<cLine):OpR X (compareOp .In) (r2 inX true):=by
 intro pins s σ H x y v u Q I rx ry ⟨a,b,d,p,q,e,k⟩;by_cases hs:∃z n,a=.str z/\b=.str n
 ·obtain ⟨z,n,rfl,rfl⟩:=hs;cases e;cases p;cases q;exact FN pins s σ H _ _ v u Q I rx ry ⟨_,_,rfl,rfl,k.bl⟩
 ·have he:inX a b=gJ .isin a b:=by
   unfold inX;split
   ·exact absurd ⟨_,_,rfl,rfl⟩ hs
   ·rfl
  rw [he] at e;exact aDy hu pins s σ H x y v u Q I rx ry ⟨a,b,d,p,q,e,k⟩
theorem part_of {v:Value} {o:Option Int} (h:IsPart v o):∃l:Option (Int×Tok),partValue l=v/\l.map (·.1)=o:=by
 cases h with
 | none=>exact ⟨none,rfl,rfl⟩
 | int i t=>exact ⟨some (i,t),rfl,rfl⟩
theorem aB0 (hK:KFrag.K=X.K):SlR X (fun x lo hi H Q=>∃a d,Rep All H x a/\aAz a lo hi=.ok d/\kR H d true Q):=by
 intro pins s σ H x v vl vu lo hi sl Q I rx hs pl pu ⟨a,d,p,e,k⟩;by_cases hz:∃z,a=.str z
 ·obtain ⟨z,rfl⟩:=hz;simp only [aAz] at e;split at e
  ·rename_i hl;cases e;cases p;obtain ⟨t,rfl⟩:=rx;obtain ⟨l,e1,e2⟩:=part_of pl;obtain ⟨m,e3,e4⟩:=part_of pu;subst e1 e2 e3 e4;refine ⟨"str",_,F.slot_str_getitem.lookup,typeIs_str _ _ _,?_⟩;obtain ⟨o,ho,hc,hd⟩:=hs;refine wpAny_getItem_str_slice (l:=l) (u:=m) (st:=none) ⟨o,ho,hc,hd⟩ rfl ?_;have hle:(Txt.slice z (l.map (·.1)) (m.map (·.1))).length<=sizeLine:=Nat.le_trans (Txt.slice_le ..) (jV hl);have q:∀(t':Tok) (k2:Nat),EP X pins σ Q (.str (Txt.slice z (l.map (·.1)) (m.map (·.1))) t') {s with toks:=k2}:=fun t' k2=>⟨.str _,H,I.tok k2,⟨t',rfl⟩,k.str⟩
   show Made.post (if ((1:Int)==1&&(Builtin.Str.strSliceIndices (l.map (·.1)) (m.map (·.1)) 1 z.length).length==z.length)=true then .val (.str z t) else .str ⟨((Builtin.Str.strSliceIndices (l.map (·.1)) (m.map (·.1)) 1 z.length).filterMap (z.cps[·]?)).toArray⟩) _ s;unfold Txt.slice at hle q;split
   ·rename_i hh;have:=q t s.toks;rw [if_pos hh] at this;exact this
   ·rename_i hh;rw [if_neg hh] at hle;have:=q s.toks (s.toks+1);rw [if_neg hh] at this;exact ⟨hle,this⟩
  ·cases e
 ·have he:aAz a lo hi=aD4 a lo hi:=by
   unfold aAz;split
   ·exact absurd ⟨_,rfl⟩ hz
   ·rfl
  rw [he] at e;exact aE0 hK pins s σ H x v vl vu lo hi sl Q I rx hs pl pu ⟨a,d,p,e,k⟩
theorem mU {e:Expr} {fe:FE} {re:Bool} {pos:Pos} {lo hi:Option Expr} {p2:Pos} {fl fh:List D->Res (Option Int)} (hK:KFrag.K=X.K) (he:PE X e (gE fe re)) (hl:PO X lo (gO fl)) (hh:PO X hi (gO fh)):PE X (.Subscript e (.Slice lo hi none p2) pos) (gE (m8 fe fl fh) true):=
 PE.imp (N8 (aB0 hK) he hl hh) fun σ H Q ⟨ρ,d,E,h,q⟩=>by
  obtain ⟨x,h1,h⟩:=bG h;obtain ⟨l,h2,h⟩:=bG h;obtain ⟨u,h3,h⟩:=bG h;exact ⟨ρ,x,E,h1,fun v H1 s1 r1 _=>⟨ρ,l,E.same s1,h2,fun H2 s2=>⟨ρ,u,E.same (s1.trans s2),h3,fun H3 s3=>⟨x,d,r1.same (s2.trans s3),h,q.imp ((s1.trans s2).trans s3) id⟩⟩⟩⟩
theorem xR {P:Addr->Prop} {H:Hp}:∀{xs:List V} {ds:List D} {its:List Value} {ts:List Str},aW P H xs ds->Vals xs its->oJ ds=some ts->∃l:List (Str×Tok),its=strValues l/\l.map (·.1)=ts
 | [],[],[],_,_,_,h=>by cases h;exact ⟨[],rfl,rfl⟩
 | _,_,_,_,.cons (d:=d) r t,.cons rv tv,h=>by
  cases d with
  | str z=>
   obtain ⟨ts,h1,h2⟩:=Option.map_eq_some_iff.mp h;cases r;obtain ⟨tk,rfl⟩:=rv;obtain ⟨l,e1,e2⟩:=xR t tv h1;refine ⟨(z,tk)::l,?_,?_⟩
   ·rw [e1];rfl
   ·rw [<-h2,<-e2];rfl
  | _=>simp only [oJ] at h;cases h
theorem W9:MtR X "str.join" (rm joinM true):=by
 intro pins s σ H x xs v us Q I rv vr ⟨a,ds,d,ra,rs,h,k⟩;unfold joinM at h;split at h
 ·split at h
  ·rename_i ts hts;split at h
   ·rename_i hok;cases h;obtain ⟨vv,uu,rfl,rfl,r,rk⟩:=gM rs vr;obtain ⟨l,ys,rfl,hl,rr⟩:=r.eZ (K:=X.K);cases rk;cases ra;obtain ⟨t,rfl⟩:=rv;obtain ⟨its,vr',pl⟩:=j5 I hl;obtain ⟨l2,e1,e2⟩:=xR rr vr' hts;subst e1;exact SC.join pl e2 hok fun t' k2=>⟨.str _,H,I.tok k2,⟨t',rfl⟩,k.str⟩
   ·cases h
  ·cases h
 ·cases h
theorem QH {d:D} {ds:List D} {r:D} {v:V} {H:Hp} (h:joinM d ds=.ok r) (rp:Rep All H v d):tyV X.K "str" v H:=by
 have:∃z,d=.str z:=by
  unfold joinM at h;split at h
  ·exact ⟨_,rfl⟩
  ·cases h
 obtain ⟨z,rfl⟩:=this;cases rp;rfl
theorem QJ {P:Program} {w:World} {K:PySem.W.Frag} {tg:Expr} (x:Str) (t:Tok) (it:Addr):Turn P w K tg (aE1 x) [it] it (fun i h=>h.IsStrIter it (strIterType x) x t i) where
 mem:=by simp
 obj:=fun i h st b hb=>by
  have e:b=it:=by simpa using hb
  subst e;obtain ⟨o,e,c,d⟩:=st;exact ⟨o,e,fun v z=>by rw [d] at z;cases z⟩
 keep:=fun i h h' st k=>by
  obtain ⟨o,e,r⟩:=st;exact ⟨o,k it (by simp) o e,r⟩
 item:=by
  intro Y hP hw hK hc i pins s σ H E I hf st hg;subst hP hw hK;obtain ⟨f0,f1,f2,f3,f4,f5⟩:=hf it (by simp);have hx:x.cps[i]?=some x.cps[i]:=Array.getElem?_eq_getElem hg;have fin:∀(h':Heap) (ty:String),(["enumerate", "zip", "dict_itemiterator", "dict_reverseitemiterator", "odict_iterator", "itertools.zip_longest", "itertools.pairwise"].contains ty=false)->strIterType x=ty->h'.IsStrIter it ty x t (i+1)->Heap.SameBut it s.heap h'->
    ∃u,some (Value.str ⟨#[x.cps[i]]⟩ s.toks)=some u/\wpAny (model Y.prog Y.w) Y.A (letOwnedTupleGo tg (.ref it) u) (fun _ s2=>∃v H',Inv Y pins σ H' s2/\RelV v u/\(aE1 x).yld i H v H'/\s2.heap.IsStrIter it (strIterType x) x t (i+1)/\∀b∈[it],H' b=none) E {s with heap:=h',toks:=s.toks+1}:=by
   intro h' ty hn hty st' sb;have I1:Inv Y pins σ H {s with heap:=h',toks:=s.toks+1}:=I.turned (fun b o hb e=>(sb.2 b hb).trans e) f0 f1 f3 f4 f5;obtain ⟨o,e,c,d⟩:=id st';exact ⟨_,rfl,DY (s:={s with heap:=h',toks:=s.toks+1}) e c d hn ⟨.str ⟨#[x.cps[i]]⟩,H,I1,⟨_,rfl⟩,⟨rfl,_,hx,rfl⟩,by rw [hty];exact st',fun b hb=>(hf b hb).1⟩⟩
  cases ha:x.cps.all (·<128)
  ·have hty:strIterType x = "str_iterator":=by simp [strIterType,ha]
   rw [hty] at st;exact wpAny_pyNext_wide_item st hx fun h' st' sb=>fin h' _ (by decide) hty st' sb
  ·have hty:strIterType x = "str_ascii_iterator":=by simp [strIterType,ha]
   rw [hty] at st;exact wpAny_pyNext_ascii_item st hx fun h' st' sb=>fin h' _ (by decide) hty st' sb
 done:=by
  intro Y hP hw hK hc i pins s σ H E I hf st hg;subst hP hw hK;obtain ⟨f0,f1,f2,f3,f4,f5⟩:=hf it (by simp);have hx:x.cps[i]?=none:=Array.getElem?_eq_none hg;cases ha:x.cps.all (·<128)
  ·have hty:strIterType x = "str_iterator":=by simp [strIterType,ha]
   rw [hty] at st;exact wpAny_pyNext_wide_end (I.ok.hd hc) st hx fun h' eb=>⟨rfl,I.turned (t':=s.toks) (fun b o hb e=>eb b o hb e) f0 f1 f3 f4 f5⟩
  ·have hty:strIterType x = "str_ascii_iterator":=by simp [strIterType,ha]
   rw [hty] at st;exact wpAny_pyNext_ascii_end (I.ok.hd hc) st hx fun h' eb=>⟨rfl,I.turned (t':=s.toks) (fun b o hb e=>eb b o hb e) f0 f1 f3 f4 f5⟩
 self:=fun _ _ _ _ _ st h=>by
  cases ha:x.cps.all (·<128)
  ·have hty:strIterType x = "str_iterator":=by simp [strIterType,ha]
   rw [hty] at st;exact wpAny_pyIter_striter_wide st h
  ·have hty:strIterType x = "str_ascii_iterator":=by simp [strIterType,ha]
   rw [hty] at st;exact wpAny_pyIter_striter_ascii st h
section
variable {tg l a:Expr} {fl fa:FE} {rl ra:Bool} {p pos:Pos}
theorem JF {pins:List (Addr×Obj)} {s1:Shared} {σ:L2.St} {H1:Hp} {R:It->Hp->Prop} {v:V} {u:Value} {d:D} {items:List D} (I1:Inv X pins σ H1 s1) (r:Rep All H1 v d) (ru:RelV v u) (hi:tM d=.ok items)
  (q:∀J,(∀P:Addr->Prop,Rep P H1 v d->ItQ X.K P J H1 items)->R J H1):wpAny (model X.prog X.w) X.A (pyIter u) (PIE X pins σ tg R) X.xe s1:=by
 by_cases hz:∃z,d=.str z
 ·obtain ⟨z,rfl⟩:=hz;simp only [tM] at hi;split at hi
  ·cases hi;cases r;obtain ⟨t,rfl⟩:=ru;refine wpAny_pyIter_strU ?_;refine ⟨s1.heap.objs.size,[s1.heap.objs.size],_,_,H1,rfl,I1.kept (t':=s1.toks) fun b o e=>Heap.get?_push_of_some _ e,QJ z t _,⟨_,Heap.get?_push_size _ rfl,rfl,rfl⟩,fun b hb=>?_,q _ fun P r=>.chs z rfl rfl⟩;have e:b=s1.heap.objs.size:=by simpa using hb
   subst e;exact I1.ZX (Nat.le_refl _) (I1.hok.fresh (Nat.le_refl _))
  ·cases hi
 ·have he:tM d=wV d:=by
   unfold tM;split
   ·exact absurd ⟨_,rfl⟩ hz
   ·rfl
  rw [he] at hi;exact QC I1 r ru hi q
theorem eQ (hl:PE X l (gE fl rl)):PI X tg l (gI X.K (bJ fl rl)):=by
 intro pins s σ H R I ⟨ρ,items,k,E,h,q⟩;obtain ⟨d,h1,h⟩:=bG h;obtain ⟨its,h2,h⟩:=bG h;cases h;refine thn (hl pins s σ H _ I ⟨ρ,d,E,h1,fun v H1 s1 r1 n1=>(show (∃d',Rep All H1 v d/\d'=d/\∀J,(∀P:Addr->Prop,Rep P H1 v d->ItQ X.K P J H1 items)->R J H1) from ⟨d,r1,rfl,fun J hJ=>q J H1 s1 (hJ _ r1) fun hk=>hJ _ ?_⟩)⟩) fun u s1 ⟨v,H1,I1,ru,d',r1,e,q1⟩=>JF I1 r1 ru h2 q1
 rw [Bool.or_eq_true] at hk;rcases hk with hk|hk
 ·exact n1 hk
 ·exact r1.bH hk
theorem vO {pins:List (Addr×Obj)} {s:Shared} {σ:L2.St} {H:Hp} {h':Heap} {t':Nat} {ch:List Addr} {a:Addr} {o:HO} (I:Inv X pins σ H s) (k:∀b u,b∉ch->s.heap.get? b=some u->h'.get? b=some u) (hf:∀b∈ch,CT X pins H b) (hp:s.heap.objs.size<=a)
  (new:dX X.prog X.w (upd H a o) h' a o):Inv X pins σ (upd H a o) {s with heap:=h',toks:=t'}:=by
 have hn:H a=none:=I.hok.fresh hp;have nch:∀b u,H b=some u->b∉ch:=fun b u e z=>by rw [(hf b z).1] at e;cases e
 have kU:∀b u,H b=some u->upd H a o b=some u:=fun b u e=>by rw [aJ (aR e hn)];exact e
 refine I.step (g':=s.gens) (d':=s.drawn) (ch:=ch) (fun b hb=>?_) (fun b u _ _ hc e _=>k b u hc e) (fun b u _ _ hc e _=>⟨u.slots,k b u hc e⟩) (fun b u _ e n=>?_)
  (fun b u hc e=>⟨u,k b u hc e⟩) (fun b xs e=>kU b _ e) (fun b u v e=>kU b _ e) (fun b ps e=>⟨#[],by rw [kU b _ e];simp⟩) (fun m hm=>?_) (fun b u e=>?_) I.bare
 ·obtain ⟨_,f1,_,f3,f4,f5⟩:=hf b hb;exact ⟨f3,f1,f4,f5⟩
 ·rw [aJ (fun z=>absurd (Nat.lt_of_lt_of_le (Heap.lt_size e) hp) (by rw [z];exact Nat.lt_irrefl _))];exact n
 ·obtain ⟨u,es,ep,hu,r⟩:=hm;exact ⟨u,es,ep,k _ u (fun z=>(hf _ z).2.1 rfl) hu,r⟩
 ·by_cases hb:b=a
  ·subst hb;rw [aC] at e;cases e;exact new
  ·rw [aJ hb] at e;refine (I.hok b u e).stay (fun c v hc q=>k c v ?_ q) (fun c q=>kU c _ q) fun c xs q=>kU c _ q
   rcases hc with z|z
   ·rw [z];exact nch b u e
   ·exact nch c _ z
end
end
section
variable {X:Cx} {pos p:Pos} {x:Str} {k:Nat} {f:List D->Res D}
end
end Mi
end
section
namespace Mi
open PySem L2
theorem bW:lim=1000000:=by unfold lim;exact Eq.refl _
theorem JG {n:Nat} {ρ:List D} (h:ρ.length=n):wW n ρ=ρ:=by
 subst h;apply List.ext_getElem
 ·simp [wW]
 ·intro i h1 h2;simp [wW,h2]
theorem iC {n:Nat} {f:List D->Res D} {ds:List D} (h:ds.length=n):f9 n f ds=f ds:=by
 unfold f9;rw [if_pos (by simp [h])]
theorem aP {f:D->D->Res D} {a b:FE} {ρ:List D} {x y z:D} (h1:a ρ=.ok x) (h2:b ρ=.ok y) (h3:f x y=.ok z):b2 f a b ρ=.ok z:=by
 unfold b2;rw [h1,Res.aO,h2,Res.aO,h3]
theorem eU {i:Nat} {f:FE} {ρ:List D} {d:D} (h:f ρ=.ok d):cT false i f true ρ=.ok (.nx (ρ.set i d)):=by
 unfold cT;rw [h,Res.aO];rfl
theorem j9 {i:Nat} {f:FE} {ρ:List D} {d:D} (h:f ρ=.ok d) (hp:d.pure=true):cT false i f false ρ=.ok (.nx (ρ.set i d)):=by
 unfold cT;rw [h,Res.aO];simp only [hp,Bool.false_or,Bool.false_eq_true,if_false,if_true]
theorem j_ {i:Nat} {f:FE} {ρ:List D} {d:D} (h:f ρ=.ok d) (hp:inner d=true):cT true i f true ρ=.ok (.nx (ρ.set i d)):=by
 unfold cT;rw [h,Res.aO];simp only [hp,Bool.and_self,if_true]
theorem a_ {f g:FS} {ρ ρ':List D} {r:Res Fl} (h1:f ρ=.ok (.nx ρ')) (h2:g ρ'=r):b8 f g ρ=r:=by
 unfold b8;rw [h1,Res.aO];exact h2
theorem aB1 {c:FT} {f g:FS} {ρ:List D} {k:Bool} {r:Res Fl} (h1:c ρ=.ok k) (h2:(if k then f ρ else g ρ)=r):sIf c f g ρ=r:=by
 unfold sIf;rw [h1,Res.aO];exact h2
theorem aE6 {c:FT} {f g:FS} {ρ:List D} {r:Res Fl} (h1:c ρ=.ok true) (h2:f ρ=r):sIf c f g ρ=r:=aB1 h1 (by rw [if_pos rfl];exact h2)
theorem T6 {c:FT} {f g:FS} {ρ:List D} {r:Res Fl} (h1:c ρ=.ok false) (h2:g ρ=r):sIf c f g ρ=r:=aB1 h1 (by rw [if_neg (by simp)];exact h2)
theorem qU {f:FE} {ρ:List D} {k:Bool} (h1:f ρ=.ok (.bl k)):bTB f ρ=.ok k:=by
 unfold bTB;rw [h1,Res.aO];rfl
theorem aB2 {a b:FT} {ρ:List D} {r:Res Bool} (h1:a ρ=.ok true) (h2:b ρ=r):HB a b ρ=r:=by
 unfold HB;rw [h1,Res.aO,if_pos rfl,h2]
theorem aB3 {a b:FT} {ρ:List D} (h1:a ρ=.ok false):HB a b ρ=.ok false:=by
 unfold HB;rw [h1,Res.aO,if_neg (by simp)];rfl
theorem aF {a:FE} {b:FA} {ρ:List D} {x:D} {xs:List D} (h1:a ρ=.ok x) (h2:b ρ=.ok xs):aB a b ρ=.ok (x::xs):=by
 unfold aB;rw [h1,Res.aO,h2,Res.aO];rfl
theorem bB {f:List D->Res D} {a:FA} {ρ:List D} {xs:List D} {d:D} (h1:a ρ=.ok xs) (h2:f xs=.ok d):aQ f a ρ=.ok d:=by
 unfold aQ;rw [h1,Res.aO,h2]
theorem eV {a:FA} {ρ:List D} {xs:List D} (h:a ρ=.ok xs) (hl:xs.length<=lim):jF a ρ=.ok (.tup xs):=by
 unfold jF;rw [h,Res.aO,if_pos (decide_eq_true hl)];rfl
theorem xT {f:FE} {ρ:List D} {d:D} {k:Bool} (h:f ρ=.ok d) (hp:(k||d.pure)=true):nZ f k ρ=.ok (.rt d):=by
 unfold nZ;rw [h,Res.aO,if_pos hp]
theorem pQ {it:FI} {t:D->List D->Res (List D)} {body:FS} {ρ:List D} {xs:List D} {r:Res Fl} (h1:it ρ=.ok (xs,true)) (h2:sY t body xs ρ=r):zT it t body ρ=r:=by
 unfold zT;rw [h1,Res.aO];exact h2
theorem tO {f:FA} {ρ:List D} {n:Int} (h:f ρ=.ok [.int n]) (h1:0<=n) (h2:n<=1000000):j7 f j0 ρ=.ok ((List.range n.toNat).map fun (k:Nat)=>D.int (0+(k:Int)),true):=by
 unfold j7;rw [h,Res.aO];have:nU n=true:=by
  simp only [nU,Bool.and_eq_true,decide_eq_true_eq];lia
 simp only [j0,this,if_true]
theorem T7 {i:Nat} {f g:FE} {ρ:List D} {kvs:List (D×D)} {k d:D} (h1:g ρ=.ok d) (h2:f ρ=.ok k) (h3:ρ.getD i .uD=.dct kvs) (h4:kvs.length<lim) (h5:rT kvs k=true) (h6:d.pure=true):WM i f g ρ=.ok (.nx (ρ.set i (.dct (putD kvs k d)))):=by
 unfold WM;rw [h1,Res.aO,h2,Res.aO,h3];simp only [decide_eq_true h4,h5,h6,Bool.and_self,if_true]
theorem JH {i:Nat} {f:FE} {ρ:List D} {xs:List D} {d:D} (h1:f ρ=.ok d) (h3:ρ.getD i .uD=.lst xs) (h4:xs.length<lim) (h5:d.pure=true):PJ i f ρ=.ok (.nx (ρ.set i (.lst (xs++[d])))):=by
 unfold PJ;rw [h1,Res.aO,h3];simp only [decide_eq_true h4,h5,Bool.and_self,if_true]
theorem dO {t:D->List D->Res (List D)} {body:FS} {x:D} {xs:List D} {ρ ρ1 ρ2:List D} {r:Res Fl} (h1:t x ρ=.ok ρ1) (h2:body ρ1=.ok (.nx ρ2)) (h3:sY t body xs ρ2=r):sY t body (x::xs) ρ=r:=by
 rw [sY,h1,Res.aO,h2,Res.aO];exact h3
theorem JK {n:Nat} {it:FI} {t:D->Res (List D)} {c:FT} {f:FE} {k kk:Bool} {ρ:List D} {xs ys:List D} (h1:it ρ=.ok (xs,kk)) (h2:xs.length<=lim) (h3:nY (vH n t c f k ρ) [] xs=.ok ys):dI n it t c f k ρ=.ok (.lst ys):=by
 unfold dI;rw [h1,Res.aO];simp only [decide_eq_true h2,if_true];rw [h3];rfl
theorem tQ {n:Nat} {c:FT} {f:FE} {k:Bool} {ρ acc:List D} {x y:D} {b:Bool} (hρ:ρ.length=n) (h1:c (ρ++[x])=.ok b) (h2:b=true->f (ρ++[x])=.ok y/\(k||y.pure)=true):vH n mQ c f k ρ acc x=.ok (if b then acc++[y] else acc):=by
 unfold vH;show (do let ok <- c (wW n ρ++[x]);_)=_;rw [JG hρ,h1,Res.aO];cases b with
 | true=>
  obtain ⟨e1,e2⟩:=h2 rfl;rw [if_pos rfl,e1,Res.aO,if_pos e2,if_pos rfl];rfl
 | false=>
  rw [if_neg (by simp),if_neg (by simp)];rfl
theorem iT (a b:Int):aZ .add (.int a) (.int b)=.ok (.int (a+b)):=rfl
theorem aB4 (a b:Int) (h:iI b=true):aZ .mul (.int a) (.int b)=.ok (.int (a*b)):=by
 simp only [aZ,h,Bool.or_true,if_true]
theorem W_ (a b:Int) (h:iI a=true):aZ .mul (.int a) (.int b)=.ok (.int (a*b)):=by
 simp only [aZ,h,Bool.true_or,if_true]
theorem gC (a b:Int) (h1:0<b) (h2:b<1073741824):aZ .fdiv (.int a) (.int b)=.ok (.int (a / b)):=by
 simp only [aZ,decide_eq_true h1,decide_eq_true h2,Bool.and_self,if_true]
theorem eX (a b:Int) (h1:0<b):aZ .mod (.int a) (.int b)=.ok (.int (a % b)):=by
 simp only [aZ,decide_eq_true h1,if_true]
theorem QK (a:Int) (h1:-1000000<=a) (h2:a<=1000000):iI a=true:=by
 simp only [iI,Bool.and_eq_true,decide_eq_true_eq];lia
theorem JL (a b:Str) (h:a.length+b.length<=lim):aZ .add (.str a) (.str b)=.ok (.str (a++b)):=by
 simp only [aZ,decide_eq_true h,if_true]
theorem z9 (S:List Int):D.aG (S.map D.int)=true:=by
 induction S with
 | nil=>rfl
 | cons q Q ih=>rw [List.map_cons,D.aG,ih];rfl
theorem JM (ns:List Int) (lo hi:Option Int):cutD (ns.map D.int) lo hi=(cutD ns lo hi).map D.int:=by
 unfold cutD;rw [List.length_map,List.map_take,List.map_drop]
theorem vP (ns:List Int) (lo hi:Option Int):(cutD ns lo hi).length<=ns.length:=by
 unfold cutD;exact Nat.le_trans (List.length_take_le' ..) (by rw [List.length_drop];lia)
end Mi
end
section
namespace Mi
open PySem L2 PySem.SeqAt PySem.Spec PyProof.Rows
theorem vQ {P:Program} {w:World} {H:Hp} {h:Heap} {a:Addr} {o:HO} (x:dX P w H h a o):∃ob,h.get? a=some ob:=by
 cases o with
 | lst xs=>obtain ⟨_,_,_,_,e⟩:=x;exact ⟨_,e⟩
 | tup xs=>obtain ⟨_,_,_,_,e,_⟩:=x;exact ⟨_,e⟩
 | dK kvs=>obtain ⟨_,_,_,_,o,_,_,e,_⟩:=x;exact ⟨_,e⟩
 | dT kvs=>obtain ⟨_,_,_,_,o,_,_,e,_⟩:=x;exact ⟨_,e⟩
 | set S n=>obtain ⟨o,_,_,_,e,_⟩:=x;exact ⟨_,e⟩
 | ins C dx fs=>obtain ⟨_,_,_,e,_⟩:=x;exact ⟨_,e⟩
 | own y=>exact x
 | xd fs=>obtain ⟨_,⟨_,_,_,e,_⟩,_⟩:=x;exact ⟨_,e⟩
 | rng lo hi=>obtain ⟨_,_,_,e⟩:=x;exact ⟨_,e⟩
 | frz ob u=>obtain ⟨e,_⟩:=x;exact ⟨_,e⟩
 | tbl ps=>exact ⟨_,show h.get? a=some _ from x⟩
 | met f y=>exact ⟨_,show h.get? a=some _ from x⟩
 | ext φ=>obtain ⟨_,e,_⟩:=x;exact e
section
variable {P:Program} {w:World} {K:PySem.W.Frag} {mg:Str->Option Value} {base:Heap} {N:List Str} {qual:Str} {scope:Scope} {f C:Addr} {cd:Value} {A:Around} {outer:List Env} {s:Shared} {H:Hp} {E:XK}
end
theorem XC {K:PySem.W.Frag} {h:Heap} {C:Addr} {bmB:List Value} {newId:String} (X:K.In h) (q:PySem.W.excIn K C bmB newId=true) :
  ∃bm N nm qn bs hdct sn sub ab col dd k0 k1 k2 k3 k5 mN,h.get? C=some (excClassObj nm qn C N bs bm hdct sn sub ab col dd k0 k1 k2 k3 k5 newId)/\h.Ns N mN/\mN "__init__" = none/\OwnTail h bmB bm:=by
 unfold PySem.W.excIn at q;split at q
 ·rename_i dd cd sl ho;split at q
  ·rename_i C' bm k0 k1 k2 k3 n k5 hm hs;rw [Bool.and_eq_true,Bool.and_eq_true,Bool.and_eq_true,Bool.and_eq_true,Bool.and_eq_true] at q;obtain ⟨⟨⟨⟨⟨q1,q2⟩,q3⟩,q4⟩,q5⟩,q6⟩:=q;have q1:=beq_iff_eq.mp q1;have q2:=beq_iff_eq.mp q2;rw [Bool.not_eq_true'] at q3;subst q1 q2;obtain ⟨nm,bs,mro,ns,qn,hd,sn,sub,ab,col,del⟩:=cd;obtain ⟨l⟩:=sl;dsimp only at hm q3 q5 q6 hs;subst hm q3 hs;exact ⟨bm,ns,nm,qn,bs,hd,sn,sub,ab,col,dd,k0,k1,k2,k3,k5,_,X _ _ ho,.of_isNs (PySem.W.isNs_of_in X q5),PySem.W.nsMap_none_of_in X q5 (beq_iff_eq.mp q6),PySem.W.tail_of_in X q4⟩
  ·cases q
 ·cases q
abbrev aE7:List Value:=[.type "ValueError",.type "Exception",.type "BaseException",.type "object"]
theorem QL {X:Cx} {x:Str} {C:Addr} {np cpos pos:Pos} {e:Expr} {ta:TA} (hc:X.calm=true) (hg:Gl X x) (hm:X.mg x=some (.ref C)) (hq:PySem.W.excIn X.K C aE7 "ValueError.__new__" = true) (ha:PA X [e] ta)
  (he:starEach [e] X.env=[(false,eval e X.env)]:=by rfl) (hd:nDb x:=by decide) :
  PS X (.Raise (some (.Call (.Name x np) [e] [] cpos)) none pos) (fun D σ H=>ta σ H fun vs H1=>vs.length<=sizeLine/\∀(pins:List (Addr×Obj)) (s:Shared) (h2:Heap) (a:Addr) (us:List Value),Inv X pins σ H1 s->Heap.MadeExcOf s.heap h2 a (.ref C) us->X.xe (.ref a) {s with heap:=h2}):=by
 intro pins s σ H D I h;obtain ⟨bm,N,nm,qn,bs,hdct,sn,sub,ab,col,dd,k0,k1,k2,k3,k5,mN,hC,hN,hni,T⟩:=XC I.mod.kin hq;refine wpAny_Raise_call_subT (C:=C) (nm:=nm) (q:=qn) (N:=N) (bs:=bs) (bm:=bm) (hdct:=hdct) (sn:=sn) (sub:=sub) (ab:=ab) (col:=col) (dd:=dd) (k0:=k0) (k1:=k1) (k2:=k2) (k3:=k3) (k5:=k5)
  PySem.F.excBase_ValueError (mN:=mN) (T.hasType PySem.F.excBase_ValueError.hasBase) (I.ok.hd hc) (by rw [he];rfl) hni (nC I hg hm ⟨rfl,?_⟩ hd)
 rw [he];have h':=ha cpos pins s σ H _ I h;rw [he] at h';refine Calls.evalArgs_plain (wpAny_mono h' (fun us s2 ⟨vs,H1,I1,r,hl,hx⟩=>⟨rfl,by rw [<-r.length];exact hl,I1.bk _ _ hC,hN.keeps I1.bk,T.keeps I1.bk,fun h2 a hm=>hx pins s2 h2 a us I1 hm⟩) fun _ _ y=>y)
section
variable [KFrag]
end
end Mi
end
section
namespace Mi
open PySem L2 PySem.W PySem.SeqAt PySem.Spec PyProof.Rows PySem.Builtin PySem.Builtin.ObjectAttr PySem.Builtin.Getset_descriptor
section
variable {prog:Program} {w:World} {A:Around} {E:Value->Shared->Prop} {s:Shared} {K:Frag} {x C:Addr}
end
end Mi
end
section
namespace Mi
open PySem L2 PySem.W PySem.SeqAt PySem.Spec PyProof.Rows
abbrev mrk (X:Cx) (v:Value):Cx:={X with A:=X.A.mark (some v),calm:=false}
section
variable {X:Cx} {pins:List (Addr×Obj)} {σ:L2.St} {H H1 H2:Hp} {s:Shared} {h h6:Heap} {a:Addr}
theorem JN (I:Inv X pins σ H s) (v:Value):Inv (mrk X v) pins σ H s:=
 ⟨⟨I.ok.mod,I.ok.kind,I.ok.glob,I.ok.blt,I.ok.above,I.ok.inj,I.ok.has,I.ok.cab,(fun z=>nomatch z),I.ok.frames,I.ok.stk,I.ok.exf,I.ok.bs,I.ok.bsz,I.ok.noex,I.ok.exfs,I.ok.yW,I.ok.frf⟩,I.os,I.bare,I.base,I.loc,I.cell,I.free,I.freeC,I.pin,I.hok,I.len⟩
theorem JP {v:Value} (ok:X.Ok) (I:Inv (mrk X v) pins σ H s):Inv X pins σ H s:=
 ⟨ok,I.os,I.bare,I.base,I.loc,I.cell,I.free,I.freeC,I.pin,I.hok,I.len⟩
theorem aB5 {fs:List Addr} {o:HO} (u:Un fs [] H H2 h h6) (hg:h.get? a=none) (hn:H2 a=none):Un fs [] H (upd H2 a o) h h6:=by
 have ne:∀b ob,h.get? b=some ob->b≠a:=fun b ob q z=>by rw [z,hg] at q;cases q
 refine ⟨u.keep,u.slot,fun b ob q n hx=>by rw [aJ (ne b ob q)];exact u.free b ob q n hx,u.there,fun b xs q=>?_,fun b ob xs q=>?_,fun b ps q=>?_⟩
 ·have z:=u.tups b xs q;rw [aJ (aR z hn)];exact z
 ·have z:=u.frzs b ob xs q;rw [aJ (aR z hn)];exact z
 ·obtain ⟨m,z⟩:=u.tbls b ps q;exact ⟨m,by rw [aJ (aR z hn)];exact z⟩
theorem XF {P:Program} {w:World} {o:HO} (x:HOk P w H2 h6) (hn:H2 a=none) (new:dX P w (upd H2 a o) h6 a o):HOk P w (upd H2 a o) h6:=fun b u e=>by
 by_cases hb:b=a
 ·subst hb;rw [aC] at e;cases e;exact new
 ·rw [aJ hb] at e;exact (x b u e).stay (fun c v _ q=>q) (fun c q=>by rw [aJ (aR q hn)];exact q) fun c xs q=>by rw [aJ (aR q hn)];exact q
theorem QM {i:Nat} {x:Str} {v:Option Value} {t':Nat} {h':Heap} {m:Str->Option Value} (I:Inv X pins σ H s) (hN:X.N.Nodup) (hi:X.N[i]?=some x) (hn:s.heap.Ns X.env.locals m)
  (hl:∀(i:Nat) (x:Str) (v:V),X.N[i]?=some x->σ[i]?=some (some v)->Vis X.env.scope x->∃u,RelV v u/\Look X.env s.heap m x u)
  (hn':h'.Ns X.env.locals (fun y=>if y=x then v else m y)) (hs:Heap.SameBut X.env.locals s.heap h'):Inv X pins (σ.set i none) H {s with heap:=h',toks:=t'}:=by
 have hiσ:i<σ.length:=by rw [I.len];exact (List.getElem?_eq_some_iff.mp hi).1
 have cne:=I.cne;have ne:∀b o,X.s₀.heap.get? b=some o->b≠X.env.locals:=fun b o e=>Nat.ne_of_lt (Nat.lt_of_lt_of_le (Heap.lt_size e) I.ok.above)
 refine ⟨I.ok,I.os,I.bare,⟨fun b o e n hb hx=>(hs.2 b (ne b o e)).trans (I.base.keep b o e n hb hx),fun b o e n hb hx=>?_,I.base.free,fun b o e hx=>?_,I.base.tups,I.base.frzs,I.base.tbls⟩,⟨_,hn',fun j y v' e1 e2 e3=>?_⟩,fun y c e=>?_,I.free,I.freeC,fun p hp=>?_,fun b ob e=>?_,by simpa using I.len⟩
 ·obtain ⟨sl,e1⟩:=I.base.slot b o e n hb hx;exact ⟨sl,(hs.2 b (ne b o e)).trans e1⟩
 ·obtain ⟨o',e1⟩:=I.base.there b o e hx;exact ⟨o',(hs.2 b (ne b o e)).trans e1⟩
 ·by_cases hj:j=i
  ·subst hj;rw [List.getElem?_set_self hiσ] at e2;cases e2
  ·rw [List.getElem?_set_ne (Ne.symm hj)] at e2;obtain ⟨u',r',q⟩:=hl j y v' e1 e2 e3;refine ⟨u',r',?_⟩;rcases q with ⟨k,e⟩|⟨k,c,e,z⟩
   ·refine .inl ⟨k,?_⟩;have:y≠x:=fun e=>hj (p_ hN e1 (e▸hi))
    simp [this,e]
   ·exact .inr ⟨k,c,e,z.sameBut hs (cne y c e)⟩
 ·obtain ⟨w',z⟩:=I.cell y c e;exact ⟨w',z.sameBut hs (cne y c e)⟩
 ·obtain ⟨e,n,ne,nf,d⟩:=I.pin p hp;exact ⟨(hs.2 p.1 ne).trans e,n,ne,nf,d⟩
 ·refine (I.hok b ob e).stay (fun c w' hc q=>(hs.2 c ?_).trans q) (fun _ q=>q) fun _ _ q=>q
  intro z;rcases hc with hc|hc
  ·rw [<-hc,z,I.free] at e;cases e
  ·rw [z,I.free] at hc;cases hc
end
end Mi
end
section
namespace Mi
open PySem L2 PySem.W PySem.SeqAt PySem.Spec PyProof.Rows
variable [KFrag]
section
variable {X:Cx} {C:Addr} {i:Nat} {cs:List Addr} {b:Bool} {y:Str} {p np tpos pos:Pos} {es:List Expr} {kk:Nat} {ce:Expr} {v:V} {u:Value}
end
theorem QR {H:Hp} {a:Addr} {o:HO} (h:H a=none):bK H (upd H a o):=fun b u e=>by rw [aJ (aR e h)];exact e
end Mi
end
section
namespace Mi
open PySem L2 PySem.SeqAt PySem.Spec PyProof.Rows
noncomputable def intsOf:List D->Option (List Int)
 | []=>some []
 | .int i::r=>(intsOf r).map (i::·)
 | _::_=>none
noncomputable def QS:List D->Res D
 | [.lst ds]=>match intsOf ds with
  | some ns=>if ns.all (fun i=>decide (-1000<=i)&&decide (i<=1000))&&decide (ns.length<=100000) then .ok (.int ns.sum) else .bad
  | none=>.bad
 | _=>.bad
theorem tR:∀{ds:List D} {ns:List Int},intsOf ds=some ns->ds=ns.map D.int
 | [],ns,h=>by cases h;rfl
 | d::ds,ns,h=>by
  unfold intsOf at h;split at h
  ·rename_i e;cases e
  ·rename_i i r e;cases e;obtain ⟨ms,h1,h2⟩:=Option.map_eq_some_iff.mp h;subst h2;rw [List.map_cons,<-tR h1]
  ·cases h
theorem JQ (ps:List (Int×Tok)):∀j,j<=ps.length->preSum (numAt ps.toArray) j=((ps.map (·.1)).take j).sum:=by
 intro j;induction j with
 | zero=>intro _;simp [preSum]
 | succ j ih=>
  intro hj;have hlt:j<ps.length:=by lia
  have e:numAt ps.toArray j=(ps.map (·.1))[j]'(by simpa using hlt):=by simp [numAt,hlt]
  rw [preSum,ih (by lia),e,<-List.take_append_getElem (by simpa using hlt),List.sum_append];simp
theorem tU (c:Int) (hc:0<=c):∀(l:List Int),(∀i∈l,-c<=i/\i<=c)->-(c*l.length)<=l.sum/\l.sum<=c*l.length
 | [],_=>by simp
 | x::l,h=>by
  have h1:=h x (List.mem_cons_self ..);have h2:=tU c hc l fun i hi=>h i (List.mem_cons_of_mem _ hi)
  simp only [List.sum_cons,List.length_cons,Int.natCast_add,Int.mul_add];simp only [Int.natCast_one,Int.mul_one];lia
variable [KFrag]
section
variable {X:Cx} {a e:Expr} {es:List Expr} {p p2 pos pos2:Pos} {fs:FA} {rr:Bool}
end
section
variable {X:Cx} {own:Nat->Bool} {a b e:Expr} {pos:Pos} {fs:FA} {rr re:Bool} {fe:FE}
theorem jE {P:Addr->Prop} {H:Hp}:∀{ns:List Int} {ys:List V} {its:List Value},aW P H ys (ns.map D.int)->Vals ys its->∃ps:List (Int×Tok),its=ps.map (fun p=>Value.int p.1 p.2)/\ps.map (·.1)=ns
 | [],_,_,.nil,.nil=>⟨[],rfl,rfl⟩
 | n::ns,_,_,.cons r t,.cons v vs=>by
  obtain ⟨ps,h1,h2⟩:=jE t vs;cases r;obtain ⟨tk,rfl⟩:=v;exact ⟨(n,tk)::ps,by rw [h1];rfl,by rw [List.map_cons,h2]⟩
theorem aB6 (hc:X.calm=true):lO X (.builtin "sum") (rs QS true):=by
 intro pins s σ H xs us Q I vr ⟨ds,d,r,e,k⟩;unfold QS at e;split at e
 ·split at e
  ·rename_i ns hns;split at e
   ·rename_i hb;rw [Bool.and_eq_true] at hb;cases e;obtain ⟨vv,uu,rfl,rfl,r,v⟩:=gM r vr;obtain ⟨l,ys,rfl,hl',rr⟩:=r.eZ (K:=X.K);cases v;rw [tR hns] at rr;obtain ⟨its,vi,il,_⟩:=I.list hl';obtain ⟨ps,h1,h2⟩:=jE rr vi;subst h1;have hlen:ps.length=ns.length:=by rw [<-h2,List.length_map]
    have hn:ns.length<=100000:=of_decide_eq_true hb.2;have hall:∀i∈ns,-1000<=i/\i<=1000:=fun i hi=>by
     have:=List.all_eq_true.mp hb.1 i hi;rw [Bool.and_eq_true,decide_eq_true_eq,decide_eq_true_eq] at this;exact this
    have ia:s.heap.IsList l (intItems ps.toArray):=by
     obtain ⟨o,n,e1,e2,e3,e4⟩:=il;exact ⟨o,e1,e2,n,by simpa [intItems] using e4⟩
    refine sum_intList (I.ok.hd hc) ia (fun j hj=>?_) fun h' tk t' kp=>⟨.int ns.sum,H,I.kept (t':=tk) kp,⟨t',?_⟩,k _ _ (bK.refl H) (.int _) fun _=>.int _⟩
    ·have hj':j<ps.length:=by simpa using hj
     refine ⟨?_,?_⟩
     ·have hm:numAt ps.toArray j∈ns:=by
       have e:numAt ps.toArray j=(ps.map (·.1))[j]'(by simpa using hj'):=by simp [numAt,hj']
       rw [e,<-h2];exact List.getElem_mem _
      have:=hall _ hm;unfold InLong;lia
     ·rw [JQ ps (j+1) (by lia),h2];have:=tU 1000 (by decide) (ns.take (j+1)) fun i hi=>hall i (List.mem_of_mem_take hi)
      have hl:(ns.take (j+1)).length<=100000:=Nat.le_trans (List.length_take_le' ..) hn;unfold InLong;lia
    ·have:=JQ ps ps.length (Nat.le_refl _);rw [h2,hlen,List.take_length] at this;rw [List.size_toArray,hlen,this]
   ·cases e
  ·cases e
 ·cases e
theorem aB7:bootBuiltins "sum" = some (.builtin "sum"):=by decide +kernel
end
end Mi
end
section
namespace Mi
open PySem L2 PySem.SeqAt PySem.Spec PyProof.Rows
variable [KFrag]
noncomputable def DV (H:Hp) (a:Addr) (kvs:List (Key×V)):Prop:=H a=some (.dK kvs)\/(kvs=[]/\H a=some (.dT []))
theorem T8 {κ:Type}:∀{kvs:List (κ×V)} {vs:List (κ×Value)} {i:Nat} {p:κ×V},KV kvs vs->kvs[i]?=some p->∃u,vs[i]?=some (p.1,u)/\RelV p.2 u
 | _,_,_,_,.nil,h=>by simp at h
 | _,_,0,_,.cons r _,h=>by
  simp at h;subst h;exact ⟨_,by simp [r.1],r.2⟩
 | _,_,i+1,_,.cons _ t,h=>by
  obtain ⟨u,h1,h2⟩:=T8 t (by simpa using h);exact ⟨u,by simpa using h1,h2⟩
section
variable {X:Cx} {pins:List (Addr×Obj)} {σ:L2.St} {H:Hp} {s:Shared} {a:Addr} {kvs:List (Key×V)}
theorem aB8 (hu:DV H a kvs):L2.Mut (H a):=by
 rcases hu with h|⟨_,h⟩ <;> rw [h] <;> trivial
theorem JR (I:Inv X pins σ H s) (hu:DV H a kvs):kvs.length<=sizeLine/\(a==sysModules)=false/\∃vs,KV kvs vs/\s.heap.DictOf (bL X.prog X.w) a vs:=by
 rcases hu with h|⟨rfl,h⟩
 ·exact zQ I.hok h
 ·exact zQ (gK I h).hok aC
theorem aB9 (I:Inv X pins σ H s) (hu:DV H a kvs) {o:Obj} (ho:s.heap.get? a=some o):∃u,H a=some u/\∀(H':Hp) (h:Heap),h.get? a=some o->dX X.prog X.w H' h a u:=by
 rcases hu with h|⟨_,h⟩
 ·obtain ⟨z,hs,vs,rel,o',es,ep,ho',c⟩:=I.hok a _ h;rw [ho] at ho';cases ho';exact ⟨_,h,fun H' h' e=>⟨z,hs,vs,rel,o,es,ep,e,c⟩⟩
 ·obtain ⟨z,hs,xs,rel,o',es,ep,ho',c⟩:=I.hok a _ h;rw [ho] at ho';cases ho';cases rel;exact ⟨_,h,fun H' h' e=>⟨z,hs,[],.nil,o,es,ep,e,c⟩⟩
end
noncomputable def Z1:HO->Bool
 | .tup _=>false
 | .frz _ (.lst _)=>false
 | _=>true
mutual
theorem qW {P:Addr->Prop} {H:Hp} {a:Addr} {u:HO} (ea:∀ob,H a=some ob->Z1 ob=true):∀{v:V} {d:D},Rep P H v d->d.pure=true->Rep P (upd H a u) v d
 | _,_,.non,_=>.non
 | _,_,.bl b,_=>.bl b
 | _,_,.int i,_=>.int i
 | _,_,.str x,_=>.str x
 | _,_,.tup (a:=b) e r,h=>.tup (by rw [aJ (fun z=>by rw [z] at e;have:=ea _ e;cases this)];exact e) (oK ea r (by rw [D.pure] at h;exact h))
 | _,_,.lst _ _ _,h=>by rw [D.pure] at h;cases h
 | _,_,.frz e r,h=>.frz (e.imp (fun ⟨o,e⟩=>⟨o,by rw [aJ (fun z=>by rw [z] at e;have:=ea _ e;cases this)];exact e⟩) id) (oK ea r (by rw [D.pure] at h;exact h))
 | _,_,.cel _ _ _,h=>by rw [D.pure] at h;cases h
 | _,_,.dK _ _ _ _,h=>by rw [D.pure] at h;cases h
 | _,_,.dT _ _ _ _,h=>by rw [D.pure] at h;cases h
 | _,_,.fdK _ _ _,h=>by rw [D.pure] at h;cases h
 | _,_,.fdT _ _ _,h=>by rw [D.pure] at h;cases h
 | _,_,.exc _ _ _,h=>by rw [D.pure] at h;cases h
 | _,_,.ins _ _ _,h=>by rw [D.pure] at h;cases h
theorem oK {P:Addr->Prop} {H:Hp} {a:Addr} {u:HO} (ea:∀ob,H a=some ob->Z1 ob=true):∀{v:List V} {d:List D},aW P H v d->D.aG d=true->aW P (upd H a u) v d
 | _,_,.nil,_=>.nil
 | _,_,.cons r t,h=>by
  rw [D.aG,Bool.and_eq_true] at h;exact .cons (qW ea r h.1) (oK ea t h.2)
end
section
variable {X:Cx} {scope:Scope} {x c:Str} {i n:Nat} {elt:Expr} {fe:FE} {re:Bool} {np ap cp cpos pos:Pos}
end
end Mi
end
section
namespace Mi
open PySem L2 PySem.SeqAt PySem.Spec PyProof.Rows AutoSeq1 MeetsSeq MeetsSeq2 MeetsSeq3
section
variable {P:Program} {w:World} {l b:Addr} {xs ys:Array Value} {n m:Nat} {dd de:Option Addr} {sl sm:Array (Option Value)} {e:Nat->Bool}
end
variable [KFrag]
section
variable {X:Cx} {pins:List (Addr×Obj)} {σ:L2.St} {H:Hp} {s:Shared}
end
end Mi
end
section
namespace Mi
open PySem L2 PySem.SeqAt PySem.Spec PyProof.Rows
variable [KFrag]
structure aE8 (K:PySem.W.Frag) (x qual:Str) (st:Stmt) (f:Addr) (fd:FuncData) (T:Addr) (its:Array Value):Prop where
 ex:∃(oc:Value) (od:Option Addr) (kV doc pm:Value) (an:Option Addr) (cdv ct:Value) (osl:Array (Option Value)),
  fd=PySem.W.fnOf x qual (cW st) (cD st) (aH st) (.ref T) kV doc pm an cdv ct/\K.lookup f=some ⟨oc,od,.func fd,osl⟩/\PySem.W.codeIn K cdv qual=true
 kp:PySem.W.keepIn K (.ref f)=true
 df:∃(tc:Value) (td:Option Addr) (tn:Nat) (tl:Array (Option Value)),K.lookup T=some ⟨tc,td,.seq its tn,tl⟩
section
variable {P:Program} {w:World} {K:PySem.W.Frag} {mg:Str->Option Value} {base:Heap} {x qual:Str} {st:Stmt} {fad T:Addr} {its:Array Value} {fd:FuncData} {N ps:List Str} {k:Nat} {f:FS}
end
structure aBa (P:Program) (w:World) (K:PySem.W.Frag) (mg:Str->Option Value) (base:Heap) (k:Nat) (x kw:Str) (n:Nat) (df:D) (f:List D->Res D):Prop where
 ex:∃(fad:Addr) (fd:FuncData) (ps:List Str) (u:Value) (v:V),i_ P w K mg base CX0 k fad fd ps (spD f (n+1))/\mg x=some (.ref fad)/\PySem.W.keepIn K (.ref fad)=true/\Binds K fd ps []/\Binds K fd ps [u]/\RelV v u/\(∀H:Hp,Rep All H v df)/\
  ∀(s:Shared) (us:List Value) (y:Value),K.In s.heap->us.length=n->BindsTo s fd ⟨us,[(kw,y)]⟩ (ps.zip (us++[y]))
theorem aBa.cal {P:Program} {w:World} {K:PySem.W.Frag} {mg:Str->Option Value} {base:Heap} {k:Nat} {x kw:Str} {n:Nat} {df:D} {f:List D->Res D} (C:aBa P w K mg base k x kw n df f):jK P w K mg base k x (n+1) f:=by
 obtain ⟨fad,fd,ps,u,v,F,hm,hk,hb,_⟩:=C.ex;exact ⟨fad,fd,ps,F,hm,hk,hb⟩
section
variable {X:Cx} {e ke:Expr} {es:List Expr} {pos p kp:Pos} {fs:FA} {rr re:Bool} {fk:FE} {x kw:Str} {k k' n:Nat} {df:D} {f:List D->Res D}
theorem JS (C:aBa X.prog X.w X.K X.mg X.base k x kw n df f) (hr:jC k' X.A) (hkk:k<=k') (hg:Gl X x) (ha:PA X (e::es) (gA fs rr)) (hdb:nDb x:=by decide) (he:starEach (e::es) X.env=(false,eval e X.env)::starEach es X.env:=by rfl) (hpl:(backTo pos (starEach es X.env)).any (·.1)=false:=by rfl) :
  PE X (.Call (.Name x p) (e::es) [] pos) (gE (aQ (fun ds=>f9 (n+1) f (ds++[df])) fs) true):=by
 obtain ⟨fad,fd,ps,u,v,F,hm,hk,hb,hb1,ru,rv,_⟩:=C.ex;refine PE.imp (FZ F (hr.mono hkk) hg hm hk hb1 (.cons ru .nil) O7 ha hdb he hpl) fun σ H Q h0=>?_
 obtain ⟨ρ,d,E,h,q⟩:=h0;obtain ⟨ds,h1,h⟩:=bG h;unfold f9 at h;split at h
 ·rename_i hl;exact ⟨ρ,ds,E,h1,fun vs H1 s1 r1 _=>⟨ds++[df],d,of_decide_eq_true hl,r1.append (.cons (rv H1) .nil),h,q.imp s1 id⟩⟩
 ·cases h
end
end Mi
end
section
namespace Mi
open PySem L2 PySem.SeqAt PySem.Spec PyProof.Rows
noncomputable def aBb:D->D->Res D
 | .tup a,.tup b=>if decide (a.length+b.length<=lim) then .ok (.tup (a++b)) else .bad
 | _,_=>.bad
noncomputable def mV:List D->List D->List (D×D)->List (D×D)
 | k::ks,v::vs,m=>mV ks vs (putD m k v)
 | _,_,m=>m
noncomputable def CW (c:FT) (body:FS):Nat->List D->Res Fl
 | 0,_=>.bad
 | n+1,ρ=>do
  let k <- c ρ
  if k then (do
   let r <- body ρ
   match r with
   | .nx ρ'=>CW c body n ρ'
   | .ct ρ'=>CW c body n ρ'
   | .bk ρ'=>.ok (.nx ρ')
   | .rt d=>.ok (.rt d))
  else .ok (.nx ρ)
def aE9 (c:FT) (body:FS):FS:=fun ρ=>CW c body 1000 ρ
variable [KFrag]
section
variable {X:Cx} {pos:Pos}
theorem XH:OpR X (binaryOp .Add) (r2 aBb false):=by
 intro pins s σ H x y v u Q I rx ry h;obtain ⟨a,b,d,p,q,e,k⟩:=h;unfold aBb at e;split at e
 ·rename_i da db;split at e
  ·rename_i hl;cases e;cases p with
   | @tup l1 xs1 _ e1 r1=>
    cases q with
    | @tup l2 xs2 _ e2 r2=>
     cases rx;cases ry;have hz:xs1.length+xs2.length<=sizeLine:=by rw [r1.length,r2.length];exact jV hl
     obtain ⟨its,w1,p1,_⟩:=I.tuple (.of e1);obtain ⟨its2,w2,p2,_⟩:=I.tuple (.of e2);obtain ⟨⟨cls,dd,data,sl⟩,ho,hc,n,hd⟩:=id p1;obtain ⟨⟨cls2,dd2,data2,sl2⟩,ho2,hc2,n2,hd2⟩:=id p2;simp only at hc hd hc2 hd2;by_cases hv:its=[]
     ·have:xs1=[]:=w1.nP.mp hv;subst this;cases r1;refine concat_meets ⟨_,ho,hc⟩ ⟨_,ho2,hc2⟩ noFill_tuple_add seq_tuple_add PySem.F.slot_tuple_add PySem.F.entry_tuple_add (PySem.F.args_tuple_add_2 _ _)
       (tuple_addW0 l1 l2 its.toArray its2.toArray n n2 dd dd2 sl sl2 (by simp [hv])) ⟨by subst hc hd;exact ho,by subst hc2 hd2;exact ho2,.ref l2,H,I,rfl,?_⟩
      exact k.self (.tup e2 r2) (fun z=>by cases z)
     ·refine V7 pins s σ H (.ref l1) (.ref l2) _ _ Q I rfl rfl ⟨l1,l2,xs1,xs2,rfl,rfl,.of e1,.of e2,fun z=>hv (w1.nP.mpr z),hz,fun z=>?_,fun z p hp=>?_⟩
      ·subst z;cases r2;rw [List.append_nil] at k;exact k.self (.tup e1 r1) (fun z=>by cases z)
      ·have sp:bK H (upd H p (.tup (xs1++xs2))):=bK.upd hp;exact k _ _ sp (.tup aC ((r1.append r2).same sp)) fun z=>by cases z
  ·cases e
 ·cases e
theorem aBc {own:Nat->Bool} {c:Expr} {body:List Stmt} {gc:FT} {fb:FS} (hp:PassesOwn (model X.prog X.w) X.A X.env X.xe) (hc:PT X c (gT gc)) (hb:PSs X body (tS own fb)):PS X (.While c body [] pos) (tS own (aE9 gc fb)):=
 PS.imp (wI hp hc hb) fun D σ H ⟨ρ,fl,E,h,q⟩=>by
 refine ⟨fun m σ' H'=>∃ρ' ,ES own H' σ' ρ'/\CW gc fb m ρ'=.ok fl/\kS own D σ' H' fl,⟨1000,ρ,E,h,q⟩,?_⟩;rintro m σ H ⟨ρ,E,h,q⟩;cases m with
 | zero=>cases h
 | succ m=>
  rw [CW] at h;obtain ⟨k,h1,h2⟩:=bG h;refine ⟨ρ,k,E.er,h1,fun H1 s=>?_⟩;cases k with
  | true=>
   rw [if_pos rfl];rw [if_pos rfl] at h2;obtain ⟨r,h3,h4⟩:=bG h2;refine ⟨fun σ' H'=>∃ρ',ES own H' σ' ρ'/\CW gc fb m ρ'=.ok fl/\kS own D σ' H' fl,fun σ' H' w=>⟨m,Nat.lt_succ_self m,w⟩,ρ,r,E.same s,h3,?_⟩;have q1:=q.step (.same s);cases r with
   | nx ρ'=>exact fun σ' H' ku E'=>⟨ρ',E',h4,q1.step ku⟩
   | ct ρ'=>exact fun σ' H' ku E'=>⟨ρ',E',h4,q1.step ku⟩
   | bk ρ'=>cases h4;exact fun σ' H' ku E'=>q1 σ' H' ku E'
   | rt d=>cases h4;exact q1
  | false=>
   rw [if_neg (by simp)];rw [if_neg (by simp)] at h2;cases h2;exact (q.step (.same s)) σ H1 (fun a o e n=>⟨e,n⟩) (E.same s)
end
end Mi
end
section
namespace Mi
open PySem L2 PySem.SeqAt PySem.Spec PyProof.Rows
variable [KFrag]
section
variable {X:Cx} {own:Nat->Bool} {e:Expr} {fe:FE} {re:Bool} {pos:Pos}
end
end Mi
end
section
namespace Mi
open PySem L2 PySem.SeqAt PySem.Spec PyProof.Rows
variable [KFrag]
theorem aBd {P:Program} {w:World} {k:Key} {v:Value} (h:(bL P w).is k v=true):RelV (kV k) v:=by
 have h:uT k v=true:=h;rcases bY h with ⟨i,t,rfl,rfl⟩|⟨x,t,rfl,rfl⟩
 ·exact ⟨t,rfl⟩
 ·exact ⟨t,rfl⟩
section
variable {X:Cx} {pins:List (Addr×Obj)} {σ:L2.St} {H:Hp} {s:Shared} {a:Addr} {kvs:List (Key×V)}
theorem QT {o:Obj} {u:HO} (I:Inv X pins σ H s) (e:H a=some (.frz o u)) (hn:∀o u,X.H₀ a≠some (.frz o u)):Inv X pins σ (upd H a u) s:=by
 have ne:∀b,H b=none->b≠a:=fun b h z=>by subst z;rw [e] at h;cases h
 have keepT:∀b xs,H b=some (.tup xs)->upd H a u b=some (.tup xs):=fun b xs h=>by
  rw [aJ (fun z=>by subst z;rw [e] at h;cases h)];exact h
 have keepO:∀b x,H b=some (.own x)->upd H a u b=some (.own x):=fun b x h=>by
  rw [aJ (fun z=>by subst z;rw [e] at h;cases h)];exact h
 refine ⟨I.ok,I.os,I.bare,⟨I.base.keep,I.base.slot,fun b o h1 h2 h3=>?_,I.base.there,fun b xs h=>?_,fun b o' u' h=>?_,fun b ps h=>?_⟩,I.loc,I.cell,?_,fun x c h=>?_,fun p hp=>?_,fun b ob h=>?_,I.len⟩
 ·have:=I.base.free b o h1 h2 h3;rw [aJ (ne b this)];exact this
 ·exact keepT b xs (I.base.tups b xs h)
 ·have:=I.base.frzs b o' u' h;rw [aJ (fun z=>by subst z;exact hn _ _ h)];exact this
 ·obtain ⟨more,h1⟩:=I.base.tbls b ps h;refine ⟨more,?_⟩;rw [aJ (fun z=>by subst z;rw [e] at h1;cases h1)];exact h1
 ·rw [aJ (ne _ I.free)];exact I.free
 ·have:=I.freeC x c h;rw [aJ (ne _ this)];exact this
 ·obtain ⟨h1,h2,h3⟩:=I.pin p hp;exact ⟨h1,by rw [aJ (ne _ h2)];exact h2,h3⟩
 ·by_cases hb:b=a
  ·subst hb;rw [aC] at h;cases h;obtain ⟨_,h2⟩:=I.hok b _ e;exact h2.stay (fun _ _ _ q=>q) (fun c hc=>keepO c b hc) keepT
  ·rw [aJ hb] at h;exact (I.hok b _ h).stay (fun _ _ _ q=>q) (fun c hc=>keepO c b hc) keepT
end
end Mi
end
section
namespace Mi
open PySem L2 PySem.SeqAt PySem.Spec PyProof.Rows
variable [KFrag]
section
variable {X:Cx} {scope:Scope} {own:Nat->Bool} {x c y:Str} {i n iy:Nat} {elt cnd:Expr} {fe:FE} {gc:FT} {re o:Bool} {np cpos pos py pos2:Pos}
end
section
variable {own:Nat->Bool}
end
end Mi
end
section
namespace Wz
open PySem PySem.Spec
noncomputable abbrev itO (t:Addr) (i:Nat):Obj:={cls:=.type "tuple_iterator",data:=.fields #[.ref t,.int i 0]}
noncomputable abbrev tuO (xs:Array Value) (n:Nat) (dd:Option Addr) (sl:Array (Option Value)):Obj:={cls:=.type "tuple",dict:=dd,data:=.seq xs n,slots:=sl}
noncomputable abbrev zpO (f0 f1:Value) (TI TO:Addr):Obj:={cls:=.type "zip",data:=.fields #[f0,f1,.bool false,.ref TI,.ref TO]}
abbrev prO (a b:Value):Obj:={cls:=.type "tuple",data:=.seq #[a,b]}
theorem A_ (it t:Addr) (i:Nat) (xs:Array Value) (n:Nat) (dd:Option Addr) (sl:Array (Option Value)) (x:Value) (hx:xs[i]?=some x) :
  Meets (Builtin.«tuple_iterator.__next__» ⟨[.ref it],[]⟩) (fun _ R s=>s.heap.get? it=some (itO t i)/\s.heap.get? t=some (tuO xs n dd sl)/\R (.ok (.ret x)) {s with heap:=s.heap.update it (Obj.mapFields (·.setIfInBounds 1 (rawInt (i+1))))}):=.of_wp fun prog w A R s hs=>by
 obtain ⟨hp,g,d,tk,os⟩:=s;obtain ⟨e1,e2,hq⟩:=hs
 wp_walk
 rw [Int.toNat_natCast,hx]
 wp_walk
 exact ⟨_,rfl,hq⟩
theorem BJ (it t:Addr) (i:Nat) (xs:Array Value) (n:Nat) (dd:Option Addr) (sl:Array (Option Value)) (hx:xs[i]?=none) :
  Meets (Builtin.«tuple_iterator.__next__» ⟨[.ref it],[]⟩) (fun A R s=>A.handled=none/\s.heap.get? it=some (itO t i)/\s.heap.get? t=some (tuO xs n dd sl)/\∀h' e,Heap.ExtBut it s.heap h'->(∃o,h'.get? e=some o/\o.cls=.type "StopIteration")->R (.error (.ref e)) {s with heap:=h'}):=.of_wp fun prog w A R s hs=>by
 obtain ⟨hp,g,d,tk,os⟩:=s;obtain ⟨hh,e1,e2,hq⟩:=hs
 wp_walk
 rw [Int.toNat_natCast,hx]
 wp_walk
 have hh1:A.in1.handled=none:=hh;unfold raiseNew
 wp_walk
 exact hq _ _ (((Heap.SameBut.update ..).extBut.push _).push _) ⟨_,Heap.get?_push_size _ rfl,rfl⟩
section
variable {prog:Program} {w:World} {A:Around} {E:Value->Shared->Prop} {s:Shared} {it t:Addr} {i:Nat} {xs:Array Value} {x:Value} {n:Nat} {dd:Option Addr} {sl:Array (Option Value)}
theorem drawn {Q:Value->Shared->Prop} (e1:s.heap.get? it=some (itO t i)) (e2:s.heap.get? t=some (tuO xs n dd sl)) (hx:xs[i]?=some x)
  (q:∀h',h'.get? it=some (itO t (i+1))->Heap.SameBut it s.heap h'->Q x {s with heap:=h'}):wpAny (model prog w) A (Builtin.SmallTypes.nextOf (.ref it)) Q E s:=by
 have ty:s.TypeIs (.ref it) "tuple_iterator":=⟨_,e1,rfl⟩
 refine wpAny_bind (wpAny_callSpecial?_slot ty F.slot_tuple_iterator_next ?_);refine call_meets F.slot_tuple_iterator_next ty F.entry_tuple_iterator_next (F.args_tuple_iterator_next_1 _) (A_ it t i xs n dd sl x hx) ⟨e1,e2,wpAny_pure (q _ ?_ (Heap.SameBut.update ..))⟩;exact Heap.get?_update_self _ e1 rfl
theorem over {Q:Value->Shared->Prop} (hh:A.handled=none) (e1:s.heap.get? it=some (itO t i)) (e2:s.heap.get? t=some (tuO xs n dd sl)) (hx:xs[i]?=none)
  (q:∀h' e,Heap.ExtBut it s.heap h'->(∃o,h'.get? e=some o/\o.cls=.type "StopIteration")->E (.ref e) {s with heap:=h'}):wpAny (model prog w) A (Builtin.SmallTypes.nextOf (.ref it)) Q E s:=by
 have ty:s.TypeIs (.ref it) "tuple_iterator":=⟨_,e1,rfl⟩
 refine wpAny_bind (wpAny_callSpecial?_slot ty F.slot_tuple_iterator_next ?_);exact call_meets F.slot_tuple_iterator_next ty F.entry_tuple_iterator_next (F.args_tuple_iterator_next_1 _) (BJ it t i xs n dd sl hx) ⟨hh,e1,e2,fun h' e k o=>q h' e k o⟩
end
structure Apart (z TI TO i1 i2 l1 l2:Addr):Prop where
 zTI:z≠TI
 zTO:z≠TO
 z1:z≠i1
 z2:z≠i2
 zl:z≠l1
 zm:z≠l2
 TT:TI≠TO
 T1:TI≠i1
 T2:TI≠i2
 O1:TO≠i1
 O2:TO≠i2
 Ol:TO≠l1
 Om:TO≠l2
 ij:i1≠i2
 il:i1≠l1
 im:i1≠l2
 jl:i2≠l1
 jm:i2≠l2
section
variable {z TI TO i1 i2 l1 l2:Addr} {o1 o2:Obj} {f0 f1 g0 g1 a b c d:Value} {k1 k2:Nat} {h h':Heap}
end
noncomputable def QV (z TO i1 i2:Addr) (h h':Heap):Prop:=∀c o,c≠z->c≠TO->c≠i1->c≠i2->h.get? c=some o->h'.get? c=some o
section
variable {prog:Program} {w:World} {A:Around} {E:Value->Shared->Prop} {s:Shared} {z TI TO i1 i2 l1 l2:Addr} {n1 n2:Nat} {d1 d2:Option Addr} {s1 s2:Array (Option Value)} {f0 f1 a b x y:Value} {k:Nat} {xs ys:Array Value}
end
end Wz
end
section
namespace Wz
open PySem PySem.Spec
abbrev nxt (z:Addr):Sem PySem.Fin:=Builtin.«zip.__next__» ⟨[.ref z],[]⟩
noncomputable abbrev Got (Q:Value->Shared->Prop):PySem.Fin->Shared->Prop:=fun r t=>∃v,r=.done (.ret v)/\Q v t
section
variable {prog:Program} {w:World} {A:Around} {E:Value->Shared->Prop} {s:Shared} {z TI TO i1 i2 l1 l2:Addr} {n1 n2:Nat} {d1 d2:Option Addr} {s1 s2:Array (Option Value)} {f0 f1 a b x y:Value} {k:Nat} {xs ys:Array Value}
theorem there {c:Addr} {o:Obj} {Q:Option Obj->Shared->Prop} (e:s.heap.get? c=some o) (q:Q (some o) s):wpAny (model prog w) A (loadIfAlive c) Q E s:=fun Γ p _=>by
 show Sem.wp _ Γ (.loadIfAlive c pure) _ _ p s;rw [Sem.wp_loadIfAlive,e];exact q
end
end Wz
end
section
namespace Wz
open PySem PySem.Spec
theorem five (h:Heap) (a b c d e:Obj) (fa:a.isFreed=false) (fb:b.isFreed=false) (fc:c.isFreed=false) (fd:d.isFreed=false) (fe:e.isFreed=false) :
  (((((h.push a).push b).push c).push d).push e).get? h.objs.size=some a/\(((((h.push a).push b).push c).push d).push e).get? (h.objs.size+1)=some b/\(((((h.push a).push b).push c).push d).push e).get? (h.objs.size+2)=some c/\(((((h.push a).push b).push c).push d).push e).get? (h.objs.size+3)=some d/\(((((h.push a).push b).push c).push d).push e).get? (h.objs.size+4)=some e/\
  (∀x o,h.get? x=some o->(((((h.push a).push b).push c).push d).push e).get? x=some o)/\(((((h.push a).push b).push c).push d).push e).objs.size=h.objs.size+5:=by
 have z1:(h.push a).objs.size=h.objs.size+1:=Heap.size_push ..;have z2:((h.push a).push b).objs.size=h.objs.size+2:=(Heap.size_push ..).trans (by rw [z1]);have z3:(((h.push a).push b).push c).objs.size=h.objs.size+3:=(Heap.size_push ..).trans (by rw [z2]);have z4:((((h.push a).push b).push c).push d).objs.size=h.objs.size+4:=(Heap.size_push ..).trans (by rw [z3]);have up:∀{h:Heap} {x:Addr} {o q:Obj},h.get? x=some o->(h.push q).get? x=some o:=fun e=>Heap.get?_push_of_some _ e
 have g2:=Heap.get?_push_size (h.push a) (o:=b) fb;have g3:=Heap.get?_push_size ((h.push a).push b) (o:=c) fc;have g4:=Heap.get?_push_size (((h.push a).push b).push c) (o:=d) fd;have g5:=Heap.get?_push_size ((((h.push a).push b).push c).push d) (o:=e) fe;rw [z1] at g2;rw [z2] at g3;rw [z3] at g4;rw [z4] at g5;exact ⟨up (up (up (up (Heap.get?_push_size h fa)))),up (up (up g2)),up (up g3),up g4,g5,fun x o q=>up (up (up (up (up q)))),(Heap.size_push ..).trans (by rw [z4])⟩
section
variable {prog:Program} {w:World} {A:Around} {E:Value->Shared->Prop} {s:Shared}
end
theorem JT:typeLookup (.type "zip") "keys" = pure none:=by rw [typeLookup_type,builtinLookup_eq_fast];kernel_rfl
theorem noGet:typeLookup (.type "zip") "__getattr__" = pure none:=by rw [typeLookup_type,builtinLookup_eq_fast];kernel_rfl
theorem JV:entryFor table "zip.__getattribute__" = some Builtin.«object.__getattribute__»:=entryFor_alias (id' := "object.__getattribute__") (by kernel_rfl) (by decide +kernel) (by decide +kernel) (by kernel_rfl)
theorem kE (a:Addr) (f0 f1:Value) (TI TO:Addr) (u:Tok):Meets (Builtin.«object.__getattribute__» ⟨[.ref a,.str "keys" u],[]⟩) (fun A R s=>s.heap.get? a=some (zpO f0 f1 TI TO)/\raisesAttr (.ref a) "keys" A R s):=.of_wp fun prog w A R s hs=>by
 obtain ⟨hp,g,d,tk,os⟩:=s;obtain ⟨e,hh,q⟩:=hs;have ty:(⟨hp,g,d,tk,os⟩:Shared).TypeIs (.ref a) "zip":=⟨_,e,rfl⟩
 have no:=JT
 wp_walk
 exact wpAny_raiseAttrError hh q (attrMsg_fits (by decide +kernel) (by size_fits))
section
variable {prog:Program} {w:World} {A:Around} {E:Value->Shared->Prop} {hp:Heap} {g:Array GenState} {d:Drawn} {tk:Nat} {os:OsState} {a TI TO:Addr} {f0 f1:Value}
theorem gone {u:Tok} {kw:List (Str×Value)} {Q:Value->Shared->Prop} (e:hp.get? a=some (zpO f0 f1 TI TO)) (hh:A.handled=none) (hk:kw=[]) (q:∀h' tk' x,Heap.NewAttrErr hp h' x (.ref a) "keys"->E (.ref x) ⟨h',g,d,tk',os⟩) :
  wpAny (model prog w) A (call (.builtin "zip.__getattribute__") ([.ref a]++[.str "keys" u]) kw) Q E ⟨hp,g,d,tk,os⟩:=by
 subst hk;exact call_meets F.slot_zip_getattribute ⟨_,e,rfl⟩ JV (F.args_zip_getattribute_2 _ _) (kE a f0 f1 TI TO u) ⟨e,hh,fun h' tk' x hx=>q h' tk' x hx⟩
theorem lacks {Q:Option Value->Shared->Prop} (e:hp.get? a=some (zpO f0 f1 TI TO)) (hh:A.handled=none) (q:∀h' tk',(∀b o,hp.get? b=some o->h'.get? b=some o)->Q none ⟨h',g,d,tk',os⟩):wpAny (model prog w) A (getAttr? (.ref a) "keys") Q E ⟨hp,g,d,tk,os⟩:=by
 have ty:∀tk',(⟨hp,g,d,tk',os⟩:Shared).TypeIs (.ref a) "zip":=fun _=>⟨_,e,rfl⟩
 have f3:=F.slot_zip_getattribute.lookup;have f4:=F.slot_zip_getattribute.bind (.ref a);have f5:=noGet;have sub:=sub_AttributeError
 wp_walk using gone e hh
 case hk=>rfl
 intro h' tk' x hx;obtain ⟨t,u,ex⟩:=hx.there;show wpAny _ _ (getattributeRaised _ _ _ _ _ _ _) _ _ _
 wp_walk
 exact q _ _ hx.keeps
end
end Wz
end
section
namespace Wz
open PySem PySem.Spec
section
variable {prog:Program} {w:World} {A:Around} {E:Value->Shared->Prop} {s:Shared} {z TI TO i1 i2 l1 l2 d:Addr} {n1 n2:Nat} {d1 d2:Option Addr} {s1 s2:Array (Option Value)} {x y:Value} {k:Nat} {xs ys:Array Value}
theorem apart {h:Heap} {c d:Addr} {o od:Obj} {T:String} (e:h.get? c=some o) (hc:o.cls=.type T) (ed:h.get? d=some od) (hd:od.cls=.type "dict") (ne:(Value.type T==Value.type "dict")=false):c≠d:=fun q=>by
 subst q;rw [e] at ed;cases ed;rw [hc] at hd;rw [hd] at ne;simp at ne
end
theorem gR:entryFor table "dict.update.loop" = some Builtin.«dict.update.loop»:=entryFor_of_tree (by kernel_rfl)
section
variable {prog:Program} {w:World} {K:Type} [DecidableEq K] {knd:KeyKind prog w K} {A:Around} {R:Except Value Flow->Shared->Prop} {z TI TO i1 i2 l1 l2 d:Addr} {n1 n2:Nat} {d1 d2:Option Addr} {s1 s2:Array (Option Value)} {xs ys:Array Value} {ks:List K}
end
section
variable {prog:Program} {w:World} {K:Type} [DecidableEq K] {knd:KeyKind prog w K} {A:Around} {E:Value->Shared->Prop} {hp:Heap} {g:Array GenState} {dr:Drawn} {tk:Nat} {os:OsState} {z TI TO i1 i2 l1 l2:Addr} {n1 n2:Nat} {d1 d2:Option Addr} {s1 s2:Array (Option Value)} {xs ys:Array Value} {ks:List K}
end
end Wz
end
section
namespace Mi
open PySem L2 PySem.SeqAt PySem.Spec PyProof.Rows
variable [KFrag]
theorem boot_zip:bootBuiltins "zip" = some (.type "zip"):=by decide +kernel
theorem qX:bootBuiltins "dict" = some (.type "dict"):=by decide +kernel
theorem JW {P:Addr->Prop} {H:Hp} {pr:Program} {w:World}:∀{vs:List V} {us:List Value} {ds:List D},aW P H vs ds->Vals vs us->ds.all fH=true->∃ks:List Key,ks.map kD=ds/\ks.length=us.length/\∀(i:Nat) (u:Value),us[i]?=some u->∃k,ks[i]?=some k/\(bL pr w).is k u=true
 | _,_,_,.nil,.nil,_=>⟨[],rfl,rfl,fun i u h=>by simp at h⟩
 | v::vs,u::us,d::ds,.cons r t,.cons rv tv,h=>by
  rw [List.all_cons,Bool.and_eq_true] at h;obtain ⟨ks,h1,h2,h3⟩:=JW (pr:=pr) (w:=w) t tv h.2;obtain ⟨k,hk1,hk2⟩:∃k:Key,kD k=d/\(bL pr w).is k u=true:=by
   cases r with
   | int i=>exact ⟨.inl i,rfl,sV (k:=.inl i) rv⟩
   | str x=>exact ⟨.inr x,rfl,sV (k:=.inr x) rv⟩
   | _=>cases h.1
  refine ⟨k::ks,by rw [List.map_cons,hk1,h1],by rw [List.length_cons,List.length_cons,h2],fun i u' hu=>?_⟩;cases i with
  | zero=>simp at hu;subst hu;exact ⟨k,rfl,hk2⟩
  | succ i=>exact h3 i u' (by simpa using hu)
theorem qY {P:Addr->Prop} {H:Hp} {k:Key} {v:V} {d:D} (r:Rep P H v d):∀{kvs:List (Key×V)} {ds:List (D×D)},dD P H kvs ds->(kvs.map (·.1)).Nodup->dD P H (putK kvs k v) (putD ds (kD k) d)
 | _,_,.nil,_=>.cons r .nil
 | _,_,.cons (k:=k') (v:=v') (r:=kvs) (ds:=ds) r' t,hn=>by
  rw [List.map_cons,List.nodup_cons] at hn;rw [putD,HR];by_cases h:k'=k
  ·rw [qP h (by rw [<-h];exact hn.1),if_pos (decide_eq_true h),h];exact .cons r t
  ·rw [qQ h,if_neg (by simpa using h)];exact .cons r' (qY r t hn.2)
theorem xU {P:Addr->Prop} {H:Hp}:∀{ks:List Key} {vs:List V} {ds:List D} {kvs:List (Key×V)} {es:List (D×D)},aW P H vs ds->dD P H kvs es->(kvs.map (·.1)).Nodup->dD P H (dG kvs (ks.zip vs)) (mV (ks.map kD) ds es)/\((dG kvs (ks.zip vs)).map (·.1)).Nodup
 | [],_,_,_,_,_,r,n=>by
  rw [List.zip_nil_left];exact ⟨by cases ‹List D› <;> exact r,n⟩
 | k::ks,_,_,kvs,es,.nil,r,n=>⟨r,n⟩
 | k::ks,_,_,kvs,es,.cons rv tv,r,n=>xU (ks:=ks) tv (qY rv r n) (fO n)
theorem aBe {vs:List V} {us:List Value} (r:Vals vs us):∀ks:List Key,KV (ks.zip vs) (ks.zip us):=by
 induction r with
 | nil=>intro ks;rw [List.zip_nil_right,List.zip_nil_right];exact .nil
 | cons h t ih=>
  intro ks;cases ks with
  | nil=>exact .nil
  | cons k ks=>exact .cons ⟨rfl,h⟩ (ih ks)
theorem JX {n l m:Nat} (hl:l<n) (hm:m<n):Wz.Apart (n+4) (n+2) (n+3) n (n+1) l m:=by
 constructor <;> (intro h;replace h:@Eq Nat _ _:=h;lia)
section
variable {X:Cx} {a b:Expr} {fs:FA} {rr:Bool} {p p2 pos pos2:Pos}
end
end Mi
end
section
namespace Mi
open PySem L2 PySem.SeqAt PySem.Spec PyProof.Rows
noncomputable def BK (i j:Nat):FS:=fun ρ=>match ρ.getD i .uD with
 | .lst xs=>(match xs[xs.length-1]? with|some x=>.ok (.nx ((ρ.set i (.lst xs.dropLast)).set j x))|none=>.bad)
 | _=>.bad
noncomputable def aBf (i:Nat) (f:FE):FS:=fun ρ=>do
 let d <- f ρ
 match ρ.getD i .uD,d with
 | .lst xs,.lst ys=>if decide (xs.length+ys.length<=lim)&&D.aG ys then .ok (.nx (ρ.set i (.lst (xs++ys)))) else .bad
 | _,_=>.bad
variable [KFrag]
section
variable {X:Cx} {own:Nat->Bool} {e:Expr} {fe:FE} {re:Bool} {pos:Pos}
theorem XJ {i j:Nat} {x y:Str} {p1 py apos cpos:Pos} (ho:own i=true) (hN:X.N[i]?=some x) (hv:Vis X.env.scope x) (hnd:X.N.Nodup) (hj:X.N[j]?=some y) (hy:Loc X.env.scope y) (hoj:own j=false) (hd:nDb x:=by decide) (hcd:nCd x:=by decide)
  (hbase:attributeBase (.Name x p1) "pop" X.env (eval (.Name x p1) X.env)=eval (.Name x p1) X.env:=by rfl)
  (hline:(apos.endLine==cpos.line)=true:=by rfl)
  (hs:swapsWith (.Call (.Attribute (.Name x p1) "pop" apos) [] [] cpos) (some (.Name y py)) pos.line X.env=pure false:=by rfl) (hf:X.fn y=true\/X.env.scope.names.lookup y=some .local:=by first|exact .inl rfl|exact .inr rfl|assumption) :
  PS X (.Assign [.Name y py] (.Call (.Attribute (.Name x p1) "pop" apos) [] [] cpos) pos) (tS own (BK i j)):=
 PS.imp (DW hnd hj hy (wQ PySem.F.plainAttrs_list PySem.F.slot_list_pop PySem.F.type_list_pop GQ (aN hN hv hd hcd) hbase hline) hs hf) fun D' σ H ⟨ρ,fl,E,h,q⟩=>by
 unfold BK at h;split at h
 ·rename_i xs hx;split at h
  ·rename_i dx hdx;cases h;obtain ⟨a,o,hσ,r,hin,ha,hm⟩:=E.ownAt ho (by rw [hx];intro z;cases z);rw [hx] at r hin;obtain ⟨vs,hl,rr⟩:=IW r;obtain ⟨v,hvx,rv⟩:=rr.get hdx;have hlen:=rr.length;refine ⟨_,hσ,.inl ⟨rfl,vs,.of hl⟩,a,vs,v,rfl,rfl,hl,by rw [hlen];exact hvx,?_⟩;have hin':D.aG xs=true:=hin;have pall:∀y∈xs,y.pure=true:=fun y hy=>cC.mp hin' y hy
   have pdx:dx.pure=true:=pall dx (List.mem_of_getElem? hdx);have pe:D.aG xs.dropLast=true:=cC.mpr fun y hy=>pall y (List.dropLast_subset _ hy)
   have er:aW All H vs.dropLast xs.dropLast:=by
    rw [List.dropLast_eq_take,List.dropLast_eq_take,hlen];exact rr.take _
   obtain ⟨E2,k2⟩:=E.mut (o:=.lst vs.dropLast) (d:=.lst xs.dropLast) ho hσ rfl (.lst aC trivial (er.upd pe hl rfl)) pe;have r1:=(aW.cons rv .nil).upd (o:=.lst vs.dropLast) (by rw [D.aG,pdx];rfl) hl rfl;cases r1 with
   | cons r1 _=>
    have E3:=E2.set hoj (v:=v) (d:=dx) (r1.bH pdx);exact q _ _ (k2.trans fun b ob eb nb=>⟨eb,by rw [jJ hoj];exact nb⟩) E3
  ·cases h
 ·cases h
theorem aBg {i:Nat} {x:Str} {p1 apos cpos:Pos} (ho:own i=true) (hN:X.N[i]?=some x) (hv:Vis X.env.scope x) (he:PE X e (gE fe re)) (hd:nDb x:=by decide) (hcd:nCd x:=by decide)
  (hbase:attributeBase (.Name x p1) "extend" X.env (eval (.Name x p1) X.env)=eval (.Name x p1) X.env:=by rfl)
  (hs1:starEach [e] X.env=(false,eval e X.env)::starEach [] X.env:=by rfl)
  (hfew:((backTo cpos (starEach [e] X.env)).all (fun x=>!x.1)&&(backToKw cpos (keywordEach [] X.env)).all (fun x=>x.1.isSome)
   && decide (([e]:List Expr).length+([]:List Keyword).length+(if ([]:List Keyword).isEmpty then 0 else 1)<30))=true:=by rfl)
  (hline:(apos.endLine==cpos.line)=true:=by rfl)
  (hs:swapsWith (.Call (.Attribute (.Name x p1) "extend" apos) [e] [] cpos) none pos.line X.env=pure false:=by rfl) :
  PS X (.Expr (.Call (.Attribute (.Name x p1) "extend" apos) [e] [] cpos) pos) (tS own (aBf i fe)):=
 PS.imp (jB (zO PySem.F.plainAttrs_list PySem.F.slot_list_extend PySem.F.type_list_extend GP (aN hN hv hd hcd) (bI he dF hs1) hbase hfew hline hs1 rfl) hs) fun D' σ H ⟨ρ,fl,E,h,q⟩=>by
 obtain ⟨d,h1,h2⟩:=bG h;split at h2
 ·rename_i xs ys hx;split at h2
  ·rename_i hk;cases h2;rw [Bool.and_eq_true,decide_eq_true_eq] at hk;obtain ⟨a,o,hσ,r,hin,ha,hm⟩:=E.ownAt ho (by rw [hx];intro z;cases z);rw [hx] at r hin;obtain ⟨vs,hl,rr⟩:=IW r;refine ⟨_,hσ,.inl ⟨rfl,vs,.of hl⟩,ρ,_,E.er,h1,fun v H' s rv _=>?_⟩;cases rv with
   | @lst b zs _ hb _ rz=>
    have E':=E.same s;have hl':=s _ _ hl;refine ⟨a,b,vs,zs,rfl,rfl,hl',hb,by rw [rr.length,rz.length];exact Nat.le_trans hk.1 (by rw [sizeLine_eq];decide),?_⟩;have hp:D.aG (xs++ys)=true:=by rw [gP,Bool.and_eq_true];exact ⟨hin,hk.2⟩
    obtain ⟨E2,k2⟩:=E'.mut (o:=.lst (vs++zs)) (d:=.lst (xs++ys)) ho hσ rfl (.lst aC trivial (((rr.same s).append rz).upd hp hl' rfl)) hp;exact q _ _ ((KU.same s).trans k2) E2
  ·cases h2
 ·cases h2
end
end Mi
end
section
namespace Ws
open PySem PySem.Spec PySem.Builtin PySem.Builtin.Str
end Ws
namespace Mi
open PySem L2 PySem.SeqAt PySem.Spec PyProof.Rows
variable [KFrag]
end Mi
end
section
namespace Ws
open PySem PySem.Spec PySem.Builtin PySem.SeqAt PyProof.Rows
section
variable {prog:Program} {w:World} {A:Around} {E:Value->Shared->Prop} {s:Shared}
end
end Ws
namespace Mi
open PySem L2 PySem.SeqAt PySem.Spec PyProof.Rows
variable [KFrag]
section
variable {X:Cx}
end
end Mi
end
section
namespace Wz
open PySem PySem.Spec
section
variable {prog:Program} {w:World} {A:Around} {E:Value->Shared->Prop} {s:Shared} {z TI TO i1 i2 l1 l2:Addr} {o1 o2:Obj} {a b:Value} {k1 k2:Nat}
end
end Wz
namespace Mi
open PySem L2 PySem.SeqAt PySem.Spec PyProof.Rows
variable [KFrag]
section
variable {X:Cx}
end
section
variable {X:Cx} {a b:Expr} {fs:FA} {rr:Bool} {p pos:Pos}
end
end Mi
end
section
namespace Mi
open PySem L2 PySem.SeqAt PySem.Spec PyProof.Rows
abbrev FX:=List D->Res (D×List D)
noncomputable def JZ:D->Option (List D)
 | .lst xs=>some xs
 | .cel _ xs=>some xs
 | _=>none
noncomputable def aD6:D->List D->D
 | .cel a _,xs=>.cel a xs
 | _,xs=>.lst xs
noncomputable def bPu (f:FE):FE:=fun ρ=>do
 let d <- f ρ
 if d.pure then .ok d else .bad
variable [KFrag]
section
variable {own:Nat->Bool}
theorem aBh {P:Addr->Prop} {H:Hp} {a:Addr} {d:D} {xs:List D} (r:Rep P H (.ref a) d) (h:JZ d=some xs):∃vs,H a=some (.lst vs)/\P a/\aW P H vs xs:=by
 cases d <;> simp only [JZ] at h <;> cases h <;> cases r
 ·exact ⟨_,by assumption,by assumption,by assumption⟩
 ·exact ⟨_,by assumption,by assumption,by assumption⟩
theorem XM {P:Addr->Prop} {H:Hp} {v:V} {b:Nat} {xs:List D} (r:Rep P H v (.cel b xs)):v=.ref b:=by cases r;rfl
theorem aBi {P P':Addr->Prop} {H H':Hp} {a:Addr} {d:D} {xs xs':List D} {vs':List V} (r:Rep P H (.ref a) d) (h:JZ d=some xs) (e:H' a=some (.lst vs')) (p:P' a) (r':aW P' H' vs' xs'):Rep P' H' (.ref a) (aD6 d xs'):=by
 cases d <;> simp only [JZ] at h <;> cases h <;> cases r
 ·exact .lst e p r'
 ·exact .cel e p r'
theorem aBj {d:D} {xs:List D} (h:JZ d=some xs):inner d=D.aG xs:=by
 cases d <;> simp only [JZ] at h <;> cases h <;> rfl
theorem XN {d:D} {xs xs':List D} (h:JZ d=some xs):inner (aD6 d xs')=D.aG xs':=by
 cases d <;> simp only [JZ] at h <;> cases h <;> rfl
theorem aBk {d:D} {xs:List D} (h:JZ d=some xs):d≠.uD:=fun z=>by subst z;cases h
noncomputable def NS (own:Nat->Bool) (ρ ρ':List D):Prop:=∀i,own i=false->ρ'.getD i .uD=ρ.getD i .uD
theorem NS.refl {ρ:List D}:NS own ρ ρ:=fun _ _=>rfl
theorem NS.set {ρ:List D} {i:Nat} {d:D} (ho:own i=true):NS own ρ (ρ.set i d):=fun j hj=>by
 rw [dM,if_neg];rintro ⟨rfl,_⟩;rw [ho] at hj;cases hj
noncomputable def kX (own:Nat->Bool) (σ:L2.St) (H:Hp) (ρ:List D) (d:D) (ρ':List D) (Q:VK):Prop:=∀v H',KU own σ H σ H'->ES own H' σ ρ'->NS own ρ ρ'->Rep (New H) H' v d->Q v H'
noncomputable def gX (own:Nat->Bool) (f:FX):TE:=fun σ H Q=>∃ρ d ρ',ES own H σ ρ/\f ρ=.ok (d,ρ')/\kX own σ H ρ d ρ' Q
theorem vR {σ:L2.St} {H:Hp} {ρ:List D} (E:ES own H σ ρ) {a:Addr} (h:H a=none):¬Own own σ a:=fun n=>by
 obtain ⟨o',e,_⟩:=E.live n;rw [h] at e;cases e
end
section
variable {own:Nat->Bool} {X:Cx} {a b c e:Expr} {pos pos':Pos} {fa fb fe:FE} {ra rb re:Bool} {xa xb xe:FX}
end
end Mi
end
section
namespace Mi
open PySem L2 PySem.SeqAt PySem.Spec PyProof.Rows
variable [KFrag]
section
variable {own:Nat->Bool} {X:Cx} {a b c e:Expr} {pos pos':Pos} {fa fb fe:FE} {ra rb re:Bool} {xa xb xe:FX}
theorem XQ {σ:L2.St} {H:Hp} {ρ:List D} {i:Nat} {xs:List D} (E:ES own H σ ρ) (ho:own i=true) (h:JZ (ρ.getD i .uD)=some xs):∃a vs,σ[i]?=some (some (.ref a))/\H a=some (.lst vs)/\aW All H vs xs/\D.aG xs=true/\Rep All H (.ref a) (ρ.getD i .uD)/\∀b,ρ.getD i .uD=.cel b xs->b=a:=by
 obtain ⟨a,o,hσ,r,hin,ha,hm⟩:=E.ownAt ho (aBk h);obtain ⟨vs,e,_,rr⟩:=aBh r h;exact ⟨a,vs,hσ,e,rr,by rw [aBj h] at hin;exact hin,r,fun b hb=>by rw [hb] at r;have:=XM r;cases this;rfl⟩
end
end Mi
end
section
namespace Mi
open PySem L2 PySem.SeqAt PySem.Spec PyProof.Rows
noncomputable def xcf (f:FX):List D->List D->List D->Res (List D×List D)
 | acc,[],ρ=>.ok (acc,ρ)
 | acc,x::xs,ρ=>do
  let p <- f (ρ++[x])
  if p.1.pure then xcf f (acc++[p.1]) xs p.2.dropLast else .bad
noncomputable def J0 (it:FI) (f:FX):FX:=fun ρ=>do
 let xs <- it ρ
 if xs.2&&decide (xs.1.length<=lim) then (do
  let p <- xcf f [] xs.1 ρ
  .ok (.lst p.1,p.2)) else .bad
variable [KFrag]
section
variable {own:Nat->Bool} {X:Cx} {a b c e:Expr} {pos pos':Pos} {fa fb fe:FE} {ra rb re:Bool} {xa xb xe:FX}
theorem ES.aGb {H H5:Hp} {σ:L2.St} {ρ ρ5:List D} {p:Addr} {o:HO} {vs:List V} (E:ES own H σ ρ) (k:KU own σ H σ H5) (E5:ES own H5 σ ρ5) (ns:NS own ρ ρ5) (hp:H p=none) (e5:H5 p=some (.lst vs)):ES own (upd H5 p o) σ ρ5/\KU own σ H σ (upd H5 p o):=by
 have k':KU own σ H σ (upd H5 p o):=fun b ob e n=>⟨by rw [aJ (aR e hp)];exact (k b ob e n).1,n⟩
 refine ⟨⟨E5.len,fun j hj=>?_,fun j w hj hw=>?_⟩,k'⟩
 ·obtain ⟨w,h1,h2⟩:=E5.at_ j hj;refine ⟨w,h1,fun hoj=>?_⟩;rw [ns j hoj] at hj ⊢;obtain ⟨w',h1',h2'⟩:=E.at_ j hj;rw [h1] at h1';cases h1';exact k'.rep E (h2' hoj)
 ·obtain ⟨b,ob,h1,h2,h3,h4,h5,h6⟩:=E5.own j w hj hw;subst h1;have hbp:b≠p:=fun z=>by subst z;exact vR E hp ⟨j,hj,hw⟩
  refine ⟨b,ob,rfl,?_,h3,by rw [aJ hbp];exact h4,h5,h6⟩;refine (h2.aE2 (P':=fun c=>c=b) h3 rfl).keep (fun c oc hc hq=>?_) fun _ _=>trivial
  rw [aJ]
  ·exact hc
  ·intro z;subst z;rcases hq with hq|hq
   ·exact hbp hq.symm
   ·rw [e5] at hc;cases hc;cases hq
theorem ES.snoc {H:Hp} {σ:L2.St} {ρ:List D} {x:V} {d:D} (E:ES own H σ ρ) (ho:own σ.length=false) (r:Rep (fun a=>¬Own own σ a) H x d):ES own H (σ++[some x]) (ρ++[d])/\∀a,Own own (σ++[some x]) a↔Own own σ a:=by
 have hO:∀a,Own own (σ++[some x]) a↔Own own σ a:=fun a=>by
  constructor
  ·rintro ⟨i,hi,e⟩;by_cases hl:i<σ.length
   ·exact ⟨i,hi,by rw [List.getElem?_append_left hl] at e;exact e⟩
   ·by_cases hq:i=σ.length
    ·subst hq;rw [ho] at hi;cases hi
    ·rw [List.getElem?_append_right (by lia)] at e;rw [List.getElem?_eq_none (by simp;lia)] at e;cases e
  ·rintro ⟨i,hi,e⟩;exact ⟨i,hi,by rw [List.getElem?_append_left (List.getElem?_eq_some_iff.mp e).1];exact e⟩
 have hOf:(fun a=>¬Own own (σ++[some x]) a)=fun a=>¬Own own σ a:=funext fun a=>by rw [hO]
 refine ⟨⟨by simp [E.len],fun i hi=>?_,fun i v hi hv=>?_⟩,hO⟩
 ·rw [hOf];by_cases hl:i<σ.length
  ·have e:(ρ++[d]).getD i .uD=ρ.getD i .uD:=by rw [List.getD_eq_getElem?_getD,List.getElem?_append_left (by rw [<-E.len];exact hl),List.getD_eq_getElem?_getD]
   rw [e] at hi ⊢;obtain ⟨v,h1,h2⟩:=E.at_ i hi;exact ⟨v,by rw [List.getElem?_append_left hl];exact h1,h2⟩
  ·by_cases hq:i=σ.length
   ·subst hq;have e:(ρ++[d]).getD σ.length .uD=d:=by rw [E.len];simp
    rw [e];exact ⟨x,by simp,fun _=>r⟩
   ·exfalso;apply hi;rw [List.getD_eq_getElem?_getD,List.getElem?_eq_none (by simp;rw [<-E.len];lia)];rfl
 ·have hl:i<σ.length:=Nat.lt_of_not_le fun hge=>by
   by_cases hq:i=σ.length
   ·subst hq;rw [ho] at hi;cases hi
   ·rw [List.getElem?_eq_none (by simp;lia)] at hv;cases hv
  rw [List.getElem?_append_left hl] at hv;have e:(ρ++[d]).getD i .uD=ρ.getD i .uD:=by rw [List.getD_eq_getElem?_getD,List.getElem?_append_left (by rw [<-E.len];exact hl),List.getD_eq_getElem?_getD]
  rw [e];obtain ⟨b,ob,h1,h2,h3,h4,h5,h6⟩:=E.own i v hi hv;refine ⟨b,ob,h1,h2,h3,h4,h5,fun j hj hs=>?_⟩;have hjl:j<σ.length:=Nat.lt_of_not_le fun hge=>by
   by_cases hq:j=σ.length
   ·subst hq;rw [ho] at hj;cases hj
   ·rw [List.getElem?_eq_none (by simp;lia)] at hs;cases hs
  exact h6 j hj (by rw [List.getElem?_append_left hjl] at hs;exact hs)
theorem ES.aBl {H:Hp} {σ:L2.St} {ρ:List D} {x:Option V} (E:ES own H (σ++[x]) ρ) (hO:∀a,Own own (σ++[x]) a↔Own own σ a):ES own H σ ρ.dropLast:=by
 have hl:ρ.length=σ.length+1:=by rw [<-E.len];simp
 have gd:∀i,i<σ.length->ρ.dropLast.getD i .uD=ρ.getD i .uD:=fun i hi=>by
  rw [List.getD_eq_getElem?_getD,List.getD_eq_getElem?_getD,List.getElem?_dropLast,if_pos (by lia)]
 have hOf:(fun a=>¬Own own (σ++[x]) a)=fun a=>¬Own own σ a:=funext fun a=>by rw [hO]
 refine ⟨by simp [hl],fun i hi=>?_,fun i v hi hv=>?_⟩
 ·have hlt:i<σ.length:=Nat.lt_of_not_le fun hge=>hi (by rw [List.getD_eq_getElem?_getD,List.getElem?_eq_none (by simp;lia)];rfl)
  rw [gd i hlt] at hi ⊢;obtain ⟨v,h1,h2⟩:=E.at_ i hi;rw [hOf] at h2;exact ⟨v,by rw [List.getElem?_append_left hlt] at h1;exact h1,h2⟩
 ·have hlt:i<σ.length:=(List.getElem?_eq_some_iff.mp hv).1;rw [gd i hlt];obtain ⟨b,ob,h1,h2,h3,h4,h5,h6⟩:=E.own i v hi (by rw [List.getElem?_append_left hlt];exact hv);exact ⟨b,ob,h1,h2,h3,h4,h5,fun j hj hs=>h6 j hj (by rw [List.getElem?_append_left (List.getElem?_eq_some_iff.mp hs).1];exact hs)⟩
theorem BL {K:PySem.W.Frag} {it:FI} {f:FX} {n:Nat} (ho:own n=false) {σ:L2.St} {H:Hp} {Q:VK} (hn:σ.length=n) (h:gX own (J0 it f) σ H Q) :
  zV (gI K it) (dZ n) (fun _ H Q=>Q true H) (gX own f) 1 σ H Q:=by
 obtain ⟨ρ,d,ρ',E,h,q⟩:=h;obtain ⟨⟨items,kk⟩,h1,h⟩:=bG h;split at h
 ·rename_i hk;rw [Bool.and_eq_true] at hk;obtain ⟨⟨ys,ρf⟩,h2,h⟩:=bG h;cases h;refine ⟨ρ,items,kk,E.er,h1,fun J H1 s1 _ hJ p hp=>?_⟩;have hp0:H p=none:=s1.free hp;have hJ1:ItQ K (fun a=>¬Own own σ a) J H1 items:=(hJ hk.1).keep (fun _ _ e _=>e) fun a ha=>vR E ha
  have E1:ES own H1 σ ρ:=E.same s1;refine ⟨fun i n' vs H'=>n'=items.length-i/\i<=items.length/\H' p=some (.lst vs)/\KU own σ H1 σ H'/\∃acc ρc,acc.length<=i/\D.aG acc=true/\aW (fun _=>False) H' vs acc/\ES own H' σ ρc/\NS own ρ ρc/\xcf f acc (items.drop i) ρc=.ok (ys,ρf),⟨items.length,?_⟩,?_⟩
  ·exact ⟨rfl,Nat.zero_le _,aC,.same (bK.upd hp),[],ρ,Nat.zero_le _,rfl,.nil,E1.same (bK.upd hp),.refl,h2⟩
  ·rintro i n' vs H' ⟨rfl,hi,hH,ku,acc,ρc,hal,hpa,racc,Ec,ns,hf⟩;refine ⟨hH,?_⟩;have hJ':ItQ K (fun a=>¬Own own σ a) J H' items:=hJ1.ku ku E1;rcases Nat.lt_or_ge i items.length with hlt|hge
   ·refine .inr ?_;have e:items[i]?=some items[i]:=List.getElem?_eq_getElem hlt;obtain ⟨g1,g2⟩:=hJ'.go e;have hl1:items.length<=lim:=of_decide_eq_true hk.2;refine ⟨g1,?_,fun x H2 hy=>?_⟩
    ·rw [racc.length];exact Nat.lt_of_le_of_lt hal (Nat.lt_of_lt_of_le hlt (Nat.le_trans hl1 (by rw [sizeLine_eq];decide)))
    ·obtain ⟨sH,rx⟩:=g2 x H2 hy;have es:(σ++List.replicate 1 none).set n (some x)=σ++[some x]:=by
      subst hn;simp
     show Ext _ ((σ++List.replicate 1 none).set n (some x))/\_;rw [es];rw [List.drop_eq_getElem_cons hlt] at hf;obtain ⟨⟨y,ρ2⟩,hfy,hf⟩:=bG hf;split at hf
     ·rename_i hpy;have Ec2:=Ec.same sH;obtain ⟨E2,hO⟩:=Ec2.snoc (by rw [hn];exact ho) rx;refine ⟨⟨by simp,fun j v hv=>?_⟩,?_⟩
      ·by_cases hj:j<σ.length
       ·rw [List.getElem?_append_left hj] at hv ⊢;exact hv
       ·rw [List.getElem?_append_right (by lia),List.getElem?_replicate] at hv;split at hv <;> cases hv
      ·dsimp only;rw [if_pos rfl];refine ⟨_,y,ρ2,E2,hfy,fun w H5 k5 E5 ns5 r5=>?_⟩;have k5':KU own σ H2 σ H5:=fun b ob eb nb=>⟨(k5 b ob eb (by rw [hO];exact nb)).1,nb⟩
       have hpn:¬Own own σ p:=vR E hp0;have hp5:H5 p=some (.lst vs):=(k5' p _ (sH p _ hH) hpn).1;have E5':ES own H5 σ ρ2.dropLast:=E5.aBl hO;have hlc:ρc.length=σ.length:=Ec.len.symm;have nsc:NS own ρ ρ2.dropLast:=fun j hj=>by
        by_cases hjl:j<σ.length
        ·have hl2:ρ2.length=σ.length+1:=by rw [<-E5.len];simp
         rw [<-ns j hj,List.getD_eq_getElem?_getD,List.getElem?_dropLast,if_pos (by lia),<-List.getD_eq_getElem?_getD,ns5 j hj,List.getD_eq_getElem?_getD,List.getElem?_append_left (by lia),<-List.getD_eq_getElem?_getD]
        ·rw [List.getD_eq_getElem?_getD,List.getElem?_eq_none (by rw [<-E5'.len];lia),List.getD_eq_getElem?_getD,List.getElem?_eq_none (by rw [<-E.len];lia)]
       have ku5:KU own σ H1 σ H5:=ku.trans ((KU.same sH).trans k5');obtain ⟨E6,k6⟩:=E1.aGb (o:=.lst (vs++[w])) ku5 E5' nsc hp hp5;refine ⟨hp5,items.length-(i+1),by lia,rfl,hlt,aC,k6,acc++[y],ρ2.dropLast,?_,?_,?_,E6,nsc,hf⟩
       ·rw [List.length_append,List.length_singleton];lia
       ·rw [gP,hpa];simp [D.aG,hpy]
       ·have hpk:HH (fun _=>False) H2 H5:=fun c oc hc hq=>by
         refine (k5' c oc hc fun nn=>?_).1;obtain ⟨o',e',hm⟩:=Ec2.live nn;rw [hc] at e';cases e';rcases hq with hq|hq
         ·exact hq
         ·rw [hm] at hq;cases hq
        have r1:aW (fun _=>False) H5 vs acc:=(racc.same sH).keep hpk fun _ z=>z
        have r2:aW (fun _=>False) H5 (vs++[w]) (acc++[y]):=r1.snoc (r5.bH hpy);exact r2.keep (oE hp5 rfl) fun _ z=>z
     ·cases hf
   ·refine .inl ⟨hJ'.stop hge,?_⟩;rw [List.drop_eq_nil_of_le hge] at hf;cases hf;exact q _ _ ((KU.same s1).trans ku) Ec ns (.lst hH hp0 (racc.mono fun _ z=>z.elim))
 ·cases h
end
end Mi
end
section
namespace Mi
open PySem L2 PySem.SeqAt PySem.Spec PyProof.Rows
variable [KFrag]
section
variable {X:Cx} {a:Expr} {fa:FE} {ra:Bool} {pos p p1 p2 p3:Pos}
theorem XR (ha:PE X a (gE fa ra)):PE X a (gE (bPu fa) true):=PE.imp ha fun σ H Q ⟨ρ,d,E,h,q⟩=>by
 obtain ⟨x,h1,h⟩:=bG h;split at h
 ·rename_i hp;cases h;exact ⟨ρ,_,E,h1,fun v H' s r _=>q v H' s r fun _=>r.bH hp⟩
 ·cases h
end
end Mi
end
section
namespace Mi
open PySem L2 PySem.SeqAt PySem.Spec PyProof.Rows
variable [KFrag]
section
variable {own:Nat->Bool} {X:Cx} {pos:Pos}
end
end Mi
end
section
namespace Mi
open PySem L2 PySem.SeqAt PySem.Spec PyProof.Rows
variable [KFrag]
section
variable {X:Cx} {own:Nat->Bool} {a b e:Expr} {pos:Pos} {ga:FT} {xb:List D->Res (Bool×List D)} {xa:FX}
end
end Mi
end
section
namespace Mi
open PySem L2 PySem.SeqAt PySem.Spec PyProof.Rows
variable [KFrag]
section
variable {prog:Program} {w:World} {A:Around} {E:Value->Shared->Prop} {s:Shared}
end
section
variable {X:Cx} {own:Nat->Bool} {e:Expr} {pos pos':Pos} {fe:FE} {re:Bool} {xe:FX}
end
end Mi
end
section
namespace Mi
open PySem PySem.Spec
namespace Rv
theorem BP:typeLookup (.type "tuple") "__reversed__" = pure none:=by rw [typeLookup_type,builtinLookup_eq_fast];kernel_rfl
theorem BR:typeLookup (.type "reversed") "__len__" = pure none:=by rw [typeLookup_type,builtinLookup_eq_fast];kernel_rfl
theorem slot_next:Slot "reversed" "__next__" "reversed.__next__":=
 .of (owner := "reversed") (n := "__next__") (by rw [typeLookup_type,builtinLookup_eq_fast];kernel_rfl) (by decide +kernel) (by decide +kernel) (by decide +kernel)
  (by first|exact .inl (by decide +kernel)|exact .inr (by decide +kernel)) (by rw [isSubtype_type];kernel_rfl)
theorem oM:Slot "reversed" "__length_hint__" "reversed.__length_hint__":=
 .of (owner := "reversed") (n := "__length_hint__") (by rw [typeLookup_type,builtinLookup_eq_fast];kernel_rfl) (by decide +kernel) (by decide +kernel) (by decide +kernel)
  (by first|exact .inl (by decide +kernel)|exact .inr (by decide +kernel)) (by rw [isSubtype_type];kernel_rfl)
theorem tV:Slot "reversed" "__iter__" "reversed.__iter__":=
 .of (owner := "reversed") (n := "__iter__") (by rw [typeLookup_type,builtinLookup_eq_fast];kernel_rfl) (by decide +kernel) (by decide +kernel) (by decide +kernel)
  (by first|exact .inl (by decide +kernel)|exact .inr (by decide +kernel)) (by rw [isSubtype_type];kernel_rfl)
theorem entry_next:entryFor table "reversed.__next__" = some Builtin.«reversed.__next__»:=entryFor_of_tree (by kernel_rfl)
theorem BV:entryFor table "reversed.__length_hint__" = some Builtin.«reversed.__length_hint__»:=entryFor_of_tree (by kernel_rfl)
theorem BW:entryFor table "reversed.__iter__" = some Builtin.«dict_keyiterator.__iter__»:=
 entryFor_alias (id' := "dict_keyiterator.__iter__") (by kernel_rfl) (by first|rfl|decide +kernel|(unfold String.splitOn;simp +decide [String.splitOnAux])) (by decide +kernel) (by kernel_rfl)
theorem owner:Manifest.owners.lookup (String.ofList ['d','e','s','r','e','v','e','r'].reverse)=some Manifest.sig_reversed:=by kernel_rfl
theorem args_next (a:Value):argsOk "reversed.__next__" ⟨[a],[]⟩:=by
 unfold argsOk;rw [signature?_of (id := "reversed.__next__") (n:=['_','_','t','x','e','n','_','_']) (o:=['d','e','s','r','e','v','e','r']) (by kernel_rfl) owner];kernel_rfl
theorem J1 (a:Value):argsOk "reversed.__iter__" ⟨[a],[]⟩:=by
 unfold argsOk;rw [signature?_of (id := "reversed.__iter__") (n:=['_','_','r','e','t','i','_','_']) (o:=['d','e','s','r','e','v','e','r']) (by kernel_rfl) owner];kernel_rfl
theorem J2 (a:Value):argsOk "reversed.__length_hint__" ⟨[a],[]⟩:=by
 unfold argsOk;rw [signature?_of (id := "reversed.__length_hint__") (n:=['_','_','t','n','i','h','_','h','t','g','n','e','l','_','_']) (o:=['d','e','s','r','e','v','e','r']) (by kernel_rfl) owner];kernel_rfl
theorem J3:Slot "reversed" "__init__" "object.__init__":=
 .of (owner := "object") (n := "__init__") (by rw [typeLookup_type,builtinLookup_eq_fast];kernel_rfl) (by decide +kernel) (by decide +kernel) (by decide +kernel)
  (by first|exact .inl (by decide +kernel)|exact .inr (by decide +kernel)) (by rw [isSubtype_type];kernel_rfl)
theorem called:TypeCalled "reversed" "reversed.__new__" "object.__init__":=
 ⟨by decide +kernel,by decide +kernel,⟨_,_,PySem.F.mro_reversed⟩,PySem.F.made_reversed,by decide +kernel,by rw [isSubtype_type];kernel_rfl,J3⟩
noncomputable def obj (t:Addr) (i:Int):Obj:={cls:=.type "reversed",data:=.fields #[.ref t,rawInt i]}
theorem J4 (t:Addr) (items:Array Value) (n:Nat) (dct:Option Addr) (sl:Array (Option Value)) (hz:(items.size:Int)<2 ^ 62) :
  Meets (Builtin.«reversed.__new__» ⟨[.type "reversed",.ref t],[]⟩) (fun _ R s=>s.heap.get? t=some {cls:=.type "tuple",dict:=dct,data:=.seq items n,slots:=sl}/\
   ∀tk,R (.ok (.ret (.ref s.heap.objs.size))) {s with heap:=s.heap.push (obj t ((items.size:Int)-1)),toks:=tk}):=
 .of_wp fun prog w A R s h=>by
  obtain ⟨hp,g,d,tk,os⟩:=s;obtain ⟨hl,h⟩:=h;have hT:(Shared.mk hp g d tk os).TypeIs (.ref t) "tuple":=⟨_,hl,rfl⟩
  unfold Builtin.«reversed.__new__»;refine wpAny_bind (wpAny_of_eq (newClass_reversed _) ?_)
  try dsimp only
  refine wpAny_bind (wpAny_of_eq (a:=()) (by first|rfl|kernel_rfl) ?_);refine wpAny_bind (wpAny_of_eq (a:=()) (by first|rfl|kernel_rfl) ?_)
  try dsimp only
  refine wpAny_bind (wpAny_specialOf hT BP ?_)
  try dsimp only
  refine wpAny_bind ?_;refine wpAny_bind (wpAny_isInstance (T := "tuple") (b:=false) hT (by rw [isSubtype_type];kernel_rfl) ?_);refine wpAny_ite_split (fun hab=>absurd hab (by decide)) (fun _=>?_);refine wpAny_bind (wpAny_specialOf hT PyProof.Rows.slot_tuple_getitem.lookup ?_);dsimp only;rw [if_pos (by decide +kernel)];refine wpAny_pure ?_;rw [if_neg (by decide)];refine wpAny_bind (PyProof.Rows.len_tuple (items:=items) ⟨_,hl,rfl,n,rfl⟩ (by lia) ?_);refine wpAny_bind (wpAny_of_eq (a:=some (items.size:Int)) rfl ?_);dsimp only;refine wpAny_bind ?_;unfold Builtin.SmallTypes.newRecord;exact wpAny_newObj_type (wpAny_pure ⟨_,rfl,h _⟩)
theorem QW {prog:Program} {w:World} {A:Around} {E:Value->Shared->Prop} {s:Shared} {t:Addr} {items:Array Value} {Q:Value->Shared->Prop} (hL:s.heap.IsTuple t items) (hz:(items.size:Int)<2 ^ 62)
  (h:∀tk,Q (.ref s.heap.objs.size) {s with heap:=s.heap.push (obj t ((items.size:Int)-1)),toks:=tk}):wpAny (model prog w) A (call (.type "reversed") [.ref t]) Q E s:=by
 obtain ⟨⟨c,dct,dt,sl⟩,hl,hc,n,hd⟩:=hL;replace hc:c=.type "tuple":=hc;replace hd:dt=.seq items n:=hd;subst hc hd;refine callType_new called (by decide) (PySem.F.typeCall_reversed_1 _) (PySem.F.newCall_reversed_1 _) (fun obj=>PySem.F.args_object_init_2 obj _) PySem.F.entry_reversed_new (J4 t items n dct sl hz) ⟨hl,fun tk=>⟨⟨_,Heap.get?_push_size _ rfl,rfl⟩,h tk⟩⟩
noncomputable def Is (h:Heap) (a t:Addr) (i:Int):Prop:=∃o,h.get? a=some o/\o.cls=.type "reversed"/\o.data=.fields #[.ref t,rawInt i]
theorem Is.ty {s:Shared} {a t:Addr} {i:Int} (x:Is s.heap a t i):s.TypeIs (.ref a) "reversed":=let ⟨o,ho,hc,_⟩:=x;⟨o,ho,hc⟩
theorem Is.at {h h':Heap} {a t:Addr} {i:Int} (x:Is h a t i) (e:∀o,h.get? a=some o->h'.get? a=some o):Is h' a t i:=let ⟨o,ho,r⟩:=x;⟨o,e o ho,r⟩
section
variable {prog:Program} {w:World} {A:Around} {E:Value->Shared->Prop} {s:Shared}
theorem next_item {it t:Addr} {i:Nat} {items:Array Value} {x:Value} {Q:Option Value->Shared->Prop} (hit:Is s.heap it t (i:Int)) (hl:s.heap.IsTuple t items) (hx:items[i]?=some x) (hz:(items.size:Int)<2 ^ 62)
  (hQ:∀h' tk,Is h' it t ((i:Int)-1)->Heap.SameBut it s.heap h'->Q (some x) {s with heap:=h',toks:=tk}):wpAny (model prog w) A (pyNext (.ref it)) Q E s:=by
 obtain ⟨o,ho,hc,hd⟩:=id hit;have hi:i<items.size:=(Array.getElem?_eq_some_iff.mp hx).1;unfold pyNext;refine wpAny_bind (wpAny_attempt (wpAny_callSpecial?_slot (name:=Str.ofString "__next__") hit.ty slot_next
  (wpAny_call_entry slot_next hit.ty entry_next ?_ (args_next _))))
 unfold Builtin.«reversed.__next__»;refine wpAny_bind (wpAny_of_eq (a:=(Value.ref it,[])) rfl ?_)
 try dsimp only
 refine wpAny_bind (wpAny_field ho hd (x:=.ref t) rfl ?_);refine wpAny_bind (wpAny_field ho hd (x:=rawInt (i:Int)) rfl ?_);show wpAny _ _ (if (i:Int)<0 then _ else _) _ _ s;rw [if_neg (by lia)];refine wpAny_bind (wpAny_specialOf hl.typeIs PyProof.Rows.slot_tuple_getitem.lookup ?_);rw [if_neg (by simp)];refine wpAny_bind (wpAny_mkInt ?_);refine wpAny_bind (wpAny_attempt (PyProof.Rows.getItem_tuple (items:=items) (j:=i) (x:=x) hl (by lia) (by lia) (by unfold seqIndex?;simp;lia) hx ?_));dsimp only;refine wpAny_bind (wpAny_field ho hd (x:=rawInt (i:Int)) rfl ?_);show wpAny _ _ (setField (.ref it) 1 (rawInt ((i:Int)-1)) >>= _) _ _ _;refine wpAny_bind (wpAny_setField ho hd (by simp) ?_);refine wpAny_pure ⟨x,rfl,wpAny_pure (hQ _ _ ?_ (Heap.SameBut.update ..))⟩;exact ⟨_,Heap.get?_update_self _ ho (Obj.isFreed_of_fields (Obj.data_mapFields hd _)),(Obj.cls_mapFields ..).trans hc,by
  rw [Obj.data_mapFields hd];simp⟩
theorem next_end {it t:Addr} {Q:Option Value->Shared->Prop} (hh:A.handled=none) (hit:Is s.heap it t (-1))
  (hQ:∀h',Heap.ExtBut it s.heap h'->Q none {s with heap:=h'}):wpAny (model prog w) A (pyNext (.ref it)) Q E s:=by
 obtain ⟨o,ho,hc,hd⟩:=id hit;unfold pyNext;refine wpAny_bind (wpAny_attempt (wpAny_callSpecial?_slot (name:=Str.ofString "__next__") hit.ty slot_next
  (wpAny_call_entry slot_next hit.ty entry_next ?_ (args_next _))))
 unfold Builtin.«reversed.__next__»;refine wpAny_bind (wpAny_of_eq (a:=(Value.ref it,[])) rfl ?_)
 try dsimp only
 refine wpAny_bind (wpAny_field ho hd (x:=.ref t) rfl ?_);refine wpAny_bind (wpAny_field ho hd (x:=rawInt (-1)) rfl ?_);show wpAny _ _ (if (-1:Int)<0 then _ else _) _ _ s;rw [if_pos (by decide)];refine wpAny_bind (wpAny_rule ?_);refine wpAny_bind ?_;refine wpAny_bind (wpAny_setField ho hd (by simp) ?_);have h1:=Heap.get?_update_self (h:=s.heap) (a:=it) (Obj.mapFields (·.set! 1 (rawInt (-1)))) ho (Obj.isFreed_of_fields (Obj.data_mapFields hd _));have hd1:(Obj.mapFields (·.set! 1 (rawInt (-1))) o).data=.fields #[.ref t,rawInt (-1)]:=by rw [Obj.data_mapFields hd];simp
 refine wpAny_setField h1 hd1 (by simp) ?_;refine wpAny_bind ?_;unfold Builtin.SmallTypes.stopIteration;simp only [newExc,newTuple];refine wpAny_bind ?_;refine wpAny_bind (wpAny_newObj_type ?_ (by size_fits));refine wpAny_bind (m:=firstArgMember _ _) (wpAny_of_eq (a:=Value.none) (by first|rfl|(simp only [firstArgMember];rfl)) ?_);refine wpAny_newObj_type ?_ (by size_fits);simp only [raiseNew];refine wpAny_bind (wpAny_handled ?_)
 first|rw [show A.in1.handled=none from hh]|rw [hh]
 refine wpAny_bind (wpAny_pure (wpAny_throw ?_));refine wpAny_bind (wpAny_isInstance (T := "StopIteration") (b:=true) ⟨_,Heap.get?_push_size _ rfl,rfl⟩ isSubtype_stop ?_);exact wpAny_pure (hQ _ ((((Heap.SameBut.update ..).trans (Heap.SameBut.update ..)).extBut.push _).push _))
theorem tW {it t:Addr} {i:Int} {Q:Value->Shared->Prop} (hit:Is s.heap it t i) (h:Q (.ref it) s):wpAny (model prog w) A (pyIter (.ref it)) Q E s:=by
 refine wpAny_pyIter_slot hit.ty tV (wpAny_call_entry tV hit.ty BW ?_ (J1 _));show wpAny _ _ (ret (.ref it)) _ _ s;exact wpAny_pure ⟨_,rfl, "reversed",_,hit.ty,slot_next.lookup,h⟩
end
theorem walks {prog:Program} {w:World} {A:Around} (hh:A.handled=none) (I l:Addr) (hne:l≠I) (items:Array Value) (hz:(items.size:Int)<2 ^ 62) :
  Walks prog w A I [I,l] [I] items.size (fun i v=>items[items.size-1-i]?=some v) (fun i h=>i<=items.size/\Is h I l ((items.size:Int)-1-(i:Int))/\h.IsTuple l items) where
 sub:=fun b hb=>by simp at hb;simp [hb]
 frame:=fun _ _ _ x hk=>⟨x.1,x.2.1.at fun o e=>hk I (by simp) o e,let ⟨o,e,r⟩:=x.2.2;⟨o,hk l (by simp) o e,r⟩⟩
 item:=fun i s Q E hi x hQ=>by
  have e:(items.size:Int)-1-(i:Int)=((items.size-1-i:Nat):Int):=by lia
  have hit:=x.2.1;rw [e] at hit;have hx:items[items.size-1-i]?=some (items[items.size-1-i]'(by lia)):=Array.getElem?_eq_getElem (by lia);refine next_item hit x.2.2 hx hz fun h' tk hit' hs'=>?_
  have e2:((items.size-1-i:Nat):Int)-1=(items.size:Int)-1-((i+1:Nat):Int):=by lia
  rw [e2] at hit';exact hQ _ h' tk hx ⟨hi,hit',let ⟨o,eo,r⟩:=x.2.2;⟨o,(hs'.2 l hne).trans eo,r⟩⟩ fun b o hb eo=>hs'.extBut b o (fun h=>hb (by simp [h])) eo
 done:=fun s Q E x hQ=>by
  have e:(items.size:Int)-1-(items.size:Int)=-1:=by lia
  have hit:=x.2.1;rw [e] at hit;exact next_end hh hit fun h' he'=>hQ h' s.toks fun b o hb eo=>he' b o (fun h=>hb (by simp [h])) eo
 self:=fun _ _ _ _ x hQ=>tW x.2.1 hQ
section
variable {prog:Program} {w:World} {A:Around} {E:Value->Shared->Prop} {s:Shared}
theorem hint {I l:Addr} {items:Array Value} {Q:Bool->Shared->Prop} (hit:Is s.heap I l ((items.size:Int)-1)) (hl:s.heap.IsTuple l items) (hz:items.size<=sizeLine) (h:∀b tk,Q b {s with toks:=tk}):wpAny (model prog w) A (Builtin.List.listLengthHint (.ref I)) Q E s:=by
 unfold Builtin.List.listLengthHint;refine wpAny_bind (wpAny_specialOf hit.ty BR ?_);dsimp only;refine wpAny_ite_split (fun hab=>absurd hab (by decide +kernel)) (fun _=>?_);rw [if_neg (by simp)];refine wpAny_bind (wpAny_specialOf hit.ty oM.lookup ?_);generalize hid:("reversed.__length_hint__" : String)=id0
 wp_delta
 rw [show splitId id0=some ("reversed", "__length_hint__") from by subst hid;decide +kernel];subst hid;refine wpAny_bind (wpAny_isInstance (T := "reversed") (b:=true) hit.ty PySem.F.sub_reversed_self ?_);refine wpAny_ite_split (fun hab=>absurd hab (by decide)) (fun _=>?_);refine wpAny_ite_split (fun hab=>absurd hab (by decide +kernel)) (fun _=>?_);refine wpAny_bind (wpAny_rule ?_);refine wpAny_bind (wpAny_of_eq (oM.bind _) ?_);refine wpAny_bind (wpAny_attempt (wpAny_call_entry oM hit.ty BV ?_ (J2 _)));obtain ⟨o,ho,hc,hd⟩:=id hit;unfold Builtin.«reversed.__length_hint__»;refine wpAny_bind (wpAny_of_eq (a:=Value.ref I) rfl ?_);refine wpAny_bind (wpAny_field ho hd (x:=.ref l) rfl ?_);rw [if_neg (show ¬((Value.ref l==Value.none)=true) from Bool.false_ne_true)];rw [sizeLine_eq] at hz;refine wpAny_bind (PyProof.Rows.len_tuple (items:=items) hl (by lia) ?_);refine wpAny_bind (wpAny_of_eq (a:=some (items.size:Int)) rfl ?_);dsimp only;refine wpAny_bind (wpAny_field ho hd (x:=rawInt ((items.size:Int)-1)) rfl ?_);show wpAny _ _ (if (items.size:Int)<(items.size:Int)-1+1 then _ else _) _ _ _;rw [if_neg (by lia)];refine wpAny_bind (wpAny_mkInt (wpAny_pure ⟨_,rfl,?_⟩));dsimp only;refine wpAny_bind (wpAny_of_eq (a:=some ((items.size:Int)-1+1)) rfl ?_);dsimp only;rw [if_neg (by simp only [Builtin.List.listFitsIndex,Bool.not_eq_true',Bool.not_eq_false,Bool.and_eq_true,decide_eq_true_eq];lia),if_neg (by lia),if_neg (by simp only [Builtin.List.listTooLong,decide_eq_true_eq,sizeLine_eq];lia)];exact wpAny_pure (h _ _)
theorem extend {R:Result->Shared->Prop} {I l:Addr} {items:Array Value} (hh:A.handled=none) (hit:Is s.heap I l ((items.size:Int)-1)) (hl:s.heap.IsTuple l items) (hIl:l≠I) (S:Addr) (hSr:S≠I) (hSd:S≠l) (res:Value) (c₀:Nat) (hS:s.heap.get? S=some {cls:=.type "list",data:=.seq #[] c₀})
  (hR:∀h' tk acc' c',(∀b o,b≠S->b≠I->s.heap.get? b=some o->h'.get? b=some o)->h'.get? S=some {cls:=.type "list",dict:=none,data:=.seq acc' c',slots:=#[]}->ItemsOf (fun i v=>items[items.size-1-i]?=some v) acc' items.size->R (.ok (.ret res)) {s with heap:=h',toks:=tk}) (hn:items.size<=sizeLine) :
  wpAny (model prog w) A.in1 (Builtin.List.listExtendWith (.ref S) (.ref I) res)
   (fun fin s'=>match fin with|.done f=>R (.ok f) s'|.again c'=>c'.quiet=true/\codeAny (model prog w) A c' R s') (fun e s'=>R (.error e) s') s:=by
 have hz:(items.size:Int)<2 ^ 62:=by rw [sizeLine_eq] at hn;lia
 have W:=walks (prog:=prog) (w:=w) (A:=A.in1) hh I l hIl items hz;have hSf:S∉[I,l]:=by simp only [List.mem_cons,List.not_mem_nil,or_false,not_or];exact ⟨hSr,hSd⟩
 have st0:∀{h:Heap},Is h I l ((items.size:Int)-1)->h.IsTuple l items->0<=items.size/\Is h I l ((items.size:Int)-1-((0:Nat):Int))/\h.IsTuple l items:=fun {h} a b=>⟨Nat.zero_le _,by simpa using a,b⟩
 have key:∀(h:Heap) (c₁ tk:Nat),Is h I l ((items.size:Int)-1)->h.IsTuple l items->(∀b o,b≠S->s.heap.get? b=some o->h.get? b=some o)->
   h.get? S=some {cls:=.type "list",data:=.seq #[] c₁}->codeAny (model prog w) A (.builtin "list.extend.loop" ⟨[.ref S,.ref I,res],[]⟩) R {s with heap:=h,toks:=tk}:=by
  intro h c₁ tk h1 h2 hk hS₁;refine codeAny_extend_loopS W.toS hn S hSf res items.size 0 _ #[] c₁ rfl (Nat.zero_le _) (st0 h1 h2) hS₁ (ItemsOf.nil _) fun s' acc' c' hm hS' hacc=>?_
  rw [Moved.eq_with hm];refine hR s'.heap s'.toks acc' c' (fun b o hb hbI e=>hm.heap b o (fun hmem=>?_) (hk b o hb e)) hS' hacc;rcases List.mem_cons.mp hmem with e'|hmem
  ·exact hb e'
  ·exact hbI (List.mem_singleton.mp hmem)
 unfold Builtin.List.listExtendWith;refine wpAny_bind (wpAny_typeOf (T := "reversed") hit.ty ?_);have h1:Builtin.List.listSameRef (.ref S) (.ref I)=false:=by simp [Builtin.List.listSameRef,hSr]
 have n1:(Value.type "reversed" == Value.type "list")=false:=by decide
 have n2:(Value.type "reversed" == Value.type "tuple")=false:=by decide
 simp only [h1,n1,n2,Bool.or_false,Bool.false_eq_true,if_false];refine wpAny_bind (tW hit ?_);refine wpAny_bind (wpAny_holding (hint hit hl hn fun b tk=>?_));refine wpAny_ite_split (fun _=>?_) (fun _=>wpAny_pure ⟨plainId_quiet PySem.F.plain_extend_loop _,key _ c₀ _ hit hl (fun b o _ e=>e) hS⟩);refine wpAny_bind (wpAny_rule ?_);refine wpAny_bind ?_;show wpAny _ _ (updateSeq S (·.push .none) >>= fun _=>updateSeq S (·.pop)) _ _ _;refine wpAny_bind (wpAny_updateSeq hS rfl ?_);have hS₂:=Heap.get?_update_self (Obj.mapSeq (·.push Value.none)) hS rfl;refine wpAny_updateSeq (hz:=by seq_fits) hS₂ rfl ?_;have hS₃:=Heap.get?_update_self (Obj.mapSeq (·.pop)) hS₂ rfl;have oth:∀b o,b≠S->s.heap.get? b=some o->((s.heap.update S (Obj.mapSeq (·.push Value.none))).update S (Obj.mapSeq (·.pop))).get? b=some o:=fun b o hb e=>(Heap.get?_update_other _ _ (Ne.symm hb)).trans ((Heap.get?_update_other _ _ (Ne.symm hb)).trans e)
 refine wpAny_pure ⟨plainId_quiet PySem.F.plain_extend_loop _,key _ _ _ (hit.at fun o e=>oth I o (Ne.symm hSr) e) (let ⟨o,e,r⟩:=hl;⟨o,oth l o (Ne.symm hSd) e,r⟩) (fun b o hb e=>oth b o hb e) hS₃⟩
theorem init {R:Result->Shared->Prop} {I l:Addr} {items:Array Value} (hh:A.handled=none) (hit:Is s.heap I l ((items.size:Int)-1)) (hl:s.heap.IsTuple l items) (hIl:l≠I) (S:Addr) (hSr:S≠I) (hSd:S≠l) (hS:s.heap.get? S=some {cls:=.type "list",data:=.seq #[]})
  (hR:∀h' tk acc' c',(∀b o,b≠S->b≠I->s.heap.get? b=some o->h'.get? b=some o)->h'.get? S=some {cls:=.type "list",dict:=none,data:=.seq acc' c',slots:=#[]}->ItemsOf (fun i v=>items[items.size-1-i]?=some v) acc' items.size->R (.ok (.ret .none)) {s with heap:=h',toks:=tk}) (hn:items.size<=sizeLine) :
  wpAny (model prog w) A.in1 (Builtin.«list.__init__» ⟨[.ref S,.ref I],[]⟩)
   (fun fin s'=>match fin with|.done f=>R (.ok f) s'|.again c'=>c'.quiet=true/\codeAny (model prog w) A c' R s') (fun e s'=>R (.error e) s') s:=by
 show wpAny _ _ (do let old <- Builtin.List.listItems (.ref S);Builtin.List.listUpdate (.ref S) (fun _=>#[]);letGo old.toList.reverse;Builtin.List.listExtendWith (.ref S) (.ref I) .none) _ _ s;refine wpAny_bind ?_;unfold Builtin.List.listItems;refine wpAny_bind (wpAny_seqItems hS rfl (wpAny_pure ?_));show wpAny _ _ (updateSeq S (fun _=>#[]) >>= fun _=>letGo (#[]:Array Value).toList.reverse >>= fun _=>Builtin.List.listExtendWith (.ref S) (.ref I) .none) _ _ s;refine wpAny_bind (wpAny_updateSeq hS rfl ?_);have hS₂:=Heap.get?_update_self (Obj.mapSeq (fun _=>(#[]:Array Value))) hS rfl;have oth:∀b o,b≠S->s.heap.get? b=some o->(s.heap.update S (Obj.mapSeq (fun _=>(#[]:Array Value)))).get? b=some o:=
  fun b o hb e=>(Heap.get?_update_other _ _ (Ne.symm hb)).trans e
 refine wpAny_bind (wpAny_letGo ?_);refine extend hh (hit.at fun o e=>oth I o (Ne.symm hSr) e) (let ⟨o,e,r⟩:=hl;⟨o,oth l o (Ne.symm hSd) e,r⟩) hIl S hSr hSd .none _ hS₂ (fun h' tk acc' c' hk hS' hacc=>?_) hn;exact hR h' tk acc' c' (fun b o hb hbI e=>hk b o hb hbI (oth b o hb e)) hS' hacc
theorem J5 {I l:Addr} {items:Array Value} {Q:Value->Shared->Prop} (hh:A.handled=none) (hit:Is s.heap I l ((items.size:Int)-1)) (hl:s.heap.IsTuple l items) (hIl:l≠I) (hn:items.size<=sizeLine)
  (hQ:∀h' tk acc' c',(∀b o,b≠I->s.heap.get? b=some o->h'.get? b=some o)->h'.get? s.heap.objs.size=some {cls:=.type "list",dict:=none,data:=.seq acc' c',slots:=#[]}->ItemsOf (fun i v=>items[items.size-1-i]?=some v) acc' items.size->Q (.ref s.heap.objs.size) {s with heap:=h',toks:=tk}) :
  wpAny (model prog w) A (call (.type "list") [.ref I]) Q E s:=by
 refine callType_codes (Q₁:=fun obj s₁=>obj=.ref s.heap.objs.size/\s₁={s with heap:=s.heap.push {cls:=.type "list",data:=.seq #[]}}) PySem.F.called_list (PySem.F.typeCall_list_1 _) PySem.F.entry_list_init
  (code_list_new _ ⟨rfl,rfl⟩) fun obj s₁ h₁=>?_
 obtain ⟨rfl,rfl⟩:=h₁;have hS:(s.heap.push {cls:=.type "list",data:=.seq #[]}).get? s.heap.objs.size=some {cls:=.type "list",data:=.seq #[]}:=Heap.get?_push_size _ rfl;have lt:∀{b:Addr} {o:Obj},s.heap.get? b=some o->s.heap.objs.size≠b:=fun e=>Nat.ne_of_gt (Heap.lt_size e)
 have l1:s.heap.objs.size≠I:=let ⟨o,e,_⟩:=hit;lt e
 have l2:s.heap.objs.size≠l:=let ⟨o,e,_⟩:=hl;lt e
 refine ⟨⟨_,hS,rfl⟩,PySem.F.args_list_init_2 _ _,init (A:=A.in1) hh (hit.at fun o e=>Heap.get?_push_of_some _ e) (let ⟨o,e,r⟩:=hl;⟨o,Heap.get?_push_of_some _ e,r⟩) hIl _ l1 l2 hS (fun h' tk acc' c' hk hS' hacc=>?_) hn⟩;exact ⟨rfl,hQ h' tk acc' c' (fun b o hb e=>hk b o (Ne.symm (lt e)) hb (Heap.get?_push_of_some _ e)) hS' hacc⟩
end
end Rv
end Mi
end
section
namespace Mi
open PySem L2 PySem.SeqAt PySem.Spec PyProof.Rows
noncomputable def aD7:D->Res D
 | .tup xs=>if D.aG xs&&decide (xs.length<=lim) then .ok (.lst xs.reverse) else .bad
 | _=>.bad
theorem oN:bootBuiltins "reversed" = some (.type "reversed"):=by decide +kernel
variable [KFrag]
theorem aW.rev {P:Addr->Prop} {H:Hp}:∀{vs:List V} {ds:List D},aW P H vs ds->aW P H vs.reverse ds.reverse
 | _,_,.nil=>.nil
 | _,_,.cons r t=>by rw [List.reverse_cons,List.reverse_cons];exact t.rev.snoc r
theorem eG {ds:List D} (h:D.aG ds=true):D.aG ds.reverse=true:=cC.mpr fun y hy=>cC.mp h y (List.mem_reverse.mp hy)
theorem QX {xs:List V} {its acc:List Value} (r:Vals xs its) (hl:acc.length=its.length) (h:∀j v,acc[j]?=some v->its[its.length-1-j]?=some v):Vals xs.reverse acc:=by
 have e:acc=its.reverse:=by
  refine List.ext_getElem? fun j=>?_
  by_cases hj:j<its.length
  ·have h1:acc[j]?=some (acc[j]'(by lia)):=List.getElem?_eq_getElem (by lia);have h2:=h j _ h1;rw [h1,List.getElem?_reverse hj,h2]
  ·rw [List.getElem?_eq_none (by lia),List.getElem?_eq_none (by rw [List.length_reverse];lia)]
 rw [e];clear e h hl;induction r with
 | nil=>exact .nil
 | cons h t ih=>
  rw [List.reverse_cons,List.reverse_cons];exact ih.append (.cons h .nil)
section
variable {X:Cx} {e:Expr} {fe:FE} {re:Bool} {p p2 pos pos2:Pos}
theorem XS (hc:X.calm=true) (hg:Gl X "list") (hm:X.mg "list" = none) (hg2:Gl X "reversed") (hm2:X.mg "reversed" = none) (he:PE X e (gE fe re)) (hs:starEach [e] X.env=[(false,eval e X.env)]:=by rfl)
  (hs2:starEach [.Call (.Name "reversed" p2) [e] [] pos2] X.env=[(false,eval (.Call (.Name "reversed" p2) [e] [] pos2) X.env)]:=by rfl) :
  PE X (.Call (.Name "list" p) [.Call (.Name "reversed" p2) [e] [] pos2] [] pos) (gE (b1 aD7 fe) true):=by
 intro pins s σ H Q I ⟨ρ,d,E,h,q⟩;obtain ⟨d0,h1,h2⟩:=bG h;unfold aD7 at h2;split at h2
 rotate_left
 ·cases h2
 rename_i ds;split at h2
 rotate_left
 ·cases h2
 rename_i hb;cases h2;rw [Bool.and_eq_true] at hb;refine wpAny_Call_Name_kw (jA I hg hm JC ?_);refine PyProof.Rows.callWith_type1 ?_ hs2 rfl;rw [hs2];show wpAny _ _ (spliced [(false,eval (.Call (.Name "reversed" p2) [e] [] pos2) X.env)]) _ _ s;refine Calls.spliced_cons ?_;refine wpAny_Call_Name_kw (jA I hg2 hm2 oN ?_);refine PyProof.Rows.callWith_type1 ?_ hs rfl;rw [hs];show wpAny _ _ (spliced [(false,eval e X.env)]) _ _ s;refine Calls.spliced_cons (thn (he pins s σ H (fun v H1=>bK H H1/\Rep All H1 v (.tup ds)) I ⟨ρ,_,E,h1,fun v H1 s1 r1 _=>⟨s1,r1⟩⟩) fun u s1 ⟨x,H1,I1,ru,sm,rx⟩=>?_);obtain ⟨t,xs,rfl,ex,rr⟩:=rx.dC;cases ru;obtain ⟨its,rv,ht,hz⟩:=I1.tuple (.of ex);have htt:s1.heap.IsTuple t its.toArray:=ht;refine Calls.spliced_nil ?_;have hz':its.toArray.size<=sizeLine:=by rw [List.size_toArray,<-rv.length];exact hz
 refine Rv.QW htt (by rw [sizeLine_eq] at hz';lia) fun tk=>?_
 refine Calls.spliced_nil ?_;have hne:t≠s1.heap.objs.size:=let ⟨o,e,_⟩:=htt;Nat.ne_of_lt (Heap.lt_size e)
 refine Rv.J5 (s:={s1 with heap:=s1.heap.push (Rv.obj t ((its.toArray.size:Int)-1)),toks:=tk}) (I:=s1.heap.objs.size) (l:=t) (items:=its.toArray) (I1.ok.hd hc) ⟨_,Heap.get?_push_size _ rfl,rfl,rfl⟩ (let ⟨o,e,r⟩:=htt;⟨o,Heap.get?_push_of_some _ e,r⟩) hne hz' fun h' tk' acc c hk hS hacc=>?_
 have hsz:((s1.heap.push (Rv.obj t ((its.toArray.size:Int)-1))).objs.size)=s1.heap.objs.size+1:=Heap.size_push ..;have hfr:H1 (s1.heap.push (Rv.obj t ((its.toArray.size:Int)-1))).objs.size=none:=I1.hok.fresh (by rw [hsz];lia);have hlen:acc.toList.length=its.length:=by have:=hacc.1;simpa using this
 have hv:Vals xs.reverse acc.toList:=QX rv hlen fun j v hj=>by
  have:=hacc.2 j v (by simpa using hj);simpa using this
 have sm2:bK H1 (upd H1 (s1.heap.push (Rv.obj t ((its.toArray.size:Int)-1))).objs.size (.lst xs.reverse)):=bK.upd hfr;refine ⟨.ref (s1.heap.push (Rv.obj t ((its.toArray.size:Int)-1))).objs.size,_,I1.laid (a:=(s1.heap.push (Rv.obj t ((its.toArray.size:Int)-1))).objs.size) (o:=.lst xs.reverse) (h':=h') (t':=tk') (fun b o e=>hk b o (Nat.ne_of_lt (Heap.lt_size e)) (Heap.get?_push_of_some _ e)) (by rw [hsz];lia) ⟨by rw [List.length_reverse];exact hz,acc.toList,c,hv,by simpa using hS⟩,rfl,?_⟩;exact q _ _ (sm.trans sm2) (.lst aC trivial (rr.rev.same sm2)) fun _=>.lst aC (sm.free hfr) ((rr.rev.bH (eG hb.1)).same sm2)
end
end Mi
end
section
namespace Wl
open PySem PySem.Spec
abbrev liO (xs:Array Value) (n:Nat):Obj:={cls:=.type "list",data:=.seq xs n}
theorem JT:typeLookup (.type "list") "keys" = pure none:=by rw [typeLookup_type,builtinLookup_eq_fast];kernel_rfl
theorem noGet:typeLookup (.type "list") "__getattr__" = pure none:=by rw [typeLookup_type,builtinLookup_eq_fast];kernel_rfl
theorem JV:entryFor table "list.__getattribute__" = some Builtin.«object.__getattribute__»:=entryFor_alias (id' := "object.__getattribute__") (by kernel_rfl) (by decide +kernel) (by decide +kernel) (by kernel_rfl)
theorem kE (a:Addr) (xs:Array Value) (n:Nat) (u:Tok):Meets (Builtin.«object.__getattribute__» ⟨[.ref a,.str "keys" u],[]⟩) (fun A R s=>s.heap.get? a=some (liO xs n)/\raisesAttr (.ref a) "keys" A R s):=.of_wp fun prog w A R s hs=>by
 obtain ⟨hp,g,d,tk,os⟩:=s;obtain ⟨e,hh,q⟩:=hs;have ty:(⟨hp,g,d,tk,os⟩:Shared).TypeIs (.ref a) "list":=⟨_,e,rfl⟩
 have no:=JT
 wp_walk
 exact wpAny_raiseAttrError hh q (attrMsg_fits (by decide +kernel) (by size_fits))
section
variable {prog:Program} {w:World} {A:Around} {E:Value->Shared->Prop} {hp:Heap} {g:Array GenState} {d:Drawn} {tk:Nat} {os:OsState} {a:Addr} {xs:Array Value} {n:Nat}
theorem gone {u:Tok} {kw:List (Str×Value)} {Q:Value->Shared->Prop} (e:hp.get? a=some (liO xs n)) (hh:A.handled=none) (hk:kw=[]) (q:∀h' tk' x,Heap.NewAttrErr hp h' x (.ref a) "keys"->E (.ref x) ⟨h',g,d,tk',os⟩) :
  wpAny (model prog w) A (call (.builtin "list.__getattribute__") ([.ref a]++[.str "keys" u]) kw) Q E ⟨hp,g,d,tk,os⟩:=by
 subst hk;exact call_meets F.slot_list_getattribute ⟨_,e,rfl⟩ JV (F.args_list_getattribute_2 _ _) (kE a xs n u) ⟨e,hh,fun h' tk' x hx=>q h' tk' x hx⟩
theorem lacks {Q:Option Value->Shared->Prop} (e:hp.get? a=some (liO xs n)) (hh:A.handled=none) (q:∀h' tk',(∀b o,hp.get? b=some o->h'.get? b=some o)->Q none ⟨h',g,d,tk',os⟩):wpAny (model prog w) A (getAttr? (.ref a) "keys") Q E ⟨hp,g,d,tk,os⟩:=by
 have ty:∀tk',(⟨hp,g,d,tk',os⟩:Shared).TypeIs (.ref a) "list":=fun _=>⟨_,e,rfl⟩
 have f3:=F.slot_list_getattribute.lookup;have f4:=F.slot_list_getattribute.bind (.ref a);have f5:=noGet;have sub:=sub_AttributeError
 wp_walk using gone e hh
 case hk=>rfl
 intro h' tk' x hx;obtain ⟨t,u,ex⟩:=hx.there;show wpAny _ _ (getattributeRaised _ _ _ _ _ _ _) _ _ _
 wp_walk
 exact q _ _ hx.keeps
end
theorem pR {h:Heap} {c d:Addr} {o od:Obj} {T U:String} (e:h.get? c=some o) (hc:o.cls=.type T) (ed:h.get? d=some od) (hd:od.cls=.type U) (ne:(Value.type T==Value.type U)=false):c≠d:=fun q=>by
 subst q;rw [e] at ed;cases ed;rw [hc] at hd;rw [hd] at ne;simp at ne
noncomputable def Prs {prog:Program} {w:World} {K:Type} [DecidableEq K] (knd:KeyKind prog w K) (items:Array Value) (ps:List (K×Value)) (h:Heap):Prop:=items.size=ps.length/\∀(i:Nat) (kv:K×Value),ps[i]?=some kv->∃(p:Addr) (x:Value) (o:Obj) (n:Nat),items[i]?=some (Value.ref p)/\h.get? p=some o/\o.cls=.type "tuple"/\o.data=.seq #[x,kv.2] n/\knd.is kv.1 x=true
theorem Prs.keep {prog:Program} {w:World} {K:Type} [DecidableEq K] {knd:KeyKind prog w K} {items:Array Value} {ps:List (K×Value)} {h h':Heap} (x:Prs knd items ps h) (k:∀c o,o.cls=.type "tuple"->h.get? c=some o->h'.get? c=some o):Prs knd items ps h':=
 ⟨x.1,fun i kv e=>let ⟨p,v,o,n,h1,h2,h3,h4,h5⟩:=x.2 i kv e;⟨p,v,o,n,h1,k p o h3 h2,h3,h4,h5⟩⟩
section
variable {prog:Program} {w:World} {K:Type} [DecidableEq K] {knd:KeyKind prog w K} {A:Around} {R:Except Value Flow->Shared->Prop} {it l d:Addr} {items:Array Value} {ps:List (K×Value)} {nl:Nat}
theorem qZ (hh:A.handled=none) (hdi:d≠it) (hdl:d≠l) (hil:l≠it) :
  ∀(m k:Nat) (s:Shared) (kvs:List (K×Value)),k+m=items.size->kvs.length+m<=sizeLine->s.heap.IsListIter it l k->s.heap.get? l=some (liO items nl)->Prs knd items ps s.heap->s.heap.DictOf knd d kvs->
  (∀h' tk,h'.DictOf knd d (merged kvs (ps.drop k))->(∀c o,c≠d->c≠it->s.heap.get? c=some o->h'.get? c=some o)->R (.ok (.ret .none)) {s with heap:=h',toks:=tk})->
  codeAny (model prog w) A (.builtin "dict.update.loop" ⟨[.ref d,.ref it,rawInt k,.none],[]⟩) R s:=by
 intro m;induction m with
 | zero=>
  intro k s kvs hkm hl Z el Pp hd q;refine codeAny_builtin Wz.gR ?_;rw [Around.under_plainId (show plainId "dict.update.loop" = true by decide +kernel) _];refine wpAny_bind (m:=pyNext (.ref it)) (wpAny_pyNext_list_end hh Z ⟨_,el,rfl,_,rfl⟩ (Array.getElem?_eq_none (by lia)) fun h' kp=>?_);refine wpAny_bind (m:=Builtin.Dict.addKeywords d []) ?_;unfold Builtin.Dict.addKeywords;rw [List.forIn_nil];refine wpAny_bind (wpAny_pure (wpAny_pure (wpAny_pure ?_)));have e:ps.drop k=[]:=List.drop_eq_nil_of_le (by have:=Pp.1;lia);rw [e] at q;obtain ⟨o,es,ep,ho,r⟩:=hd;exact q _ s.toks ⟨o,es,ep,kp d o hdi ho,r⟩ fun c o _ c1 e=>kp c o c1 e
 | succ m ih=>
  intro k s kvs hkm hl Z el Pp hd q;have hlp:k<ps.length:=by have:=Pp.1;lia
  obtain ⟨p,x,o,n,hi,hp,hpc,hpd,his⟩:=Pp.2 k ps[k] (List.getElem?_eq_getElem hlp);have hpi:p≠it:=let ⟨oi,ei,ci,_⟩:=Z;pR hp hpc ei ci (by decide)
  refine codeAny_builtin Wz.gR ?_;rw [Around.under_plainId (show plainId "dict.update.loop" = true by decide +kernel) _];refine wpAny_bind (m:=pyNext (.ref it)) (wpAny_pyNext_list_item Z ⟨_,el,rfl,_,rfl⟩ hi fun h' Z' kp=>?_);have hp':h'.get? p=some o:=(kp.2 p hpi).trans hp;refine wpAny_bind (wpAny_holding (wpAny_bind (wpAny_tryCatch ?_)));refine wpAny_bind (wpAny_typeOf (T := "tuple") ⟨_,hp',hpc⟩ ?_);rw [if_pos (by decide)];refine wpAny_bind (wpAny_seqItems hp' hpd (wpAny_pure ?_));show wpAny _ _ (holding [x,ps[k].2] (dictSet d x ps[k].2)) _ _ _;have hd':h'.DictOf knd d kvs:=let ⟨o,es,ep,ho,r⟩:=hd;⟨o,es,ep,(kp.2 d hdi).trans ho,r⟩
  obtain ⟨od,es,ep,ho,hc,_⟩:=id hd';refine wpAny_holding (wpAny_dictSet_pairs his hd' (fun h2 hd2' sb=>?_) (by lia));refine wpAny_pure ⟨Code.quiet_builtin _ (by decide +kernel),?_⟩;have ek:(rawInt (k+1):Value)=rawInt ((k+1:Nat):Int):=rfl;rw [ek];have hdrop:ps.drop k=ps[k]::ps.drop (k+1):=List.drop_eq_getElem_cons hlp;have ls:(stored kvs ps[k].1 ps[k].2).length<=kvs.length+1:=by
   unfold stored;split
   ·rw [List.length_map];lia
   ·rw [List.length_append];exact Nat.le_refl _
  have keep:∀c o,c≠d->c≠it->s.heap.get? c=some o->h2.get? c=some o:=fun c o c0 c1 e=>(sb.2 c c0).trans ((kp.2 c c1).trans e)
  have hdc:∀c (oc:Obj),oc.cls=.type "tuple"->s.heap.get? c=some oc->c≠d/\c≠it:=fun c oc hoc e=>⟨let ⟨o1,_,_,e1,c1,_⟩:=hd;pR e hoc e1 c1.1 (by decide),let ⟨oi,ei,ci,_⟩:=Z;pR e hoc ei ci (by decide)⟩
  refine ih (k+1) _ (stored kvs ps[k].1 ps[k].2) (by lia) (by lia) (let ⟨oi,ei,r⟩:=Z';⟨oi,(sb.2 it (Ne.symm hdi)).trans ei,r⟩) (keep l _ (Ne.symm hdl) hil el) (Pp.keep fun c oc hoc e=>keep c oc (hdc c oc hoc e).1 (hdc c oc hoc e).2 e) hd2' fun h3 tk hd3 kp3=>?_
  exact q h3 tk (by rw [hdrop];exact hd3) fun c o c0 c1 e=>kp3 c o c0 c1 (keep c o c0 c1 e)
end
section
variable {prog:Program} {w:World} {K:Type} [DecidableEq K] {knd:KeyKind prog w K} {A:Around} {E:Value->Shared->Prop} {hp:Heap} {g:Array GenState} {dr:Drawn} {tk:Nat} {os:OsState} {l:Addr} {items:Array Value} {ps:List (K×Value)} {nl:Nat}
theorem dict_list {Q:Value->Shared->Prop} (hh:A.handled=none) (el:hp.get? l=some (liO items nl)) (Pp:Prs knd items ps hp) (hz:items.size<=1000000)
  (q:∀h' tk',h'.DictOf knd hp.objs.size (merged [] ps)->(∀c o,hp.get? c=some o->h'.get? c=some o)->Q (.ref hp.objs.size) ⟨h',g,dr,tk',os⟩) :
  wpAny (model prog w) A (call (.type "dict") [.ref l]) Q E ⟨hp,g,dr,tk,os⟩:=by
 have hnew:(hp.push {cls:=.type "dict",data:=.dict #[]}).DictOf knd hp.objs.size []:=Heap.DictOf.new hp;have up:∀c o,hp.get? c=some o->(hp.push {cls:=.type "dict",data:=.dict #[]}).get? c=some o:=fun c o e=>Heap.get?_push_of_some _ e
 have lt:∀{c o},hp.get? c=some o->hp.objs.size≠c:=fun e=>Nat.ne_of_gt (Heap.lt_size e)
 refine callType_codes (Q₁:=fun v s₁=>v=.ref hp.objs.size/\s₁=⟨hp.push {cls:=.type "dict",data:=.dict #[]},g,dr,tk,os⟩) F.kt_called_dict (F.kt_typeCall_dict_1 _) F.entry_dict_init (kt_code_dict_new _ ⟨rfl,rfl⟩) fun v s₁ hv=>?_
 obtain ⟨rfl,rfl⟩:=hv;have ty:(⟨hp.push {cls:=.type "dict",data:=.dict #[]},g,dr,tk,os⟩:Shared).TypeIs (.ref hp.objs.size) "dict":=hnew.typeIs;have ez:=up _ _ el;have tz:(⟨hp.push {cls:=.type "dict",data:=.dict #[]},g,dr,tk,os⟩:Shared).TypeIs (.ref l) "list":=⟨_,ez,rfl⟩
 refine ⟨ty,F.args_dict_init_2 _ _,wpAny_bind (m:=Builtin.Dict.selfAndRest "__init__" _) (wpAny_bind (wpAny_notOrdered_dict ty (wpAny_pure ?_)))⟩;refine wpAny_bind (m:=typeOf (.ref l)) (wpAny_typeOf tz ?_);rw [if_pos (by decide)];refine wpAny_bind (lacks ez hh fun h' tk' kp=>?_);rw [if_pos (show (none:Option Value).isNone=true from rfl)];refine wpAny_bind (wpAny_rule (wpAny_bind (wpAny_pyIter_list ⟨_,kp _ _ ez,rfl,_,rfl⟩ (wpAny_pure ⟨Code.quiet_builtin _ (by decide +kernel),?_⟩))));have hd':h'.DictOf knd hp.objs.size []:=let ⟨o,es,ep,ho,r⟩:=hnew;⟨o,es,ep,kp _ _ ho,r⟩
 have ltd:hp.objs.size<h'.objs.size:=let ⟨o,es,ep,ho,r⟩:=hd';Heap.lt_size ho
 have ltl:l<h'.objs.size:=Heap.lt_size (kp _ _ ez);refine qZ (A:=A.in1) (ps:=ps) (it:=h'.objs.size) (l:=l) (items:=items) (nl:=nl) (show A.in1.handled=none from hh) (Nat.ne_of_lt ltd) (lt el) (Nat.ne_of_lt ltl) items.size 0 _ [] (by lia) (by rw [List.length_nil,sizeLine_eq];lia) ⟨_,Heap.get?_push_size _ rfl,rfl,rfl⟩ (Heap.get?_push_of_some _ (kp _ _ ez)) (Pp.keep fun c o _ e=>Heap.get?_push_of_some _ (kp c o (up c o e))) (let ⟨o,es,ep,ho,r⟩:=hd';⟨o,es,ep,Heap.get?_push_of_some _ ho,r⟩) fun h2 tk2 hd2 kp2=>?_
 exact ⟨rfl,q h2 tk2 hd2 fun c o e=>kp2 c o (fun x=>lt e x.symm) (Nat.ne_of_lt (Heap.lt_size (kp c o (up c o e)))) (Heap.get?_push_of_some _ (kp c o (up c o e)))⟩
end
end Wl
end
section
namespace Mi
open PySem L2 PySem.SeqAt PySem.Spec PyProof.Rows
noncomputable def oO:List D->Option (List (D×D))
 | []=>some []
 | .tup [k,v]::r=>if fH k&&v.pure then (oO r).map ((k,v)::·) else none
 | _::_=>none
noncomputable def gU (kvs:List (D×D)) (more:List (D×D)):List (D×D):=more.foldl (fun acc p=>putD acc p.1 p.2) kvs
noncomputable def xV:D->Res D
 | .lst xs=>match oO xs with
  | some ps=>if decide (xs.length<=1000) then .ok (.dct (gU [] ps)) else .bad
  | none=>.bad
 | _=>.bad
variable [KFrag]
theorem xW {X:Cx} {pins:List (Addr×Obj)} {σ:L2.St} {H:Hp} {s:Shared} (I:Inv X pins σ H s):∀{xs:List D} {vs:List V} {us:List Value} {ps:List (D×D)},aW All H vs xs->Vals vs us->oO xs=some ps->
  ∃(kvs:List (Key×V)) (prs:List (Key×Value)),KV kvs prs/\dD All H kvs ps/\D.aG (ps.map (·.2))=true/\us.length=prs.length/\∀(i:Nat) (kv:Key×Value),prs[i]?=some kv->∃(p:Addr) (x:Value) (o:Obj) (n:Nat),us[i]?=some (Value.ref p)/\s.heap.get? p=some o/\o.cls=.type "tuple"/\o.data=.seq #[x,kv.2] n/\(bL X.prog X.w).is kv.1 x=true
 | [],_,_,_,.nil,.nil,h=>by
  cases h;exact ⟨[],[],.nil,.nil,rfl,rfl,fun i kv h=>by simp at h⟩
 | d::xs,_,_,ps,.cons r t,.cons rv tv,h=>by
  unfold oO at h;split at h
  ·rename_i h0;cases h0
  ·rename_i k v r' h0;injection h0 with h0 h1
   subst h0 h1;split at h
   ·rename_i hf;rw [Bool.and_eq_true] at hf;obtain ⟨ps',hp,rfl⟩:=Option.map_eq_some_iff.mp h;obtain ⟨kvs,prs,g1,g2,g3,g4,g5⟩:=xW I t tv hp;obtain ⟨a,ws,rfl,ea,rr⟩:=r.dC;cases rv;obtain ⟨its,rvs,o,ho,hc,n,hd⟩:=fY I ea;cases rr with
    | cons rk rr=>
     cases rr with
     | cons rw_ rr=>
      cases rr;cases rvs with
      | cons q1 rvs=>
       cases rvs with
       | cons q2 rvs=>
        cases rvs;rename_i wk ww uk uw;obtain ⟨key,hk1,hk2⟩:∃key:Key,kD key=k/\(bL X.prog X.w).is key uk=true:=by
         cases rk with
         | int i=>exact ⟨.inl i,rfl,sV (k:=.inl i) q1⟩
         | str x=>exact ⟨.inr x,rfl,sV (k:=.inr x) q1⟩
         | _=>cases hf.1
        subst hk1;refine ⟨(key,ww)::kvs,(key,uw)::prs,.cons ⟨rfl,q2⟩ g1,.cons rw_ g2,by rw [List.map_cons,D.aG,hf.2,g3];rfl,by rw [List.length_cons,List.length_cons,g4],fun i kv hi=>?_⟩;cases i with
        | zero=>
         simp at hi;subst hi;exact ⟨a,uk,o,n,rfl,ho,hc,hd,hk2⟩
        | succ i=>
         obtain ⟨p,x,o',n',z1,z2⟩:=g5 i kv (by simpa using hi);exact ⟨p,x,o',n',by simpa using z1,z2⟩
   ·cases h
  ·cases h
theorem pU {P:Addr->Prop} {H:Hp}:∀{more:List (Key×V)} {ds:List (D×D)} {kvs:List (Key×V)} {es:List (D×D)},dD P H more ds->dD P H kvs es->(kvs.map (·.1)).Nodup->dD P H (dG kvs more) (gU es ds)/\((dG kvs more).map (·.1)).Nodup
 | _,_,_,_,.nil,r,n=>⟨r,n⟩
 | _,_,_,_,.cons (k:=k) rv t,r,n=>by have:=pU t (qY (k:=k) rv r n) (fO n);exact this
theorem jL:∀{ds es:List (D×D)},D.aG (ds.map (·.2))=true->D.aG (es.map (·.2))=true->D.aG ((gU es ds).map (·.2))=true
 | [],_,_,h=>h
 | (k,v)::ds,es,h,h2=>by
  rw [List.map_cons,D.aG,Bool.and_eq_true] at h;exact jL (ds:=ds) h.2 (gQ h.1 h2)
section
variable {X:Cx} {e:Expr} {fe:FE} {re:Bool} {p pos:Pos}
theorem J6 (hc:X.calm=true) (hg:Gl X "dict") (hm:X.mg "dict" = none) (he:PE X e (gE fe re)) (hs:starEach [e] X.env=[(false,eval e X.env)]:=by rfl) :
  PE X (.Call (.Name "dict" p) [e] [] pos) (gE (b1 xV fe) true):=by
 intro pins s σ H Q I ⟨ρ,d,E,h,q⟩;obtain ⟨d0,h1,h2⟩:=bG h;unfold xV at h2;split at h2
 rotate_left
 ·cases h2
 rename_i xs;split at h2
 rotate_left
 ·cases h2
 rename_i ps hps;split at h2
 rotate_left
 ·cases h2
 rename_i hb;cases h2;have hb:=of_decide_eq_true hb;refine wpAny_Call_Name_kw (jA I hg hm qX ?_);refine PyProof.Rows.callWith_type1 ?_ hs rfl;rw [hs];show wpAny _ _ (spliced [(false,eval e X.env)]) _ _ s;refine Calls.spliced_cons (thn (he pins s σ H (fun v H1=>bK H H1/\Rep All H1 v (.lst xs)) I ⟨ρ,_,E,h1,fun v H1 s1 r1 _=>⟨s1,r1⟩⟩) fun u s1 ⟨x,H1,I1,ru,sm,rx⟩=>?_);obtain ⟨a,vs,rfl,ea,rr⟩:∃a vs,x=.ref a/\H1 a=some (.lst vs)/\aW All H1 vs xs:=by
  cases rx with
  | lst e p r=>exact ⟨_,_,rfl,e,r⟩
 cases ru;refine Calls.spliced_nil ?_;obtain ⟨hz,its,nl,rv,hl⟩:vs.length<=sizeLine/\∃(its:List Value) (n:Nat),Vals vs its/\s1.heap.get? a=some {cls:=.type "list",data:=.seq its.toArray n}:=I1.hok a _ ea;obtain ⟨kvs,prs,g1,g2,g3,g4,g5⟩:=xW I1 rr rv hps;have hlen:its.length<=1000:=by rw [<-rv.length,rr.length];exact hb
 obtain ⟨hp,g,dr,tk,os⟩:=s1;refine Wl.dict_list (knd:=bL X.prog X.w) (ps:=prs) (items:=its.toArray) (I1.ok.hd hc) hl ⟨by rw [List.size_toArray];exact g4,fun i kv hi=>?_⟩ (by rw [List.size_toArray];lia) fun h' tk' hd kp=>?_
 ·obtain ⟨p,x,o,n,z1,z2⟩:=g5 i kv hi;exact ⟨p,x,o,n,by simpa using z1,z2⟩
 ·have hfr:H1 hp.objs.size=none:=I1.hok.fresh (Nat.le_refl _);have rel:KV (dG [] kvs) (merged [] prs):=g1.merge .nil;have hz2:(dG [] kvs).length<=sizeLine:=by
   have:=gZ kvs [];have l1:kvs.length=prs.length:=Paired.length g1;rw [List.length_nil] at this;rw [sizeLine_eq];lia
  obtain ⟨rk,nd⟩:=pU (kvs:=[]) g2 dD.nil List.nodup_nil;have sp:bK H1 (upd H1 hp.objs.size (.dK (dG [] kvs))):=bK.upd hfr;have rk2:∀{P:Addr->Prop},dD P (upd H1 hp.objs.size (.dK (dG [] kvs))) (dG [] kvs) (gU [] ps):=fun {P}=>(rk.keep (.same sp) fun _ h=>h).bH (jL g3 rfl)
  refine ⟨.ref hp.objs.size,_,I1.laid (a:=hp.objs.size) (t':=tk') (o:=.dK (dG [] kvs)) kp (Nat.le_refl _) (GZ hz2 (beq_eq_false_iff_ne.mpr ?_) rel hd),rfl,?_⟩
  ·exact Ne.symm (Nat.ne_of_lt I1.big)
  ·exact q _ _ (sm.trans sp) (.dK aC trivial rk2 nd) fun _=>.dK aC (sm.free hfr) rk2 nd
end
end Mi
end
section
namespace Mi
open PySem L2 PySem.SeqAt PySem.Spec PyProof.Rows
variable [KFrag]
section
variable {X:Cx} {own:Nat->Bool} {a b e:Expr} {pos pos' posE:Pos} {fa fe:FE} {re:Bool} {xb:FX}
end
end Mi
end
section
namespace Mi
open PySem L2 PySem.SeqAt PySem.Spec PyProof.Rows
variable [KFrag]
section
variable {own:Nat->Bool}
end
section
variable {X:Cx} {own:Nat->Bool} {st:Stmt} {rest:List Stmt} {f g:FS} {R:TS} {e1 e2:Expr} {x1 x2:FX} {pos:Pos}
end
section
variable {X:Cx} {pos:Pos}
end
section
variable {X:Cx} {pos:Pos}
end
end Mi
end
section
namespace Mi
open PySem L2 PySem.SeqAt PySem.Spec PyProof.Rows
variable [KFrag]
section
variable {X:Cx} {pins:List (Addr×Obj)} {σ:L2.St} {H:Hp} {s:Shared}
end
end Mi
end
section
namespace Mi
open PySem L2 PySem.SeqAt PySem.Spec PyProof.Rows
variable [KFrag]
section
variable {own:Nat->Bool} {D':Ends} {σ σ':L2.St} {H H':Hp}
end
section
variable {own:Nat->Bool} {X:Cx} {st:Stmt} {rest s1 s2:List Stmt} {f g:FS} {c e:Expr} {gc:FT} {pos pos':Pos}
end
section
variable {own:Nat->Bool} {σ:L2.St} {H:Hp} {ρ:List D}
end
section
variable {own:Nat->Bool} {X:Cx} {k k' n:Nat} {x:Str} {e:Expr} {es fs:List Expr} {fa:FA} {r:Bool} {v:List D->Res D} {p cpos pos pt:Pos} {kk:Nat} {is os:List Nat}
end
end Mi
end
section
namespace Mi
open PySem
theorem J7 (o:Obj) (f:Array Value->Array Value):(o.mapFields f).dict=o.dict:=by
 obtain ⟨c,d,dt,sl⟩:=o;cases dt <;> rfl
theorem xX (T:Addr):(Value.ref T != Value.none)=true:=by simp
theorem QZ (L:Addr):¬((Value.none==rawInt L)=true):=by simp [rawInt]
noncomputable def TrD (h B:Heap) (e:Addr) (c:Value) (dd:Option Addr) (fl:Value):Prop:=
 ∃o vs T oT ts,(h.get? e=some o/\o.cls=c/\o.dict=dd/\o.data=.fields vs)/\(vs[1]?=some (.ref T)/\B.get? T=none/\T≠e)/\h.get? T=some oT/\oT.data=.fields ts/\ts[3]?=some fl
noncomputable def FD (B:Heap) (l:List Env) (e:Addr) (c:Value) (dd:Option Addr) (fl:Value) (h:Heap):Prop:=B.StaysIn h/\B.get? e=none/\h.FunFrames B l/\TrD h B e c dd fl
theorem FD.there {B h:Heap} {l:List Env} {e:Addr} {c fl:Value} {dd:Option Addr} (x:FD B l e c dd fl h):∃o,h.get? e=some o/\o.cls=c/\o.dict=dd/\∃vs,o.data=.fields vs:=by
 obtain ⟨_,_,_,o,vs,_,_,_,⟨a,b,d,f⟩,_⟩:=x;exact ⟨o,a,b,d,vs,f⟩
section
variable {M:Model} {A:Around} {E:Value->Shared->Prop} {s:Shared} {B:Heap} {env:Env} {outer l:List Env} {L e:Addr} {oe:Obj} {vs:Array Value} {head c:Value} {dd:Option Addr} {Q:Unit->Shared->Prop}
theorem vU {h:Heap} {a:Addr} {o:Obj} {ws:Array Value} (i:Nat) (v:Value) (ho:h.get? a=some o) (hd:o.data=.fields ws) :
  ∃h2:Heap,h2=h.update a (Obj.mapFields (·.setIfInBounds i v))/\(∀b,b≠a->h2.get? b=h.get? b)/\∃o2,h2.get? a=some o2/\o2.cls=o.cls/\o2.dict=o.dict/\o2.data=.fields (ws.setIfInBounds i v):=
 ⟨_,rfl,fun b hb=>Heap.get?_update_other _ _ (Ne.symm hb),_,Heap.get?_update_self _ ho (Obj.isFreed_of_fields (Obj.data_mapFields hd _)),Obj.cls_mapFields _ _,J7 _ _,Obj.data_mapFields hd _⟩
theorem xY {had:Bool} (hfr:A.frames=some (env::outer)) (hl:s.heap.FunFrames B (env::outer)) (hf:env.frame=some L) (he:s.heap.get? e=some oe) (hB:B.StaysIn s.heap) (hn:B.get? e=none) (hd:oe.data=.fields vs) (hz:1<vs.size)
  (q:∀h',FD B (env::outer) e oe.cls oe.dict (rawInt L) h'->s.heap.UpToSlots h'->Q () {s with heap:=h'}) :
  wpAny M A (do let a <- frameOf env;let pl <- entryPlaceOf L had;let b <- EntryCells.newEntry head a .none (rawInt L) .none pl;setField (.ref e) 1 b) Q E s:=by
 have nf:e∉(env::outer).filterMap (·.frame):=fun z=>by
  obtain ⟨_,o,ho,k⟩:=hl.mem z;cases he.symm.trans ho;exact k _ hd
 refine wpAny_bind (wpAny_frameOf_fun hfr hl hf fun h1 so=>wpAny_bind (wpAny_entryPlaceOf fun pl hp=>?_));unfold EntryCells.newEntry;unfold newFields;refine wpAny_bind (wpAny_newObj_type ?_ (hp.sizeOk5 _ _ _ _ _));generalize hon:({cls:=.type "traceback",dict:=none,data:=.fields ([head,.ref L,.none,rawInt L,.none]++(if pl.isEmpty then List.replicate 6 Value.none else pl)).toArray}:Obj)=on;have e1:h1.get? e=some oe:=(so.2.1 e nf).trans he;have B1:B.StaysIn h1:=fun b o k=>(so.2.1 b fun z=>by rw [(hl.mem z).1] at k;cases k).trans (hB b o k)
 have e2:=Heap.get?_push_of_some (h:=h1) on e1;obtain ⟨h3,r3,k3,o3,g3,c3,d3,f3⟩:=vU 1 (.ref h1.objs.size) e2 hd;have ne:h1.objs.size≠e:=Nat.ne_of_gt (Heap.lt_size e1);have t3:h3.get? h1.objs.size=some on:=(k3 _ ne).trans (Heap.get?_push_size h1 (by rw [<-hon];rfl));have keep:∀b o,b≠e->h1.get? b=some o->h3.get? b=some o:=fun b o hb k=>(k3 b hb).trans (Heap.get?_push_of_some _ k)
 have nr:∀b o,s.heap.get? b=some o->(∀vs,o.data≠.fields vs)->b≠e:=fun b o k z w=>by
  rw [w] at k;cases he.symm.trans k;exact z _ hd
 have up:s.heap.UpToSlots h3:=fun b o k z=>by
  obtain ⟨sl,w⟩:=so.2.2 b o k;exact ⟨sl,keep b _ (nr b o k z) w⟩
 refine wpAny_setField e2 hd hz ?_;rw [<-r3];refine q h3 ⟨fun b o k=>keep b o (fun z=>by rw [z,hn] at k;cases k) (B1 b o k),hn,hl.of_keeps fun b o k z=>let ⟨sl,w⟩:=up b o k z;⟨_,w,rfl⟩,?_⟩ up;have don:on.data=.fields ([head,.ref L,.none,rawInt L,.none]++(if pl.isEmpty then List.replicate 6 Value.none else pl)).toArray:=by rw [<-hon]
 exact ⟨o3,_,h1.objs.size,on,_,⟨g3,c3,d3,f3⟩,⟨by simp [hz],B1.fresh,ne⟩,t3,don,by simp⟩
theorem lK {fl:Value} (x:FD B l e c dd fl s.heap) (q:∀h',FD B l e c dd .none h'->s.heap.UpToSlots h'->Q () {s with heap:=h'}):wpAny M A (setFlight (.ref e) none) Q E s:=by
 obtain ⟨k1,k2,k3,o,vs,T,oT,ts,⟨g1,g2,g3,g4⟩,⟨t1,t2,t3⟩,u1,u2,u3⟩:=x;obtain ⟨h2,r2,j2,o2,p1,p2,p3,p4⟩:=vU 3 Value.none u1 u2;have hz:3<ts.size:=(Array.getElem?_eq_some_iff.mp u3).1;have up:∀b o,s.heap.get? b=some o->(∀vs,o.data≠.fields vs)->h2.get? b=some o:=fun b o k z=>(j2 b fun w=>by
  rw [w] at k;cases u1.symm.trans k;exact z _ u2).trans k
 unfold setFlight;refine wpAny_bind (wpAny_field g1 g4 t1 ?_);rw [if_pos (xX T)];refine wpAny_setField u1 u2 hz ?_;show Q () {s with heap:=s.heap.update T (Obj.mapFields (·.setIfInBounds 3 Value.none))};rw [<-r2];exact q h2 ⟨fun b o k=>(j2 b fun w=>by rw [w,t2] at k;cases k).trans (k1 b o k),k2,k3.of_keeps fun b o k z=>⟨o,up b o k z,rfl⟩,o,vs,T,o2,_,⟨(j2 e (Ne.symm t3)).trans g1,g2,g3,g4⟩,⟨t1,t2,t3⟩,p1,p4,by simp [hz]⟩ fun b o k z=>⟨o.slots,up b o k z⟩
theorem J8 (hfr:A.frames=some (env::outer)) (hf:env.frame=some L) (x:FD B (env::outer) e c dd .none s.heap) (q:∀h',FD B (env::outer) e c dd (rawInt L) h'->s.heap.UpToSlots h'->Q () {s with heap:=h'}):wpAny M A (noteFrame (.ref e) env) Q E s:=by
 obtain ⟨k1,k2,k3,o,vs,T,oT,ts,⟨g1,g2,g3,g4⟩,⟨t1,t2,t3⟩,u1,u2,u3⟩:=x;obtain ⟨h2,r2,j2,o2,p1,p2,p3,p4⟩:=vU 3 Value.none u1 u2;have up:∀b o,s.heap.get? b=some o->(∀vs,o.data≠.fields vs)->h2.get? b=some o:=fun b o k z=>(j2 b fun w=>by
  rw [w] at k;cases u1.symm.trans k;exact z _ u2).trans k
 unfold noteFrame;simp only [hf];refine wpAny_bind (wpAny_field g1 g4 t1 ?_);rw [if_pos (xX T)];refine wpAny_bind (wpAny_field u1 u2 u3 ?_);rw [if_neg (QZ L)];refine wpAny_bind (wpAny_setField u1 u2 (Array.getElem?_eq_some_iff.mp u3).1 ?_);rw [<-r2];have g1':h2.get? e=some o:=(j2 e (Ne.symm t3)).trans g1;subst g2 g3;refine xY (s:={s with heap:=h2}) hfr (k3.of_keeps fun b o k z=>⟨o,up b o k z,rfl⟩) hf g1' (fun b o k=>(j2 b fun w=>by rw [w,t2] at k;cases k).trans (k1 b o k)) k2 g4 (Array.getElem?_eq_some_iff.mp t1).1 fun h' y z=>q h' y fun b o k w=>z b o (up b o k w) w
theorem Q0 (hfr:A.frames=some (env::outer)) (hf:env.frame=some L) (x:FD B (env::outer) e c dd .none s.heap) (q:∀h',FD B outer e c dd .none h'->s.heap.UpToSlots h'->Q () {s with heap:=h'}):wpAny M A (leaving env (.ref e)) Q E s:=by
 unfold leaving;refine wpAny_bind (J8 hfr hf x fun h1 x1 u1=>lK (s:={s with heap:=h1}) x1 fun h2 x2 u2=>q h2 ⟨x2.1,x2.2.1,x2.2.2.1.2.2,x2.2.2.2⟩ (u1.trans u2))
theorem Q3 (hfr:A.frames=some (env::outer)) (hf:env.frame=some L) (hl:s.heap.FunFrames B (env::outer)) (he:s.heap.get? e=some oe) (hB:B.StaysIn s.heap) (hn:B.get? e=none) (hd:oe.data=.fields vs) (hv:vs[1]?=some .none)
  (q:∀h',FD B outer e oe.cls oe.dict .none h'->s.heap.UpToSlots h'->Q () {s with heap:=h'}):wpAny M A (leaving env (.ref e)) Q E s:=by
 unfold leaving noteFrame;simp only [hf];refine wpAny_bind (wpAny_bind (wpAny_field he hd hv ?_));rw [if_neg (by decide)];exact xY hfr hl hf he hB hn hd (Array.getElem?_eq_some_iff.mp hv).1 fun h1 x1 u1=>lK (s:={s with heap:=h1}) x1 fun h2 x2 u2=>q h2 ⟨x2.1,x2.2.1,x2.2.2.1.2.2,x2.2.2.2⟩ (u1.trans u2)
end
end Mi
end
section
namespace Mi
open PySem PySem.W Builtin Builtin.ObjectAttr
section
variable {prog:Program} {w:World} {A:Around} {E:Value->Shared->Prop} {K:Frag} {C:Addr}
end
end Mi
end
section
namespace Mi
open PySem L2 PySem.W PySem.SeqAt PySem.Spec PyProof.Rows Builtin Builtin.ObjectAttr
theorem XO.stay {a C:Addr} {dx:Option Addr} {h1 h2:Heap} (x:XO a C dx h1) (k:∀o,h1.get? a=some o->h2.get? a=some o):XO a C dx h2:=let ⟨o,e,r⟩:=x;⟨o,k _ e,r⟩
section
variable {P:Program} {w:World} {H:Hp} {h:Heap} {a C dx:Addr} {fs:List (Str×Str)}
theorem aEa {dx:Option Addr} (x:XO a C dx h):dX P w H h a (.ext (XO a C dx)):=⟨x,let ⟨o,e,_⟩:=x;⟨o,e⟩,fun _ _ y k=>y.stay k⟩
end
noncomputable def CX2 (P:Program) (w:World):CXT:=fun outer H s E e s'=>∃(a C:Addr) (dd:Option Addr) (H1:Hp) (B:Heap),e=.ref a/\s'.os=s.os/\AllBare s'.gens/\FD B outer a (.ref C) dd .none s'.heap/\
 (∀h6:Heap,B.StaysIn h6->s'.heap.UpToSlots h6->Un (L2.frs outer) [] H H1 s.heap h6/\HOk P w H1 h6)/\H1 a=none/\s.heap.get? a=none/\E (.ref C) dd H1
section
variable {P:Program} {w:World} {K:PySem.W.Frag} {mg:Str->Option Value} {base:Heap} {N:List Str} {qual:Str} {scope:Scope} {f C:Addr} {cd:Value} {A:Around} {outer:List Env} {s:Shared} {H:Hp} {E:XK}
theorem lZ:nM (CX2 P w) (wL (CX2 P w) P w K mg base N qual scope f cd A outer s H E) E:=by
 intro pins σ Hm sm e s' I hx;obtain ⟨a,C,dd,H1,B,rfl,os',bare',fly,clo,hn,hgone,hE⟩:=hx
 let env:=envOfC qual scope s.heap.objs.size f cd
 have hfr:L2.frs (env::outer)=s.heap.objs.size::L2.frs outer:=by
  unfold L2.frs;rw [List.filterMap_cons];rfl
 have u0:Un (L2.frs outer) [] H Hm s.heap sm.heap:=I.base;show wpAny (model P w) (A.deeper env) (leaving env (.ref a)) (fun _ s''=>CX2 P w outer H s E (.ref a) s'') (fun e' s''=>CX2 P w outer H s E e' s'') s';refine Q0 (L:=s.heap.objs.size) I.ok.frames rfl fly fun h' x1 x4=>?_
 have hgone0:s.heap.get? a=none:=by
  cases q:s.heap.get? a with
  | none=>rfl
  | some o=>
   obtain ⟨o',e1⟩:=u0.there a o q (by simp);rw [hgone] at e1;cases e1
 refine ⟨a,C,dd,H1,B,rfl,os'.trans I.os,bare',x1,fun h6 st up=>?_,hn,hgone0,hE⟩;obtain ⟨u2,hok⟩:=clo h6 st (x4.trans up);have nL:∀b o,s.heap.get? b=some o->b∉L2.frs outer->b∉L2.frs (env::outer):=fun b o eb hb z=>by
  rw [hfr] at z;rcases List.mem_cons.mp z with z|z
  ·exact absurd (Heap.lt_size eb) (by rw [z];exact Nat.lt_irrefl _)
  ·exact hb z
 refine ⟨⟨fun b o eb hn hb hx'=>u2.keep b o (u0.keep b o eb hn hb hx') (u0.free b o eb hn hx') (nL b o eb hb) (by simp),fun b o eb hn hb hx'=>?_,fun b o eb hn hx'=>?_,fun b o eb hx'=>?_,fun b xs q=>u2.tups b xs (u0.tups b xs q),fun b o u q=>u2.frzs b o u (u0.frzs b o u q),fun b ps q=>?_⟩,hok⟩
 ·obtain ⟨sl,e1⟩:=u0.slot b o eb hn hb hx';obtain ⟨sl',e2⟩:=u2.slot b _ e1 (u0.free b o eb hn hx') (show b∈L2.frs (env::outer) by rw [hfr];exact List.mem_cons_of_mem _ hb) (by simp);exact ⟨sl',e2⟩
 ·obtain ⟨o',e1⟩:=u0.there b o eb hx';exact u2.free b o' e1 (u0.free b o eb hn hx') (by simp)
 ·obtain ⟨o',e1⟩:=u0.there b o eb hx';exact u2.there b o' e1 (by simp)
 ·obtain ⟨m1,q1⟩:=u0.tbls b ps q;obtain ⟨m2,q2⟩:=u2.tbls b _ q1;exact ⟨m1++m2,by rw [<-Array.append_assoc];exact q2⟩
end
end Mi
end
section
namespace Mi
open PySem L2 PySem.W PySem.SeqAt PySem.Spec PyProof.Rows Builtin Builtin.ObjectAttr
section
variable {X:Cx} {C f:Addr} {fl:List Str} {k:Nat} {fd:FuncData} {ps:List Str} {pins:List (Addr×Obj)} {σ:L2.St} {H:Hp} {s:Shared} {us:List Value} {ts:List Str}
end
end Mi
end
section
namespace Mi
open PySem L2 PySem.W PySem.SeqAt PySem.Spec PyProof.Rows
variable [KFrag]
noncomputable def aEb (E:XK) (H:Hp) (c:Str) (as:List D):Prop:=∃fs C,as=[.exc c fs]/\nsIn KFrag.K mainGlobals c=some (some (.ref C))/\∀H' dx,bK H H'->XDs H' fs dx->E (.ref C) dx H'
noncomputable def kZE (E:XK) (H:Hp) (Q:VK):Res D->Prop
 | .ok d=>kR H d true Q
 | .err c as=>aEb E H c as
 | .bad=>False
noncomputable def spZ (f:List D->Res D) (n:Nat):Sp:=fun vs H Q E=>∃ds,ds.length=n/\aW All H vs ds/\kZE E H Q (f ds)
noncomputable def XX (P:Program) (w:World) (K:PySem.W.Frag) (mg:Str->Option Value) (base:Heap) (k:Nat) (x:Str) (n:Nat) (f:List D->Res D):Prop:=
 ∃(fad:Addr) (fd:FuncData) (ps:List Str),i_ P w K mg base (CX2 P w) k fad fd ps (spZ f n)/\mg x=some (.ref fad)/\PySem.W.keepIn K (.ref fad)=true/\Binds K fd ps []
section
variable {own:Nat->Bool} {E:XK} {D':Ends} {σ σ':L2.St} {H H':Hp}
end
section
variable {own:Nat->Bool} {E:XK} {X:Cx} {st:Stmt} {rest s1 s2:List Stmt} {f g:FS} {c e:Expr} {gc:FT} {pos pos':Pos} {fe:FE}
end
section
variable {own:Nat->Bool} {E:XK}
end
section
variable {P:Program} {w:World} {K:PySem.W.Frag} {mg:Str->Option Value} {base:Heap} {N:List Str} {qual:Str} {scope:Scope} {fad C:Addr} {cd:Value} {A:Around} {outer:List Env} {s:Shared} {H:Hp} {E:XK} {own:Nat->Bool} {pos:Pos}
end
end Mi
end
section
namespace Mi
open PySem L2 PySem.W PySem.SeqAt PySem.Spec PyProof.Rows Builtin Builtin.ObjectAttr
noncomputable def aEc (v:List D->Res D) (n:Nat) (fa:FA) (cs:List Str) (ic ie:Nat):FS:=fun ρ=>do
 let ds <- fa ρ
 match f9 n v ds with
 | .err c [.exc c' fs]=>if c'==c&&cs.contains c&&decide (ie<ρ.length) then .ok (.nx (((ρ.set ie (.exc c fs)).set ic (.exc c fs)).set ie .uD)) else .bad
 | _=>.bad
section
variable {X:Cx} {C f:Addr} {fl:List Str} {k:Nat} {fd:FuncData} {ps:List Str} {x:Str} {p pos:Pos} {e:Expr} {es:List Expr} {t:TA}
end
variable [KFrag]
section
variable {P:Program} {w:World} {K:PySem.W.Frag} {mg:Str->Option Value} {base:Heap} {N:List Str} {qual:Str} {scope:Scope} {fad C fi:Addr} {cd:Value} {A:Around} {outer:List Env} {s:Shared} {H:Hp} {E:XK} {own:Nat->Bool} {pos p cpos:Pos} {x:Str} {e:Expr} {es:List Expr} {fa:FA} {r:Bool} {fl:List Str} {k k':Nat} {fd:FuncData} {ps:List Str}
end
section
variable {X:Cx} {C fi:Addr} {fl:List Str} {k:Nat} {fd:FuncData} {ps:List Str} {x:Str} {p pos:Pos} {e:Expr} {es:List Expr} {fa:FA} {r:Bool}
end
section
variable {prog:Program} {w:World} {A:Around} {E:Value->Shared->Prop} {s:Shared} {K:Frag} {x C dx:Addr} {f t:Str} {fs:List (Str×Str)}
end
section
variable {X:Cx} {y f:Str} {i:Nat} {np pos:Pos} {cs:List Str}
end
end Mi
end
section
namespace Mi
open PySem L2 PySem.W PySem.SeqAt PySem.Spec PyProof.Rows
noncomputable def aEd (K:Frag) (cM:Value) (t:TA) (sp:Sp) (ie:Nat) (ts:TS):TS:=fun D σ H=>t σ H fun vs H1=>sp vs H1 (fun _ _=>False) fun Cv dd H2=>∃C,Cv=.ref C/\exmOne K (.ref C) cM=some true/\∀a,H2 a=none->ts {nx:=fun σ' H'=>D.nx (σ'.set ie none) H',rt:=fun _ _=>False} (σ.set ie (some (.ref a))) (upd H2 a (.ext (XO a C dd)))
theorem X3 {X:Cx} {k:Nat} {fad:Addr} {cM:Value} {fd:FuncData} {ps:List Str} {sp:Sp} {f mx n:Str} {p cpos xpos mp hpos pos:Pos} {e:Expr} {es:List Expr} {t:TA} {b0:Stmt} {suite:List Stmt} {ts:TS} {ie:Nat}
  (hst:X.stack=X.env::X.outer) (hfr:X.env.frame=some X.env.locals) (F:i_ X.prog X.w X.K X.mg X.base (CX2 X.prog X.w) k fad fd ps sp) (hr:jC k X.A) (hg:Gl X f) (hm:X.mg f=some (.ref fad)) (hk:keepIn X.K (.ref fad)=true) (hb:Binds X.K fd ps [])
  (ha:PA X.nox (e::es) t) (hgM:Gl X mx) (hmM:X.mg mx=some cM) (hN:X.N.Nodup) (hin:X.N[ie]?=some n) (hln:X.env.scope.names.lookup n=some .local)
  (hs:∀v,PSs (mrk X v).nox (b0::suite) ts)
  (hdb:(f==("__debug__" : Str))=false:=by decide) (hdM:(mx==("__debug__" : Str))=false:=by decide) (he:starEach (e::es) X.env=(false,eval e X.env)::starEach es X.env:=by rfl) (hpl:(backTo cpos (starEach es X.env)).any (·.1)=false:=by rfl)
  (hsw:swapsWith (.Call (.Name f p) (e::es) [] cpos) none xpos.line X.env=pure false:=by rfl) :
  PS X (.Try [.Expr (.Call (.Name f p) (e::es) [] cpos) xpos] [.ExceptHandler (some (.Name mx mp)) (some n) (b0::suite) hpos] [] [] pos) (aEd X.K cM t sp ie ts):=by
 intro pins s σ H D I h;refine wpAny_Try_except (wpAny_execs_cons (wpAny_Expr_any ?_ I.quiet hsw));refine wpAny_Call_Name_kw (nC I hg hm ?_ hdb);refine callWith_K (h₀:=X.base) I.ok.mod.kin hk (wpAny_mono (ha cpos pins s σ H _ (I.wish _) h) (fun us s1 ⟨vs,H1,I1,r,q⟩=>⟨I1.kIn,?_⟩) fun _ _ z=>False.elim z) he hpl;have I1:Inv X pins σ H1 s1:=I1.j4;have hl:(us++[]).length=ps.length:=by rw [List.append_nil,<-r.length];exact F.len _ _ _ _ q
 have hb':=hb s1 us I1.kIn hl;rw [List.append_nil] at hb';refine wpAny_call (codeAny_mono (F.run X.A X.stack s1 H1 ⟨us,[]⟩ us vs _ _ hr I1.env0 hb' r q) fun r s' hq=>?_);cases r with
 | ok fl=>
  cases fl with
  | ret u=>obtain ⟨_,_,_,_,_,_,_,z⟩:=hq;exact z.elim
  | next=>exact False.elim hq
  | brk=>exact False.elim hq
  | cont=>exact False.elim hq
 | error e=>
  obtain ⟨a,C',dd,H2,B,rfl,os',bare',fly,clo,hn,hgone,C,eC,hx,hE⟩:=hq;cases eC;rw [hst] at fly;refine J8 (by rw [I.ok.frames,hst]) hfr fly fun h4 held4 sm4=>?_
  refine lK (s:={s' with heap:=h4}) held4 fun h5 fly5 sm5=>?_
  have up5:s'.heap.UpToSlots h5:=Heap.UpToSlots.trans sm4 sm5;have I5:Inv X pins σ H2 {s' with heap:=h5}:=by
   obtain ⟨un,hok⟩:=clo h5 fly5.1 up5;exact I1.call' (ch:=[]) os' un hok bare' (fun b z=>absurd z (by simp))
  refine wpAny_handleBy_cons (codeAny_handlers_test ?_) (by intro q;cases q);refine nC (X:=mrk X (.ref a)) (JN I5 _) hgM hmM ?_ hdM;have LT:Looks (model X.prog X.w) h5 (typeOf (.ref a)) (.ref C'):=by
   obtain ⟨ob,hob,hc,_⟩:=fly5.there;rw [<-hc];exact (Looks.ld hob).andThen .now
  refine (exm_one I5.kIn LT hx).here ?_;refine codeAny_handlers_suite_as ?_;refine lK (s:={s' with heap:=h5}) fly5 fun h6 fly6 sm6=>?_
  obtain ⟨un6,hok6⟩:=clo h6 fly6.1 (Heap.UpToSlots.trans up5 sm6);have I6:Inv X pins σ (upd H2 a (.ext (XO a C' dd))) {s' with heap:=h6}:=
   I1.call' (ch:=[]) os' (aB5 un6 hgone hn) (XF hok6 hn (aEa fly6.there)) bare' (fun b z=>absurd z (by simp))
  refine rW (X:=X) (v:=.ref a) I6 hN hin (.inl hln) rfl (fun s7 I7 _=>?_) (.inr hln);refine wpAny_mono (hs (.ref a) pins s7 _ _ _ ((JN I7 _).wish _) (hE a hn)) (fun fl s8 q8=>?_) fun _ _ z=>False.elim z
  cases fl with
  | ret u=>obtain ⟨_,_,_,_,_,z⟩:=q8;exact z.elim
  | brk=>obtain ⟨_,_,_,z⟩:=q8;exact z.elim
  | cont=>obtain ⟨_,_,_,z⟩:=q8;exact z.elim
  | next=>
   obtain ⟨σ8,H8,I8,q⟩:=q8;have I8:Inv X pins σ8 H8 s8:=JP I.ok I8.j4;obtain ⟨m,hm8,hl8⟩:=id I8.loc;refine wpAny_nameGoes_keeps hln hm8 (by rw [I.ok.kind];rfl) fun h9 v hn9 sb9=>?_
   exact ⟨_,H8,QM I8 hN hin hm8 hl8 hn9 sb9,q⟩
variable [KFrag]
theorem xZ {own:Nat->Bool} {σ:L2.St} {i:Nat} (ho:own i=false) (a:Addr):Own own (σ.set i none) a↔Own own σ a:=by
 constructor
 ·rintro ⟨j,hj,e⟩;have:i≠j:=fun z=>by subst z;rw [ho] at hj;cases hj
  rw [List.getElem?_set_ne this] at e;exact ⟨j,hj,e⟩
 ·rintro ⟨j,hj,e⟩;have:i≠j:=fun z=>by subst z;rw [ho] at hj;cases hj
  exact ⟨j,hj,by rw [List.getElem?_set_ne this];exact e⟩
theorem ES.drop {own:Nat->Bool} {H:Hp} {σ:L2.St} {ρ:List D} {i:Nat} (ho:own i=false) (es:ES own H σ ρ):ES own H (σ.set i none) (ρ.set i .uD):=by
 refine ⟨by simp [es.len],fun j hj=>?_,fun j v hj hv=>?_⟩
 ·rw [dM] at hj ⊢;by_cases h:i=j/\i<ρ.length
  ·rw [if_pos h] at hj;exact absurd rfl hj
  ·rw [if_neg h] at hj ⊢;obtain ⟨v,h1,h2⟩:=es.at_ j hj;have ne:i≠j:=fun z=>by
    subst z;have:i<σ.length:=(List.getElem?_eq_some_iff.mp h1).1;exact h ⟨rfl,by rw [<-es.len];exact this⟩
   exact ⟨v,by rw [List.getElem?_set_ne ne];exact h1,fun o=>(h2 o).mono fun a n z=>n ((xZ ho a).mp z)⟩
 ·have ne:i≠j:=fun z=>by subst z;rw [ho] at hj;cases hj
  rw [List.getElem?_set_ne ne] at hv;obtain ⟨a,o,h1,h2,h3,h4,h5,h6⟩:=es.own j v hj hv;have e:(ρ.set i .uD).getD j .uD=ρ.getD j .uD:=by rw [dM,if_neg (fun z=>ne z.1)]
  refine ⟨a,o,h1,by rw [e];exact h2,by rw [e];exact h3,h4,h5,fun l hl hs=>h6 l hl ?_⟩;have:i≠l:=fun z=>by subst z;rw [ho] at hl;cases hl
  rwa [List.getElem?_set_ne this] at hs
section
variable {own:Nat->Bool} {X:Cx} {cM:Value} {k n:Nat} {f mx nm cn:Str} {p cpos xpos mp hpos pos tp ep ap:Pos} {e:Expr} {es:List Expr} {v:List D->Res D} {fa:FA} {ra:Bool} {cs:List Str} {ic ie k':Nat}
theorem aBm (hK:KFrag.K=X.K) (hst:X.stack=X.env::X.outer) (hfr:X.env.frame=some X.env.locals) (R:XX X.prog X.w X.K X.mg X.base k f n v) (hr:jC k' X.A) (hkk:k<=k') (hg:Gl X f) (ha:PA X.nox (e::es) (gA fa ra)) (hgM:Gl X mx) (hmM:X.mg mx=some cM)
  (hcs:∀c,cs.contains c=true->∃C,nsIn X.K mainGlobals c=some (some (.ref C))/\exmOne X.K (.ref C) cM=some true)
  (hN:X.N.Nodup) (hin:X.N[ie]?=some nm) (hln:X.env.scope.names.lookup nm=some .local) (hic:X.N[ic]?=some cn) (hlc:Loc X.env.scope cn) (hfc:X.fn cn=true\/X.env.scope.names.lookup cn=some .local) (oc:own ic=false) (oe:own ie=false) (hne:ie≠ic)
  (hdb:(f==("__debug__" : Str))=false:=by decide) (hdM:(mx==("__debug__" : Str))=false:=by decide) (he:starEach (e::es) X.env=(false,eval e X.env)::starEach es X.env:=by rfl) (hpl:(backTo cpos (starEach es X.env)).any (·.1)=false:=by rfl)
  (hsw:swapsWith (.Call (.Name f p) (e::es) [] cpos) none xpos.line X.env=pure false:=by rfl) (hs2:swapsWith (.Name nm ep) (some (.Name cn tp)) ap.line X.env=pure false:=by rfl) (hd1:(nm==("__debug__" : Str))=false:=by decide) (hd2:(nm==("__classdict__" : Str))=false:=by decide) :
  PS X (.Try [.Expr (.Call (.Name f p) (e::es) [] cpos) xpos] [.ExceptHandler (some (.Name mx mp)) (some nm) [.Assign [.Name cn tp] (.Name nm ep) ap] hpos] [] [] pos) (tS own (aEc v n fa cs ic ie)):=by
 obtain ⟨fm,fdm,ps,F,hm,hk,hb⟩:=R;refine PS.imp (X3 hst hfr F (hr.mono hkk) hg hm hk hb ha hgM hmM hN hin hln (fun v=>cN (DW (X:=(mrk X v).nox) hN hic hlc (aN hin (.inl hln) hd1 hd2) hs2 hfc)) hdb hdM he hpl hsw) fun D σ H ⟨ρ,fl,es,h,q⟩=>?_
 obtain ⟨ds,h1,h⟩:=bG h;refine ⟨ρ,ds,es.er,h1,fun vs H1 sm rs _=>?_⟩;split at h
 ·rename_i c c' fs hv;split at h
  ·rename_i hc;rw [Bool.and_eq_true,Bool.and_eq_true] at hc;have ec:=beq_iff_eq.mp hc.1.1;subst ec;cases h;unfold f9 at hv;split at hv
   ·rename_i hl;obtain ⟨C,hn,hx⟩:=hcs _ hc.1.2;refine ⟨ds,of_decide_eq_true hl,rs,?_⟩;rw [hv];refine ⟨fs,C,rfl,by rw [hK];exact hn,fun H2 dd s2 xd=>⟨C,rfl,hx,fun a ha=>?_⟩⟩;have hl2:ie<σ.length:=by
     rw [es.len];exact of_decide_eq_true hc.2
    have rp:∀P,Rep P (upd H2 a (.ext (XO a C dd))) (.ref a) (.exc c' fs):=fun P=>.exc (C:=C) (dx:=dd) (by rw [hK];exact hn) aC (by
     cases dd with
     | none=>exact xd
     | some d=>
      have xd:H2 d=some (.ext (XD d fs)):=xd;show upd _ _ _ d=_;rw [aJ (fun z=>by rw [z,ha] at xd;cases xd)];exact xd)
    have sm3:bK H (upd H2 a (.ext (XO a C dd))):=sm.trans (s2.trans (QR ha));have es3:=(((es.same sm3).set oe (rp _)).set oc (rp _)).drop oe;refine ⟨.ref a,by rw [List.getElem?_set_self hl2],?_⟩;exact q _ _ (fun b o eb nb=>⟨sm3 b o eb,fun z=>nb ((jJ oe b).mp ((jJ oc b).mp ((xZ oe b).mp z)))⟩) es3
   ·cases hv
  ·cases h
 ·cases h
end
section
variable {X:Cx} {i:Nat} {y:Str} {p np tpos pos:Pos} {es:List Expr} {kk:Nat} {ce:Expr} {cs:List Addr} {tbl:List (Str×Bool)} {v:V} {u:Value}
end
end Mi
end
section
namespace Mi
open PySem L2 PySem.W PySem.SeqAt PySem.Spec PyProof.Rows
noncomputable def aEe (p:Str->Prop):List Str->Prop
 | []=>True
 | c::r=>p c/\aEe p r
theorem J9 {p:Str->Prop}:∀{t:List Str},aEe p t->∀c,t.contains c=true->p c
 | [],_,_,h=>by cases h
 | d::r,⟨h1,h2⟩,c,h=>by
  rw [List.contains_cons] at h;rcases (Bool.or_eq_true _ _).mp h with z|z
  ·rw [beq_iff_eq.mp z];exact h1
  ·exact J9 h2 c z
variable [KFrag]
section
variable {P:Program} {w:World} {K:PySem.W.Frag} {mg:Str->Option Value} {base:Heap} {N:List Str} {qual:Str} {scope:Scope} {fad:Addr} {cd:Value} {A:Around} {outer:List Env} {s:Shared} {H:Hp} {E:XK} {own:Nat->Bool} {pos p cpos:Pos} {x:Str} {e:Expr} {es:List Expr} {fa:FA} {r:Bool} {fl:List Str} {k k':Nat}
end
end Mi
end
section
namespace Mi
open PySem L2 PySem.W PySem.SeqAt PySem.Spec PyProof.Rows
section
variable {P:Program} {w:World} {K:PySem.W.Frag} {mg:Str->Option Value} {base:Heap} {N:List Str} {qual:Str} {scope:Scope} {f C:Addr} {cd:Value} {A:Around} {outer:List Env} {s:Shared} {H:Hp} {E:XK}
theorem J_ {pins:List (Addr×Obj)} {σ:L2.St} {H1:Hp} {s1:Shared} (I:Inv (wL (CX2 P w) P w K mg base N qual scope f cd A outer s H E) pins σ H1 s1) {h2:Heap} {e:Addr} {args:List Value} (hx:Heap.MadeExcOf s1.heap h2 e (.ref C) args) (hE:E (.ref C) none H1) :
  (wL (CX2 P w) P w K mg base N qual scope f cd A outer s H E).xe (.ref e) {s1 with heap:=h2}:=by
 let env:=envOfC qual scope s.heap.objs.size f cd
 have hfr:L2.frs (env::outer)=s.heap.objs.size::L2.frs outer:=by
  unfold L2.frs;rw [List.filterMap_cons];rfl
 have hin:∀v∈(env::outer),∀b,v.frame=some b->b∈L2.frs (env::outer):=fun v hv b hb=>List.mem_filterMap.mpr ⟨v,hv,hb⟩
 have stk:s1.heap.FunFrames base (env::outer):=I.stack;have sfree:∀b∈L2.frs (env::outer),H1 b=none:=I.uX;have u0:Un (L2.frs outer) [] H H1 s.heap s1.heap:=I.base;obtain ⟨t,ht,_,_⟩:=hx.there;have hn0:(PySem.W.hideAll s1.heap (L2.frs (env::outer))).get? e=none:=by
  cases q:(PySem.W.hideAll s1.heap (L2.frs (env::outer))).get? e with
  | none=>rfl
  | some o=>
   have e1:=PySem.W.of_hideAll _ q;rw [hx.new] at e1;cases e1
 show wpAny (model P w) (A.deeper env) (leaving env (.ref e)) (fun _ s''=>CX2 P w outer H s E (.ref e) s'') (fun e' s''=>CX2 P w outer H s E e' s'') {s1 with heap:=h2};refine Q3 (s:={s1 with heap:=h2}) (B:=PySem.W.hideAll s1.heap (L2.frs (env::outer))) (L:=s.heap.objs.size) I.ok.frames rfl ((PySem.W.funFrames_hide stk hin).of_keeps fun b o k _=>⟨o,hx.keeps b o k,rfl⟩) ht (fun b o q=>hx.keeps b o (PySem.W.of_hideAll _ q)) hn0 rfl rfl fun h' x1 x4=>?_
 have hgone:s.heap.get? e=none:=by
  cases q:s.heap.get? e with
  | none=>rfl
  | some o=>
   obtain ⟨o',e1⟩:=u0.there e o q (by simp);rw [hx.new] at e1;cases e1
 have huntr:H1 e=none:=by
  cases q:H1 e with
  | none=>rfl
  | some u=>
   obtain ⟨o,e1⟩:=vQ (I.hok e u q);rw [hx.new] at e1;cases e1
 refine ⟨e,C,none,H1,_,rfl,I.os,I.bare,x1,fun h6 st up=>?_,huntr,hgone,hE⟩;have k:∀b o,s1.heap.get? b=some o->b∉L2.frs (env::outer)->h6.get? b=some o:=fun b o eb hb=>st b o (PySem.W.hideAll_get _ eb hb)
 have up6:s1.heap.UpToSlots h6:=((Heap.UpToSlots.of_keeps hx.keeps).trans x4).trans up;have nL:∀b o,s.heap.get? b=some o->b∉L2.frs outer->b∉L2.frs (env::outer):=fun b o eb hb z=>by
  rw [hfr] at z;rcases List.mem_cons.mp z with z|z
  ·exact absurd (Heap.lt_size eb) (by rw [z];exact Nat.lt_irrefl _)
  ·exact hb z
 have slot:∀b o,s1.heap.get? b=some o->b∈L2.frs outer->∃sl,h6.get? b=some {o with slots:=sl}:=fun b o eb hb=>by
  obtain ⟨_,o',ho',hd⟩:=stk.mem (show b∈L2.frs (env::outer) by rw [hfr];exact List.mem_cons_of_mem _ hb);rw [eb] at ho';cases ho';exact up6 b o eb hd
 refine ⟨⟨fun b o eb hn hb hx'=>k b o (u0.keep b o eb hn hb hx') (nL b o eb hb),fun b o eb hn hb hx'=>?_,fun b o eb hn hx'=>u0.free b o eb hn hx',fun b o eb hx'=>?_,u0.tups,u0.frzs,u0.tbls⟩,fun b u eb=>?_⟩
 ·obtain ⟨sl,e1⟩:=u0.slot b o eb hn hb hx';obtain ⟨sl',e2⟩:=slot b _ e1 hb;exact ⟨sl',e2⟩
 ·obtain ⟨o',e1⟩:=u0.there b o eb hx';by_cases hb:b∈L2.frs outer
  ·obtain ⟨sl,e2⟩:=slot b o' e1 hb;exact ⟨_,e2⟩
  ·exact ⟨o',k b o' e1 (nL b o eb hb)⟩
 ·refine (I.hok b u eb).stay (fun c v hc q=>k c v q fun z=>?_) (fun _ q=>q) fun _ _ q=>q
  have:=sfree c z;rcases hc with hc|hc
  ·rw [hc,eb] at this;cases this
  ·rw [hc] at this;cases this
end
variable [KFrag]
section
variable {P:Program} {w:World} {K:PySem.W.Frag} {mg:Str->Option Value} {base:Heap} {N:List Str} {qual:Str} {scope:Scope} {fad C:Addr} {cd:Value} {A:Around} {outer:List Env} {s:Shared} {H:Hp} {E:XK} {own:Nat->Bool} {pos:Pos}
end
section
variable {X:Cx} {E:XK} {e a i:Expr} {es:List Expr} {fe fi:FE} {f:FA} {r re:Bool} {pos:Pos}
end
section
variable {P:Program} {w:World} {K:PySem.W.Frag} {mg:Str->Option Value} {base:Heap} {N:List Str} {qual:Str} {scope:Scope} {fad C:Addr} {cd:Value} {A:Around} {outer:List Env} {s:Shared} {H:Hp} {E:XK} {own:Nat->Bool} {pos:Pos}
end
end Mi
end
section
namespace Wl
open PySem PySem.Spec
abbrev M_ (K:Type):=List K×Addr×Value
noncomputable def oR {K:Type} [DecidableEq K] (xs:List (M_ K)) (ps:List (M_ K)):List (M_ K):=ps.foldl (fun acc p=>storedH acc p.1 p.2.1 p.2.2) xs
noncomputable def PrH {prog:Program} {w:World} {K:Type} [DecidableEq K] (knd:KeyKind prog w K) (items:Array Value) (ps:List (M_ K)) (h:Heap):Prop:=items.size=ps.length/\∀(i:Nat) (kv:M_ K),ps[i]?=some kv->IsTupleKey knd h kv.1 kv.2.1/\∃(p:Addr) (o:Obj) (n:Nat),items[i]?=some (Value.ref p)/\h.get? p=some o/\o.cls=.type "tuple"/\o.data=.seq #[.ref kv.2.1,kv.2.2] n
theorem q_ {prog:Program} {w:World} {K:Type} [DecidableEq K] {knd:KeyKind prog w K} {ks:List K} {a:Addr} {h h':Heap} (x:IsTupleKey knd h ks a) (k:∀c o,o.cls=.type "tuple"->h.get? c=some o->h'.get? c=some o):IsTupleKey knd h' ks a:=
 let ⟨o,its,n,h1,h2,h3⟩:=x;⟨o,its,n,k a o h2 h1,h2,h3⟩
theorem PrH.keep {prog:Program} {w:World} {K:Type} [DecidableEq K] {knd:KeyKind prog w K} {items:Array Value} {ps:List (M_ K)} {h h':Heap} (x:PrH knd items ps h) (k:∀c o,o.cls=.type "tuple"->h.get? c=some o->h'.get? c=some o):PrH knd items ps h':=
 ⟨x.1,fun i kv e=>let ⟨z,p,o,n,h1,h2,h3,h4⟩:=x.2 i kv e;⟨q_ z k,p,o,n,h1,k p o h3 h2,h3,h4⟩⟩
theorem m9 {prog:Program} {w:World} {K:Type} [DecidableEq K] {knd:KeyKind prog w K} {d:Addr} {xs:List (M_ K)} {h h':Heap} (x:h.DictOfH (tupleKind knd) d xs) (hd:∀o,h.get? d=some o->h'.get? d=some o) (k:∀c o,o.cls=.type "tuple"->h.get? c=some o->h'.get? c=some o):h'.DictOfH (tupleKind knd) d xs:=
 let ⟨o,es,ep,h1,h2,h3,h4,h5,h6⟩:=x;⟨o,es,ep,hd o h1,h2,h3,h4,fun y hy=>q_ (h5 y hy) k,h6⟩
section
variable {prog:Program} {w:World} {K:Type} [DecidableEq K] {knd:KeyKind prog w K} {A:Around} {R:Except Value Flow->Shared->Prop} {it l d:Addr} {items:Array Value} {ps:List (M_ K)} {nl:Nat}
theorem aEf (hh:A.handled=none) (hu:A.units+1<cLine) (hdi:d≠it) (hdl:d≠l) (hil:l≠it) :
  ∀(m k:Nat) (s:Shared) (kvs:List (M_ K)),k+m=items.size->kvs.length+m<=sizeLine->s.heap.IsListIter it l k->s.heap.get? l=some (liO items nl)->PrH knd items ps s.heap->s.heap.DictOfH (tupleKind knd) d kvs->
  (∀h' tk,h'.DictOfH (tupleKind knd) d (oR kvs (ps.drop k))->(∀c o,c≠d->c≠it->s.heap.get? c=some o->h'.get? c=some o)->R (.ok (.ret .none)) {s with heap:=h',toks:=tk})->
  codeAny (model prog w) A (.builtin "dict.update.loop" ⟨[.ref d,.ref it,rawInt k,.none],[]⟩) R s:=by
 intro m;induction m with
 | zero=>
  intro k s kvs hkm hl Z el Pp hd q;refine codeAny_builtin Wz.gR ?_;rw [Around.under_plainId (show plainId "dict.update.loop" = true by decide +kernel) _];refine wpAny_bind (m:=pyNext (.ref it)) (wpAny_pyNext_list_end hh Z ⟨_,el,rfl,_,rfl⟩ (Array.getElem?_eq_none (by lia)) fun h' kp=>?_);refine wpAny_bind (m:=Builtin.Dict.addKeywords d []) ?_;unfold Builtin.Dict.addKeywords;rw [List.forIn_nil];refine wpAny_bind (wpAny_pure (wpAny_pure (wpAny_pure ?_)));have e:ps.drop k=[]:=List.drop_eq_nil_of_le (by have:=Pp.1;lia);rw [e] at q;have ni:∀c (oc:Obj),oc.cls=.type "tuple"->s.heap.get? c=some oc->c≠it:=fun c oc hoc e=>let ⟨oi,ei,ci,_⟩:=Z;pR e hoc ei ci (by decide)
  exact q _ s.toks (m9 hd (fun o ho=>kp d o hdi ho) fun c o hc e=>kp c o (ni c o hc e) e) fun c o _ c1 e=>kp c o c1 e
 | succ m ih=>
  intro k s kvs hkm hl Z el Pp hd q;have hlp:k<ps.length:=by have:=Pp.1;lia
  obtain ⟨hik,p,o,n,hi,hp,hpc,hpd⟩:=Pp.2 k ps[k] (List.getElem?_eq_getElem hlp);have ni:∀c (oc:Obj),oc.cls=.type "tuple"->s.heap.get? c=some oc->c≠it:=fun c oc hoc e=>let ⟨oi,ei,ci,_⟩:=Z;pR e hoc ei ci (by decide)
  have hpi:p≠it:=ni p o hpc hp;refine codeAny_builtin Wz.gR ?_;rw [Around.under_plainId (show plainId "dict.update.loop" = true by decide +kernel) _];refine wpAny_bind (m:=pyNext (.ref it)) (wpAny_pyNext_list_item Z ⟨_,el,rfl,_,rfl⟩ hi fun h' Z' kp=>?_);have hp':h'.get? p=some o:=(kp.2 p hpi).trans hp;refine wpAny_bind (wpAny_holding (wpAny_bind (wpAny_tryCatch ?_)));refine wpAny_bind (wpAny_typeOf (T := "tuple") ⟨_,hp',hpc⟩ ?_);rw [if_pos (by decide)];refine wpAny_bind (wpAny_seqItems hp' hpd (wpAny_pure ?_));show wpAny _ _ (holding [.ref ps[k].2.1,ps[k].2.2] (dictSet d (.ref ps[k].2.1) ps[k].2.2)) _ _ _;have kt:∀c (oc:Obj),oc.cls=.type "tuple"->s.heap.get? c=some oc->h'.get? c=some oc:=fun c oc hoc e=>(kp.2 c (ni c oc hoc e)).trans e
  have hd':h'.DictOfH (tupleKind knd) d kvs:=m9 hd (fun o ho=>(kp.2 d hdi).trans ho) kt;refine wpAny_holding (wpAny_dictSet_heap (hsz:=by lia) (knd:=tupleKind knd) (tupleKind_room_in1 hu) (q_ hik kt) hd' fun h2 hd2' sb=>?_);refine wpAny_pure ⟨Code.quiet_builtin _ (by decide +kernel),?_⟩;have ek:(rawInt (k+1):Value)=rawInt ((k+1:Nat):Int):=rfl;rw [ek];have hdrop:ps.drop k=ps[k]::ps.drop (k+1):=List.drop_eq_getElem_cons hlp;have ls:(storedH kvs ps[k].1 ps[k].2.1 ps[k].2.2).length<=kvs.length+1:=by
   unfold storedH;split
   ·rw [List.length_map];lia
   ·rw [List.length_append];exact Nat.le_refl _
  have keep:∀c o,c≠d->c≠it->s.heap.get? c=some o->h2.get? c=some o:=fun c o c0 c1 e=>(sb.2 c c0).trans ((kp.2 c c1).trans e)
  have hdc:∀c (oc:Obj),oc.cls=.type "tuple"->s.heap.get? c=some oc->c≠d/\c≠it:=fun c oc hoc e=>⟨let ⟨o1,_,_,e1,c1,_⟩:=hd;pR e hoc e1 c1.1 (by decide),ni c oc hoc e⟩
  refine ih (k+1) _ (storedH kvs ps[k].1 ps[k].2.1 ps[k].2.2) (by lia) (by lia) (let ⟨oi,ei,r⟩:=Z';⟨oi,(sb.2 it (Ne.symm hdi)).trans ei,r⟩) (keep l _ (Ne.symm hdl) hil el) (Pp.keep fun c oc hoc e=>keep c oc (hdc c oc hoc e).1 (hdc c oc hoc e).2 e) hd2' fun h3 tk hd3 kp3=>?_
  exact q h3 tk (by rw [hdrop];exact hd3) fun c o c0 c1 e=>kp3 c o c0 c1 (keep c o c0 c1 e)
end
section
variable {prog:Program} {w:World} {K:Type} [DecidableEq K] {knd:KeyKind prog w K} {A:Around} {E:Value->Shared->Prop} {hp:Heap} {g:Array GenState} {dr:Drawn} {tk:Nat} {os:OsState} {l:Addr} {items:Array Value} {ps:List (M_ K)} {nl:Nat}
theorem BX {Q:Value->Shared->Prop} (hh:A.handled=none) (hu:A.units+2<cLine) (el:hp.get? l=some (liO items nl)) (Pp:PrH knd items ps hp) (hz:items.size<=1000000)
  (q:∀h' tk',h'.DictOfH (tupleKind knd) hp.objs.size (oR [] ps)->(∀c o,hp.get? c=some o->h'.get? c=some o)->Q (.ref hp.objs.size) ⟨h',g,dr,tk',os⟩) :
  wpAny (model prog w) A (call (.type "dict") [.ref l]) Q E ⟨hp,g,dr,tk,os⟩:=by
 have hnew:(hp.push {cls:=.type "dict",data:=.dict #[]}).DictOfH (tupleKind knd) hp.objs.size []:=Heap.DictOfH.new hp;have up:∀c o,hp.get? c=some o->(hp.push {cls:=.type "dict",data:=.dict #[]}).get? c=some o:=fun c o e=>Heap.get?_push_of_some _ e
 have lt:∀{c o},hp.get? c=some o->hp.objs.size≠c:=fun e=>Nat.ne_of_gt (Heap.lt_size e)
 refine callType_codes (Q₁:=fun v s₁=>v=.ref hp.objs.size/\s₁=⟨hp.push {cls:=.type "dict",data:=.dict #[]},g,dr,tk,os⟩) F.kt_called_dict (F.kt_typeCall_dict_1 _) F.entry_dict_init (kt_code_dict_new _ ⟨rfl,rfl⟩) fun v s₁ hv=>?_
 obtain ⟨rfl,rfl⟩:=hv;have ty:(⟨hp.push {cls:=.type "dict",data:=.dict #[]},g,dr,tk,os⟩:Shared).TypeIs (.ref hp.objs.size) "dict":=hnew.typeIs;have ez:=up _ _ el;have tz:(⟨hp.push {cls:=.type "dict",data:=.dict #[]},g,dr,tk,os⟩:Shared).TypeIs (.ref l) "list":=⟨_,ez,rfl⟩
 refine ⟨ty,F.args_dict_init_2 _ _,wpAny_bind (m:=Builtin.Dict.selfAndRest "__init__" _) (wpAny_bind (wpAny_notOrdered_dict ty (wpAny_pure ?_)))⟩;refine wpAny_bind (m:=typeOf (.ref l)) (wpAny_typeOf tz ?_);rw [if_pos (by decide)];refine wpAny_bind (lacks ez hh fun h' tk' kp=>?_);rw [if_pos (show (none:Option Value).isNone=true from rfl)];refine wpAny_bind (wpAny_rule (wpAny_bind (wpAny_pyIter_list ⟨_,kp _ _ ez,rfl,_,rfl⟩ (wpAny_pure ⟨Code.quiet_builtin _ (by decide +kernel),?_⟩))));have hd':h'.DictOfH (tupleKind knd) hp.objs.size []:=m9 hnew (fun o ho=>kp _ _ ho) fun c o _ e=>kp c o e
 have ltd:hp.objs.size<h'.objs.size:=let ⟨o,es,ep,ho,r⟩:=hd';Heap.lt_size ho
 have ltl:l<h'.objs.size:=Heap.lt_size (kp _ _ ez);refine aEf (A:=A.in1) (ps:=ps) (it:=h'.objs.size) (l:=l) (items:=items) (nl:=nl) (show A.in1.handled=none from hh) (show A.units+1+1<cLine from hu) (Nat.ne_of_lt ltd) (lt el) (Nat.ne_of_lt ltl) items.size 0 _ [] (by lia) (by rw [List.length_nil,sizeLine_eq];lia) ⟨_,Heap.get?_push_size _ rfl,rfl,rfl⟩ (Heap.get?_push_of_some _ (kp _ _ ez)) (Pp.keep fun c o _ e=>Heap.get?_push_of_some _ (kp c o (up c o e))) (m9 hd' (fun o ho=>Heap.get?_push_of_some _ ho) fun c o _ e=>Heap.get?_push_of_some _ e) fun h2 tk2 hd2 kp2=>?_
 exact ⟨rfl,q h2 tk2 hd2 fun c o e=>kp2 c o (fun x=>lt e x.symm) (Nat.ne_of_lt (Heap.lt_size (kp c o (up c o e)))) (Heap.get?_push_of_some _ (kp c o (up c o e)))⟩
end
end Wl
end
section
namespace Mi
open PySem L2 PySem.SeqAt PySem.Spec PyProof.Rows
noncomputable def oU:List D->Option (List (D×D))
 | []=>some []
 | .tup [.tup ks,v]::r=>if ks.all fH&&v.pure then (oU r).map ((.tup ks,v)::·) else none
 | _::_=>none
noncomputable def rA:D->Res D
 | .lst xs=>match oU xs with
  | some ps=>if decide (xs.length<=1000) then .ok (.dct (gU [] ps)) else .bad
  | none=>.bad
 | _=>.bad
variable [KFrag]
theorem tX {X:Cx} {pins:List (Addr×Obj)} {σ:L2.St} {H:Hp} {s:Shared} (I:Inv X pins σ H s):∀{xs:List D} {vs:List V} {us:List Value} {ps:List (D×D)},aW All H vs xs->Vals vs us->oU xs=some ps->
  ∃(kvs:List (List Key×V)) (prs:List (List Key×Addr×Value)),KT H kvs prs/\iY All H kvs ps/\D.aG (ps.map (·.2))=true/\us.length=prs.length/\∀(i:Nat) (kv:List Key×Addr×Value),prs[i]?=some kv->IsTupleKey (bL X.prog X.w) s.heap kv.1 kv.2.1/\∃(p:Addr) (o:Obj) (n:Nat),us[i]?=some (Value.ref p)/\s.heap.get? p=some o/\o.cls=.type "tuple"/\o.data=.seq #[.ref kv.2.1,kv.2.2] n
 | [],_,_,_,.nil,.nil,h=>by
  cases h;exact ⟨[],[],.nil,.nil,rfl,rfl,fun i kv h=>by simp at h⟩
 | d::xs,_,_,ps,.cons r t,.cons rv tv,h=>by
  unfold oU at h;split at h
  ·rename_i h0;cases h0
  ·rename_i k v r' h0;injection h0 with h0 h1
   subst h0 h1;split at h
   ·rename_i hf;rw [Bool.and_eq_true] at hf;obtain ⟨ps',hp,rfl⟩:=Option.map_eq_some_iff.mp h;obtain ⟨kvs,prs,g1,g2,g3,g4,g5⟩:=tX I t tv hp;obtain ⟨a,ws,rfl,ea,rr⟩:=r.dC;cases rv;obtain ⟨its,rvs,o,ho,hc,n,hd⟩:=fY I ea;cases rr with
    | cons rk rr=>
     cases rr with
     | cons rw_ rr=>
      cases rr;cases rvs with
      | cons q1 rvs=>
       cases rvs with
       | cons q2 rvs=>
        cases rvs;rename_i wk ww uk uw;rcases fK (k:=.tup k) hf.1 rk with ⟨q,_,e⟩|⟨b,ks,rfl,eb,e⟩
        ·cases q <;> cases e
        ·injection e with e
         subst e;cases q1;refine ⟨(ks,ww)::kvs,(ks,b,uw)::prs,.cons ⟨rfl,eb,q2⟩ g1,.cons rw_ g2,by rw [List.map_cons,D.aG,hf.2,g3];rfl,by rw [List.length_cons,List.length_cons,g4],fun i kv hi=>?_⟩;cases i with
         | zero=>
          simp at hi;subst hi;exact ⟨sX I.hok eb,a,o,n,rfl,ho,hc,hd⟩
         | succ i=>
          obtain ⟨z0,p,o',n',z1,z2⟩:=g5 i kv (by simpa using hi);exact ⟨z0,p,o',n',by simpa using z1,z2⟩
   ·cases h
  ·cases h
noncomputable def iU (kvs more:List (List Key×V)):List (List Key×V):=more.foldl (fun acc p=>putK acc p.1 p.2) kvs
theorem pW {P:Addr->Prop} {H:Hp}:∀{more:List (List Key×V)} {ds:List (D×D)} {kvs:List (List Key×V)} {es:List (D×D)},iY P H more ds->iY P H kvs es->(kvs.map (·.1)).Nodup->iY P H (iU kvs more) (gU es ds)/\((iU kvs more).map (·.1)).Nodup
 | _,_,_,_,.nil,r,n=>⟨r,n⟩
 | _,_,_,_,.cons (k:=k) rv t,r,n=>by have:=pW t (m7 (k:=k) rv r n) (fO n);exact this
theorem x_ {H:Hp}:∀{more:List (List Key×V)} {ms:List (List Key×Addr×Value)} {kvs:List (List Key×V)} {xs:List (List Key×Addr×Value)},KT H more ms->KT H kvs xs->KT H (iU kvs more) (Wl.oR xs ms)
 | _,_,_,_,.nil,r=>r
 | _,_,_,_,.cons (a:=p) (b:=q) h t,r=>by
  have h1:=h.1;have:=x_ t (r.put p.1 (b:=q.2.1) (y:=p.2) (u:=q.2.2) h.2.1 h.2.2);show KT H (iU (putK _ p.1 p.2) _) (Wl.oR (storedH _ q.1 q.2.1 q.2.2) _);rw [<-h1];exact this
theorem pX:∀(more kvs:List (List Key×V)),(iU kvs more).length<=kvs.length+more.length
 | [],kvs=>Nat.le_refl _
 | p::r,kvs=>by
  have h1:=pX r (putK kvs p.1 p.2);have h2:=gY kvs p.1 p.2;rw [List.length_cons];show (iU (putK kvs p.1 p.2) r).length<=_;lia
section
variable {X:Cx} {e:Expr} {fe:FE} {re:Bool} {p pos:Pos}
theorem BZ (hc:X.calm=true) (hu:X.A.units+20<cLine) (hg:Gl X "dict") (hm:X.mg "dict" = none) (he:PE X e (gE fe re)) (hs:starEach [e] X.env=[(false,eval e X.env)]:=by rfl) :
  PE X (.Call (.Name "dict" p) [e] [] pos) (gE (b1 rA fe) true):=by
 intro pins s σ H Q I ⟨ρ,d,E,h,q⟩;obtain ⟨d0,h1,h2⟩:=bG h;unfold rA at h2;split at h2
 rotate_left
 ·cases h2
 rename_i xs;split at h2
 rotate_left
 ·cases h2
 rename_i ps hps;split at h2
 rotate_left
 ·cases h2
 rename_i hb;cases h2;have hb:=of_decide_eq_true hb;refine wpAny_Call_Name_kw (jA I hg hm qX ?_);refine PyProof.Rows.callWith_type1 ?_ hs rfl;rw [hs];show wpAny _ _ (spliced [(false,eval e X.env)]) _ _ s;refine Calls.spliced_cons (thn (he pins s σ H (fun v H1=>bK H H1/\Rep All H1 v (.lst xs)) I ⟨ρ,_,E,h1,fun v H1 s1 r1 _=>⟨s1,r1⟩⟩) fun u s1 ⟨x,H1,I1,ru,sm,rx⟩=>?_);obtain ⟨a,vs,rfl,ea,rr⟩:∃a vs,x=.ref a/\H1 a=some (.lst vs)/\aW All H1 vs xs:=by
  cases rx with
  | lst e p r=>exact ⟨_,_,rfl,e,r⟩
 cases ru;refine Calls.spliced_nil ?_;obtain ⟨hz,its,nl,rv,hl⟩:vs.length<=sizeLine/\∃(its:List Value) (n:Nat),Vals vs its/\s1.heap.get? a=some {cls:=.type "list",data:=.seq its.toArray n}:=I1.hok a _ ea;obtain ⟨kvs,prs,g1,g2,g3,g4,g5⟩:=tX I1 rr rv hps;have hlen:its.length<=1000:=by rw [<-rv.length,rr.length];exact hb
 obtain ⟨hp,g,dr,tk,os⟩:=s1;refine Wl.BX (knd:=bL X.prog X.w) (ps:=prs) (items:=its.toArray) (I1.ok.hd hc) (by lia) hl ⟨by rw [List.size_toArray];exact g4,fun i kv hi=>?_⟩ (by rw [List.size_toArray];lia) fun h' tk' hd kp=>?_
 ·obtain ⟨z0,p,o,n,z1,z2⟩:=g5 i kv hi;exact ⟨z0,p,o,n,by simpa using z1,z2⟩
 ·have hfr:H1 hp.objs.size=none:=I1.hok.fresh (Nat.le_refl _);have rel:KT H1 (iU [] kvs) (Wl.oR [] prs):=x_ g1 .nil;have hz2:(iU [] kvs).length<=sizeLine:=by
   have:=pX kvs [];have l1:kvs.length=prs.length:=Paired.length g1;rw [List.length_nil] at this;rw [sizeLine_eq];lia
  obtain ⟨rk,nd⟩:=pW (kvs:=[]) g2 iY.nil List.nodup_nil;have sp:bK H1 (upd H1 hp.objs.size (.dT (iU [] kvs))):=bK.upd hfr;have rk2:∀{P:Addr->Prop},iY P (upd H1 hp.objs.size (.dT (iU [] kvs))) (iU [] kvs) (gU [] ps):=fun {P}=>(rk.keep (.same sp) fun _ h=>h).bH (jL g3 rfl)
  obtain ⟨o,es,ep,k1,k2,k3,k4,_,k6⟩:=hd;refine ⟨.ref hp.objs.size,_,I1.laid (a:=hp.objs.size) (t':=tk') (o:=.dT (iU [] kvs)) kp (Nat.le_refl _) ⟨hz2,beq_eq_false_iff_ne.mpr ?_,_,rel.keeps fun b ys e=>sp _ _ e,o,es,ep,k1,k2,k3,k4,k6⟩,rfl,?_⟩
  ·exact Ne.symm (Nat.ne_of_lt I1.big)
  ·exact q _ _ (sm.trans sp) (.dT aC trivial rk2 nd) fun _=>.dT aC (sm.free hfr) rk2 nd
end
end Mi
end
section
namespace Mi
open PySem L2 PySem.SeqAt PySem.Spec PyProof.Rows
inductive Srx where
 | par (i:Nat)
 | exp (f:FE)
noncomputable def Srx.ev (ρ:List D):Srx->Res D
 | .par i=>d9 i ρ
 | .exp f=>f ρ
def okF (d:D):Bool:=d.pure||inner d
noncomputable def evS (ρ:List D):List (Str×Srx)->Res (List (Str×D))
 | []=>.ok []
 | (f,s)::r=>do
  let d <- s.ev ρ
  let ds <- evS ρ r
  if okF d then .ok ((f,d)::ds) else .bad
noncomputable def Q4 (c f:Str) (fa:FE):FE:=fun ρ=>do
 let d <- fa ρ
 match d with
 | .ins c' fs=>if decide (c'=c) then Res.ofOpt (fs.lookup f) else .bad
 | _=>.bad
noncomputable def aGc:HO->Bool
 | .tup _=>true
 | .frz _ _=>true
 | .ext _=>true
 | _=>false
variable [KFrag]
def pA (H H':Hp):Prop:=∀a o,H a=some o->aGc o=true->H' a=some o
mutual
theorem Rep.cX {P P':Addr->Prop} {H H':Hp} (k:pA H H'):∀{v:V} {d:D},Rep P H v d->d.pure=true->Rep P' H' v d
 | _,_,.non,_=>.non
 | _,_,.bl b,_=>.bl b
 | _,_,.int i,_=>.int i
 | _,_,.str x,_=>.str x
 | _,_,.tup e r,h=>.tup (k _ _ e rfl) (aW.cX k r (by rw [D.pure] at h;exact h))
 | _,_,.lst _ _ _,h=>by rw [D.pure] at h;cases h
 | _,_,.cel _ _ _,h=>by rw [D.pure] at h;cases h
 | _,_,.frz e r,h=>.frz (e.imp (fun ⟨o,e⟩=>⟨o,k _ _ e rfl⟩) id) (aW.cX k r (by rw [D.pure] at h;exact h))
 | _,_,.dK _ _ _ _,h=>by rw [D.pure] at h;cases h
 | _,_,.dT _ _ _ _,h=>by rw [D.pure] at h;cases h
 | _,_,.fdK _ _ _,h=>by rw [D.pure] at h;cases h
 | _,_,.fdT _ _ _,h=>by rw [D.pure] at h;cases h
 | _,_,.exc _ _ _,h=>by rw [D.pure] at h;cases h
 | _,_,.ins _ _ _,h=>by rw [D.pure] at h;cases h
theorem aW.cX {P P':Addr->Prop} {H H':Hp} (k:pA H H'):∀{v:List V} {d:List D},aW P H v d->D.aG d=true->aW P' H' v d
 | _,_,.nil,_=>.nil
 | _,_,.cons r t,h=>by
  rw [D.aG,Bool.and_eq_true] at h;exact .cons (Rep.cX k r h.1) (aW.cX k t h.2)
end
theorem dD.cX {P P':Addr->Prop} {H H':Hp} (k:pA H H'):∀{v:List (Key×V)} {d:List (D×D)},dD P H v d->D.aG (d.map (·.2))=true->dD P' H' v d
 | _,_,.nil,_=>.nil
 | _,_,.cons r t,h=>by
  rw [List.map_cons,D.aG,Bool.and_eq_true] at h;exact .cons (r.cX k h.1) (dD.cX k t h.2)
theorem iY.cX {P P':Addr->Prop} {H H':Hp} (k:pA H H'):∀{v:List (List Key×V)} {d:List (D×D)},iY P H v d->D.aG (d.map (·.2))=true->iY P' H' v d
 | _,_,.nil,_=>.nil
 | _,_,.cons r t,h=>by
  rw [List.map_cons,D.aG,Bool.and_eq_true] at h;exact .cons (r.cX k h.1) (iY.cX k t h.2)
def iZ (x:Addr) (H H':Hp):Prop:=∀a o,H a=some o->a≠x->H' a=some o
theorem iZ.upd {x:Addr} {H:Hp} {o:HO}:iZ x H (upd H x o):=fun a o' e n=>by rw [aJ n];exact e
theorem iZ.same {x:Addr} {H H':Hp} (s:bK H H'):iZ x H H':=fun a o e _=>s a o e
theorem iZ.use {x C dx:Addr} {H H':Hp} {fs:List (Str×V)} (b:iZ x H H') (hx:H x=some (.ins C dx fs)):pA H H':=fun a o e u=>b a o e fun z=>by
 subst z;rw [hx] at e;cases e;cases u
theorem Rep.okK {P P':Addr->Prop} {x C dx:Addr} {H H':Hp} {fs:List (Str×V)} (b:iZ x H H') (hx:H x=some (.ins C dx fs)) (m:∀a,P a->P' a) {v:V} {d:D} (r:Rep P H v d) (h:okF d=true):Rep P' H' v d:=by
 have k:=b.use hx;rcases (Bool.or_eq_true _ _).mp h with h|h
 ·exact r.cX k h
 ·cases r with
  | lst e p r=>exact .lst (b _ _ e (k_ e hx (by intro z;cases z))) (m _ p) (r.cX k h)
  | cel e p r=>exact .cel (b _ _ e (k_ e hx (by intro z;cases z))) (m _ p) (r.cX k h)
  | dK e p r n=>exact .dK (b _ _ e (k_ e hx (by intro z;cases z))) (m _ p) (r.cX k h) n
  | dT e p r n=>exact .dT (b _ _ e (k_ e hx (by intro z;cases z))) (m _ p) (r.cX k h) n
  | _=>cases h
theorem j8.okK {P P':Addr->Prop} {x C dx:Addr} {H H':Hp} {fs:List (Str×V)} (b:iZ x H H') (hx:H x=some (.ins C dx fs)) (m:∀a,P a->P' a):∀{v:List (Str×V)} {d:List (Str×D)},j8 P H v d->(d.all fun p=>okF p.2)=true->j8 P' H' v d
 | _,_,.nil,_=>.nil
 | _,_,.cons r t,h=>by
  rw [List.all_cons,Bool.and_eq_true] at h;exact .cons (r.okK b hx m h.1) (j8.okK b hx m t h.2)
theorem j8.snoc {P:Addr->Prop} {H:Hp} {f:Str} {w:V} {e:D} (r1:Rep P H w e):∀{v:List (Str×V)} {d:List (Str×D)},j8 P H v d->j8 P H (v++[(f,w)]) (d++[(f,e)])
 | _,_,.nil=>.cons r1 .nil
 | _,_,.cons r t=>.cons r (j8.snoc r1 t)
theorem j8.look {P:Addr->Prop} {H:Hp} {f:Str} {e:D}:∀{v:List (Str×V)} {d:List (Str×D)},j8 P H v d->d.lookup f=some e->∃w,v.lookup f=some w/\Rep P H w e
 | _,_,.nil,h=>by cases h
 | _,_,.cons (f:=g) r t,h=>by
  rw [List.lookup_cons] at h ⊢;split at h
  ·cases h;exact ⟨_,rfl,r⟩
  ·exact j8.look t h
theorem yC {f:Str} {y:V}:∀{vf:List (Str×V)},f∉vf.map (·.1)->mK f y vf=vf++[(f,y)]
 | [],_=>rfl
 | (g,x)::r,h=>by
  rw [List.map_cons,List.mem_cons,not_or] at h;show (if g=f then (g,y)::r else (g,x)::mK f y r)=_;rw [if_neg (fun z=>h.1 z.symm),yC h.2];rfl
theorem T9 {ρ:List D}:∀{l:List (Str×Srx)} {fs:List (Str×D)},evS ρ l=.ok fs->(fs.all fun p=>okF p.2)=true/\fs.map (·.1)=l.map (·.1)
 | [],_,h=>by cases h;exact ⟨rfl,rfl⟩
 | (f,s)::r,fs,h=>by
  obtain ⟨d,h1,h⟩:=bG h;obtain ⟨ds,h2,h⟩:=bG h;split at h
  ·rename_i hk;cases h;obtain ⟨i1,i2⟩:=T9 h2;exact ⟨by rw [List.all_cons,i1,hk];rfl,by rw [List.map_cons,List.map_cons,i2]⟩
  ·cases h
noncomputable def sT:Srx->TE
 | .par i=>dY i
 | .exp f=>gE f true
noncomputable def aD8 (K:PySem.W.Frag):List (Str×Srx)->TS
 | []=>VH
 | (f,s)::r=>o_ (ZZ K (dY 0) (sT s) f) (aD8 K r)
noncomputable def RFx (H1:Hp) (us:List V) (ds:List D) (H:Hp) (vf:List (Str×V)) (fs:List (Str×D)):Prop:=∀P:Addr->Prop,(∀a,H1 a=none->P a)->aW P H1 us ds->j8 P H vf fs
theorem T_ {K:PySem.W.Frag} {C x dx:Addr} {σ:L2.St} {D':Ends} {H1:Hp} {us:List V} {ds ρ:List D} (cls:Cls K C) (hx0:σ[0]?=some (some (.ref x))) (hn:H1 x=none) (hr:aW All H1 us ds) (hρ:∀i d,d9 i ρ=.ok d->∃v,σ[i]?=some (some v)/\∀P,aW P H1 us ds->Rep P H1 v d):∀(l:List (Str×Srx)) (H:Hp) (vf:List (Str×V)) (fs0 fs:List (Str×D)),H x=some (.ins C dx vf)->bK H1 H->RFx H1 us ds H vf fs0->(fs0.all fun p=>okF p.2)=true->evS ρ l=.ok fs->(vf.map (·.1)++l.map (·.1)).Nodup->(∀f∈l.map (·.1),bQ K C f)->vf.length+l.length<1000->
  (∀H' vf',bK H1 H'->H' x=some (.ins C dx vf')->RFx H1 us ds H' vf' (fs0++fs)->D'.nx σ H')->aD8 K l D' σ H
 | [],H,vf,fs0,fs,hx,sm,rf,ok0,he,nd,na,hl,q=>by
  cases he;exact q H vf sm hx (by rw [List.append_nil];exact rf)
 | (f,s)::r,H,vf,fs0,fs,hx,sm,rf,ok0,he,nd,na,hl,q=>by
  obtain ⟨d,h1,he⟩:=bG he;obtain ⟨ds',h2,he⟩:=bG he;split at he
  ·rename_i hk;cases he;have hlf:f∉vf.map (·.1):=fun z=>(List.nodup_append.mp nd).2.2 f z f (by simp) rfl
   have key:∀y H2,bK H H2->(∀P,(∀a,H1 a=none->P a)->aW P H1 us ds->Rep P H2 y d)->∃a C' dx' fs',dY 0 σ H2 fun x' H3=>x'=.ref a/\H3 a=some (.ins C' dx' fs')/\Cls K C'/\bQ K C' f/\fs'.length<1000/\aD8 K r D' σ (upd H3 a (.ins C' dx' (mK f y fs'))):=by
    intro y H2 s2 ry;have hx2:=s2 _ _ hx;refine ⟨x,C,dx,vf,_,hx0,rfl,hx2,cls,na f (by simp),by lia,?_⟩;have sm':bK H1 (upd H2 x (.ins C dx (mK f y vf))):=fun a o e=>by
     rw [aJ (fun z=>by subst z;rw [hn] at e;cases e)];exact s2 _ _ (sm _ _ e)
    rw [yC hlf] at sm' ⊢;refine T_ cls hx0 hn hr hρ r _ (vf++[(f,y)]) (fs0++[(f,d)]) ds' aC sm' (fun P hP hR=>?_) (by rw [List.all_append,ok0];simp [hk]) h2 ?_ (fun g hg=>na g (by simp at hg ⊢;exact .inr hg)) (by simp at hl ⊢;lia) (fun H' vf' a b c=>q H' vf' a b (by simpa using c))
    ·have z1:=(rf P hP hR)
     have z2:j8 P H2 vf fs0:=z1.keep (fun a o e _=>s2 _ _ e) fun _ h=>h
     exact j8.snoc ((ry P hP hR).okK iZ.upd hx2 (fun _ h=>h) hk) (z2.okK iZ.upd hx2 (fun _ h=>h) ok0)
    ·simpa [List.append_assoc] using nd
   cases s with
   | par i=>
    obtain ⟨v,e1,e2⟩:=hρ i d h1;obtain ⟨a,C',dx',fs',z⟩:=key v H (bK.refl H) fun P hP hR=>(e2 P hR).same sm
    obtain ⟨v0,w1,w2⟩:=z;exact ⟨v,e1,v0,w1,a,C',dx',fs',w2⟩
   | exp g=>
    refine ⟨ρ,d,fun i hi=>?_,h1,fun y H2 s2 r2 n2=>?_⟩
    ·obtain ⟨v,e1,e2⟩:=hρ i (ρ.getD i .uD) (by
      unfold d9;split
      ·rename_i q;exact absurd q hi
      ·rfl)
     exact ⟨v,e1,(e2 All hr).same sm⟩
    ·obtain ⟨a,C',dx',fs',z⟩:=key y H2 s2 fun P hP hR=>(n2 rfl).mono fun a ha=>hP a (by
      cases hq:H1 a with
      | none=>rfl
      | some o=>have:=sm a o hq;rw [show H a=none from ha] at this;cases this)
     obtain ⟨v0,w1,w2⟩:=z;exact ⟨v0,w1,a,C',dx',fs',w2⟩
  ·cases he
noncomputable def Q5 (C:Addr) (l:List (Str×Srx)) (n:Nat):Sp:=fun vs H Q _=>∃x dx H1 us ds fs,vs=.ref x::us/\us.length=n/\H x=some (.ins C dx [])/\H1 x=none/\bK H1 H/\aW All H1 us ds/\evS (.uD::ds) l=.ok fs/\∀H' vf,bK H1 H'->H' x=some (.ins C dx vf)->RFx H1 us ds H' vf fs->Q .non H'
theorem yD {H:Hp}:∀{us:List V} {ds:List D} {i:Nat} {d:D},us.length=ds.length->ds[i]?=some d->∃v,us[i]?=some v/\∀P,aW P H us ds->Rep P H v d
 | [],[],_,_,_,h=>by simp at h
 | u::us,e::ds,0,d,_,h=>by
  simp at h;subst h;exact ⟨u,rfl,fun P r=>by cases r;assumption⟩
 | u::us,e::ds,i+1,d,hl,h=>by
  obtain ⟨v,h1,h2⟩:=yD (H:=H) (us:=us) (ds:=ds) (i:=i) (d:=d) (by simpa using hl) (by simpa using h);exact ⟨v,by simpa using h1,fun P r=>by cases r with|cons _ t=>exact h2 P t⟩
theorem UG {P:Program} {w:World} {K:PySem.W.Frag} {mg:Str->Option Value} {base:Heap} {x qual:Str} {st:Stmt} {fad C:Addr} {fd:FuncData} {N ps:List Str} {k:Nat} {l:List (Str×Srx)} (F:Fun K x qual st fad fd) (S:bZ N ps (aH st)) (hN:N.length=ps.length) {n:Nat} (hp:ps.length=n+1) (cls:Cls K C) (nd:(l.map (·.1)).Nodup) (na:∀f∈l.map (·.1),bQ K C f) (hl:l.length<1000)
  (hbody:∀(cdv:Value) (A:Around) (outer:List Env) (s:Shared) (H:Hp) (E:XK),jC k (A.deeper (envOfC qual (aH st) s.heap.objs.size fad cdv))->PSs (wL CX0 P w K mg base N qual (aH st) fad cdv A outer s H E).nox (cD st) (aD8 K l)):i_ P w K mg base CX0 (k+1) fad fd ps (Q5 C l n):=by
 refine F.ok S (fun vs H Q E ⟨_,_,_,us,_,_,e,h,_⟩=>by rw [e,hp,List.length_cons,h]) fun cdv A outer s H vs Q E hr ⟨x,dx,H1,us,ds,fs,e,hu,hx,hn,sm,r,he,q⟩=>⟨_,hbody cdv A outer s H E hr,?_⟩
 subst e;have hst:L2.start N (V.ref x::us)=some (.ref x)::us.map some:=by
  unfold L2.start;rw [hN,hp,List.length_cons,hu,Nat.sub_self];simp
 rw [hst];refine T_ (ρ:=.uD::ds) cls rfl hn r (fun i d hd=>?_) l H [] [] fs hx sm (fun _ _ _=>.nil) rfl he (by simpa using nd) na (by simpa using hl) fun H' vf s' hx' rf=>q H' vf s' hx' (by simpa using rf)
 match i,hd with
 | 0,hd=>cases hd
 | i+1,hd=>
  have hd':d9 i ds=.ok d:=hd;have hg:ds[i]?=some d:=by
   unfold d9 at hd';rw [List.getD_eq_getElem?_getD] at hd';cases hq:ds[i]? with
   | none=>rw [hq] at hd';cases hd'
   | some e=>
    rw [hq] at hd';have:e=d:=by
     revert hd'
     cases e <;> intro z <;> first|(cases z;done)|(cases z;rfl)
    rw [this]
  obtain ⟨v,h1,h2⟩:=yD (H:=H1) r.length hg;exact ⟨v,by simpa using h1,h2⟩
noncomputable def Z2 (P:Program) (w:World) (K:PySem.W.Frag) (mg:Str->Option Value) (base:Heap) (k:Nat) (c:Str) (l:List (Str×Srx)) (n:Nat):Prop:=
 ∃(C fi:Addr) (fd:FuncData) (ps:List Str),PySem.W.nsIn K mainGlobals c=some (some (.ref C))/\mg c=some (.ref C)/\Mk K C fi/\i_ P w K mg base CX0 k fi fd ps (Q5 C l n)/\Binds K fd ps []
noncomputable def tMk (K:PySem.W.Frag) (c:Str) (l:List (Str×Srx)) (n:Nat) (t:TA):TE:=fun σ H Q=>t σ H fun us H1=>∃ds fs,us.length=n/\aW All H1 us ds/\evS (.uD::ds) l=.ok fs/\∀C x dx H' vf,PySem.W.nsIn K mainGlobals c=some (some (.ref C))->H1 x=none->bK H1 H'->H' x=some (.ins C dx vf)->RFx H1 us ds H' vf fs->Q (.ref x) H'
section
variable {X:Cx} {e:Expr} {es:List Expr} {pos p:Pos} {x c:Str} {k k' n:Nat} {l:List (Str×Srx)} {t:TA} {fa:FA} {rr:Bool}
theorem X4 (R:Z2 X.prog X.w X.K X.mg X.base k x l n) (hr:jC k' X.A) (hkk:k+1<=k') (hg:Gl X x) (ha:PA X (e::es) t) (hdb:nDb x:=by decide) (he:starEach (e::es) X.env=(false,eval e X.env)::starEach es X.env:=by rfl) (hpl:(backTo pos (starEach es X.env)).any (·.1)=false:=by rfl) (hmono:∀(σ:L2.St) (H:Hp) (Q Q':List V->Hp->Prop),(∀vs H',Q vs H'->Q' vs H')->t σ H Q->t σ H Q') :
  PE X (.Call (.Name x p) (e::es) [] pos) (tMk X.K x l n t):=by
 obtain ⟨C,fi,fd,ps,hn,hm,M,F,hb⟩:=R;refine PE.imp (V1 M F (hr.mono hkk) hg hm hb .nil O7 ha hdb he hpl) fun σ H Q h=>hmono σ H _ _ ?_ h
 rintro us H1 ⟨ds,fs,hl,r,he,q⟩ y dx hy hdx hne;refine ⟨y,dx,H1,us,ds,fs,by rw [List.append_nil],hl,aC,hy,fun a o e=>?_,r,he,fun H' vf s' hx' rf=>⟨rfl,q C y dx H' vf hn hy s' hx' rf⟩⟩;rw [aJ (aR e hy),aJ (aR e hdx)];exact e
noncomputable def uR (K:PySem.W.Frag) (c f:Str):Prop:=∀C,PySem.W.nsIn K mainGlobals c=some (some (.ref C))->Cls K C/\bQ K C f
theorem tY {f:Str} {fe:FE} {re:Bool} (hK:KFrag.K=X.K) (R:uR X.K c f) (he:PE X e (gE fe re)) (hb:attributeBase e f X.env (eval e X.env)=eval e X.env:=by rfl):PE X (.Attribute e f pos) (gE (Q4 c f fe) false):=PE.imp (fU he hb) fun σ H Q ⟨ρ,d,E,h,q⟩=>by
 obtain ⟨d0,h1,h2⟩:=bG h;split at h2
 ·rename_i c' fs;split at h2
  ·rename_i hc;have hc:=of_decide_eq_true hc;subst hc;refine ⟨ρ,_,E,h1,fun v H1 s1 r1 _=>?_⟩;cases r1 with
   | ins hn hx rf=>
    rw [hK] at hn;obtain ⟨k1,k2⟩:=R _ hn;cases hl:fs.lookup f with
    | none=>rw [hl] at h2;cases h2
    | some d1=>
     rw [hl] at h2;cases h2;obtain ⟨w,g1,g2⟩:=rf.look hl;exact ⟨_,_,_,_,w,rfl,hx,k1,k2,g1,q w H1 s1 g2 (fun z=>by cases z)⟩
  ·cases h2
 ·cases h2
end
end Mi
end
section
namespace Mi
open PySem L2 PySem.SeqAt PySem.Spec PyProof.Rows
noncomputable def tZ (i:Nat):FX:=fun ρ=>match JZ (ρ.getD i .uD) with
 | some xs=>(match xs[xs.length-1]? with|some x=>.ok (x,ρ.set i (aD6 (ρ.getD i .uD) xs.dropLast))|none=>.bad)
 | none=>.bad
variable [KFrag]
theorem j8.t6 {P:Addr->Prop} {H:Hp} {f:Str}:∀{v:List (Str×V)} {d:List (Str×D)},j8 P H v d->d.lookup f=none->v.lookup f=none
 | _,_,.nil,_=>rfl
 | _,_,.cons (f:=g) r t,h=>by
  rw [List.lookup_cons] at h ⊢;split at h
  ·cases h
  ·exact j8.t6 t h
section
variable {X:Cx} {own:Nat->Bool} {e o:Expr} {es:List Expr} {pos p apos:Pos} {c m:Str} {k k' n:Nat} {f:List D->Res D} {fa:FA} {fo fe:FE} {ra ro re:Bool}
theorem X5 {i:Nat} {x:Str} {p1 apos cpos:Pos} (ho:own i=true) (hN:X.N[i]?=some x) (hv:Vis X.env.scope x) (hd:nDb x:=by decide) (hcd:nCd x:=by decide)
  (hbase:attributeBase (.Name x p1) "pop" X.env (eval (.Name x p1) X.env)=eval (.Name x p1) X.env:=by rfl)
  (hline:(apos.endLine==cpos.line)=true:=by rfl) :
  PE X (.Call (.Attribute (.Name x p1) "pop" apos) [] [] cpos) (gX own (tZ i)):=
 PE.imp (wQ PySem.F.plainAttrs_list PySem.F.slot_list_pop PySem.F.type_list_pop GQ (aN hN hv hd hcd) hbase hline) fun σ H Q ⟨ρ,d,ρ',E,h,q⟩=>by
 unfold tZ at h;split at h
 ·rename_i xs hx;split at h
  ·rename_i dx hdx;cases h;obtain ⟨a,vs,hσ,hl,rr,hin,r,_⟩:=XQ E ho hx;obtain ⟨v,hvx,rv⟩:=rr.get hdx;have hlen:=rr.length;refine ⟨_,hσ,.inl ⟨rfl,vs,.of hl⟩,a,vs,v,rfl,rfl,hl,by rw [hlen];exact hvx,?_⟩;have pall:∀y∈xs,y.pure=true:=fun y hy=>cC.mp hin y hy
   have pdx:d.pure=true:=pall d (List.mem_of_getElem? hdx);have pe:D.aG xs.dropLast=true:=cC.mpr fun y hy=>pall y (List.dropLast_subset _ hy)
   have er:aW All H vs.dropLast xs.dropLast:=by
    rw [List.dropLast_eq_take,List.dropLast_eq_take,hlen];exact rr.take _
   obtain ⟨E2,k2⟩:=E.mut (o:=.lst vs.dropLast) (d:=aD6 (ρ.getD i .uD) xs.dropLast) ho hσ rfl (aBi r hx aC trivial (er.upd pe hl rfl)) (by rw [XN hx];exact pe);have r1:=(aW.cons rv .nil).upd (o:=.lst vs.dropLast) (by rw [D.aG,pdx];rfl) hl rfl;cases r1 with
   | cons r1 _=>exact q _ _ k2 E2 (.set ho) (r1.bH pdx)
  ·cases h
 ·cases h
end
def own1 (j:Nat):Nat->Bool:=fun i=>i==j
section
variable {own:Nat->Bool}
end
end Mi
end
section
namespace Mi
open PySem L2 PySem.SeqAt PySem.Spec PyProof.Rows
variable [KFrag]
def aEg (K:PySem.W.Frag) (i:Nat):TE:=aF5 K "list" aF6 (dY i)
def tm1:TE:=tUn (rU fun i=>.int (-i)) (tC (.int 1))
noncomputable def aF8 (K:PySem.W.Frag) (i:Nat):TT:=fun σ H Q=>dY i σ H fun x H'=>∃k,aCy K x H' k/\Q k H'
section
variable {K:PySem.W.Frag} {C CF:Addr} {f:FS} {m:Nat} {l:List (Str×Srx)}
theorem Q6 {w1 w3:V} {j:Nat}:mK "left" (.int (((j+1:Nat):Int)-1)) [("words",w1),("left",.int ((j+1:Nat):Int)),("known",w3)]=([("words",w1),("left",.int j),("known",w3)]:List (Str×V)):=by
 have:((j+1:Nat):Int)-1=j:=by lia
 rw [this];unfold mK;rw [if_neg (by decide)];unfold mK;rw [if_pos rfl]
end
end Mi
end
section
namespace Mi
open PySem L2 PySem.SeqAt PySem.Spec PyProof.Rows
noncomputable def rowOf (s:Stmt) (j:Nat):Stmt:=match s with
 | .ClassDef _ _ _ b _ _ _ _ _ _ _=>b.getD j (.Pass ⟨0,0,0,0⟩)
 | _=>.Pass ⟨0,0,0,0⟩
variable [KFrag]
section
variable {X:Cx} {own:Nat->Bool} {pos pos':Pos}
end
end Mi
end
section
namespace Mi
open PySem L2 PySem.W PySem.SeqAt PySem.Spec PyProof.Rows
noncomputable def X6 (i:Nat) (t:D->List D->Res (List D)) (body:FS):FS:=fun ρ=>do
 let d <- d9 i ρ
 match d with
 | .lst xs=>sY t body xs.reverse ρ
 | _=>.bad
variable [KFrag]
theorem Q7 {P:Program} {w:World} {K:PySem.W.Frag} {tg:Expr} (a it:Addr) (n:Nat):Turn P w K tg (aF7 K a n) [it] it (fun i h=>i<=n/\h.IsRevIter it a ((n:Int)-1-i)) where
 mem:=by simp
 obj:=fun i h st b hb=>by
  have e:b=it:=by simpa using hb
  subst e;obtain ⟨_,o,e,c,d⟩:=st;exact ⟨o,e,fun v z=>by rw [d] at z;cases z⟩
 keep:=fun i h h' st k=>⟨st.1,st.2.at fun o e=>k it (by simp) o e⟩
 item:=by
  intro X hP hw hK hc i pins s σ H E I hf ⟨hin,st⟩ ⟨xs,x,hq,hn,hi,hx⟩;subst hP hw hK;obtain ⟨its,r,pl,_⟩:=I.list hq;obtain ⟨u,hu,ru⟩:=r.get hx;obtain ⟨f0,f1,f2,f3,f4,f5⟩:=hf it (by simp);have e1:(n:Int)-1-(i:Int)=((n-1-i:Nat):Int):=by lia
  rw [e1] at st;refine wpAny_pyNext_rev_item st pl.isList (x:=u) (by simpa using hu) fun h' st' sb=>?_
  have I1:Inv X pins σ H {s with heap:=h'}:=I.turned (t':=s.toks) (fun b o hb e=>(sb.2 b hb).trans e) f0 f1 f3 f4 f5;obtain ⟨o',e,c,d⟩:=id st';refine ⟨u,rfl,DY (s:={s with heap:=h'}) e c d (by decide) ⟨x,H,I1,ru,⟨rfl,fun ys hy=>?_⟩,⟨hi,?_⟩,fun b hb=>(hf b hb).1⟩⟩
  ·have:=I.wH hy hq;rw [this];exact hx
  ·have e2:(n:Int)-1-((i+1:Nat):Int)=((n-1-i:Nat):Int)-1:=by lia
   rw [e2];exact st'
 done:=by
  intro X hP hw hK hc i pins s σ H E I hf ⟨hin,st⟩ hi;subst hP hw hK;obtain ⟨f0,f1,f2,f3,f4,f5⟩:=hf it (by simp);have hi:n<=i:=hi;have e1:(n:Int)-1-(i:Int)=-1:=by lia
  rw [e1] at st;exact wpAny_pyNext_rev_end (I.ok.hd hc) st fun h' eb=>⟨rfl,I.turned (t':=s.toks) (fun b o hb e=>eb b o hb e) f0 f1 f3 f4 f5⟩
 self:=fun _ _ _ _ _ st h=>wpAny_pyIter_revIter st.2 h
section
variable {X:Cx} {own:Nat->Bool} {tg:Expr} {p pos px cpos:Pos}
theorem X7 {i:Nat} {x:Str} (hg:Gl X "reversed") (hm:X.mg "reversed" = none) (hN:X.N[i]?=some x) (hv:Vis X.env.scope x) (hd:nDb x:=by decide) (hcd:nCd x:=by decide) (hs:starEach [.Name x px] X.env=(false,eval (.Name x px) X.env)::starEach [] X.env:=by rfl) :
  PI X tg (.Call (.Name "reversed" p) [.Name x px] [] cpos) (fun σ H R=>∃v ds,σ[i]?=some (some v)/\Rep All H v (.lst ds)/\∀J,(∀P:Addr->Prop,Rep P H v (.lst ds)->ItQ X.K P J H ds.reverse)->R J H):=by
 intro pins s σ H R I ⟨v,ds,hσ,r,q⟩;refine wpAny_Call_Name_kw (jA I hg hm oN ?_);refine PyProof.Rows.callWith_type1 (thn (bI (aN (pos:=px) hN hv hd hcd) dF hs cpos pins s σ H (fun vs H1=>vs=[v]/\H1=H) I ⟨v,hσ,rfl,rfl⟩) fun us s1 ⟨vs,H1,I1,ru,e1,e2⟩=>?_) hs rfl;subst e1 e2;cases ru with
 | cons ru rt=>
 cases rt;obtain ⟨a,xs,rfl,e,rr⟩:=r.eZ (K:=X.K);cases ru;obtain ⟨its,rv,pl,hz⟩:=I1.list e;have hl:=rv.length;have hl2:=rr.length;refine call_reversed_list pl.isList ?_;have e0:((its.toArray.size:Nat):Int)-1=(ds.length:Int)-1-((0:Nat):Int):=by rw [List.size_toArray,<-hl,hl2];lia
 rw [e0];have st0:Heap.IsRevIter (s1.heap.push (revObj a ((ds.length:Int)-1-((0:Nat):Int)))) s1.heap.objs.size a ((ds.length:Int)-1-((0:Nat):Int)):=⟨_,Heap.get?_push_size _ rfl,rfl,rfl⟩
 refine wpAny_pyIter_revIter (s:={s1 with heap:=s1.heap.push (revObj a ((ds.length:Int)-1-((0:Nat):Int)))}) st0 ?_;refine ⟨s1.heap.objs.size,[s1.heap.objs.size],_,_,H1,rfl,I1.kept (t':=s1.toks) fun b o e=>Heap.get?_push_of_some _ e,Q7 a _ ds.length,⟨Nat.zero_le _,st0⟩,fun b hb=>?_,q _ fun P r=>.rev a ds rfl r rfl⟩;have e:b=s1.heap.objs.size:=by simpa using hb
 subst e;exact I1.ZX (Nat.le_refl _) (I1.hok.fresh (Nat.le_refl _))
theorem X8 {body:List Stmt} {g:TG} {t:D->List D->Res (List D)} {i:Nat} {x:Str} {fb:FS} (ho:own i=false) (hp:PassesOwn (model X.prog X.w) X.A X.env X.xe) (hc:X.calm=true) (hgl:Gl X "reversed") (hm:X.mg "reversed" = none) (hN:X.N[i]?=some x) (hv:Vis X.env.scope x) (ht:TgS own g t) (hg:PG X tg g) (hb:PSs X body (tS own fb))
  (hs:∀z,foldedSetIterable (.Call (.Name "reversed" p) [.Name x px] [] cpos) X.env z=pure z:=by intro _;rfl) (hse:starEach [.Name x px] X.env=(false,eval (.Name x px) X.env)::starEach [] X.env:=by rfl) (hd:nDb x:=by decide) (hcd:nCd x:=by decide):PS X (.For tg (.Call (.Name "reversed" p) [.Name x px] [] cpos) body [] pos) (tS own (X6 i t fb)):=PS.imp (FJ hp hc (X7 hgl hm hN hv hd hcd hse) hg hb hs) fun D' σ H ⟨ρ,fl,E,h,q⟩=>by
 obtain ⟨d,h1,h⟩:=bG h;split at h
 ·rename_i ds;obtain ⟨v,hv,r,e⟩:=E.er.var h1;have hne:ρ.getD i .uD≠.uD:=fun z=>by
   rw [z] at e;cases e
  obtain ⟨w,hw,hr⟩:=E.at_ i hne;rw [hv] at hw;cases hw;have r2:=hr ho;rw [e] at r2;exact ⟨v,ds,hv,r,fun J hJ=>xO ht E (hJ _ r2) h q⟩
 ·cases h
end
end Mi
end
section
namespace Wy
open PySem PySem.Spec
open Wz
noncomputable abbrev liO (t:Addr) (i:Nat):Obj:={cls:=.type "list_iterator",data:=.fields #[.ref t,.int i 0]}
noncomputable abbrev lsO (xs:Array Value) (n:Nat) (dd:Option Addr) (sl:Array (Option Value)):Obj:={cls:=.type "list",dict:=dd,data:=.seq xs n,slots:=sl}
theorem vV (it t:Addr) (i:Nat) (xs:Array Value) (n:Nat) (dd:Option Addr) (sl:Array (Option Value)) (x:Value) (hx:xs[i]?=some x) :
  Meets (Builtin.«list_iterator.__next__» ⟨[.ref it],[]⟩) (fun _ R s=>s.heap.get? it=some (liO t i)/\s.heap.get? t=some (lsO xs n dd sl)/\R (.ok (.ret x)) {s with heap:=s.heap.update it (Obj.mapFields (·.setIfInBounds 1 (rawInt (i+1))))}):=.of_wp fun prog w A R s hs=>by
 obtain ⟨hp,g,d,tk,os⟩:=s;obtain ⟨e1,e2,hq⟩:=hs
 wp_walk
 rw [Int.toNat_natCast,hx]
 wp_walk
 exact ⟨_,rfl,hq⟩
section
variable {prog:Program} {w:World} {A:Around} {E:Value->Shared->Prop} {s:Shared} {it t:Addr} {i:Nat} {xs:Array Value} {x:Value} {n:Nat} {dd:Option Addr} {sl:Array (Option Value)}
theorem UJ {Q:Value->Shared->Prop} (e1:s.heap.get? it=some (liO t i)) (e2:s.heap.get? t=some (lsO xs n dd sl)) (hx:xs[i]?=some x)
  (q:∀h',h'.get? it=some (liO t (i+1))->Heap.SameBut it s.heap h'->Q x {s with heap:=h'}):wpAny (model prog w) A (Builtin.SmallTypes.nextOf (.ref it)) Q E s:=by
 have ty:s.TypeIs (.ref it) "list_iterator":=⟨_,e1,rfl⟩
 refine wpAny_bind (wpAny_callSpecial?_slot ty slot_listiter_next ?_);refine call_meets slot_listiter_next ty entry_listiter_next (args_listiter_next _) (vV it t i xs n dd sl x hx) ⟨e1,e2,wpAny_pure (q _ ?_ (Heap.SameBut.update ..))⟩;exact Heap.get?_update_self _ e1 rfl
end
structure W (z TI TO i1 i2 l1 l2:Addr) (o1 o2:Obj) (f0 f1 a b:Value) (k1 k2:Nat) (h:Heap):Prop where
 z_:h.get? z=some (zpO f0 f1 TI TO)
 ti:h.get? TI=some (prO (.ref i1) (.ref i2))
 to:h.get? TO=some (prO a b)
 j1:h.get? i1=some (itO l1 k1)
 j2:h.get? i2=some (liO l2 k2)
 t1:h.get? l1=some o1
 t2:h.get? l2=some o2
section
variable {z TI TO i1 i2 l1 l2:Addr} {o1 o2:Obj} {f0 f1 g0 g1 a b c d:Value} {k1 k2:Nat} {h h':Heap}
theorem W.onZ (x:W z TI TO i1 i2 l1 l2 o1 o2 f0 f1 a b k1 k2 h) (ap:Apart z TI TO i1 i2 l1 l2) (e:h'.get? z=some (zpO g0 g1 TI TO)) (k:Heap.SameBut z h h'):W z TI TO i1 i2 l1 l2 o1 o2 g0 g1 a b k1 k2 h':=
 ⟨e,(k.2 _ ap.zTI.symm).trans x.ti,(k.2 _ ap.zTO.symm).trans x.to,(k.2 _ ap.z1.symm).trans x.j1,(k.2 _ ap.z2.symm).trans x.j2,(k.2 _ ap.zl.symm).trans x.t1,(k.2 _ ap.zm.symm).trans x.t2⟩
theorem W.onT (x:W z TI TO i1 i2 l1 l2 o1 o2 f0 f1 a b k1 k2 h) (ap:Apart z TI TO i1 i2 l1 l2) (e:h'.get? TO=some (prO c d)) (k:Heap.SameBut TO h h'):W z TI TO i1 i2 l1 l2 o1 o2 f0 f1 c d k1 k2 h':=
 ⟨(k.2 _ ap.zTO).trans x.z_,(k.2 _ ap.TT).trans x.ti,e,(k.2 _ ap.O1.symm).trans x.j1,(k.2 _ ap.O2.symm).trans x.j2,(k.2 _ ap.Ol.symm).trans x.t1,(k.2 _ ap.Om.symm).trans x.t2⟩
theorem W.on1 {k:Nat} (x:W z TI TO i1 i2 l1 l2 o1 o2 f0 f1 a b k1 k2 h) (ap:Apart z TI TO i1 i2 l1 l2) (e:h'.get? i1=some (itO l1 k)) (s:Heap.SameBut i1 h h'):W z TI TO i1 i2 l1 l2 o1 o2 f0 f1 a b k k2 h':=
 ⟨(s.2 _ ap.z1).trans x.z_,(s.2 _ ap.T1).trans x.ti,(s.2 _ ap.O1).trans x.to,e,(s.2 _ ap.ij.symm).trans x.j2,(s.2 _ ap.il.symm).trans x.t1,(s.2 _ ap.im.symm).trans x.t2⟩
theorem W.on2 {k:Nat} (x:W z TI TO i1 i2 l1 l2 o1 o2 f0 f1 a b k1 k2 h) (ap:Apart z TI TO i1 i2 l1 l2) (e:h'.get? i2=some (liO l2 k)) (s:Heap.SameBut i2 h h'):W z TI TO i1 i2 l1 l2 o1 o2 f0 f1 a b k1 k h':=
 ⟨(s.2 _ ap.z2).trans x.z_,(s.2 _ ap.T2).trans x.ti,(s.2 _ ap.O2).trans x.to,(s.2 _ ap.ij).trans x.j1,e,(s.2 _ ap.jl.symm).trans x.t1,(s.2 _ ap.jm.symm).trans x.t2⟩
theorem W.up (x:W z TI TO i1 i2 l1 l2 o1 o2 f0 f1 a b k1 k2 h) (k:∀c o,c=z\/c=TI\/c=TO\/c=i1\/c=i2\/c=l1\/c=l2->h.get? c=some o->h'.get? c=some o):W z TI TO i1 i2 l1 l2 o1 o2 f0 f1 a b k1 k2 h':=
 ⟨k _ _ (by simp) x.z_,k _ _ (by simp) x.ti,k _ _ (by simp) x.to,k _ _ (by simp) x.j1,k _ _ (by simp) x.j2,k _ _ (by simp) x.t1,k _ _ (by simp) x.t2⟩
end
section
variable {s:Shared} {z TI TO i1 i2 l1 l2:Addr} {f0 f1 a b:Value}
theorem W.ty {o1 o2:Obj} {k1 k2:Nat} (hw:W z TI TO i1 i2 l1 l2 o1 o2 f0 f1 a b k1 k2 s.heap):s.TypeIs (.ref z) "zip":=⟨_,hw.z_,rfl⟩
end
section
variable {prog:Program} {w:World} {A:Around} {E:Value->Shared->Prop} {s:Shared} {z TI TO i1 i2 l1 l2:Addr} {n1 n2:Nat} {d1 d2:Option Addr} {s1 s2:Array (Option Value)} {f0 f1 a b x y:Value} {k:Nat} {xs ys:Array Value}
theorem keptAt {o1 o2:Obj} {k1 k2:Nat} {Q:Unit->Shared->Prop} (j:Nat) (v c d:Value) (hw:W z TI TO i1 i2 l1 l2 o1 o2 f0 f1 a b k1 k2 s.heap) (ap:Apart z TI TO i1 i2 l1 l2) (hj:(#[a,b]:Array Value).setIfInBounds j v=#[c,d])
  (q:∀h',W z TI TO i1 i2 l1 l2 o1 o2 f0 f1 c d k1 k2 h'->Heap.SameBut TO s.heap h'->Q () {s with heap:=h'}):wpAny (model prog w) A (updateSeq TO (·.setIfInBounds j v)) Q E s:=
 wpAny_updateSeq_pair hw.to fun h' e sb=>q h' (hw.onT ap (by rw [e,hj]) sb) sb
theorem first {Q:Value->Shared->Prop} (ap:Apart z TI TO i1 i2 l1 l2) (hw:W z TI TO i1 i2 l1 l2 (tuO xs n1 d1 s1) (lsO ys n2 d2 s2) .none (.bool false) a b k k s.heap) (hx:xs[k]?=some x) (hy:ys[k]?=some y)
  (q:∀(h':Heap) (p:Addr),W z TI TO i1 i2 l1 l2 (tuO xs n1 d1 s1) (lsO ys n2 d2 s2) (rawInt p) (.bool false) x y (k+1) (k+1) h'->h'.get? p=some (prO x y)->p=s.heap.objs.size->QV z TO i1 i2 s.heap h'->Q (.ref p) {s with heap:=h'}) :
  wpAny (model prog w) A (nxt z) (Got Q) E s:=by
 refine wpAny_bind (m:=field (.ref z) 2) (wpAny_field hw.z_ rfl (x:=.bool false) rfl (wpAny_bind (m:=field (.ref z) 3) (wpAny_field hw.z_ rfl (x:=.ref TI) rfl (wpAny_bind (wpAny_seqItems hw.ti rfl ?_)))));refine wpAny_bind (m:=Builtin.SmallTypes.ownedTupleIsFree (.ref z)) (wpAny_bind (wpAny_field hw.z_ rfl (x:=.none) rfl (wpAny_pure ?_)));rw [if_pos rfl];refine wpAny_bind (wpAny_rule (wpAny_bind (wpAny_field hw.z_ rfl (x:=.ref TO) rfl (wpAny_bind (wpAny_setField_rec hw.z_ (by simp) fun h1 e1 k1=>?_)))));have w1:W z TI TO i1 i2 l1 l2 (tuO xs n1 d1 s1) (lsO ys n2 d2 s2) .ellipsis (.bool false) a b k k h1:=hw.onZ ap e1 k1;simp only [List.zipIdx_cons,List.zipIdx_nil,List.forIn_cons,List.forIn_nil];refine wpAny_bind (wpAny_bind (wpAny_bind (wpAny_onRaise (wpAny_bind (m:=Builtin.SmallTypes.nextOf (.ref i1)) (drawn w1.j1 w1.t1 hx fun h2 e2 k2=>wpAny_pure ?_)))));have w2:=w1.on1 ap e2 k2;refine wpAny_bind (wpAny_seqItems w2.to rfl (wpAny_bind (keptAt 0 x x b w2 ap rfl fun h3 w3 k3=>wpAny_bind (wpAny_letGo (wpAny_pure ?_)))));refine wpAny_bind (wpAny_bind (wpAny_onRaise (wpAny_bind (m:=Builtin.SmallTypes.nextOf (.ref i2)) (UJ w3.j2 w3.t2 hy fun h4 e4 k4=>wpAny_pure ?_))));have w4:=w3.on2 ap e4 k4;refine wpAny_bind (wpAny_seqItems w4.to rfl (wpAny_bind (keptAt 1 y x y w4 ap rfl fun h5 w5 k5=>wpAny_bind (wpAny_letGo (wpAny_pure (wpAny_pure ?_))))));have sd:QV z TO i1 i2 s.heap h5:=fun c o c1 c2 c3 c4 e=>(k5.2 c c2).trans ((k4.2 c c4).trans ((k3.2 c c2).trans ((k2.2 c c3).trans ((k1.2 c c1).trans e))))
 have sz:h5.objs.size=s.heap.objs.size:=by rw [k5.1,k4.1,k3.1,k2.1,k1.1]
 refine wpAny_bind (wpAny_seqItems w5.to rfl (wpAny_bind (wpAny_newTuple ?_)));have w6:W z TI TO i1 i2 l1 l2 (tuO xs n1 d1 s1) (lsO ys n2 d2 s2) .ellipsis (.bool false) x y (k+1) (k+1) (h5.push (prO x y)):=w5.up fun c o _ e=>Heap.get?_push_of_some _ e
 refine wpAny_bind (m:=Builtin.SmallTypes.ownedTupleHandOut (.ref z) (.ref h5.objs.size)) (wpAny_bind (wpAny_setField_rec w6.z_ (by simp) fun h7 e7 k7=>?_));have w7:W z TI TO i1 i2 l1 l2 (tuO xs n1 d1 s1) (lsO ys n2 d2 s2) (rawInt h5.objs.size) (.bool false) x y (k+1) (k+1) h7:=w6.onZ ap e7 k7;refine wpAny_setField_rec w7.z_ (by simp) fun h8 e8 k8=>wpAny_pure ⟨_,rfl,?_⟩
 have w8:W z TI TO i1 i2 l1 l2 (tuO xs n1 d1 s1) (lsO ys n2 d2 s2) (rawInt h5.objs.size) (.bool false) x y (k+1) (k+1) h8:=w7.onZ ap e8 k8;have nz:h5.objs.size≠z:=Nat.ne_of_gt (Heap.lt_size w5.z_);exact q h8 _ w8 ((k8.2 _ nz).trans ((k7.2 _ nz).trans (Heap.get?_push_size _ rfl))) sz fun c o c1 c2 c3 c4 e=>(k8.2 c c1).trans ((k7.2 c c1).trans (Heap.get?_push_of_some _ (sd c o c1 c2 c3 c4 e)))
theorem Q8 {Q:Fin->Shared->Prop} (hh:A.handled=none) (ap:Apart z TI TO i1 i2 l1 l2) (hw:W z TI TO i1 i2 l1 l2 (tuO xs n1 d1 s1) (lsO ys n2 d2 s2) .none (.bool false) a b k k s.heap) (hx:xs[k]?=none)
  (q:∀h' e,QV z TO i1 i2 s.heap h'->(∃o,h'.get? e=some o/\o.cls=.type "StopIteration")->E (.ref e) {s with heap:=h'}) :
  wpAny (model prog w) A (nxt z) Q E s:=by
 refine wpAny_bind (m:=field (.ref z) 2) (wpAny_field hw.z_ rfl (x:=.bool false) rfl (wpAny_bind (m:=field (.ref z) 3) (wpAny_field hw.z_ rfl (x:=.ref TI) rfl (wpAny_bind (wpAny_seqItems hw.ti rfl ?_)))));refine wpAny_bind (m:=Builtin.SmallTypes.ownedTupleIsFree (.ref z)) (wpAny_bind (wpAny_field hw.z_ rfl (x:=.none) rfl (wpAny_pure ?_)));rw [if_pos rfl];refine wpAny_bind (wpAny_rule (wpAny_bind (wpAny_field hw.z_ rfl (x:=.ref TO) rfl (wpAny_bind (wpAny_setField_rec hw.z_ (by simp) fun h1 e1 k1=>?_)))));have w1:W z TI TO i1 i2 l1 l2 (tuO xs n1 d1 s1) (lsO ys n2 d2 s2) .ellipsis (.bool false) a b k k h1:=hw.onZ ap e1 k1;simp only [List.zipIdx_cons,List.zipIdx_nil,List.forIn_cons,List.forIn_nil];refine wpAny_bind (wpAny_bind (wpAny_bind (wpAny_onRaise (wpAny_bind (m:=Builtin.SmallTypes.nextOf (.ref i1)) (over hh w1.j1 w1.t1 hx fun h2 e k2 he=>?_)))));obtain ⟨oe,he,hc⟩:=he;have ez:h2.get? z=some (zpO .ellipsis (.bool false) TI TO):=k2 _ _ ap.z1 w1.z_;have hez:e≠z:=fun v=>by
  rw [v,ez] at he;cases he;exact absurd (show Value.type "zip" = Value.type "StopIteration" from hc) (by decide)
 exact wpAny_setField_rec ez (by simp) fun h3 _ k3=>q h3 e (fun c o c1 _ c3 _ v=>(k3.2 c c1).trans (k2 c o c3 ((k1.2 c c1).trans v))) ⟨oe,(k3.2 e hez).trans he,hc⟩
theorem taken {o1 o2 oT:Obj} {k1 k2:Nat} {T:Addr} {bb:Bool} {Q:Bool->Shared->Prop} (ap:Apart z TI TO i1 i2 l1 l2) (hw:W z TI TO i1 i2 l1 l2 o1 o2 (rawInt T) (.bool bb) a b k1 k2 s.heap) (hT:s.heap.get? T=some oT)
  (q:∀h',W z TI TO i1 i2 l1 l2 o1 o2 (rawInt T) (.bool true) a b k1 k2 h'->Heap.SameBut z s.heap h'->Q false {s with heap:=h'}):wpAny (model prog w) A (Builtin.SmallTypes.ownedTupleIsFree (.ref z)) Q E s:=by
 refine wpAny_bind (wpAny_field hw.z_ rfl (x:=rawInt T) rfl (wpAny_bind (m:=loadIfAlive T) (there hT ?_)));refine wpAny_bind (wpAny_field hw.z_ rfl (x:=.bool bb) rfl ?_);cases bb
 ·exact wpAny_bind (wpAny_setField_rec hw.z_ (by simp) fun h1 e1 k1=>wpAny_pure (q h1 (hw.onZ ap e1 k1) k1))
 ·exact wpAny_pure (q _ hw (Heap.SameBut.refl _ _))
theorem more {T:Addr} {bb:Bool} {oT:Obj} {Q:Value->Shared->Prop} (ap:Apart z TI TO i1 i2 l1 l2) (hw:W z TI TO i1 i2 l1 l2 (tuO xs n1 d1 s1) (lsO ys n2 d2 s2) (rawInt T) (.bool bb) a b k k s.heap) (hT:s.heap.get? T=some oT) (hx:xs[k]?=some x) (hy:ys[k]?=some y)
  (q:∀h' p,W z TI TO i1 i2 l1 l2 (tuO xs n1 d1 s1) (lsO ys n2 d2 s2) (rawInt T) (.bool true) a b (k+1) (k+1) h'->h'.get? p=some (prO x y)->QV z TO i1 i2 s.heap h'->Q (.ref p) {s with heap:=h'}) :
  wpAny (model prog w) A (nxt z) (Got Q) E s:=by
 refine wpAny_bind (m:=field (.ref z) 2) (wpAny_field hw.z_ rfl (x:=.bool false) rfl (wpAny_bind (m:=field (.ref z) 3) (wpAny_field hw.z_ rfl (x:=.ref TI) rfl (wpAny_bind (wpAny_seqItems hw.ti rfl ?_)))));refine wpAny_bind (m:=Builtin.SmallTypes.ownedTupleIsFree (.ref z)) (taken ap hw hT fun h1 w1 k1=>?_);rw [if_neg Bool.false_ne_true];dsimp only;rw [<-Array.forIn_toList];simp only [List.forIn_cons,List.forIn_nil];refine wpAny_bind (wpAny_bind (wpAny_bind (wpAny_holding (wpAny_bind (m:=Builtin.SmallTypes.nextOf (.ref i1)) (drawn w1.j1 w1.t1 hx fun h2 e2 k2=>wpAny_pure (wpAny_pure ?_))))));have w2:=w1.on1 ap e2 k2;refine wpAny_bind (wpAny_bind (wpAny_holding (wpAny_bind (m:=Builtin.SmallTypes.nextOf (.ref i2)) (UJ w2.j2 w2.t2 hy fun h3 e3 k3=>wpAny_pure (wpAny_pure (wpAny_pure ?_))))));have w3:=w2.on2 ap e3 k3;refine wpAny_bind (wpAny_newTuple (wpAny_pure ⟨_,rfl,?_⟩) (hsz:=by show (2:Nat)<=sizeLine;decide));exact q _ _ (w3.up fun c o _ e=>Heap.get?_push_of_some _ e) (Heap.get?_push_size _ rfl) fun c o c1 c2 c3 c4 e=>Heap.get?_push_of_some _ ((k3.2 c c4).trans ((k2.2 c c3).trans ((k1.2 c c1).trans e)))
theorem X_ {T:Addr} {bb:Bool} {oT:Obj} {Q:Fin->Shared->Prop} (hh:A.handled=none) (ap:Apart z TI TO i1 i2 l1 l2) (hw:W z TI TO i1 i2 l1 l2 (tuO xs n1 d1 s1) (lsO ys n2 d2 s2) (rawInt T) (.bool bb) a b k k s.heap) (hT:s.heap.get? T=some oT) (hx:xs[k]?=none)
  (q:∀h' e,QV z TO i1 i2 s.heap h'->(∃o,h'.get? e=some o/\o.cls=.type "StopIteration")->E (.ref e) {s with heap:=h'}) :
  wpAny (model prog w) A (nxt z) Q E s:=by
 refine wpAny_bind (m:=field (.ref z) 2) (wpAny_field hw.z_ rfl (x:=.bool false) rfl (wpAny_bind (m:=field (.ref z) 3) (wpAny_field hw.z_ rfl (x:=.ref TI) rfl (wpAny_bind (wpAny_seqItems hw.ti rfl ?_)))));refine wpAny_bind (m:=Builtin.SmallTypes.ownedTupleIsFree (.ref z)) (taken ap hw hT fun h1 w1 k1=>?_);rw [if_neg Bool.false_ne_true];dsimp only;rw [<-Array.forIn_toList];simp only [List.forIn_cons,List.forIn_nil];exact wpAny_bind (wpAny_bind (wpAny_bind (wpAny_holding (wpAny_bind (m:=Builtin.SmallTypes.nextOf (.ref i1)) (over hh w1.j1 w1.t1 hx fun h2 e k2 he=>q h2 e (fun c o c1 _ c3 _ v=>k2 c o c3 ((k1.2 c c1).trans v)) he)))))
end
theorem KC (t u:Addr) (xs ys:Array Value) :
  Meets (Builtin.«zip.__new__» ⟨[.type "zip",.ref t,.ref u],[]⟩) (fun _ R s=>s.heap.IsTuple t xs/\s.heap.IsList u ys/\∀h' n,n=s.heap.objs.size->h'.get? n=some (itO t 0)->h'.get? (n+1)=some (liO u 0)->h'.get? (n+2)=some (prO (.ref n) (.ref (n+1)))->h'.get? (n+3)=some (prO .none .none)->h'.get? (n+4)=some (zpO .none (.bool false) (n+2) (n+3))->
   (∀x o,s.heap.get? x=some o->h'.get? x=some o)->h'.objs.size=n+5->R (.ok (.ret (.ref (n+4)))) {s with heap:=h'}):=
 .of_wp fun prog w A R s hs=>by
  obtain ⟨hp,g,d,tk,os⟩:=s;obtain ⟨ht,hu,q⟩:=hs;have sub:=sub_zip;have p1:Heap.IsTuple (Shared.heap ⟨hp,g,d,tk,os⟩) t xs:=ht;have p2:Heap.IsList (Shared.heap ⟨hp.push {cls:=.type "tuple_iterator",data:=.fields #[.ref t,.int 0 0]},g,d,tk,os⟩) u ys:=Heap.IsList.push hu _;have f:=five hp (itO t 0) (liO u 0) (prO (.ref hp.objs.size) (.ref (hp.objs.size+1))) (prO .none .none) (zpO .none (.bool false) (hp.objs.size+2) (hp.objs.size+3)) rfl rfl rfl rfl rfl
  wp_walk using wpAny_pyIter_tuple p1,wpAny_pyIter_list p2
  refine ⟨_,rfl,?_⟩;have fin:=q _ hp.objs.size rfl f.1 f.2.1 f.2.2.1 f.2.2.2.1 f.2.2.2.2.1 f.2.2.2.2.2.1 f.2.2.2.2.2.2;have gen:∀m1 m2 m3 m4:Nat,m1=hp.objs.size+1->m2=hp.objs.size+2->m3=hp.objs.size+3->m4=hp.objs.size+4->R (.ok (.ret (.ref m4))) ⟨((((hp.push (itO t 0)).push (liO u 0)).push (prO (.ref hp.objs.size) (.ref m1))).push (prO .none .none)).push (zpO .none (.bool false) m2 m3),g,d,tk,os⟩:=by
   intro m1 m2 m3 m4 q1 q2 q3 q4;subst q1 q2 q3 q4;exact fin
  exact gen _ _ _ _ (Heap.size_push ..) ((Heap.size_push ..).trans (congrArg (·+1) (Heap.size_push ..))) ((Heap.size_push ..).trans (congrArg (·+1) ((Heap.size_push ..).trans (congrArg (·+1) (Heap.size_push ..))))) ((Heap.size_push ..).trans (congrArg (·+1) ((Heap.size_push ..).trans (congrArg (·+1) ((Heap.size_push ..).trans (congrArg (·+1) (Heap.size_push ..)))))))
section
variable {prog:Program} {w:World} {A:Around} {E:Value->Shared->Prop} {s:Shared}
theorem aBn {t u:Addr} {xs ys:Array Value} {Q:Value->Shared->Prop} (ht:s.heap.IsTuple t xs) (hu:s.heap.IsList u ys)
  (q:∀h' n,n=s.heap.objs.size->h'.get? n=some (itO t 0)->h'.get? (n+1)=some (liO u 0)->h'.get? (n+2)=some (prO (.ref n) (.ref (n+1)))->h'.get? (n+3)=some (prO .none .none)->h'.get? (n+4)=some (zpO .none (.bool false) (n+2) (n+3))->
   (∀x o,s.heap.get? x=some o->h'.get? x=some o)->h'.objs.size=n+5->Q (.ref (n+4)) {s with heap:=h'}) :
  wpAny (model prog w) A (call (.type "zip") [.ref t,.ref u]) Q E s:=
 callType_new F.called_zip (by decide) (F.typeCall_zip_2 _ _) (F.newCall_zip_2 _ _) (fun obj=>F.args_object_init_3 obj _ _) F.entry_zip_new (KC t u xs ys)
  ⟨ht,hu,fun h' n e a1 a2 a3 a4 a5 k z=>⟨⟨_,a5,rfl⟩,q h' n e a1 a2 a3 a4 a5 k z⟩⟩
end
noncomputable def ZS (z TI TO i1 i2 l1 l2:Addr) (o1 o2:Obj) (k:Nat) (h:Heap):Prop:=∃f0 f1 a b,W z TI TO i1 i2 l1 l2 o1 o2 f0 f1 a b k k h/\
 ((f0=.none/\f1=.bool false)\/∃(T:Addr) (bb:Bool) (u v:Value),f0=rawInt T/\f1=.bool bb/\h.get? T=some (prO u v)/\T≠z/\T≠TO/\T≠i1/\T≠i2)
section
variable {prog:Program} {w:World} {A:Around} {E:Value->Shared->Prop} {s:Shared} {z TI TO i1 i2 l1 l2 d:Addr} {n1 n2:Nat} {d1 d2:Option Addr} {s1 s2:Array (Option Value)} {x y:Value} {k:Nat} {xs ys:Array Value}
theorem ZS.keep {h h':Heap} {od:Obj} (Z:ZS z TI TO i1 i2 l1 l2 (tuO xs n1 d1 s1) (lsO ys n2 d2 s2) k h) (ed:h.get? d=some od) (hd:od.cls=.type "dict") (e:∀c o,c≠d->h.get? c=some o->h'.get? c=some o):ZS z TI TO i1 i2 l1 l2 (tuO xs n1 d1 s1) (lsO ys n2 d2 s2) k h':=by
 obtain ⟨f0,f1,a,b,hw,hf⟩:=Z;refine ⟨f0,f1,a,b,⟨e _ _ (Wz.apart hw.z_ rfl ed hd (by decide)) hw.z_,e _ _ (Wz.apart hw.ti rfl ed hd (by decide)) hw.ti,e _ _ (Wz.apart hw.to rfl ed hd (by decide)) hw.to,e _ _ (Wz.apart hw.j1 rfl ed hd (by decide)) hw.j1,e _ _ (Wz.apart hw.j2 rfl ed hd (by decide)) hw.j2,e _ _ (Wz.apart hw.t1 rfl ed hd (by decide)) hw.t1,e _ _ (Wz.apart hw.t2 rfl ed hd (by decide)) hw.t2⟩,?_⟩;rcases hf with hf|⟨T,bb,u,v,h1,h2,h3,h4⟩
 ·exact .inl hf
 ·exact .inr ⟨T,bb,u,v,h1,h2,e _ _ (Wz.apart h3 rfl ed hd (by decide)) h3,h4⟩
theorem YB {Q:Option Value->Shared->Prop} (ap:Apart z TI TO i1 i2 l1 l2) (Z:ZS z TI TO i1 i2 l1 l2 (tuO xs n1 d1 s1) (lsO ys n2 d2 s2) k s.heap) (hx:xs[k]?=some x) (hy:ys[k]?=some y)
  (q:∀h' p,ZS z TI TO i1 i2 l1 l2 (tuO xs n1 d1 s1) (lsO ys n2 d2 s2) (k+1) h'->h'.get? p=some (prO x y)->QV z TO i1 i2 s.heap h'->Q (some (.ref p)) {s with heap:=h'}):wpAny (model prog w) A (pyNext (.ref z)) Q E s:=by
 obtain ⟨f0,f1,a,b,hw,hf⟩:=Z;refine wpAny_bind (wpAny_attempt (wpAny_callSpecial?_slot hw.ty F.slot_zip_next (wpAny_call_entry F.slot_zip_next hw.ty F.entry_zip_next ?_ (F.args_zip_next_1 _))));rcases hf with ⟨rfl,rfl⟩|⟨T,bb,u,v,rfl,rfl,hT,t1,t2,t3,t4⟩
 ·refine first ap hw hx hy fun h' p w' ep pp sd=>wpAny_pure (q h' p ⟨_,_,_,_,w',.inr ⟨p,false,x,y,rfl,rfl,ep,?_⟩⟩ ep sd)
  subst pp;have lt:∀{c o},s.heap.get? c=some o->s.heap.objs.size≠c:=fun e=>Nat.ne_of_gt (Heap.lt_size e)
  exact ⟨lt hw.z_,lt hw.to,lt hw.j1,lt hw.j2⟩
 ·exact more ap hw hT hx hy fun h' p w' ep sd=>wpAny_pure (q h' p ⟨_,_,_,_,w',.inr ⟨T,true,u,v,rfl,rfl,sd _ _ t1 t2 t3 t4 hT,t1,t2,t3,t4⟩⟩ ep sd)
theorem aBo {Q:Option Value->Shared->Prop} (hh:A.handled=none) (ap:Apart z TI TO i1 i2 l1 l2) (Z:ZS z TI TO i1 i2 l1 l2 (tuO xs n1 d1 s1) (lsO ys n2 d2 s2) k s.heap) (hx:xs[k]?=none)
  (q:∀h',QV z TO i1 i2 s.heap h'->Q none {s with heap:=h'}):wpAny (model prog w) A (pyNext (.ref z)) Q E s:=by
 obtain ⟨f0,f1,a,b,hw,hf⟩:=Z;refine wpAny_bind (wpAny_attempt (wpAny_callSpecial?_slot hw.ty F.slot_zip_next (wpAny_call_entry F.slot_zip_next hw.ty F.entry_zip_next ?_ (F.args_zip_next_1 _))));have stop:∀h' e,QV z TO i1 i2 s.heap h'->(∃o,h'.get? e=some o/\o.cls=.type "StopIteration")->wpAny (model prog w) A (do if <- isInstance (.ref e) (.type "StopIteration") then pure none else throw (.ref e)) Q E {s with heap:=h'}:=fun h' e sd he=>wpAny_bind (wpAny_isInstance (T := "StopIteration") (b:=true) he isSubtype_stop (wpAny_pure (q h' sd)))
 rcases hf with ⟨rfl,rfl⟩|⟨T,bb,u,v,rfl,rfl,hT,_⟩
 ·exact Q8 hh ap hw hx fun h' e sd he=>stop h' e sd he
 ·exact X_ hh ap hw hT hx fun h' e sd he=>stop h' e sd he
end
section
variable {prog:Program} {w:World} {K:Type} [DecidableEq K] {knd:KeyKind prog w K} {A:Around} {R:Except Value Flow->Shared->Prop} {z TI TO i1 i2 l1 l2 d:Addr} {n1 n2:Nat} {d1 d2:Option Addr} {s1 s2:Array (Option Value)} {xs ys:Array Value} {ks:List K}
theorem qZ (hh:A.handled=none) (ap:Apart z TI TO i1 i2 l1 l2) (hdz:d≠z) (hdT:d≠TO) (hd1:d≠i1) (hd2:d≠i2) (hsz:ys.size=xs.size) (hk:∀(i:Nat) (x:Value),xs[i]?=some x->∃k,ks[i]?=some k/\knd.is k x=true) :
  ∀(m k:Nat) (s:Shared) (kvs:List (K×Value)),k+m=xs.size->kvs.length+m<=sizeLine->ZS z TI TO i1 i2 l1 l2 (tuO xs n1 d1 s1) (lsO ys n2 d2 s2) k s.heap->s.heap.DictOf knd d kvs->
  (∀h' tk,h'.DictOf knd d (merged kvs ((ks.zip ys.toList).drop k))->(∀c o,c≠d->c≠z->c≠TO->c≠i1->c≠i2->s.heap.get? c=some o->h'.get? c=some o)->R (.ok (.ret .none)) {s with heap:=h',toks:=tk})->
  codeAny (model prog w) A (.builtin "dict.update.loop" ⟨[.ref d,.ref z,rawInt k,.none],[]⟩) R s:=by
 intro m;induction m with
 | zero=>
  intro k s kvs hkm hl Z hd q;refine codeAny_builtin gR ?_;rw [Around.under_plainId (show plainId "dict.update.loop" = true by decide +kernel) _];refine wpAny_bind (m:=pyNext (.ref z)) (aBo hh ap Z (Array.getElem?_eq_none (by lia)) fun h' kp=>?_);refine wpAny_bind (m:=Builtin.Dict.addKeywords d []) ?_;unfold Builtin.Dict.addKeywords;rw [List.forIn_nil];refine wpAny_bind (wpAny_pure (wpAny_pure (wpAny_pure ?_)));have e:(ks.zip ys.toList).drop k=[]:=List.drop_eq_nil_of_le (by rw [List.length_zip];have:ys.toList.length=ys.size:=Array.length_toList;lia);rw [e] at q;obtain ⟨o,es,ep,ho,r⟩:=hd;exact q _ s.toks ⟨o,es,ep,kp d o hdz hdT hd1 hd2 ho,r⟩ fun c o _ c1 c2 c3 c4 e=>kp c o c1 c2 c3 c4 e
 | succ m ih=>
  intro k s kvs hkm hl Z hd q;have hlt:k<xs.size:=by lia
  have hlt2:k<ys.size:=by lia
  have hx:xs[k]?=some xs[k]:=Array.getElem?_eq_getElem hlt;have hy:ys[k]?=some ys[k]:=Array.getElem?_eq_getElem hlt2;obtain ⟨key,hkey,his⟩:=hk k _ hx;refine codeAny_builtin gR ?_;rw [Around.under_plainId (show plainId "dict.update.loop" = true by decide +kernel) _];refine wpAny_bind (m:=pyNext (.ref z)) (YB ap Z hx hy fun h' p Z' hp kp=>?_);refine wpAny_bind (wpAny_holding (wpAny_bind (wpAny_tryCatch ?_)));refine wpAny_bind (wpAny_typeOf (T := "tuple") ⟨_,hp,rfl⟩ ?_);rw [if_pos (by decide)];refine wpAny_bind (wpAny_seqItems hp rfl (wpAny_pure ?_));show wpAny _ _ (holding [xs[k],ys[k]] (dictSet d xs[k] ys[k])) _ _ _;have hd':h'.DictOf knd d kvs:=let ⟨o,es,ep,ho,r⟩:=hd;⟨o,es,ep,kp d o hdz hdT hd1 hd2 ho,r⟩
  obtain ⟨od,es,ep,ho,hc,_⟩:=id hd';refine wpAny_holding (wpAny_dictSet_pairs his hd' (fun h2 hd2' sb=>?_) (by lia));refine wpAny_pure ⟨Code.quiet_builtin _ (by decide +kernel),?_⟩;have ek:(rawInt (k+1):Value)=rawInt ((k+1:Nat):Int):=rfl;rw [ek];have hzip:(ks.zip ys.toList).drop k=(key,ys[k])::(ks.zip ys.toList).drop (k+1):=by
   have hlz:(ks.zip ys.toList)[k]?=some (key,ys[k]):=by
    rw [List.getElem?_zip_eq_some];exact ⟨hkey,by rw [Array.getElem?_toList];exact hy⟩
   obtain ⟨h1,h2⟩:=List.getElem?_eq_some_iff.mp hlz;rw [List.drop_eq_getElem_cons h1,h2]
  have ls:(stored kvs key ys[k]).length<=kvs.length+1:=by
   unfold stored;split
   ·rw [List.length_map];lia
   ·rw [List.length_append];exact Nat.le_refl _
  refine ih (k+1) _ (stored kvs key ys[k]) (by lia) (by lia) (Z'.keep ho hc.1 fun c o hcd e=>(sb.2 c hcd).trans e) hd2' fun h3 tk hd3 kp3=>?_
  refine q h3 tk (by rw [hzip];exact hd3) fun c o c0 c1 c2 c3 c4 e=>kp3 c o c0 c1 c2 c3 c4 ((sb.2 c c0).trans (kp c o c1 c2 c3 c4 e))
end
section
variable {prog:Program} {w:World} {K:Type} [DecidableEq K] {knd:KeyKind prog w K} {A:Around} {E:Value->Shared->Prop} {hp:Heap} {g:Array GenState} {dr:Drawn} {tk:Nat} {os:OsState} {z TI TO i1 i2 l1 l2:Addr} {n1 n2:Nat} {d1 d2:Option Addr} {s1 s2:Array (Option Value)} {xs ys:Array Value} {ks:List K}
theorem Q9 {Q:Value->Shared->Prop} (hh:A.handled=none) (ap:Apart z TI TO i1 i2 l1 l2) {a b:Value} (hw:W z TI TO i1 i2 l1 l2 (tuO xs n1 d1 s1) (lsO ys n2 d2 s2) .none (.bool false) a b 0 0 hp) (hsz:ys.size=xs.size) (hxs:xs.size<=1000) (hk:∀(i:Nat) (x:Value),xs[i]?=some x->∃k,ks[i]?=some k/\knd.is k x=true)
  (q:∀h' tk',h'.DictOf knd hp.objs.size (merged [] (ks.zip ys.toList))->QV z TO i1 i2 hp h'->Q (.ref hp.objs.size) ⟨h',g,dr,tk',os⟩) :
  wpAny (model prog w) A (call (.type "dict") [.ref z]) Q E ⟨hp,g,dr,tk,os⟩:=by
 have hnew:(hp.push {cls:=.type "dict",data:=.dict #[]}).DictOf knd hp.objs.size []:=Heap.DictOf.new hp;have up:∀c o,hp.get? c=some o->(hp.push {cls:=.type "dict",data:=.dict #[]}).get? c=some o:=fun c o e=>Heap.get?_push_of_some _ e
 have lt:∀{c o},hp.get? c=some o->hp.objs.size≠c:=fun e=>Nat.ne_of_gt (Heap.lt_size e)
 refine callType_codes (Q₁:=fun v s₁=>v=.ref hp.objs.size/\s₁=⟨hp.push {cls:=.type "dict",data:=.dict #[]},g,dr,tk,os⟩) F.kt_called_dict (F.kt_typeCall_dict_1 _) F.entry_dict_init (kt_code_dict_new _ ⟨rfl,rfl⟩) fun v s₁ hv=>?_
 obtain ⟨rfl,rfl⟩:=hv;have ty:(⟨hp.push {cls:=.type "dict",data:=.dict #[]},g,dr,tk,os⟩:Shared).TypeIs (.ref hp.objs.size) "dict":=hnew.typeIs;have ez:=up _ _ hw.z_;have tz:(⟨hp.push {cls:=.type "dict",data:=.dict #[]},g,dr,tk,os⟩:Shared).TypeIs (.ref z) "zip":=⟨_,ez,rfl⟩
 refine ⟨ty,F.args_dict_init_2 _ _,wpAny_bind (m:=Builtin.Dict.selfAndRest "__init__" _) (wpAny_bind (wpAny_notOrdered_dict ty (wpAny_pure ?_)))⟩;refine wpAny_bind (m:=typeOf (.ref z)) (wpAny_typeOf tz ?_);rw [if_pos (by decide)];refine wpAny_bind (lacks ez hh fun h' tk' kp=>?_);rw [if_pos (show (none:Option Value).isNone=true from rfl)];refine wpAny_bind (wpAny_rule (wpAny_bind (wpAny_pyIter_zip (TI:=TI) (TO:=TO) (f0:=.none) (kp _ _ ez) (wpAny_pure ⟨Code.quiet_builtin _ (by decide +kernel),?_⟩))));have hd':h'.DictOf knd hp.objs.size []:=let ⟨o,es,ep,ho,r⟩:=hnew;⟨o,es,ep,kp _ _ ho,r⟩
 refine qZ (A:=A.in1) (ks:=ks) (show A.in1.handled=none from hh) ap (lt hw.z_) (lt hw.to) (lt hw.j1) (lt hw.j2) hsz hk xs.size 0 ⟨h',g,dr,tk',os⟩ [] (by lia) (by rw [List.length_nil,sizeLine_eq];lia) ⟨_,_,_,_,hw.up fun c o _ e=>kp c o (up c o e),.inl ⟨rfl,rfl⟩⟩ hd' fun h2 tk2 hd2 kp2=>?_
 exact ⟨rfl,q h2 tk2 hd2 fun c o c1 c2 c3 c4 e=>kp2 c o (fun x=>lt e x.symm) c1 c2 c3 c4 (kp c o (up c o e))⟩
end
end Wy
end
section
namespace Mi
open PySem L2 PySem.SeqAt PySem.Spec PyProof.Rows
noncomputable def kI:List D->Res D
 | [.tup xs,.lst ys]=>if decide (xs.length<=1000)&&decide (ys.length=xs.length)&&xs.all fH&&D.aG ys then .ok (.dct (mV xs ys [])) else .bad
 | _=>.bad
variable [KFrag]
theorem Rep.aEh {P:Addr->Prop} {H:Hp} {v:V} {ds:List D} (r:Rep P H v (.lst ds)):∃a vs,v=.ref a/\H a=some (.lst vs)/\aW P H vs ds:=by
 cases r with
 | lst e _ r=>exact ⟨_,_,rfl,e,r⟩
section
variable {X:Cx} {a b:Expr} {fs:FA} {rr:Bool} {p p2 pos pos2:Pos}
theorem Q_ (hg:Gl X "dict") (hm:X.mg "dict" = none) (hg2:Gl X "zip") (hm2:X.mg "zip" = none) (ha:PA X [a,b] (gA fs rr)) (hc:X.calm=true:=by rfl) (hs2:starEach [a,b] X.env=(false,eval a X.env)::starEach [b] X.env:=by rfl) (hpl2:(backTo pos2 (starEach [b] X.env)).any (·.1)=false:=by rfl)
  (hs:starEach [.Call (.Name "zip" p2) [a,b] [] pos2] X.env=(false,eval (.Call (.Name "zip" p2) [a,b] [] pos2) X.env)::starEach [] X.env:=by rfl) :
  PE X (.Call (.Name "dict" p) [.Call (.Name "zip" p2) [a,b] [] pos2] [] pos) (gE (aQ kI fs) true):=by
 intro pins s σ H Q I ⟨ρ,d,E,h,q⟩;obtain ⟨xs,h1,h2⟩:=bG h;unfold kI at h2;split at h2
 ·rename_i xs ys;split at h2
  ·rename_i hb;cases h2;simp only [Bool.and_eq_true,decide_eq_true_eq] at hb;obtain ⟨⟨⟨hb1,hb2⟩,hb3⟩,hb4⟩:=hb;refine wpAny_Call_Name_kw (jA I hg hm qX ?_);refine PyProof.Rows.callWith_type1 ?_ hs rfl;rw [hs];show wpAny _ _ (spliced ((false,eval (.Call (.Name "zip" p2) [a,b] [] pos2) X.env)::backTo pos (starEach [] X.env))) _ _ s;refine Calls.spliced_cons ?_;refine wpAny_Call_Name_kw (jA I hg2 hm2 boot_zip ?_);refine PyProof.Rows.callWith_type1 (thn (ha pos2 pins s σ H (fun vs H1=>bK H H1/\aW All H1 vs [.tup xs,.lst ys]) I ⟨ρ,_,E,h1,fun vs H1 s1 r1 _=>⟨s1,r1⟩⟩) fun us s1 ⟨vs,H1,I1,r1,sm,rp⟩=>?_) hs2 hpl2;cases rp with
   | cons rp1 rp=>
    cases rp with
    | cons rp2 rp=>
     cases rp;obtain ⟨l1,vs1,rfl,e1,rr1⟩:=rp1.dC;obtain ⟨l2,vs2,rfl,e2,rr2⟩:=rp2.aEh;cases r1 with
     | cons q1 r1=>
      cases r1 with
      | cons q2 r1=>
       cases r1;cases q1;cases q2;obtain ⟨its1,w1,p1,_⟩:=I1.tuple (.of e1);obtain ⟨_,its2,m2,w2,g2⟩:=I1.hok _ _ e2;have t1:s1.heap.IsTuple l1 its1.toArray:=p1;have t2:s1.heap.IsList l2 its2.toArray:=⟨_,g2,rfl,_,rfl⟩
       obtain ⟨⟨c1,dd1,da1,sl1⟩,g1,hc1,m1,hd1⟩:=id p1;simp only at hc1 hd1;subst hc1 hd1;have hl1:=Heap.lt_size g1;have hl2:=Heap.lt_size g2;refine Wy.aBn t1 t2 fun h' n hn z1 z2 z3 z4 z5 kp zsz=>?_
       subst hn;refine Calls.spliced_nil ?_;have n1:=w1.length;have n2:=w2.length;have m1:=rr1.length;have m2:=rr2.length;obtain ⟨ks,k1,k2,k3⟩:=JW (pr:=X.prog) (w:=X.w) rr1 w1 hb3;refine Wy.Q9 (knd:=bL X.prog X.w) (ks:=ks) (I1.ok.hd hc) (JX hl1 hl2) ⟨z5,z3,z4,z1,z2,kp _ _ g1,kp _ _ g2⟩ (by simp only [List.size_toArray];lia) (by simp only [List.size_toArray];lia) (fun i u hu=>k3 i u (by simpa using hu)) fun h2 tk dd kp2=>?_
       have hfr:H1 h'.objs.size=none:=I1.hok.fresh (by rw [zsz];lia);have kall:∀c o,s1.heap.get? c=some o->h2.get? c=some o:=fun c o e=>by
        have:=Heap.lt_size e;exact kp2 c o (Nat.ne_of_lt (Nat.lt_of_lt_of_le this (Nat.le_add_right _ 4))) (Nat.ne_of_lt (Nat.lt_of_lt_of_le this (Nat.le_add_right _ 3))) (Nat.ne_of_lt this) (Nat.ne_of_lt (Nat.lt_of_lt_of_le this (Nat.le_add_right _ 1))) (kp c o e)
       have rel:KV (dG [] (ks.zip vs2)) (merged [] (ks.zip its2)):=(aBe w2 ks).merge .nil;have hz:(dG [] (ks.zip vs2)).length<=sizeLine:=by
        have:=gZ (ks.zip vs2) [];rw [List.length_nil,List.length_zip] at this;rw [sizeLine_eq];lia
       obtain ⟨rk,nd⟩:=xU (ks:=ks) (P:=All) (rr2) dD.nil List.nodup_nil;rw [k1] at rk;have sp:bK H1 (upd H1 h'.objs.size (.dK (dG [] (ks.zip vs2)))):=bK.upd hfr;have pv:D.aG ((mV xs ys []).map (·.2))=true:=by
        have go:∀(a b:List D) (m:List (D×D)),D.aG b=true->D.aG (m.map (·.2))=true->D.aG ((mV a b m).map (·.2))=true:=by
         intro a;induction a with
         | nil=>intro b m _ hm;cases b <;> exact hm
         | cons x a ih=>
          intro b m hb hm;cases b with
          | nil=>exact hm
          | cons y b=>
           rw [D.aG,Bool.and_eq_true] at hb;refine ih b _ hb.2 ?_;have hp:=gQ (ds:=m) (k:=x) hb.1 hm;exact hp
        exact go xs ys [] hb4 rfl
       have rk2:∀{P:Addr->Prop},dD P (upd H1 h'.objs.size (.dK (dG [] (ks.zip vs2)))) (dG [] (ks.zip vs2)) (mV xs ys []):=fun {P}=>(rk.keep (.same sp) fun _ h=>h).bH pv
       refine ⟨.ref h'.objs.size,_,I1.laid (a:=h'.objs.size) (t':=tk) (o:=.dK (dG [] (ks.zip vs2))) kall (by rw [zsz];lia) (GZ hz (beq_eq_false_iff_ne.mpr ?_) rel (by simpa using dd)),rfl,?_⟩
       ·exact Ne.symm (Nat.ne_of_lt (Nat.lt_of_lt_of_le I1.big (by rw [zsz];exact Nat.le_add_right _ 5)))
       ·exact q _ _ (sm.trans sp) (.dK aC trivial rk2 nd) fun _=>.dK aC (sm.free hfr) rk2 nd
  ·cases h2
 ·cases h2
end
end Mi
end
section
namespace Mi
open PySem L2 PySem.SeqAt PySem.Spec PyProof.Rows
noncomputable def UL (x:Str):List D->Option Nat
 | []=>some 0
 | .str y::r=>(UL x r).map fun n=>(if y==x then n+1 else n)
 | _::_=>none
noncomputable def t7:D->List D->Res D
 | .tup xs,[.str y]=>match UL y xs with|some n=>.ok (.int n)|none=>.bad
 | _,_=>.bad
noncomputable def RB (x:Str):Value->Bool
 | .str y _=>y==x
 | _=>false
variable [KFrag]
theorem UT {P:Addr->Prop} {H:Hp} {x:Str} {t:Tok}:∀{zs:List V} {ds:List D} {its:List Value} {n:Nat},UL x ds=some n->aW P H zs ds->Vals zs its->its.countP (RB x)=n/\∀u∈its,MeetsSeq.EqGives u (.str x t) (RB x u)
 | _,_,_,_,h,.nil,.nil=>by cases h;exact ⟨rfl,fun u hu=>by cases hu⟩
 | _,d::ds,_,n,h,.cons r rt,.cons v vt=>by
  cases d with
  | str y=>
   obtain ⟨m,h1,rfl⟩:=Option.map_eq_some_iff.mp h;obtain ⟨i1,i2⟩:=UT (t:=t) h1 rt vt;cases r;obtain ⟨tk,rfl⟩:=v;refine ⟨?_,fun u hu=>?_⟩
   ·rw [List.countP_cons,i1];show m+(if (y==x)=true then 1 else 0)=if (y==x)=true then m+1 else m
    split <;> rfl
   ·rcases List.mem_cons.mp hu with e|e
    ·subst e;exact eqGives_str y x tk t
    ·exact i2 u e
  | _=>cases h
theorem KD {prog:Program} {w:World} {A:Around} {E:Value->Shared->Prop} {s:Shared} {l:Addr} {items:Array Value} {x:Value} (e:Value->Bool) {R:PySem.Fin->Shared->Prop} (ht:IsTup s.heap l items) (he:∀y,y∈items->MeetsSeq.EqGives y x (e y)) (h:R (.done (.ret (.int (items.toList.countP e:Nat) s.toks))) {s with toks:=s.toks+1}) :
  wpAny (model prog w) A (Builtin.«tuple.count» ⟨[.ref l,x],[]⟩) R E s:=by
 show wpAny _ _ (Builtin.Tuple.tupleItemsOf (.ref l) >>= _) _ _ s;refine wpAny_bind (tupleItemsOf_ ht ?_);refine wpAny_bind (wpAny_forIn_array' _ (fun rest (b:Nat) s'=>s'=s/\(∀y,y∈rest->y∈items)/\b+rest.countP e=items.toList.countP e) _ ?_ ?_ _ _ ⟨rfl,fun y hy=>by simpa using hy,by simp⟩)
 ·rintro y rest b s' ⟨rfl,hm,hb⟩;refine wpAny_bind (he y (hm y (by simp)) prog w _ _ _ _ ?_);rw [List.countP_cons] at hb;cases hy:e y with
  | true=>
   rw [hy] at hb;exact wpAny_pure ⟨rfl,fun z hz=>hm z (by simp [hz]),by rw [if_pos rfl] at hb;lia⟩
  | false=>
   rw [hy] at hb;exact wpAny_pure ⟨rfl,fun z hz=>hm z (by simp [hz]),by rw [if_neg Bool.false_ne_true] at hb;lia⟩
 ·rintro b s' ⟨rfl,_,hb⟩;rw [List.countP_nil,Nat.add_zero] at hb;subst hb;show wpAny _ _ (retInt _) _ _ s';unfold retInt;exact wpAny_bind (wpAny_mkInt (wpAny_pure h))
section
variable {X:Cx}
theorem KH:MtR X "tuple.count" (rm t7 true):=by
 intro pins s σ H x xs v us Q I rv vr ⟨a,ds,d,ra,rs,h,k⟩;unfold t7 at h;split at h
 ·rename_i ys y;split at h
  ·rename_i n hn;cases h;obtain ⟨vv,uu,rfl,rfl,r,rk⟩:=gM rs vr;obtain ⟨l,zs,rfl,ee,rr⟩:=ra.dC;cases rv;cases r;obtain ⟨tk,rfl⟩:=rk;obtain ⟨its,vr',pl⟩:=fY I ee;obtain ⟨c1,c2⟩:=UT (t:=tk) hn rr vr';obtain ⟨⟨cls,dd,data,sl⟩,ho,hc,n',hd⟩:=id pl;refine wpAny_call (codeAny_call_builtin F.slot_tuple_count.plain F.entry_tuple_count (F.slot_tuple_count.check _ _ _ _ _ _ _ _ ⟨_,ho,hc⟩ (F.args_tuple_count_2 _ _) ?_));refine KD (A:=X.A.in1) (RB y) pl (fun w hw=>c2 w (by simpa using hw)) ?_;rw [show (its.toArray.toList.countP (RB y))=n from by simpa using c1];exact ⟨.int n,H,I.tok _,⟨_,rfl⟩,k.int⟩
  ·cases h
 ·cases h
theorem KJ {d:D} {ds:List D} {r:D} {v:V} {H:Hp} (h:t7 d ds=.ok r) (rp:Rep All H v d):tyV X.K "tuple" v H:=by
 unfold t7 at h;split at h
 ·obtain ⟨a,xs,rfl,e,_⟩:=rp.dC;exact .inr (.inl ⟨rfl,.inr ⟨_,e⟩⟩)
 ·cases h
noncomputable def Iti (a:Addr) (o:Obj) (u:HO) (kvs:List (Key×V)):It where
 go:=fun i H=>H a=some (.frz o u)/\∃p,kvs[i]?=some p
 yld:=fun i H x H'=>∃b p,kvs[i]?=some p/\x=.ref b/\H b=none/\H'=upd H b (.tup [kV p.1,p.2])
 stop:=fun i H=>H a=some (.frz o u)/\kvs.length<=i
theorem B_ {P:Program} {w:World} {K:PySem.W.Frag} {elts:List Expr} {x1} {tp:Pos} {a it:Addr} {o:Obj} {u:HO} {kvs:List (Key×V)} {vs:List (Key×Value)} {ep:Nat} (hne:a≠it) (hd:∀h:Heap,h.get? a=some o->h.DictAt (bL P w) a vs ep) (rel:KV kvs vs) :
  Turn P w K (.Tuple elts x1 tp) (Iti a o u kvs) [it] it (fun i h=>∃ok ov,IsItemIter h it a i vs.length ep ok ov) where
 mem:=by simp
 obj:=fun i h ⟨ok,ov,e⟩ b hb=>by
  have eb:b=it:=by simpa using hb
  subst eb;exact ⟨_,e,fun v z=>by cases z⟩
 keep:=fun i h h' ⟨ok,ov,e⟩ k=>⟨ok,ov,k it (by simp) _ e⟩
 item:=by
  intro X hP hw hK hc i pins s σ H E I hf ⟨ok,ov,st⟩ hg;subst hP hw hK;obtain ⟨ea,⟨k,x⟩,hx⟩:=hg;obtain ⟨px,_⟩:=I.hok a _ ea;obtain ⟨v,hv,rv⟩:=T8 rel hx;refine wpAny_pyNext_items_item st (hd _ px) hv fun key h' hk st' ht hsz kp=>?_
  refine ⟨_,rfl,wpAny_letOwnedTupleGo_items st' fun h'' st'' sb=>?_⟩;have sb':Heap.SameBut it h' h'':=sb;have lt:s.heap.objs.size≠it:=Nat.ne_of_gt (Heap.lt_size st);have kk:∀c o,c∉[it]->s.heap.get? c=some o->h''.get? c=some o:=fun c o hc e=>by
   have hc':c≠it:=by simpa using hc
   exact (sb'.2 c hc').trans (kp c o hc' e)
  refine ⟨.ref s.heap.objs.size,upd H s.heap.objs.size (.tup [kV k,x]),vO (s:=s) (h':=h'') (t':=s.toks) (ch:=[it]) I kk hf (Nat.le_refl _) ?_,rfl,⟨_,_,hx,rfl,I.hok.fresh (Nat.le_refl _),rfl⟩,⟨_,_,st''⟩,fun c hc=>?_⟩
  ·exact ⟨by show 2<=sizeLine;rw [sizeLine_eq];decide,[key,v],.cons (aBd hk) (.cons rv .nil),⟨_,(sb'.2 _ lt).trans ht,rfl,0,rfl⟩⟩
  ·have hn:=(hf c hc).1;have hc':c=it:=by simpa using hc
   subst hc';rw [aJ (Ne.symm lt)];exact hn
 done:=by
  intro X hP hw hK hc i pins s σ H E I hf ⟨ok,ov,st⟩ hg;subst hP hw hK;obtain ⟨ea,hx⟩:=hg;obtain ⟨px,_⟩:=I.hok a _ ea;obtain ⟨f0,f1,f2,f3,f4,f5⟩:=hf it (by simp);have hl:kvs.length=vs.length:=Paired.length rel;exact wpAny_pyNext_items_end (I.ok.hd hc) st (hd _ px) (List.getElem?_eq_none_iff.mpr (by lia)) fun h' eb=>⟨rfl,I.turned (t':=s.toks) (fun b o hb e=>eb b o hb e) f0 f1 f3 f4 f5⟩
 self:=fun _ _ _ _ _ ⟨ok,ov,st⟩ h=>PySem.W.kcp_self st h
theorem RC:MtR X "dict.items" (fun x xs H Q=>∃a kvs,x=.ref a/\xs=[]/\DV H a kvs/\∀vw,H vw=none->Q (.ref vw) (upd H vw (.ext fun h=>h.IsItemsView vw a))):=by
 intro pins s σ H x xs v us Q I rx rxs ⟨a,kvs,e1,e2,hu,q⟩;subst e1 e2;cases rx;cases rxs;obtain ⟨z,hs,vs,rel,dd⟩:=JR I hu;have hfr:H s.heap.objs.size=none:=I.hok.fresh (Nat.le_refl _);refine call_meetsIn PySem.F.slot_dict_items dd.typeIs PySem.F.entry_dict_items (PySem.F.args_dict_items_1 _) (meets_dict_items (bL X.prog X.w) a hs) ⟨⟨vs,dd⟩,?_⟩;refine ⟨.ref s.heap.objs.size,_,I.laid (t':=s.toks) (o:=.ext fun h=>h.IsItemsView s.heap.objs.size a) (fun b o e=>Heap.get?_push_of_some _ e) (Nat.le_refl _) ?_,rfl,q _ hfr⟩;have hg:=Heap.get?_push_size s.heap (o:={cls:=.type "dict_items",data:=.fields #[.ref a]}) rfl;exact ⟨⟨_,hg,rfl,rfl⟩,⟨_,hg⟩,fun h1 h2 ⟨o,e,r⟩ k=>⟨o,k o e,r⟩⟩
theorem RD {elts:List Expr} {x1} {tp:Pos} {x:Str} {i:Nat} {np ap cp:Pos} (hN:X.N[i]?=some x) (hv:Vis X.env.scope x) (hd:nDb x:=by decide) (hcd:nCd x:=by decide) (hbase:attributeBase (.Name x np) "items" X.env (eval (.Name x np) X.env)=eval (.Name x np) X.env:=by rfl) (hline:(ap.endLine==cp.line)=true:=by rfl) :
  PI X (.Tuple elts x1 tp) (.Call (.Attribute (.Name x np) "items" ap) [] [] cp) (fun σ H R=>∃a kvs u,σ[i]?=some (some (.ref a))/\DV H a kvs/\H a=some u/\∀o H1,bK H H1->R (Iti a o u kvs) (upd H1 a (.frz o u))):=by
 intro pins s σ H R I ⟨a,kvs,u,hσ,hu,hua,q⟩;have ty:tyV X.K "dict" (.ref a) H:=by
  rcases hu with h|⟨_,h⟩
  ·exact .inr (.inr (.inl ⟨rfl,.inl ⟨_,h⟩⟩))
  ·exact .inr (.inr (.inl ⟨rfl,.inr ⟨_,h⟩⟩))
 have hp:=wQ (X:=X) (apos:=ap) (cpos:=cp) PySem.F.plainAttrs_dict PySem.F.slot_dict_items PySem.F.type_dict_items RC (aN (pos:=np) hN hv hd hcd) hbase hline;refine thn (hp pins s σ H (fun v H1=>∃vw,v=.ref vw/\H1 vw=some (.ext fun h=>h.IsItemsView vw a)/\bK H H1) I ⟨.ref a,hσ,ty,a,kvs,rfl,rfl,hu,fun vw hvw=>⟨vw,rfl,aC,bK.upd hvw⟩⟩) fun y s1 ⟨v,H1,I1,r1,vw,e,evw,sm⟩=>?_
 subst e;cases r1;have hu1:DV H1 a kvs:=by
  rcases hu with h|⟨h0,h⟩
  ·exact .inl (sm _ _ h)
  ·exact .inr ⟨h0,sm _ _ h⟩
 obtain ⟨z,hs,vs,rel,dd⟩:=JR I1 hu1;obtain ⟨ep,da⟩:=dd.dictAt;obtain ⟨o,es,ho,r⟩:=id da;have hda:∀h:Heap,h.get? a=some o->h.DictAt (bL X.prog X.w) a vs ep:=fun h e=>⟨o,es,e,r⟩
 obtain ⟨pv,_⟩:=I1.hok vw _ evw;obtain ⟨u',hu2,fu⟩:=aB9 I1 hu1 ho;rw [sm _ _ hua] at hu2;cases hu2;have If:Inv X pins σ (upd H1 a (.frz o u)) s1:=I1.write (t':=s1.toks) (x:=a) (e:=a) (h':=s1.heap) (o:=.frz o u) (aB8 hu1) (.inl rfl) (fun _ _ _ q=>q) ⟨o,ho⟩ ⟨ho,fu _ _ ho⟩;refine wpAny_pyIter_items pv da ?_;have I2:Inv X pins σ (upd H1 a (.frz o u)) {s1 with heap:=s1.heap.push {cls:=.type "dict_itemiterator",data:=.fields #[.none,.bool false,.ref a,.int 0 0,.int vs.length 0,.int ep 0,.none,.none]}}:=If.kept (t':=s1.toks) fun b o e=>Heap.get?_push_of_some _ e
 refine ⟨s1.heap.objs.size,[s1.heap.objs.size],fun i h=>∃ok ov,IsItemIter h s1.heap.objs.size a i vs.length ep ok ov,Iti a o u kvs,_,rfl,I2,B_ (Nat.ne_of_lt (Heap.lt_size ho)) hda rel,⟨_,_,Heap.get?_push_size _ rfl⟩,fun b hb=>?_,q o H1 sm⟩;have e:b=s1.heap.objs.size:=by simpa using hb
 subst e;exact If.ZX (Nat.le_refl _) (If.hok.fresh (Nat.le_refl _))
end
end Mi
end
section
namespace Mi
open PySem L2 PySem.W PySem.SeqAt PySem.Spec PyProof.Rows
structure Cn where
 c:Int
 p:Int
 d:Int
noncomputable def Cn.use (k:Cn) (u z:Int):Cn:=if u=0 then {k with d:=k.d+z} else {k with p:=k.p+(u-1)*z}
def Cn.call (k:Cn):Cn:={k with c:=k.c+1}
noncomputable def prF (hd mk rl:List (D×D)) (m:Int) (k:Cn):List (Str×D):=[("heads",.dct hd),("makers",.dct mk),("rules",.dct rl),("most",.int m),("calls",.int k.c),("copies",.int k.p),("drops",.int k.d)]
noncomputable def prV (h1 h2 h3:V) (m:Int) (k:Cn):List (Str×V):=[("heads",h1),("makers",h2),("rules",h3),("most",.int m),("calls",.int k.c),("copies",.int k.p),("drops",.int k.d)]
noncomputable def oV (ws:List D):List (D×D)->Cn->Option Cn
 | [],k=>some k
 | (.str x,.tup [_,_,.int z])::r,k=>match UL x ws with
  | some n=>if decide (n<1000000) then oV ws r (k.use n z) else none
  | none=>none
 | _::_,_=>none
def UV:Res (List D×List (D×D)×Cn):=.err "Spent" [.exc "Spent" []]
noncomputable def NB (rl:List (D×D)) (m:Int) (k:Cn) (tk:D):List D->Res (List D×List (D×D)×Cn)
 | .tup [w0,.tup xs,z0]::more=>match getD (.dct rl) (.tup [tk,w0]) with
  | .ok (.tup [r0,r1,.tup own,.tup ws])=>if decide (xs.length+more.length<=1000)&&(D.aG xs&&(D.aG more&&D.aG ws)) then (match kI [.tup own,.lst (xs++more)] with
   | .ok (.dct kn)=>(match oV ws kn k.call with
    | some k'=>if k'.c+k'.p+k'.d > m then UV else .ok (ws,kn,k')
    | none=>.bad)
   | _=>.bad) else .bad
  | _=>.bad
 | _=>.bad
variable [KFrag]
noncomputable def aD9 (S:Addr->Prop) (H H':Hp):Prop:=∀b o,H b=some o->¬S b->H' b=some o
inductive EL (H:Hp):List (Option V)->List D->Prop
 | nil {σ:List (Option V)}:EL H σ []
 | skip {o:Option V} {σ:List (Option V)} {ρ:List D}:EL H σ ρ->EL H (o::σ) (.uD::ρ)
 | cons {v:V} {d:D} {σ:List (Option V)} {ρ:List D}:Rep All H v d->EL H σ ρ->EL H (some v::σ) (d::ρ)
theorem EL.er {H:Hp}:∀{σ:List (Option V)} {ρ:List D},EL H σ ρ->ER H σ ρ
 | _,_,.nil=>fun i hi=>absurd (by simp) hi
 | _,_,.skip t=>fun i hi=>match i,hi with
  | 0,hi=>absurd rfl hi
  | i+1,hi=>EL.er t i hi
 | _,_,.cons r t=>fun i hi=>match i,hi with
  | 0,_=>⟨_,rfl,r⟩
  | i+1,hi=>EL.er t i hi
theorem aEi {P:Program} {w:World} {K:PySem.W.Frag} {mg:Str->Option Value} {base:Heap} {x qual:Str} {st:Stmt} {f:Addr} {fd:FuncData} {N ps:List Str} {k:Nat} {sp:Sp} (F:Fun K x qual st f fd) (S:bZ N ps (aH st)) (len:∀vs H Q E,sp vs H Q E->vs.length=ps.length)
  (hbody:∀(cdv:Value) (A:Around) (outer:List Env) (s:Shared) (H:Hp) (vs:List V) (Q:VK) (E:XK),jC k (A.deeper (envOfC qual (aH st) s.heap.objs.size f cdv))->sp vs H Q E->
   ∃t,PSs (wL (CX2 P w) P w K mg base N qual (aH st) f cdv A outer s H E) (cD st) t/\t {nx:=fun _ H'=>Q .non H',rt:=Q} (start N vs) H):i_ P w K mg base (CX2 P w) (k+1) f fd ps sp:=by
 obtain ⟨oc,od,kV,doc,pm,an,cdv,ct,osl,rfl,lk,hcd⟩:=F.ex;exact V2 lk hcd S len fun A outer s H vs Q E hr hsp=>hbody cdv A outer s H vs Q E hr hsp
noncomputable def aF9 (t:TS):TS:=fun D σ H=>∃ad u0,H ad=some u0/\CV u0=true/\t {D with nx:=fun σ' H'=>∃o u,H' ad=some (.frz o u)/\D.nx σ' (upd H' ad u)} σ H
theorem aBp {X:Cx} {st:Stmt} {t:TS} (h:PS X st t):PS X st (aF9 t):=by
 intro pins s σ H D I ⟨ad,u0,h1,h2,h3⟩;have hn:∀o u,X.H₀ ad≠some (.frz o u):=fun o u z=>by
  have:=I.base.frzs ad o u z;rw [h1] at this;cases this;cases h2
 refine wpAny_mono (h pins s σ H _ I h3) (fun f s' q=>?_) fun _ _ z=>z
 cases f with
 | next=>
  obtain ⟨σ',H',I',o,u,e,q⟩:=q;exact ⟨σ',_,QT I' e hn,q⟩
 | brk=>exact q
 | cont=>exact q
 | ret v=>exact q
section
variable {K:PySem.W.Frag} {C CF CS:Addr} {l:List (Str×Srx)}
noncomputable def tCU (K:PySem.W.Frag):TS:=ZW (tB (aDh (dY 1) (tC (.int 0))))
 (ZZ K (dY 0) (ZV (wK K (dY 0) "drops") (dY 2)) "drops")
 (ZZ K (dY 0) (ZV (wK K (dY 0) "copies") (aF1 (aDf (dY 1) (tC (.int 1))) (dY 2))) "copies")
noncomputable def Z3 (C:Addr):Sp:=fun vs H Q _=>∃(a dx:Addr) (h1 h2 h3:V) (m:Int) (k:Cn) (u z:Int),vs=[.ref a,.int u,.int z]/\H a=some (.ins C dx (prV h1 h2 h3 m k))/\(-(2 ^ 64)<u-1/\u-1<2 ^ 64)/\Q .non (upd H a (.ins C dx (prV h1 h2 h3 m (k.use u z))))
theorem KN {h1 h2 h3:V} {m y:Int} {k:Cn}:mK "drops" (.int y) (prV h1 h2 h3 m k)=prV h1 h2 h3 m {k with d:=y}:=rfl
theorem CG {h1 h2 h3:V} {m y:Int} {k:Cn}:mK "copies" (.int y) (prV h1 h2 h3 m k)=prV h1 h2 h3 m {k with p:=y}:=rfl
theorem KQ {h1 h2 h3:V} {m y:Int} {k:Cn}:mK "calls" (.int y) (prV h1 h2 h3 m k)=prV h1 h2 h3 m {k with c:=y}:=rfl
theorem YC {N:List Str} (hN:N.length=3) (cl:Cls K C) (n1:bQ K C "drops") (n2:bQ K C "copies") {vs:List V} {H:Hp} {Q:VK} {E:XK} (h:Z3 C vs H Q E):tCU K {nx:=fun _ H'=>Q .non H',rt:=Q} (L2.start N vs) H:=by
 obtain ⟨a,dx,h1,h2,h3,m,k,u,z,rfl,ha,hu,q⟩:=h;have hst:L2.start N [V.ref a,.int u,.int z]=[some (.ref a),some (.int u),some (.int z)]:=by
  unfold L2.start;rw [hN];rfl
 rw [hst];refine ⟨.int u,rfl,u,0,rfl,rfl,_,rfl,?_⟩;dsimp only;by_cases hz:u=0
 ·rw [if_pos (decide_eq_true hz)];unfold Cn.use at q;rw [if_pos hz] at q;refine ⟨.ref a,rfl,a,C,dx,_,.int k.d,rfl,ha,cl,n1,rfl,.int z,rfl,k.d,z,rfl,rfl,.ref a,rfl,a,C,dx,_,rfl,ha,cl,n1,by show 7<1000;decide,?_⟩;rw [KN];exact q
 ·rw [if_neg (by simp [hz])];unfold Cn.use at q;rw [if_neg hz] at q;refine ⟨.ref a,rfl,a,C,dx,_,.int k.p,rfl,ha,cl,n2,rfl,.int u,rfl,u,1,rfl,rfl,.int z,rfl,u-1,z,rfl,rfl,hu,k.p,(u-1)*z,rfl,rfl,.ref a,rfl,a,C,dx,_,rfl,ha,cl,n2,by show 7<1000;decide,?_⟩;rw [CG];exact q
noncomputable def FrA (CF:Addr) (H:Hp) (fr:Addr) (ws:List D) (i:Nat) (kn:List (D×D)):Prop:=∃dx w1 w3,H fr=some (.ins CF dx [("words",w1),("left",.int i),("known",w3)])/\Rep All H w1 (.tup ws)/\Rep All H w3 (.dct kn)
noncomputable def aGd (CF CS:Addr) (a:Addr) (hd mk rl:List (D×D)) (m:Int) (H:Hp) (Q:VK) (E:XK):Res (List D×List (D×D)×Cn)->Prop
 | .ok (ws,kn,k')=>∀H' x,H x=none->iZ a H H'->Rep All H' (.ref a) (.ins "PlainRun" (prF hd mk rl m k'))->FrA CF H' x ws ws.length kn->Q (.ref x) H'
 | .err _ _=>∀H',iZ a H H'->E (.ref CS) none H'
 | .bad=>False
noncomputable def okR (hd mk rl:List (D×D)):Prop:=D.aG (hd.map (·.2))=true/\D.aG (mk.map (·.2))=true/\D.aG (rl.map (·.2))=true
noncomputable def KR (CF CS:Addr):Sp:=fun vs H Q E=>∃a vt vp hd mk rl m k tk ps,vs=[.ref a,vt,vp]/\okR hd mk rl/\tk.pure=true/\D.aG ps=true/\Rep All H (.ref a) (.ins "PlainRun" (prF hd mk rl m k))/\Rep All H vt tk/\Rep All H vp (.lst ps)/\aGd CF CS a hd mk rl m H Q E (NB rl m k tk ps)
def cf1:FE:=b2 getD kZ gG
noncomputable def cf2:FE:=b2 getD (Q4 "PlainRun" "rules" dU) (jF (aB iJ (aB (b2 getD fB gG) aY)))
noncomputable def cf3:FE:=aQ kI (aB (b2 getD mO uP) (aB (b2 (aZ .add) (aQ PB (aB (b2 getD fB iK) aY)) (m8 kZ (dH iK) (lW))) aY))
def aEj:FE:=bM t7 (b2 getD mO zR) (aB qI aY)
def aEk:FE:=b2 getD O_ uP
def cf7:FE:=b2 getD mO zR
noncomputable def aGe (i:Nat):TI:=fun σ H R=>∃a kvs u,σ[i]?=some (some (.ref a))/\DV H a kvs/\H a=some u/\∀o H1,bK H H1->R (Iti a o u kvs) (upd H1 a (.frz o u))
noncomputable def aFa (K:PySem.W.Frag) (C CS:Addr) (l:List (Str×Srx)) (E:XK):TS:=
 o_ (sE (gE cf1 false) (dZ 3)) (o_ (sE (gE cf2 false) (dZ 4)) (o_ (sE (gE cf3 true) (dZ 5))
  (o_ (ZZ K (dY 0) (ZV (wK K (dY 0) "calls") (tC (.int 1))) "calls")
   (o_ (aF9 (aF2 (aGe 5) (aCx K 2 (yZ (dZ 6) (yZ (dZ 7) aCw))) (qD (zL C "count_uses" (Z3 C) [] E0 (dY 0) (cJ (gE aEj true) (cJ (gE aEk false) nJ))))))
    (o_ (ZW (tB (tGt (ZV (ZV (wK K (dY 0) "calls") (wK K (dY 0) "copies")) (wK K (dY 0) "drops")) (wK K (dY 0) "most"))) (fun _ _ H=>E (.ref CS) none H) VH)
     (aA5 (tMk K "Frame" l 2 (cJ (gE cf7 false) (cJ (dY 5) nJ)))))))))
theorem aBq {d:D} {ps:List D}:cf1 [.uD,.uD,.lst (d::ps)]=.ok d:=by
 show Res.ofOpt ((ixD (ps.length+1) 0).bind fun j=>(d::ps)[j]?)=_;unfold ixD;rw [if_pos (by lia),if_pos (by lia)];rfl
theorem aGf {a:D} {r:List D}:getD (.tup (a::r)) (.int 0)=.ok a:=by
 show Res.ofOpt ((ixD (r.length+1) 0).bind fun j=>(a::r)[j]?)=_;unfold ixD;rw [if_pos (by lia),if_pos (by lia)];rfl
theorem KY {d:D} (h:d.pure=true):d≠.uD:=fun z=>by subst z;cases h
theorem bV {ρ:List D} {i:Nat} {d:D} (h:ρ.getD i .uD=d) (hn:d≠.uD):d9 i ρ=.ok d:=by
 unfold d9;rw [h];cases d <;> first|rfl|exact absurd rfl hn
theorem aBr {hd mk rl:List (D×D)} {m:Int} {k:Cn} {tk w0 u:D} {r:List D} {d:D} (ht:tk.pure=true) (h:getD (.dct rl) (.tup [tk,w0])=.ok d):cf2 [.ins "PlainRun" (prF hd mk rl m k),tk,u,.tup (w0::r)]=.ok d:=by
 have e1:Q4 "PlainRun" "rules" dU [.ins "PlainRun" (prF hd mk rl m k),tk,u,.tup (w0::r)]=.ok (.dct rl):=rfl;have e2:b2 getD fB gG [.ins "PlainRun" (prF hd mk rl m k),tk,u,.tup (w0::r)]=.ok w0:=aGf;have e3:d9 1 [.ins "PlainRun" (prF hd mk rl m k),tk,u,.tup (w0::r)]=.ok tk:=bV rfl (KY ht);exact aP e1 (eV (aF e3 (aF e2 rfl)) (by show 2<=lim;rw [bW];lia)) h
theorem aBs {a b:D} {xs own r more:List D} {w0 z0 r0 r1 d:D} (hl:xs.length+more.length<=1000) (hx:D.aG xs=true) (hm:D.aG more=true) (hp0:(D.tup [w0,.tup xs,z0]).pure=true) (h:kI [.tup own,.lst (xs++more)]=.ok d):cf3 [a,b,.lst (.tup [w0,.tup xs,z0]::more),.tup [w0,.tup xs,z0],.tup (r0::r1::.tup own::r)]=.ok d:=by
 generalize hρ:[a,b,.lst (.tup [w0,.tup xs,z0]::more),.tup [w0,.tup xs,z0],.tup (r0::r1::.tup own::r)]=ρ;have e1:b2 getD mO uP ρ=.ok (.tup own):=by
  subst hρ;show Res.ofOpt ((ixD (r.length+1+1+1) 2).bind fun j=>(r0::r1::.tup own::r)[j]?)=_;unfold ixD;rw [if_pos (by lia),if_pos (by lia)];rfl
 have e2:b2 getD fB iK ρ=.ok (.tup xs):=by subst hρ;rfl
 have e3:aQ PB (aB (b2 getD fB iK) aY) ρ=.ok (.lst xs):=bB (aF e2 rfl) (by
  show (if D.aG xs=true then Res.ok (D.lst xs) else .bad)=_;rw [if_pos hx])
 have e4:m8 kZ (dH iK) (lW) ρ=.ok (.lst more):=by
  subst hρ;show (if D.aG (.tup [w0,.tup xs,z0]::more)=true then Res.ok (D.lst (cutD (.tup [w0,.tup xs,z0]::more) (some 1) none)) else .bad)=_;rw [if_pos (by rw [D.aG,hp0,hm];rfl)];have:cutD (D.tup [w0,.tup xs,z0]::more) (some 1) none=more:=by
   show ((D.tup [w0,.tup xs,z0]::more).drop ((min (1:Int) ((more.length+1:Nat):Int)).toNat)).take ((more.length+1)-(min (1:Int) ((more.length+1:Nat):Int)).toNat)=more;have:(min (1:Int) ((more.length+1:Nat):Int)).toNat=1:=by lia
   rw [this,List.drop_succ_cons,List.drop_zero,List.take_of_length_le (by lia)]
  rw [this]
 exact bB (aF e1 (aF (aP e3 e4 (by
  show (if (decide (xs.length+more.length<=lim)&&D.aG xs&&D.aG more)=true then Res.ok (D.lst (xs++more)) else .bad)=_;rw [if_pos (by rw [hx,hm,decide_eq_true (by rw [bW];lia)];rfl)])) rfl)) h
theorem YD {a b c d e g:D} {r0 r1 r2:D} {ws:List D} {x:Str} {n:Nat} (h:UL x ws=some n):aEj [a,b,c,d,.tup [r0,r1,r2,.tup ws],e,.str x,g]=.ok (.int n):=by
 show (match UL x ws with|some n=>Res.ok (D.int n)|none=>.bad)=_;rw [h]
theorem YF {a b c d e f g:D} {r0 r1:D} {z:Int}:aEk [a,b,c,d,e,f,g,.tup [r0,r1,.int z]]=.ok (.int z):=rfl
theorem aBt {a b c d:D} {r0 r1 r2:D} {ws:List D}:cf7 [a,b,c,d,.tup [r0,r1,r2,.tup ws]]=.ok (.tup ws):=rfl
theorem rB {rl:List (D×D)} {m:Int} {k:Cn} {tk:D} {ps:List D} {res:Res (List D×List (D×D)×Cn)} (h:NB rl m k tk ps=res) (hne:res≠.bad):∃w0 xs z0 more r0 r1 own ws kn k',ps=.tup [w0,.tup xs,z0]::more/\getD (.dct rl) (.tup [tk,w0])=.ok (.tup [r0,r1,.tup own,.tup ws])/\xs.length+more.length<=1000/\D.aG xs=true/\D.aG more=true/\D.aG ws=true/\kI [.tup own,.lst (xs++more)]=.ok (.dct kn)/\oV ws kn k.call=some k'/\res=if k'.c+k'.p+k'.d > m then UV else .ok (ws,kn,k'):=by
 unfold NB at h;split at h
 ·rename_i w0 xs z0 more;split at h
  ·rename_i r0 r1 own ws hg;split at h
   ·rename_i hb;simp only [Bool.and_eq_true,decide_eq_true_eq] at hb;split at h
    ·rename_i kn hz;split at h
     ·rename_i k' hu;exact ⟨w0,xs,z0,more,r0,r1,own,ws,kn,k',rfl,hg,hb.1,hb.2.1,hb.2.2.1,hb.2.2.2,hz,hu,h.symm⟩
     ·exact absurd h.symm hne
    ·exact absurd h.symm hne
   ·exact absurd h.symm hne
  ·exact absurd h.symm hne
 ·exact absurd h.symm hne
theorem t_ {ws:List D} {p:D×D} {r:List (D×D)} {k k':Cn} (h:oV ws (p::r) k=some k'):∃x w y z n,p=(.str x,.tup [w,y,.int z])/\UL x ws=some n/\n<1000000/\oV ws r (k.use n z)=some k':=by
 obtain ⟨a,b⟩:=p;have key:∀a b,oV ws ((a,b)::r) k=some k'->∃x w y z,a=.str x/\b=.tup [w,y,.int z]:=by
  intro a b h;cases a with
  | str x=>
   cases b with
   | tup l=>
    rcases l with _|⟨w,_|⟨y,_|⟨q,_|_⟩⟩⟩
    ·cases h
    ·cases h
    ·cases h
    ·cases q with
     | int z=>exact ⟨x,w,y,z,rfl,rfl⟩
     | _=>cases h
    ·cases q <;> cases h
   | _=>cases h
  | _=>cases h
 obtain ⟨x,w,y,z,rfl,rfl⟩:=key a b h;have h:(match UL x ws with|some n=>if decide (n<1000000) then oV ws r (k.use n z) else none|none=>none)=some k':=h;split at h
 ·rename_i n hn;split at h
  ·rename_i hb;exact ⟨x,w,y,z,n,rfl,hn,of_decide_eq_true hb,h⟩
  ·cases h
 ·cases h
theorem yE {ws:List D}:∀{kn:List (D×D)} {k k':Cn},oV ws kn k=some k'->kn.all (fun p=>!isTup p.1)=true
 | [],_,_,_=>rfl
 | p::r,_,_,h=>by
  obtain ⟨x,w,y,z,n,rfl,_,_,h⟩:=t_ h;rw [List.all_cons,yE h];rfl
theorem dD.at_ {P:Addr->Prop} {H:Hp}:∀{kvs:List (Key×V)} {ds:List (D×D)} {i:Nat} {p:Key×V},dD P H kvs ds->kvs[i]?=some p->∃d,ds[i]?=some (kD p.1,d)/\Rep P H p.2 d
 | _,_,_,_,.nil,h=>by simp at h
 | _,_,0,_,.cons r t,h=>by simp at h;subst h;exact ⟨_,rfl,r⟩
 | _,_,i+1,p,.cons r t,h=>by
  obtain ⟨d,h1,h2⟩:=dD.at_ (i:=i) t (by simpa using h);exact ⟨d,by simpa using h1,h2⟩
theorem dD.len {P:Addr->Prop} {H:Hp}:∀{kvs:List (Key×V)} {ds:List (D×D)},dD P H kvs ds->kvs.length=ds.length
 | _,_,.nil=>rfl
 | _,_,.cons r t=>by rw [List.length_cons,List.length_cons,dD.len t]
theorem aBu {P:Addr->Prop} {H:Hp} {v:V} {kn:List (D×D)} (r:Rep P H v (.dct kn)) (hb:kn.all (fun p=>!isTup p.1)=true):∃kd kvs u,v=.ref kd/\P kd/\DV H kd kvs/\H kd=some u/\CV u=true/\dD P H kvs kn/\(kvs.map (·.1)).Nodup:=by
 cases r with
 | dK e p rk n=>exact ⟨_,_,_,rfl,p,.inl e,e,rfl,rk,n⟩
 | dT e p rt n=>
  cases rt with
  | nil=>exact ⟨_,[],_,rfl,p,.inr ⟨rfl,e⟩,e,rfl,.nil,by simp⟩
  | cons r t=>simp [isTup] at hb
theorem DV.rep {P:Addr->Prop} {H:Hp} {kd:Addr} {kvs:List (Key×V)} {kn:List (D×D)} (h:DV H kd kvs) (p:P kd) (r:dD P H kvs kn) (n:(kvs.map (·.1)).Nodup):Rep P H (.ref kd) (.dct kn):=by
 rcases h with h|⟨rfl,h⟩
 ·exact .dK h p r n
 ·cases r;exact .dT h p .nil (by simp)
theorem yF {own ys:List D} {kn:List (D×D)} (h:kI [.tup own,.lst ys]=.ok (.dct kn)):D.aG (kn.map (·.2))=true:=by
 have h:(if decide (own.length<=1000)&&decide (ys.length=own.length)&&own.all fH&&D.aG ys then Res.ok (D.dct (mV own ys [])) else .bad)=.ok (.dct kn):=h;split at h
 ·rename_i hb;cases h;simp only [Bool.and_eq_true,decide_eq_true_eq] at hb;have go:∀(a b:List D) (m:List (D×D)),D.aG b=true->D.aG (m.map (·.2))=true->D.aG ((mV a b m).map (·.2))=true:=by
   intro a;induction a with
   | nil=>intro b m _ hm;cases b <;> exact hm
   | cons x a ih=>
    intro b m hb hm;cases b with
    | nil=>exact hm
    | cons y b=>
     rw [D.aG,Bool.and_eq_true] at hb;exact ih b _ hb.2 (gQ (ds:=m) (k:=x) hb.1 hm)
  exact go _ _ [] hb.2 rfl
 ·cases h
theorem rC {kn:List (D×D)} (h:D.aG (kn.map (·.2))=true):okF (.dct kn)=true:=by
 unfold okF;rw [show inner (.dct kn)=D.aG (kn.map (·.2)) from rfl,h];simp
theorem rD {q d:D}:∀{rl:List (D×D)},D.aG (rl.map (·.2))=true->b7 rl q=some d->d.pure=true
 | [],_,z=>by cases z
 | (p1,p2)::r,hp,z=>by
  rw [List.map_cons,D.aG,Bool.and_eq_true] at hp;rw [b7] at z;split at z
  ·cases z;exact hp.1
  ·exact rD hp.2 z
theorem KZ {rl:List (D×D)} {q d:D} (h:D.aG (rl.map (·.2))=true) (hg:getD (.dct rl) q=.ok d):d.pure=true:=by
 have e:getD (.dct rl) q=if keyOk q then Res.ofOpt (b7 rl q) else .bad:=by cases q <;> rfl
 rw [e] at hg;split at hg
 ·cases hl:b7 rl q with
  | none=>rw [hl] at hg;cases hg
  | some y=>
   rw [hl] at hg;cases hg;exact rD h hl
 ·cases hg
theorem iD {H:Hp} {a:Addr} {hd mk rl:List (D×D)} {m:Int} {k:Cn} (hK:KFrag.K=K) (hC:nsIn K mainGlobals "PlainRun" = some (some (.ref C))) (r:Rep All H (.ref a) (.ins "PlainRun" (prF hd mk rl m k))):∃dx h1 h2 h3,H a=some (.ins C dx (prV h1 h2 h3 m k))/\Rep All H h1 (.dct hd)/\Rep All H h2 (.dct mk)/\Rep All H h3 (.dct rl):=by
 cases r with
 | ins hn hx rf=>
 rw [hK,hC] at hn;cases hn;cases rf with
 | cons r1 rf=>
 cases rf with
 | cons r2 rf=>
 cases rf with
 | cons r3 rf=>
 cases rf with
 | cons r4 rf=>
 cases rf with
 | cons r5 rf=>
 cases rf with
 | cons r6 rf=>
 cases rf with
 | cons r7 rf=>
 cases rf;cases r4;cases r5;cases r6;cases r7;exact ⟨_,_,_,_,hx,r1,r2,r3⟩
theorem oW {P:Addr->Prop} {H:Hp} {a dx:Addr} {h1 h2 h3:V} {hd mk rl:List (D×D)} {m:Int} {k:Cn} (hK:KFrag.K=K) (hC:nsIn K mainGlobals "PlainRun" = some (some (.ref C))) (hx:H a=some (.ins C dx (prV h1 h2 h3 m k))) (r1:Rep P H h1 (.dct hd)) (r2:Rep P H h2 (.dct mk)) (r3:Rep P H h3 (.dct rl)):Rep P H (.ref a) (.ins "PlainRun" (prF hd mk rl m k)):=
 .ins (by rw [hK];exact hC) hx (.cons r1 (.cons r2 (.cons r3 (.cons (.int _) (.cons (.int _) (.cons (.int _) (.cons (.int _) .nil)))))))
end
end Mi
end
section
namespace Mi
open PySem L2 PySem.W PySem.SeqAt PySem.Spec PyProof.Rows
variable [KFrag]
section
variable {K:PySem.W.Frag} {C CF CS:Addr} {l:List (Str×Srx)}
theorem RG {a dx kd:Addr} {h1 h2 h3 vt vp v3 v4:V} {m:Int} {k k':Cn} {ws:List D} {r0 r1 r2:D} {kn:List (D×D)} {kvs:List (Key×V)} {o:Obj} {u:HO} {Hf:Hp} {D':Ends} {o6 o7:Option V} (cl:Cls K C)
  (ha:Hf a=some (.ins C dx (prV h1 h2 h3 m k))) (hkd:Hf kd=some (.frz o u)) (hr:Rep All Hf v4 (.tup [r0,r1,r2,.tup ws])) (pr:(D.tup [r0,r1,r2,.tup ws]).pure=true) (rk:dD All Hf kvs kn) (pk:D.aG (kn.map (·.2))=true) (hu:oV ws kn k=some k')
  (q:∀o6 o7 H',iZ a Hf H'->H' a=some (.ins C dx (prV h1 h2 h3 m k'))->D'.nx [some (.ref a),some vt,some vp,some v3,some v4,some (.ref kd),o6,o7] H') :
  ∃W:Nat->Nat->L2.St->Hp->Prop,(∃n,W 0 n [some (.ref a),some vt,some vp,some v3,some v4,some (.ref kd),o6,o7] Hf)/\∀i n σ H,W i n σ H->
   ((Iti kd o u kvs).stop i H/\D'.nx σ H)\/((Iti kd o u kvs).go i H/\∃N:L2.St->Hp->Prop,(∀σ' H',N σ' H'->∃n',n'<n/\W (i+1) n' σ' H')/\∀x H',(Iti kd o u kvs).yld i H x H'->aCx K 2 (yZ (dZ 6) (yZ (dZ 7) aCw)) x σ H' fun σ2 H2=>qD (zL C "count_uses" (Z3 C) [] E0 (dY 0) (cJ (gE aEj true) (cJ (gE aEk false) nJ))) {D' with nx:=N,ct:=N,bk:=D'.nx} σ2 H2):=by
 have nka:kd≠a:=k_ hkd ha (by intro z;cases z);refine ⟨fun i n σ H=>n=kvs.length-i/\i<=kvs.length/\(∃o6 o7,σ=[some (.ref a),some vt,some vp,some v3,some v4,some (.ref kd),o6,o7])/\iZ a Hf H/\∃ki,H a=some (.ins C dx (prV h1 h2 h3 m ki))/\oV ws (kn.drop i) ki=some k',⟨kvs.length,rfl,Nat.zero_le _,⟨_,_,rfl⟩,fun _ _ e _=>e,k,ha,hu⟩,?_⟩;rintro i n σ H ⟨rfl,hi,⟨o6,o7,rfl⟩,b,ki,hai,hui⟩;have lk:=rk.len;rcases Nat.lt_or_ge i kvs.length with hlt|hge
 ·refine .inr ?_;have e:kvs[i]?=some kvs[i]:=List.getElem?_eq_getElem hlt;obtain ⟨d,e2,rd⟩:=rk.at_ e;obtain ⟨hlt2,e3⟩:=List.getElem?_eq_some_iff.mp e2;rw [List.drop_eq_getElem_cons hlt2,e3] at hui;obtain ⟨x,w,y,z,c,ep,hc,hc2,hui2⟩:=t_ hui;have ek:kD kvs[i].1=.str x:=congrArg (·.1) ep;have ed:d=.tup [w,y,.int z]:=congrArg (·.2) ep;subst ed;have pd:(D.tup [w,y,.int z]).pure=true:=cC.mp pk _ (List.mem_map.mpr ⟨_,List.mem_of_getElem? e2,rfl⟩);have ekV:kV kvs[i].1=.str x:=by
   generalize kvs[i].1=key at ek;cases key with
   | inl j=>cases ek
   | inr t=>cases ek;rfl
  refine ⟨⟨b _ _ hkd nka,_,e⟩,fun σ' H'=>(∃o6 o7,σ'=[some (.ref a),some vt,some vp,some v3,some v4,some (.ref kd),o6,o7])/\iZ a Hf H'/\∃ki,H' a=some (.ins C dx (prV h1 h2 h3 m ki))/\oV ws (kn.drop (i+1)) ki=some k',fun σ' H' ⟨n1,n2⟩=>⟨kvs.length-(i+1),by lia,rfl,hlt,n1,n2⟩,fun x' H2 hy=>?_⟩;obtain ⟨bb,p,hp,rfl,hb,rfl⟩:=hy;rw [e] at hp;cases hp;have sm:bK H (upd H bb (.tup [kV kvs[i].1,kvs[i].2])):=bK.upd hb;have us:pA Hf (upd H bb (.tup [kV kvs[i].1,kvs[i].2])):=fun c oc ec uc=>sm _ _ (b c oc ec fun z=>by
   subst z;rw [ha] at ec;cases ec;cases uc)
  refine ⟨bb,[kV kvs[i].1,kvs[i].2],rfl,.inl (.of aC),rfl,_,_,rfl,_,_,rfl,rfl,?_⟩;show qD _ _ [some (.ref a),some vt,some vp,some v3,some v4,some (.ref kd),some (kV kvs[i].1),some kvs[i].2] _;rw [ekV];have hr2:=hr.cX (P':=All) us pr;have rd2:=rd.cX (P':=All) us pd;rw [ekV] at sm hr2 rd2;refine ⟨.ref a,rfl,a,dx,_,rfl,sm _ _ hai,rfl,[.uD,.uD,.uD,.uD,.tup [r0,r1,r2,.tup ws],.uD,.str x,.uD],.int c,(EL.skip (.skip (.skip (.skip (.cons hr2 (.skip (.cons (.str x) (.skip .nil)))))))).er,YD hc,fun v8 H3 s3 r8 _=>?_⟩;refine ⟨[.uD,.uD,.uD,.uD,.uD,.uD,.uD,.tup [w,y,.int z]],.int z,(EL.skip (.skip (.skip (.skip (.skip (.skip (.skip (.cons (rd2.same s3) .nil)))))))).er,YF,fun v9 H4 s4 r9 _=>?_⟩;cases r8;cases r9;have ha4:=s4 _ _ (s3 _ _ (sm _ _ hai));refine ⟨a,dx,h1,h2,h3,m,ki,c,z,rfl,ha4,⟨by lia,by lia⟩,⟨_,_,rfl⟩,fun c' oc ec nc=>?_,_,aC,hui2⟩;rw [aJ nc];exact s4 _ _ (s3 _ _ (sm _ _ (b c' oc ec nc)))
 ·refine .inl ⟨⟨b _ _ hkd nka,hge⟩,?_⟩;rw [List.drop_eq_nil_of_le (by lia)] at hui;cases hui;exact q _ _ _ b hai
theorem RJ {N:List Str} (hN:N.length=8) (hK:KFrag.K=K) (hC:nsIn K mainGlobals "PlainRun" = some (some (.ref C))) (hCF:nsIn K mainGlobals "Frame" = some (some (.ref CF))) (cl:Cls K C) (nc:bQ K C "calls") (np:bQ K C "copies") (nd:bQ K C "drops") (nm:bQ K C "most")
  (hl:∀ws kn,D.aG ws=true->D.aG (kn.map (·.2))=true->evS [.uD,.tup ws,.dct kn] l=.ok [("words",.tup ws),("left",.int ws.length),("known",.dct kn)]) {vs:List V} {H:Hp} {Q:VK} {E:XK} (h:KR CF CS vs H Q E):aFa K C CS l E {nx:=fun _ H'=>Q .non H',rt:=Q} (L2.start N vs) H:=by
 obtain ⟨a,vt,vp,hd,mk,rl,m,k,tk,ps,rfl,⟨o1,o2,o3⟩,ptk,pps,ra,rt,rp,hc⟩:=h;have hst:L2.start N [V.ref a,vt,vp]=[some (.ref a),some vt,some vp,none,none,none,none,none]:=by
  unfold L2.start;rw [hN];rfl
 rw [hst];generalize hres:NB rl m k tk ps=res at hc;have hne:res≠.bad:=fun z=>by subst z;exact hc
 obtain ⟨w0,xs,z0,more,r0,r1,own,ws,kn,k',rfl,hg,hlen,px,pm,pw,hz,hu,rfl⟩:=rB hres hne;clear hres hne;rw [D.aG,Bool.and_eq_true] at pps;obtain ⟨dx,h1,h2,h3,hsa,e1,e2,e3⟩:=iD hK hC ra;have prl:(D.tup [r0,r1,.tup own,.tup ws]).pure=true:=by
  refine KZ o3 hg
 -- rows 1 to 3
 refine ⟨[.uD,.uD,.lst (.tup [w0,.tup xs,z0]::more)],_,(EL.skip (.skip (.cons rp .nil))).er,aBq,fun v3 Ha s1 rv3 _=>?_⟩;refine ⟨[.ins "PlainRun" (prF hd mk rl m k),tk,.uD,.tup [w0,.tup xs,z0]],_,(EL.cons (ra.same s1) (.cons (rt.same s1) (.skip (.cons rv3 .nil)))).er,aBr ptk hg,fun v4 Hb s2 rv4 _=>?_⟩;refine ⟨[.uD,.uD,.lst (.tup [w0,.tup xs,z0]::more),.tup [w0,.tup xs,z0],.tup [r0,r1,.tup own,.tup ws]],_,(EL.skip (.skip (.cons (rp.same (s1.trans s2)) (.cons (rv3.same s2) (.cons rv4 .nil))))).er,aBs hlen px pm pps.1 hz,fun v5 Hc s3 rv5 n5=>?_⟩;obtain ⟨kd,kvs,u,rfl,fkd,hDV,hkd,hmu,rk,ndk⟩:=aBu (n5 rfl) (yE hu);have pkn:=yF hz;have huk:∀o:Obj,Z1 (.frz o u)=true/\Z1 u=true:=fun o=>by
  rcases hDV with z|⟨_,z⟩ <;> (rw [z] at hkd;cases hkd;exact ⟨rfl,rfl⟩)
 have s13:=(s1.trans s2).trans s3;have hac:=s13 _ _ hsa
 -- row 4
 show o_ _ _ _ [some (.ref a),some vt,some vp,some v3,some v4,some (.ref kd),none,none] Hc;refine ⟨.ref a,rfl,a,C,dx,_,.int k.c,rfl,hac,cl,nc,rfl,k.c,1,rfl,rfl,.ref a,rfl,a,C,dx,_,rfl,hac,cl,nc,by show 7<1000;decide,?_⟩;rw [KQ];have nka:kd≠a:=fun z=>by
  subst z;rw [hac] at hkd;cases hkd;cases hmu
 have b4:iZ a Hc (upd Hc a (.ins C dx (prV h1 h2 h3 m k.call))):=iZ.upd;have had:upd Hc a (.ins C dx (prV h1 h2 h3 m k.call)) a=some (.ins C dx (prV h1 h2 h3 m k.call)):=aC;show o_ _ _ _ [some (.ref a),some vt,some vp,some v3,some v4,some (.ref kd),none,none] (upd Hc a (.ins C dx (prV h1 h2 h3 m k.call)));generalize upd Hc a (.ins C dx (prV h1 h2 h3 m k.call))=Hd at b4 had;have hkd4:=b4 _ _ hkd nka;have hDV4:DV Hd kd kvs:=by
  rcases hDV with z|⟨z0,z⟩
  ·exact .inl (b4 _ _ z nka)
  ·exact .inr ⟨z0,b4 _ _ z nka⟩
 -- row 5
 refine ⟨kd,u,hkd4,hmu,kd,kvs,u,rfl,hDV4,hkd4,fun o He s5=>?_⟩;have hke:=s5 _ _ hkd4;have hae:=s5 _ _ had;have noT:∀ob,He kd=some ob->Z1 ob=true:=fun ob z=>by
  rw [hke] at z;cases z;exact (huk o).2
 have toF:∀{v:V} {d:D},Rep All Hc v d->d.pure=true->Rep All (upd He kd (.frz o u)) v d:=fun r p=>qW noT ((r.cX (P':=All) (b4.use hac) p).same s5) p
 have rkF:dD All (upd He kd (.frz o u)) kvs kn:=by
  have go:∀{kvs:List (Key×V)} {ds:List (D×D)},dD (New Hb) Hc kvs ds->D.aG (ds.map (·.2))=true->dD All (upd He kd (.frz o u)) kvs ds:=by
   intro kvs ds r;induction kvs generalizing ds with
   | nil=>cases r;intro _;exact .nil
   | cons p kvs ih=>cases r with
    | cons r t=>
     intro h;rw [List.map_cons,D.aG,Bool.and_eq_true] at h;exact .cons (toF r.all h.1) (ih t h.2)
  exact go rk pkn
 refine RG cl (by rw [aJ (Ne.symm nka)];exact hae) aC (toF (rv4.same s3) prl) prl rkF pkn hu fun o6 o7 Hg bg hag=>⟨o,u,bg _ _ aC nka,?_⟩
 have hag2:upd Hg kd u a=some (.ins C dx (prV h1 h2 h3 m k')):=by rw [aJ (Ne.symm nka)];exact hag
 -- from the beginning on
 have ball:iZ a H (upd Hg kd u):=fun c oc ec nca=>by
  have c3:=s13 _ _ ec;have nck:c≠kd:=fun z=>by
   subst z;have:=(s1.trans s2) _ _ ec;rw [show Hb c=none from fkd] at this;cases this
  rw [aJ nck];refine bg _ _ ?_ nca;rw [aJ nck];exact s5 _ _ (b4 _ _ c3 nca)
 have noT2:∀ob,Hg kd=some ob->Z1 ob=true:=fun ob z=>by
  rw [bg _ _ aC nka] at z;cases z;exact (huk o).1
 have useG:pA (upd He kd (.frz o u)) Hg:=fun c oc ec uc=>bg c oc ec fun z=>by
  subst z;rw [aJ (Ne.symm nka),hae] at ec;cases ec;cases uc
 have toG:∀{v:V} {d:D},Rep All Hc v d->d.pure=true->Rep All (upd Hg kd u) v d:=fun r p=>qW noT2 ((toF r p).cX (P':=All) useG p) p
 have hkg:upd Hg kd u kd=some u:=aC;have hDVg:DV (upd Hg kd u) kd kvs:=by
  rcases hDV with z|⟨z0,z⟩
  ·rw [z] at hkd;cases hkd;exact .inl hkg
  ·rw [z] at hkd;cases hkd;exact .inr ⟨z0,hkg⟩
 have rkG:dD All (upd Hg kd u) kvs kn:=by
  have go:∀{kvs:List (Key×V)} {ds:List (D×D)},dD (New Hb) Hc kvs ds->D.aG (ds.map (·.2))=true->dD All (upd Hg kd u) kvs ds:=by
   intro kvs ds r;induction kvs generalizing ds with
   | nil=>cases r;intro _;exact .nil
   | cons p kvs ih=>cases r with
    | cons r t=>
     intro h;rw [List.map_cons,D.aG,Bool.and_eq_true] at h;exact .cons (toG r.all h.1) (ih t h.2)
  exact go rk pkn
 have rv4g:=toG (rv4.same s3) prl;have self4:∀H2,bK (upd Hg kd u) H2->Rep All H2 (.ref a) (.ins "PlainRun" (prF hd mk rl m k')):=fun H2 sm=>by
  have t1:iZ a H H2:=fun c oc ec nca=>sm _ _ (ball c oc ec nca)
  exact oW hK hC (sm _ _ hag2) (e1.okK t1 hsa (fun _ h=>h) (rC o1)) (e2.okK t1 hsa (fun _ h=>h) (rC o2)) (e3.okK t1 hsa (fun _ h=>h) (rC o3))
 generalize upd Hg kd u=Hh at hag2 ball hDVg rkG rv4g self4 hkg
 -- row 6
 show o_ _ _ _ [some (.ref a),some vt,some vp,some v3,some v4,some (.ref kd),o6,o7] Hh;refine ⟨.ref a,rfl,a,C,dx,_,.int k'.c,rfl,hag2,cl,nc,rfl,.ref a,rfl,a,C,dx,_,.int k'.p,rfl,hag2,cl,np,rfl,k'.c,k'.p,rfl,rfl,.ref a,rfl,a,C,dx,_,.int k'.d,rfl,hag2,cl,nd,rfl,k'.c+k'.p,k'.d,rfl,rfl,.ref a,rfl,a,C,dx,_,.int m,rfl,hag2,cl,nm,rfl,k'.c+k'.p+k'.d,m,rfl,rfl,_,rfl,?_⟩;dsimp only;by_cases hgt:k'.c+k'.p+k'.d > m
 ·rw [if_pos (by simpa using hgt)];rw [if_pos hgt] at hc;exact hc _ ball
 ·rw [if_neg (by simpa using hgt)];rw [if_neg hgt] at hc
  -- row 7
  show aA5 (tMk K "Frame" l 2 (cJ (gE cf7 false) (cJ (dY 5) nJ))) {nx:=fun _ H'=>Q .non H',rt:=Q} [some (.ref a),some vt,some vp,some v3,some v4,some (.ref kd),o6,o7] Hh;refine ⟨[.uD,.uD,.uD,.uD,.tup [r0,r1,.tup own,.tup ws]],.tup ws,(EL.skip (.skip (.skip (.skip (.cons rv4g .nil))))).er,aBt,fun v10 Hi s10 r10 _=>⟨.ref kd,rfl,?_⟩⟩;have rkd:Rep All Hi (.ref kd) (.dct kn):=(hDVg.rep trivial rkG ndk).same s10;refine ⟨[.tup ws,.dct kn],_,rfl,.cons r10 (.cons rkd .nil),hl ws kn pw pkn,fun CF' x dxx Hj vf hn hx sj hxj rf=>?_⟩;rw [hCF] at hn;cases hn;have rfa:=rf All (fun _ _=>trivial) (.cons r10 (.cons rkd .nil));cases rfa with
  | cons q1 rfa=>
  cases rfa with
  | cons q2 rfa=>
  cases rfa with
  | cons q3 rfa=>
  cases rfa;cases q2;refine hc Hj x ?_ (fun c oc ec nca=>sj _ _ (s10 _ _ (ball c oc ec nca))) (self4 Hj (s10.trans sj)) ⟨_,_,_,hxj,q1,q3⟩;cases hq:H x with
  | none=>rfl
  | some oo=>
   by_cases hxa:x=a
   ·subst hxa;rw [s10 _ _ hag2] at hx;cases hx
   ·rw [s10 _ _ (ball _ _ hq hxa)] at hx;cases hx
end
end Mi
end
section
namespace Mi
open PySem L2 PySem.W PySem.SeqAt PySem.Spec PyProof.Rows
abbrev Z4:Int:=1000
noncomputable def aEm:D->Bool
 | .str _=>true
 | _=>false
noncomputable def tkN (hd:List (D×D)) (w:D):Option Nat:=match getD (.dct hd) w with
 | .ok (.tup [_,.tup ks])=>if D.aG ks&&decide (ks.length<=1000) then some ks.length else none
 | _=>none
noncomputable def aBv:List D->Option Int
 | []=>some 0
 | .tup [_,_,.int z]::r=>if decide (-Z4<=z)&&decide (z<=Z4) then (aBv r).map (z+·) else none
 | _::_=>none
noncomputable def K1 (hd mk rl:List (D×D)) (m:Int) (k:Cn) (kn:List (D×D)) (st:List D) (w:D):Res (List D×Option (List D×List (D×D))×Cn) :=
  if aEm w&&rT kn w&&rT mk w&&decide (st.length <= 100000) then (match b7 kn w with
    | some v => .ok (v::st, none, k)
    | none => match tkN hd w with
      | some n => if n <= st.length then
          (if (b7 mk w).isSome then (match aBv (st.take n) with|some z => .ok (.tup [w, .tup (st.take n), .int (1+z)]::st.drop n, none, k)|none => .bad)
           else (match NB rl m k w (st.take n) with|.ok (ws, kn', k') => .ok (st.drop n, some (ws, kn'), k')|.err c as => .err c as|.bad => .bad))
        else .bad
      | none => .bad)
  else .bad
def aFb:FT:=bTB (b2 inX fB mO)
def tkg:FE:=b2 getD mO fB
noncomputable def tki:FI:=bJ (b2 getD (b2 getD (Q4 "PlainRun" "heads" dU) fB) iK) false
def aFc:FT:=bTB (b2 inX fB (Q4 "PlainRun" "makers" dU))
noncomputable def tkv:FE:=jF (aB fB (aB (aQ fX (aB iV aY)) (aB (b2 (aZ .add) iK (aQ QS (aB (dI 6 (bJ iV false) mQ (dW) (b2 getD qI uP) false) aY))) aY)))
variable [KFrag]
theorem YG {a b c:D} {x:Str} {kn:List (D×D)} (h:rT kn (.str x)=true):aFb [a,b,c,.str x,.dct kn]=.ok (b7 kn (.str x)).isSome:=by
 show (do let y <- (if rT kn (.str x) then Res.ok (D.bl (b7 kn (.str x)).isSome) else .bad);asB y)=_;rw [if_pos h];rfl
theorem YH {hd mk rl:List (D×D)} {m:Int} {k:Cn} {b c:D} {x:Str} (h:rT mk (.str x)=true):aFc [.ins "PlainRun" (prF hd mk rl m k),b,c,.str x]=.ok (b7 mk (.str x)).isSome:=by
 show (do let y <- (if rT mk (.str x) then Res.ok (D.bl (b7 mk (.str x)).isSome) else .bad);asB y)=_;rw [if_pos h];rfl
theorem aBw {a b c v:D} {x:Str} {kn:List (D×D)} (h:b7 kn (.str x)=some v):tkg [a,b,c,.str x,.dct kn]=.ok v:=by
 show (if keyOk (.str x)=true then Res.ofOpt (b7 kn (.str x)) else .bad)=_;rw [h];rfl
theorem UW {hd mk rl:List (D×D)} {m:Int} {k:Cn} {b c e f:D} {x:Str} {n:Nat} (h:tkN hd (.str x)=some n):∃ks,ks.length=n/\n<=1000/\tki [.ins "PlainRun" (prF hd mk rl m k),b,c,.str x,e,f]=.ok (ks,true):=by
 unfold tkN at h;split at h
 ·rename_i u ks hg;split at h
  ·rename_i hb;rw [Bool.and_eq_true,decide_eq_true_eq] at hb;cases h;refine ⟨ks,rfl,hb.2,?_⟩;have e1:b2 getD (b2 getD (Q4 "PlainRun" "heads" dU) fB) iK [.ins "PlainRun" (prF hd mk rl m k),b,c,.str x,e,f]=.ok (.tup ks):=by
    have e0:b2 getD (Q4 "PlainRun" "heads" dU) fB [.ins "PlainRun" (prF hd mk rl m k),b,c,.str x,e,f]=.ok (.tup [u,.tup ks]):=hg;exact aP e0 rfl rfl
   unfold tki bJ;rw [e1];show Res.ok (ks,false||(D.tup ks).pure)=_;rw [D.pure,hb.1];rfl
  ·cases h
 ·cases h
theorem aBx {s f w k u:D} {b:Nat} {vs:List D}:∀(its ps acc:List D),its.length=ps.length->D.aG ps=true->xcf (tZ 2) acc its [s,f,.cel b ((ps++vs).reverse),w,k,u]=.ok (acc++ps,[s,f,.cel b vs.reverse,w,k,u])
 | [],[],acc,_,_=>by
  show Res.ok (acc,_)=_;rw [List.append_nil];rfl
 | i::its,p::ps,acc,hl,hp=>by
  rw [D.aG,Bool.and_eq_true] at hp;have e:((p::ps)++vs).reverse=(ps++vs).reverse++[p]:=by simp
  rw [e];have h1:tZ 2 ([s,f,.cel b ((ps++vs).reverse++[p]),w,k,u]++[i])=.ok (p,[s,f,.cel b ((ps++vs).reverse),w,k,u,i]):=by
   show (match ((ps++vs).reverse++[p])[((ps++vs).reverse++[p]).length-1]? with|some x=>Res.ok (x,[s,f,D.cel b ((ps++vs).reverse++[p]).dropLast,w,k,u,i])|none=>.bad)=_;rw [List.length_append,List.length_singleton,Nat.add_sub_cancel,List.getElem?_append_right (Nat.le_refl _),Nat.sub_self,List.dropLast_concat];rfl
  show (do let q <- tZ 2 ([s,f,.cel b ((ps++vs).reverse++[p]),w,k,u]++[i]);if q.1.pure then xcf (tZ 2) (acc++[q.1]) its q.2.dropLast else .bad)=_;rw [h1,Res.aO];rw [if_pos hp.1];have ih:=aBx (s:=s) (f:=f) (w:=w) (k:=k) (u:=u) (b:=b) (vs:=vs) its ps (acc++[p]) (by simpa using hl) hp.2;rw [List.append_assoc] at ih;exact ih
theorem aBy {hd mk rl:List (D×D)} {m:Int} {k:Cn} {f e u:D} {x:Str} {n:Nat} {b:Nat} {st:List D} (h:tkN hd (.str x)=some n) (hn:n<=st.length) (hp:D.aG st=true):J0 tki (tZ 2) [.ins "PlainRun" (prF hd mk rl m k),f,.cel b st.reverse,.str x,e,u]=.ok (.lst (st.take n),[.ins "PlainRun" (prF hd mk rl m k),f,.cel b (st.drop n).reverse,.str x,e,u]):=by
 obtain ⟨ks,hk,hb,he⟩:=UW (hd:=hd) (mk:=mk) (rl:=rl) (m:=m) (k:=k) (b:=f) (c:=.cel b st.reverse) (e:=e) (f:=u) h;unfold J0;rw [he,Res.aO];rw [if_pos (by rw [Bool.true_and];exact decide_eq_true (Nat.le_trans (Nat.le_of_eq hk) (Nat.le_trans hb (by decide))))];have hs:st=st.take n++st.drop n:=(List.take_append_drop n st).symm;have pt:D.aG (st.take n)=true:=cC.mpr fun y hy=>cC.mp hp y (List.mem_of_mem_take hy)
 have:=aBx (s:=.ins "PlainRun" (prF hd mk rl m k)) (f:=f) (w:=.str x) (k:=e) (u:=u) (b:=b) (vs:=st.drop n) ks (st.take n) [] (by rw [hk,List.length_take];lia) pt;rw [<-hs] at this;rw [this];rfl
theorem yG {ρ:List D} (hρ:ρ.length=6):∀{ps:List D} {z:Int},aBv ps=some z->∃ns:List Int,ns.length=ps.length/\ns.sum=z/\(∀i∈ns,-Z4<=i/\i<=Z4)/\∀acc:List D,nY (vH 6 mQ dW (b2 getD qI uP) false ρ) acc ps=.ok (acc++ns.map D.int)
 | [],z,h=>by cases h;exact ⟨[],rfl,rfl,(fun i hi=>by cases hi),fun acc=>by rw [List.map_nil,List.append_nil];rfl⟩
 | p::r,z,h=>by
  unfold aBv at h;split at h
  ·cases ‹_::_=[]›
  ·rename_i a b y r' e;cases e;split at h
   ·rename_i hb;rw [Bool.and_eq_true,decide_eq_true_eq,decide_eq_true_eq] at hb;obtain ⟨z',h1,rfl⟩:=Option.map_eq_some_iff.mp h;obtain ⟨ns,i1,i2,i3,i4⟩:=yG hρ h1;refine ⟨y::ns,by rw [List.length_cons,List.length_cons,i1],by rw [List.sum_cons,i2],fun i hi=>?_,fun acc=>?_⟩
    ·rcases List.mem_cons.mp hi with rfl|hi
     ·exact hb
     ·exact i3 i hi
    ·have e6:d9 6 (ρ++[D.tup [a,b,.int y]])=.ok (.tup [a,b,.int y]):=bV (by rw [List.getD_eq_getElem?_getD,List.getElem?_append_right (by lia),hρ];rfl) (by intro z;cases z);rw [nY,tQ hρ (b:=true) rfl fun _=>⟨aP e6 rfl rfl,rfl⟩];show nY _ (acc++[D.int y]) _=_;rw [i4,List.append_assoc];rfl
   ·cases h
  ·cases h
theorem yH:∀ns:List Int,intsOf (ns.map D.int)=some ns
 | []=>rfl
 | n::ns=>by
  show (intsOf (ns.map D.int)).map (n::·)=_;rw [yH ns];rfl
theorem aBz {a b c e:D} {x:Str} {ps:List D} {z:Int} (h:aBv ps=some z) (hl:ps.length<=1000):tkv [a,b,c,.str x,e,.lst ps]=.ok (.tup [.str x,.tup ps,.int (1+z)]):=by
 obtain ⟨ns,i1,i2,i3,i4⟩:=yG (ρ:=[a,b,c,.str x,e,.lst ps]) rfl h;have e1:dI 6 (bJ iV false) mQ (dW) (b2 getD qI uP) false [a,b,c,.str x,e,.lst ps]=.ok (.lst (ns.map D.int)):=JK (kk:=false||(D.lst ps).pure) (xs:=ps) rfl (by rw [bW];lia) (i4 []);have e2:QS [.lst (ns.map D.int)]=.ok (.int z):=by
  show (match intsOf (ns.map D.int) with|some ns=>if ns.all (fun i=>decide (-Z4<=i)&&decide (i<=Z4))&&decide (ns.length<=100000) then Res.ok (D.int ns.sum) else .bad|none=>.bad)=_;rw [yH];dsimp only;rw [if_pos,i2];rw [Bool.and_eq_true,List.all_eq_true,decide_eq_true_eq];refine ⟨fun i hi=>?_,by lia⟩;rw [Bool.and_eq_true,decide_eq_true_eq,decide_eq_true_eq];exact i3 i hi
 exact eV (aF rfl (aF (bB (aF rfl rfl) (show fX [.lst ps]=.ok (.tup ps) from rfl)) (aF (aP rfl (bB (aF e1 rfl) e2) rfl) rfl))) (by show 3<=lim;decide)
noncomputable def kTk (CF CS:Addr) (a af av:Addr) (fl:List V) (hd mk rl:List (D×D)) (m:Int) (H:Hp) (Q:VK) (E:XK):Res (List D×Option (List D×List (D×D))×Cn)->Prop
 | .ok (st',none,_)=>∀H' vs',iZ av H H'->H' av=some (.lst vs')->aW All H' vs' st'.reverse->Q .non H'
 | .ok (st',some (ws',kn'),k')=>∀H' vs' x,H x=none->aD9 (fun b=>b=a\/b=af\/b=av) H H'->Rep All H' (.ref a) (.ins "PlainRun" (prF hd mk rl m k'))->H' af=some (.lst (fl++[.ref x]))->FrA CF H' x ws' ws'.length kn'->H' av=some (.lst vs')->aW All H' vs' st'.reverse->Q .non H'
 | .err _ _=>∀H',aD9 (fun b=>b=a\/b=af\/b=av) H H'->E (.ref CS) none H'
 | .bad=>False
noncomputable def aC0 (CF CS:Addr):Sp:=fun vs H Q E=>∃a af av vw hd mk rl m k kn st w fl fr ws i vs0,vs=[.ref a,.ref af,.ref av,vw]/\okR hd mk rl/\D.aG (kn.map (·.2))=true/\D.aG st=true/\Rep All H (.ref a) (.ins "PlainRun" (prF hd mk rl m k))/\H af=some (.lst fl)/\fl.length<1000000/\atI fl (-1)=some (.ref fr)/\FrA CF H fr ws i kn/\H av=some (.lst vs0)/\aW All H vs0 st.reverse/\af≠av/\Rep All H vw w/\kTk CF CS a af av fl hd mk rl m H Q E (K1 hd mk rl m k kn st w)
noncomputable def aFd (K:PySem.W.Frag) (C CF CS:Addr) (E:XK):TS:=ZW (gT aFc) (qD (tBM K "list" qH (dY 2) (cJ (gE tkv false) nJ)))
 (qD (tBM K "list" qH (dY 1) (cJ (zL C "called" (KR CF CS) [] E (dY 0) (cJ (dY 3) (cJ (dY 5) nJ))) nJ)))
noncomputable def aFe (K:PySem.W.Frag) (C CF CS:Addr) (E:XK):TS:=ZW (gT aFb) (qD (tBM K "list" qH (dY 2) (cJ (gE tkg false) nJ)))
 (o_ (sE (gX (own1 2) (J0 tki (tZ 2))) (dZ 5)) (aFd K C CF CS E))
noncomputable def tTk (K:PySem.W.Frag) (C CF CS:Addr) (E:XK):TS:=o_ (sE (wK K (tOp (aD0 K) (dY 1) tm1) "known") (dZ 4)) (aFe K C CF CS E)
theorem RK {X:Cx} {own:Nat->Bool} {scope:Scope} {elt iter:Expr} {tg:Expr} {it:FI} {f:FX} {n:Nat} {cn y:Str} {py pos pos2:Pos} {iy:Nat} (S:cU X.N X.env.scope scope [cn]) (hn:X.N.length=n) (hcalm:X.calm=true) (hon:own n=false) (hi:PI X tg iter (gI X.K it)) (hg:∀y,PG (mkC X scope [cn] y) tg (dZ n)) (he:∀y,PE (mkC X scope [cn] y) elt (gX own f))
  (hs:∀x,foldedSetIterable iter X.env x=pure x) (hNn:X.N.Nodup) (hiy:X.N[iy]?=some y) (hxy:Loc X.env.scope y) (hfy:X.fn y=true\/X.env.scope.names.lookup y=some .local) (hsw:swapsWith (.ListComp elt [⟨tg,iter,[],0⟩] scope pos) (some (.Name y py)) pos2.line X.env=pure true) :
  PS X (.Assign [.Name y py] (.ListComp elt [⟨tg,iter,[],0⟩] scope pos) pos2) (sE (gX own (J0 it f)) (dZ iy)):=by
 intro pins s σ H D I h;refine xN S hcalm hi (fun X' cc=>by obtain ⟨y,rfl⟩:=pP cc;exact hg y) (fun X' cc=>by obtain ⟨y,rfl⟩:=pP cc;exact he y) hs hNn hiy hxy hfy hsw pins s σ H D I ?_;exact BL hon (I.len.trans hn) h
theorem iG {x:Addr} {H H':Hp} {xs:List V} (b:iZ x H H') (hx:H x=some (.lst xs)) {v:V} {kn:List (D×D)} (r:Rep All H v (.dct kn)) (p:D.aG (kn.map (·.2))=true):Rep (fun c=>c≠x) H' v (.dct kn):=by
 have k:pA H H':=fun a o e u=>b a o e fun z=>by
  subst z;rw [hx] at e;cases e;cases u
 cases r with
 | dK e _ r n=>
  have ne:=k_ e hx (by intro z;cases z);exact .dK (b _ _ e ne) ne (r.cX k p) n
 | dT e _ r n=>
  have ne:=k_ e hx (by intro z;cases z);exact .dT (b _ _ e ne) ne (r.cX k p) n
theorem l_ {st:List D} {n:Nat} (h:D.aG st=true):D.aG (st.drop n)=true:=cC.mpr fun y hy=>cC.mp h y (List.mem_of_mem_drop hy)
theorem pY {st:List D} {n:Nat} (h:D.aG st=true):D.aG (st.take n)=true:=cC.mpr fun y hy=>cC.mp h y (List.mem_of_mem_take hy)
theorem aC1 {rl:List (D×D)} {m:Int} {k k':Cn} {tk:D} {ps ws:List D} {kn:List (D×D)} (h:NB rl m k tk ps=.ok (ws,kn,k')):D.aG ws=true:=by
 obtain ⟨w0,xs,z0,more,r0,r1,own,ws',kn',k'',_,_,_,_,_,pw,hz,_,e⟩:=rB h (by intro z;cases z);split at e
 ·cases e
 ·cases e;exact pw
theorem aFf {rl:List (D×D)} {m:Int} {k k':Cn} {tk:D} {ps ws:List D} {kn:List (D×D)} (h:NB rl m k tk ps=.ok (ws,kn,k')):D.aG (kn.map (·.2))=true:=by
 obtain ⟨w0,xs,z0,more,r0,r1,own,ws',kn',k'',_,_,_,_,_,pw,hz,_,e⟩:=rB h (by intro z;cases z);split at e
 ·cases e
 ·cases e;exact yF hz
section
variable {K:PySem.W.Frag} {C CF CS:Addr} {l:List (Str×Srx)}
theorem YJ {N:List Str} (hN:N.length=6) (hK:KFrag.K=K) (hC:nsIn K mainGlobals "PlainRun" = some (some (.ref C))) (clF:Cls K CF) (nk:bQ K CF "known") {vs:List V} {H:Hp} {Q:VK} {E:XK} (h:aC0 CF CS vs H Q E):tTk K C CF CS E {nx:=fun _ H'=>Q .non H',rt:=Q} (L2.start N vs) H:=by
 obtain ⟨a,af,av,vw,hd,mk,rl,m,k,kn,st,w,fl,fr,ws,i,vs0,rfl,⟨o1,o2,o3⟩,pkn,pst,ra,hf,hfl,hlast,⟨dxf,w1,w3,hfr,rw1,rw3⟩,hv,rv,hne,rw,hc⟩:=h;have hst:L2.start N [V.ref a,.ref af,.ref av,vw]=[some (.ref a),some (.ref af),some (.ref av),some vw,none,none]:=by
  unfold L2.start;rw [hN];rfl
 rw [hst];unfold K1 at hc;split at hc
 ·rename_i hb;simp only [Bool.and_eq_true,decide_eq_true_eq] at hb;obtain ⟨⟨⟨hb1,hb2⟩,hb3⟩,hb4⟩:=hb;obtain ⟨x,rfl⟩:∃x,w=.str x:=by
   cases w with
   | str x=>exact ⟨x,rfl⟩
   | _=>cases hb1
  have lv:vs0.length<=100000:=by rw [rv.length,List.length_reverse];exact hb4
  obtain ⟨dx,h1,h2,h3,hsa,e1,e2,e3⟩:=iD hK hC ra;have nva:a≠av:=k_ hsa hv (by intro z;cases z);have nfa:a≠af:=k_ hsa hf (by intro z;cases z)
  -- known
  refine ⟨.ref af,rfl,1,rfl,af,fl,-1,.ref fr,rfl,rfl,.of hf,hlast,fr,CF,dxf,_,w3,rfl,hfr,clF,nk,rfl,?_⟩;show aFe K C CF CS E {nx:=fun _ H'=>Q .non H',rt:=Q} [some (.ref a),some (.ref af),some (.ref av),some vw,some w3,none] H;refine ⟨[.uD,.uD,.uD,.str x,.dct kn],_,(EL.skip (.skip (.skip (.cons rw (.cons rw3 .nil))))).er,YG hb2,fun H1 s1=>?_⟩;split at hc
  ·rename_i v hlk;rw [hlk];show (if true=true then _ else _);rw [if_pos rfl];refine ⟨.ref av,rfl,.inl ⟨rfl,_,.of (s1 _ _ hv)⟩,[.uD,.uD,.uD,.str x,.dct kn],v,(EL.skip (.skip (.skip (.cons (rw.same s1) (.cons (rw3.same s1) .nil))))).er,aBw hlk,fun vv H2 s2 rvv _=>⟨av,vs0,vv,rfl,rfl,s2 _ _ (s1 _ _ hv),Nat.lt_of_le_of_lt lv (by rw [sizeLine_eq];decide),?_⟩⟩;have hv2:=s2 _ _ (s1 _ _ hv);have pv:v.pure=true:=rD pkn hlk;refine hc _ (vs0++[vv]) (fun b o e nb=>?_) aC ?_
   ·rw [aJ nb];exact s2 _ _ (s1 _ _ e)
   ·rw [List.reverse_cons];exact (((rv.same s1).same s2).snoc rvv).upd (by rw [gP,eG pst];simp [D.aG,pv]) hv2 rfl
  ·rename_i hlk;rw [hlk];show (if false=true then _ else _);rw [if_neg Bool.false_ne_true];split at hc
   ·rename_i n hn;split at hc
    ·rename_i hle;have b1:iZ av H H1:=iZ.same s1;have d1:=iG b1 hv e1 o1;have d2:=iG b1 hv e2 o2;have d3:=iG b1 hv e3 o3;have hv1:=s1 _ _ hv;have hO:∀b,Own (own1 2) [some (.ref a),some (.ref af),some (.ref av),some vw,some w3,none] b↔b=av:=fun b=>by
      constructor
      ·rintro ⟨j,hj,e⟩;have:j=2:=by simpa [own1] using hj
       subst this;cases e;rfl
      ·rintro rfl;exact ⟨2,rfl,rfl⟩
     have hOf:(fun b=>¬Own (own1 2) [some (.ref a),some (.ref af),some (.ref av),some vw,some w3,none] b)=fun b=>b≠av:=funext fun b=>by rw [hO]
     refine ⟨[.ins "PlainRun" (prF hd mk rl m k),.uD,.cel av st.reverse,.str x,.uD,.uD],_,_,⟨rfl,fun j hj=>?_,fun j u hj hu=>?_⟩,aBy hn hle pst,fun v5 H2 ku E2 _ r5=>?_⟩
     ·rw [hOf]
      match j,hj with
      | 0,_=>exact ⟨_,rfl,fun _=>oW hK hC (s1 _ _ hsa) d1 d2 d3⟩
      | 1,hj=>exact absurd rfl hj
      | 2,_=>exact ⟨_,rfl,fun h=>by cases h⟩
      | 3,_=>exact ⟨_,rfl,fun _=>(rw.same s1).bH rfl⟩
      | 4,hj=>exact absurd rfl hj
      | 5,hj=>exact absurd rfl hj
      | j+6,hj=>exact absurd rfl hj
     ·have:j=2:=by simpa [own1] using hj
      subst this;cases hu;exact ⟨av,_,rfl,.cel hv1 trivial (rv.same s1),eG pst,hv1,rfl,fun q hq _=>by simpa [own1] using hq⟩
     ·have b2:iZ av H1 H2:=fun b o e nb=>(ku b o e fun z=>nb ((hO b).mp z)).1
      obtain ⟨vs1,hv2,rv2⟩:∃vs1,H2 av=some (.lst vs1)/\aW All H2 vs1 (st.drop n).reverse:=by
       obtain ⟨ad,o,ea,r,_⟩:=E2.own 2 (.ref av) rfl rfl;cases r with
       | cel e _ r=>exact ⟨_,e,r⟩
      have hsa2:=b2 _ _ (s1 _ _ hsa) nva;have b12:iZ av H H2:=fun b o e nb=>b2 _ _ (s1 _ _ e) nb
      have ra2:Rep All H2 (.ref a) (.ins "PlainRun" (prF hd mk rl m k)):=oW hK hC hsa2 (iG b12 hv e1 o1).all (iG b12 hv e2 o2).all (iG b12 hv e3 o3).all;have rw2:Rep All H2 vw (.str x):=by cases rw;exact .str x
      show aFd K C CF CS E {nx:=fun _ H'=>Q .non H',rt:=Q} [some (.ref a),some (.ref af),some (.ref av),some vw,some w3,some v5] H2;refine ⟨[.ins "PlainRun" (prF hd mk rl m k),.uD,.uD,.str x],_,(EL.cons ra2 (.skip (.skip (.cons rw2 .nil)))).er,YH hb3,fun H3 s3=>?_⟩;split at hc
      ·rename_i hm;rw [hm];rw [if_pos rfl];split at hc
       ·rename_i z hz;refine ⟨.ref av,rfl,.inl ⟨rfl,_,.of (s3 _ _ hv2)⟩,[.uD,.uD,.uD,.str x,.uD,.lst (st.take n)],_,(EL.skip (.skip (.skip (.cons (rw2.same s3) (.skip (.cons (r5.all.same s3) .nil)))))).er,aBz hz (by rw [List.length_take];have:=UW (hd:=hd) (mk:=mk) (rl:=rl) (m:=m) (k:=k) (b:=.uD) (c:=.uD) (e:=.uD) (f:=.uD) hn;obtain ⟨_,_,q,_⟩:=this;lia),fun vv H4 s4 rvv _=>⟨av,vs1,vv,rfl,rfl,s4 _ _ (s3 _ _ hv2),?_,?_⟩⟩
        ·have:=rv2.length;rw [List.length_reverse,List.length_drop] at this;rw [sizeLine_eq];lia
        ·have hv4:=s4 _ _ (s3 _ _ hv2);refine hc _ (vs1++[vv]) (fun b o e nb=>?_) aC ?_
         ·rw [aJ nb];exact s4 _ _ (s3 _ _ (b12 _ _ e nb))
         ·rw [List.reverse_cons];refine (((rv2.same s3).same s4).snoc rvv).upd ?_ hv4 rfl;rw [gP,eG (l_ pst)];simp [D.aG,D.pure,pY pst]
       ·exact hc.elim
      ·rename_i hm;rw [Bool.not_eq_true] at hm;rw [hm];rw [if_neg Bool.false_ne_true];have hf3:=s3 _ _ (b2 _ _ (s1 _ _ hf) hne);have hv3:=s3 _ _ hv2;have bs:∀H4,iZ a H3 H4->aD9 (fun b=>b=a\/b=af\/b=av) H H4:=fun H4 b4 b o e nb=>b4 _ _ (s3 _ _ (b12 _ _ e fun z=>nb (.inr (.inr z)))) fun z=>nb (.inl z)
       refine ⟨.ref af,rfl,.inl ⟨rfl,_,.of hf3⟩,.ref a,rfl,a,dx,_,rfl,s3 _ _ hsa2,rfl,vw,rfl,v5,rfl,a,vw,v5,hd,mk,rl,m,k,.str x,st.take n,rfl,⟨o1,o2,o3⟩,rfl,pY pst,ra2.same s3,rw2.same s3,r5.all.same s3,?_⟩;cases hq:NB rl m k (.str x) (st.take n) with
       | ok r=>
        obtain ⟨ws',kn',k'⟩:=r;rw [hq] at hc;intro H4 xx hxx b4 rs fa;have hf4:=b4 _ _ hf3 (Ne.symm nfa);have hv4:=b4 _ _ hv3 (Ne.symm nva);refine ⟨af,fl,.ref xx,rfl,rfl,hf4,by rw [sizeLine_eq];lia,?_⟩;have nxf:xx≠af:=fun z=>by rw [z,hf3] at hxx;cases hxx
        have us:pA H4 (upd H4 af (.lst (fl++[.ref xx]))):=fun b o e u=>by
         rw [aJ (fun z=>by subst z;rw [hf4] at e;cases e;cases u)];exact e
        have bf:iZ af H4 (upd H4 af (.lst (fl++[.ref xx]))):=iZ.upd;have dk:∀{v:V} {kk:List (D×D)},Rep All H4 v (.dct kk)->D.aG (kk.map (·.2))=true->Rep All (upd H4 af (.lst (fl++[.ref xx]))) v (.dct kk):=fun r p=>(iG bf hf4 r p).all
        obtain ⟨dx4,g1,g2,g3,hs4,q1,q2,q3⟩:=iD hK hC rs;obtain ⟨dxx,y1,y3,hx4,ry1,ry3⟩:=fa;refine hc _ vs1 xx ?_ (fun b o e nb=>?_) (oW hK hC (by rw [aJ nfa];exact hs4) (dk q1 o1) (dk q2 o2) (dk q3 o3)) aC ⟨dxx,y1,y3,by rw [aJ nxf];exact hx4,?_,?_⟩ (by rw [aJ (Ne.symm hne)];exact hv4) ?_
        ·cases hh:H xx with
         | none=>rfl
         | some oo=>
          exfalso;by_cases hxv:xx=av
          ·rw [hxv,hv3] at hxx;cases hxx
          ·rw [s3 _ _ (b12 _ _ hh hxv)] at hxx;cases hxx
        ·rw [aJ fun z=>nb (.inr (.inl z))];exact bs H4 b4 b o e nb
        ·exact ry1.cX us (by rw [D.pure];exact aC1 hq)
        ·exact dk ry3 (aFf hq)
        ·have r4:aW All H4 vs1 (st.drop n).reverse:=(rv2.same s3).cX (b4.use (s3 _ _ hsa2)) (eG (l_ pst));exact r4.cX us (eG (l_ pst))
       | err c as=>
        rw [hq] at hc;exact fun H4 b4=>hc H4 (bs H4 b4)
       | bad=>
        rw [hq] at hc;exact hc.elim
    ·exact hc.elim
   ·exact hc.elim
 ·exact hc.elim
end
theorem RL {hd mk rl:List (D×D)} {m:Int} {k k':Cn} {kn kn':List (D×D)} {st st' ws':List D} {w:D} (h:K1 hd mk rl m k kn st w=.ok (st',some (ws',kn'),k')):D.aG ws'=true/\D.aG (kn'.map (·.2))=true:=by
 unfold K1 at h;split at h
 ·split at h
  ·cases h
  ·split at h
   ·split at h
    ·split at h
     ·split at h <;> cases h
     ·split at h
      ·rename_i hq;cases h;exact ⟨aC1 hq,aFf hq⟩
      ·cases h
      ·cases h
    ·cases h
   ·cases h
 ·cases h
end Mi
end
section
namespace Mi
open PySem L2 PySem.W PySem.SeqAt PySem.Spec PyProof.Rows
structure Fr where
 ws:List D
 i:Nat
 kn:List (D×D)
noncomputable def runN (hd mk rl:List (D×D)) (m:Int):Nat->List Fr->List D->Cn->Res (List D×Cn)
 | 0,_,_,_=>.bad
 | _+1,[],st,k=>.ok (st,k)
 | n+1,⟨_,0,_⟩::r,st,k=>runN hd mk rl m n r st k
 | n+1,⟨ws,i+1,kn⟩::r,st,k=>match ws[i]? with
  | none=>.bad
  | some w=>if decide (r.length<900000) then (match K1 hd mk rl m k kn st w with
   | .ok (st',none,_)=>if D.aG st' then runN hd mk rl m n (⟨ws,i,kn⟩::r) st' k else .bad
   | .ok (st',some (ws',kn'),k')=>if D.aG st' then runN hd mk rl m n (⟨ws',ws'.length,kn'⟩::⟨ws,i,kn⟩::r) st' k' else .bad
   | .err c as=>.err c as
   | .bad=>.bad) else .bad
theorem lL {hd mk rl:List (D×D)} {m:Int}:∀{n:Nat} {fs:List Fr} {st:List D} {k:Cn} {r:Res (List D×Cn)},runN hd mk rl m n fs st k=r->r≠.bad->∀j,runN hd mk rl m (n+j) fs st k=r
 | 0,_,_,_,_,h,hr,_=>absurd h.symm hr
 | n+1,[],st,k,r,h,hr,j=>by
  rw [Nat.add_right_comm];exact h
 | n+1,⟨ws,0,kn⟩::fs,st,k,r,h,hr,j=>by
  rw [Nat.add_right_comm];exact lL (n:=n) (fs:=fs) h hr j
 | n+1,⟨ws,i+1,kn⟩::fs,st,k,r,h,hr,j=>by
  rw [Nat.add_right_comm];unfold runN at h ⊢;split at h
  ·exact absurd h.symm hr
  ·split at h
   ·rename_i hb;rw [if_pos hb];split at h
    ·split at h
     ·rename_i hp;rw [if_pos hp];exact lL (n:=n) h hr j
     ·exact absurd h.symm hr
    ·split at h
     ·rename_i hp;rw [if_pos hp];exact lL (n:=n) h hr j
     ·exact absurd h.symm hr
    ·exact h
    ·exact absurd h.symm hr
   ·exact absurd h.symm hr
theorem YK {hd mk rl:List (D×D)} {m:Int} {n n':Nat} {fs:List Fr} {st:List D} {k:Cn} {r r':Res (List D×Cn)} (h:runN hd mk rl m n fs st k=r) (hr:r≠.bad) (h':runN hd mk rl m n' fs st k=r') (hr':r'≠.bad):r=r':=by
 have e1:=lL h hr n';have e2:=lL h' hr' n;rw [Nat.add_comm] at e2;exact e1.symm.trans e2
noncomputable def aC2:Res (List D×Cn)->Res (D×Cn)
 | .ok (st,k)=>match st.getLast? with
  | some y=>.ok (y,k)
  | none=>.bad
 | .err c as=>.err c as
 | .bad=>.bad
open Classical in
noncomputable def CZ (hd mk rl:List (D×D)) (m:Int) (ws:List D):Res (D×Cn):=
 if h:∃r,r≠.bad/\∃n,runN hd mk rl m n [⟨ws,ws.length,[]⟩] [] ⟨0,0,0⟩=r then aC2 h.choose else .bad
theorem K3 {hd mk rl:List (D×D)} {m:Int} {ws:List D} {r:Res (List D×Cn)} {n:Nat} (h:runN hd mk rl m n [⟨ws,ws.length,[]⟩] [] ⟨0,0,0⟩=r) (hr:r≠.bad):CZ hd mk rl m ws=aC2 r:=by
 have e:∃r,r≠.bad/\∃n,runN hd mk rl m n [⟨ws,ws.length,[]⟩] [] ⟨0,0,0⟩=r:=⟨r,hr,n,h⟩
 obtain ⟨h1,n',h2⟩:=e.choose_spec;unfold CZ;rw [dif_pos e,YK h2 h1 h hr]
theorem K4 {hd mk rl:List (D×D)} {m:Int} {ws:List D} {q:Res (D×Cn)} (h:CZ hd mk rl m ws=q) (hq:q≠.bad):∃r n,r≠.bad/\runN hd mk rl m n [⟨ws,ws.length,[]⟩] [] ⟨0,0,0⟩=r/\aC2 r=q:=by
 unfold CZ at h;split at h
 ·rename_i e;obtain ⟨h1,n',h2⟩:=e.choose_spec;exact ⟨_,n',h1,h2,h⟩
 ·exact absurd h.symm hq
variable [KFrag]
noncomputable def loud:HO->Bool
 | .lst _=>true
 | .ins _ _ _=>true
 | _=>false
structure Lb (S:Addr->Prop) (H H':Hp):Prop where
 bs:aD9 S H H'
 ld:∀b,S b->∃o,H b=some o/\loud o=true
theorem Lb.use {S:Addr->Prop} {H H':Hp} (x:Lb S H H'):pA H H':=fun b o e u=>x.bs b o e fun z=>by
 obtain ⟨o',e',hl⟩:=x.ld b z;rw [e] at e';cases e';cases o <;> first|(cases hl;done)|(cases u;done)
theorem Lb.same {H H':Hp} (s:bK H H'):Lb (fun _=>False) H H':=⟨fun b o e _=>s b o e,fun _ z=>z.elim⟩
theorem Lb.but {x:Addr} {H H':Hp} {o:HO} (b:iZ x H H') (hx:H x=some o) (hl:loud o=true):Lb (fun c=>c=x) H H':=⟨fun c oc e n=>b c oc e n,fun c z=>by subst z;exact ⟨o,hx,hl⟩⟩
theorem Lb.dct {S:Addr->Prop} {H H':Hp} (x:Lb S H H') {v:V} {kn:List (D×D)} (r:Rep All H v (.dct kn)) (p:D.aG (kn.map (·.2))=true):Rep All H' v (.dct kn):=by
 cases r with
 | dK e _ r n=>exact .dK (x.bs _ _ e fun z=>by obtain ⟨o,e',hl⟩:=x.ld _ z;rw [e] at e';cases e';cases hl) trivial (r.cX x.use p) n
 | dT e _ r n=>exact .dT (x.bs _ _ e fun z=>by obtain ⟨o,e',hl⟩:=x.ld _ z;rw [e] at e';cases e';cases hl) trivial (r.cX x.use p) n
theorem Lb.fra {S:Addr->Prop} {H H':Hp} {CF fr:Addr} {ws:List D} {i:Nat} {kn:List (D×D)} (x:Lb S H H') (h:FrA CF H fr ws i kn) (p:D.aG ws=true) (pk:D.aG (kn.map (·.2))=true) (n:¬S fr):FrA CF H' fr ws i kn:=by
 obtain ⟨dx,w1,w3,e,r1,r3⟩:=h;exact ⟨dx,w1,w3,x.bs _ _ e n,r1.cX x.use (by rw [D.pure];exact p),x.dct r3 pk⟩
noncomputable def C_ (CF:Addr) (H0 H:Hp):List Addr->List Fr->Prop
 | [],[]=>True
 | x::as,f::fs=>FrA CF H x f.ws f.i f.kn/\D.aG f.ws=true/\D.aG (f.kn.map (·.2))=true/\H0 x=none/\x∉as/\C_ CF H0 H as fs
 | _,_=>False
theorem Lb.frs {S:Addr->Prop} {H0 H H':Hp} {CF:Addr} (x:Lb S H H'):∀{as:List Addr} {fs:List Fr},C_ CF H0 H as fs->(∀b∈as,¬S b)->C_ CF H0 H' as fs
 | [],[],_,_=>trivial
 | a::as,f::fs,⟨h1,h2,h3,h4,h5,h6⟩,n=>⟨x.fra h1 h2 h3 (n a (by simp)),h2,h3,h4,h5,Lb.frs x h6 fun b hb=>n b (by simp [hb])⟩
 | [],_::_,h,_=>h.elim
 | _::_,[],h,_=>h.elim
theorem C_.ins {CF:Addr} {H0 H:Hp}:∀{as:List Addr} {fs:List Fr},C_ CF H0 H as fs->∀b∈as,H0 b=none/\∃C dx fs,H b=some (.ins C dx fs)
 | [],[],_,b,hb=>by cases hb
 | a::as,f::fs,⟨⟨dx,w1,w3,e,_⟩,h2,h3,h4,h5,h6⟩,b,hb=>by
  rcases List.mem_cons.mp hb with rfl|hb
  ·exact ⟨h4,_,_,_,e⟩
  ·exact C_.ins h6 b hb
 | [],_::_,h,_,_=>h.elim
 | _::_,[],h,_,_=>h.elim
theorem C_.len {CF:Addr} {H0 H:Hp}:∀{as:List Addr} {fs:List Fr},C_ CF H0 H as fs->as.length=fs.length
 | [],[],_=>rfl
 | a::as,f::fs,⟨_,_,_,_,_,h6⟩=>by rw [List.length_cons,List.length_cons,C_.len h6]
 | [],_::_,h=>h.elim
 | _::_,[],h=>h.elim
structure VI (CF:Addr) (hd mk rl:List (D×D)) (m:Int) (H0:Hp) (a af av:Addr) (fs:List Fr) (st:List D) (k:Cn) (H:Hp):Prop where
 sm:iZ a H0 H
 self:Rep All H (.ref a) (.ins "PlainRun" (prF hd mk rl m k))
 frs:∃as,H af=some (.lst (as.map V.ref).reverse)/\C_ CF H0 H as fs
 val:∃vs,H av=some (.lst vs)/\aW All H vs st.reverse
 pv:D.aG st=true
def aFg:FE:=b2 getD (Q4 "Frame" "words" mO) (Q4 "Frame" "left" mO)
noncomputable def frK (ws:List D) (i:Nat) (kn:List (D×D)):D:=.ins "Frame" [("words",.tup ws),("left",.int i),("known",.dct kn)]
theorem YL {ws:List D} {j:Nat} {w:D} {kn:List (D×D)} (h:ws[j]?=some w):aFg [.uD,.uD,.uD,.uD,frK ws j kn]=.ok w:=by
 have hj:j<ws.length:=by
  rcases Nat.lt_or_ge j ws.length with z|z
  ·exact z
  ·rw [List.getElem?_eq_none z] at h;cases h
 show (Res.ofOpt ((ixD ws.length (j:Int)).bind fun i=>ws[i]?))=.ok w;unfold ixD;rw [if_pos (by lia),if_pos (by lia)];show Res.ofOpt (ws[(j:Int).toNat]?)=.ok w;rw [Int.toNat_natCast,h];rfl
noncomputable def aFh (C CF CS:Addr) (E:XK):TS:=qD (zL C "take_word" (aC0 CF CS) [] E (dY 0) (cJ (dY 2) (cJ (dY 3) (cJ (gE aFg false) nJ))))
noncomputable def aFi (K:PySem.W.Frag) (C CF CS:Addr) (E:XK):TS:=ZW (tB (aDh (wK K (dY 4) "left") (tC (.int 0)))) (qD (aEg K 2))
  (o_ (ZZ K (dY 4) (aDf (wK K (dY 4) "left") (tC (.int 1))) "left") (aFh C CF CS E))
noncomputable def tWB (K:PySem.W.Frag) (C CF CS:Addr) (E:XK):TS:=o_ (sE (tOp (aD0 K) (dY 2) tm1) (dZ 4)) (aFi K C CF CS E)
noncomputable def aFj (K:PySem.W.Frag) (C CF CS:Addr) (l:List (Str×Srx)) (E:XK):TS:=
 o_ (sE (aCz (cJ (tMk K "Frame" l 2 (cJ (dY 1) (cJ wR nJ))) nJ)) (dZ 2))
  (o_ (sE (aCz nJ) (dZ 3))
   (o_ (DX (aF8 K 2) (tWB K C CF CS E))
    (aA5 (tOp (aD0 K) (dY 3) (tC (.int 0))))))
noncomputable def aGg (CS a:Addr) (hd mk rl:List (D×D)) (m:Int) (H:Hp) (Q:VK) (E:XK):Res (D×Cn)->Prop
 | .ok (y,k)=>∀v H',iZ a H H'->Rep All H' (.ref a) (.ins "PlainRun" (prF hd mk rl m k))->Rep All H' v y->y.pure=true->Q v H'
 | .err _ _=>∀H',iZ a H H'->E (.ref CS) none H'
 | .bad=>False
noncomputable def K5 (CS:Addr):Sp:=fun vs H Q E=>∃a vw hd mk rl m ws,vs=[.ref a,vw]/\okR hd mk rl/\D.aG ws=true/\Rep All H (.ref a) (.ins "PlainRun" (prF hd mk rl m ⟨0,0,0⟩))/\Rep All H vw (.tup ws)/\aGg CS a hd mk rl m H Q E (CZ hd mk rl m ws)
section
variable {K:PySem.W.Frag} {C CF CS:Addr} {l:List (Str×Srx)}
theorem vX {S:Addr->Prop} {H H':Hp} {a:Addr} {hd mk rl:List (D×D)} {m:Int} {k:Cn} (hK:KFrag.K=K) (hC:nsIn K mainGlobals "PlainRun" = some (some (.ref C))) (x:Lb S H H') (o:okR hd mk rl) (n:¬S a) (r:Rep All H (.ref a) (.ins "PlainRun" (prF hd mk rl m k))):Rep All H' (.ref a) (.ins "PlainRun" (prF hd mk rl m k)):=by
 obtain ⟨dx,h1,h2,h3,e,r1,r2,r3⟩:=iD hK hC r;exact oW hK hC (x.bs _ _ e n) (x.dct r1 o.1) (x.dct r2 o.2.1) (x.dct r3 o.2.2)
theorem RM {hd mk rl:List (D×D)} {m:Int} {H0:Hp} {vw:V} {a af av:Addr} {D':Ends} {E:XK} {res:Res (List D×Cn)} (hK:KFrag.K=K) (hC:nsIn K mainGlobals "PlainRun" = some (some (.ref C))) (hCF:nsIn K mainGlobals "Frame" = some (some (.ref CF))) (clF:Cls K CF) (nl:bQ K CF "left") (ok:okR hd mk rl)
  (hna:∃o,H0 a=some o) (nf:H0 af=none) (nv:H0 av=none) (ne:af≠av) {o4:Option V} {H:Hp} {f:Fr} {fs:List Fr} {st:List D} {k:Cn} {n:Nat} (I:VI CF hd mk rl m H0 a af av (f::fs) st k H) (hr:runN hd mk rl m (n+1) (f::fs) st k=res) (hne:res≠.bad)
  (hE:∀c as,res=.err c as->∀H',iZ a H0 H'->E (.ref CS) none H')
  (hN:∀o4 H fs st k,VI CF hd mk rl m H0 a af av fs st k H->runN hd mk rl m n fs st k=res->D'.nx [some (.ref a),some vw,some (.ref af),some (.ref av),o4] H) :
  tWB K C CF CS E D' [some (.ref a),some vw,some (.ref af),some (.ref av),o4] H:=by
 obtain ⟨sm,self,⟨as,hf,fr⟩,⟨vs,hv,rv⟩,pv⟩:=I;obtain ⟨x,as,rfl⟩:∃x as',as=x::as':=by
  cases as with
  | nil=>exact fr.elim
  | cons x as=>exact ⟨x,as,rfl⟩
 obtain ⟨⟨dx,w1,w3,hx,r1,r3⟩,pw,pk,nx0,nxa,frr⟩:=fr;obtain ⟨dxp,h1,h2,h3,hsa,e1,e2,e3⟩:=iD hK hC self;obtain ⟨o0,hna⟩:=hna;have a0:∀{b:Addr},H0 b=none->b≠a:=fun h z=>by rw [z,hna] at h;cases h
 have ex:(List.map V.ref (x::as)).reverse=(List.map V.ref as).reverse++[.ref x]:=by simp
 rw [ex] at hf;have nxf:x≠af:=k_ hx hf (by intro z;cases z);have nxv:x≠av:=k_ hx hv (by intro z;cases z);refine ⟨.ref af,rfl,1,rfl,af,_,-1,.ref x,rfl,rfl,.of hf,wO _ _,?_⟩;show aFi K C CF CS E D' [some (.ref a),some vw,some (.ref af),some (.ref av),some (.ref x)] H;obtain ⟨ws,i,kn⟩:=f;refine ⟨.ref x,rfl,x,CF,dx,_,.int i,rfl,hx,clF,nl,rfl,i,0,rfl,rfl,_,rfl,?_⟩;have asi:=C_.ins frr;dsimp only;cases i with
 | zero=>
  rw [if_pos (by rfl)];have bf:Lb (fun c=>c=af) H (upd H af (.lst (as.map V.ref).reverse)):=Lb.but iZ.upd hf rfl;refine ⟨.ref af,rfl,.inl ⟨rfl,_,.of hf⟩,af,_,.ref x,rfl,rfl,hf,by simp,?_⟩;rw [List.dropLast_concat];refine hN _ _ fs st k ⟨fun b o e nb=>?_,vX hK hC bf ok (Ne.symm (a0 nf)) self,⟨as,aC,bf.frs frr fun b hb z=>?_⟩,⟨vs,by rw [aJ (Ne.symm ne)];exact hv,rv.cX bf.use (eG pv)⟩,pv⟩ hr
  ·rw [aJ (aR e nf)];exact sm b o e nb
  ·obtain ⟨_,C',dx',fs',e⟩:=asi b hb;rw [z,hf] at e;cases e
 | succ j=>
  rw [if_neg (fun z=>by have:=of_decide_eq_true z;lia)];refine ⟨.ref x,rfl,x,CF,dx,_,.int ((j+1:Nat):Int),rfl,hx,clF,nl,rfl,_,1,rfl,rfl,.ref x,rfl,x,CF,dx,_,rfl,hx,clF,nl,(by show 3<1000;decide),?_⟩;rw [Q6];have bx:Lb (fun c=>c=x) H (upd H x (.ins CF dx [("words",w1),("left",.int j),("known",w3)])):=Lb.but iZ.upd hx rfl;have hx2:upd H x (.ins CF dx [("words",w1),("left",.int j),("known",w3)]) x=some (.ins CF dx [("words",w1),("left",.int j),("known",w3)]):=aC;have hf2:=bx.bs _ _ hf (Ne.symm nxf);have hv2:=bx.bs _ _ hv (Ne.symm nxv);have self2:=vX hK hC bx ok (Ne.symm (a0 nx0)) self;have rv2:aW All (upd H x (.ins CF dx [("words",w1),("left",.int j),("known",w3)])) vs st.reverse:=rv.cX bx.use (eG pv);have r12:Rep All (upd H x (.ins CF dx [("words",w1),("left",.int j),("known",w3)])) w1 (.tup ws):=r1.cX bx.use (by rw [D.pure];exact pw);have r32:=bx.dct r3 pk;have sm2:iZ a H0 (upd H x (.ins CF dx [("words",w1),("left",.int j),("known",w3)])):=fun b o e nb=>bx.bs _ _ (sm b o e nb) (aR e nx0)
  have frr2:=bx.frs frr fun b hb z=>by rw [z] at hb;exact nxa hb
  show aFh C CF CS E D' [some (.ref a),some vw,some (.ref af),some (.ref av),some (.ref x)] (upd H x (.ins CF dx [("words",w1),("left",.int j),("known",w3)]));generalize upd H x (.ins CF dx [("words",w1),("left",.int j),("known",w3)])=H2 at hx2 hf2 hv2 self2 rv2 r12 r32 sm2 frr2;obtain ⟨dxp2,g1,g2,g3,hsa2,_⟩:=iD hK hC self2;unfold runN at hr;split at hr
  ·exact absurd hr.symm hne
  ·rename_i w hw;split at hr
   ·rename_i hlen;have hlen:=of_decide_eq_true hlen;refine ⟨.ref a,rfl,a,dxp2,_,rfl,hsa2,rfl,.ref af,rfl,.ref av,rfl,[.uD,.uD,.uD,.uD,frK ws j kn],w,(EL.skip (.skip (.skip (.skip (.cons (.ins (by rw [hK];exact hCF) hx2 (.cons r12 (.cons (.int _) (.cons r32 .nil)))) .nil))))).er,YL hw,fun vw3 H3 s3 rw3 _=>?_⟩;have hf3:=s3 _ _ hf2;have hv3:=s3 _ _ hv2;have hx3:=s3 _ _ hx2;have l3:=Lb.same s3;have frr3:=l3.frs frr2 fun _ _ z=>z
    have sm3:iZ a H0 H3:=fun b o e nb=>s3 _ _ (sm2 b o e nb)
    have asi3:=C_.ins frr3;have hal:=frr.len;refine ⟨a,af,av,vw3,hd,mk,rl,m,k,kn,st,w,_,x,ws,j,vs,rfl,ok,pk,pv,self2.same s3,hf3,by rw [List.length_append,List.length_reverse,List.length_map,hal];simp;lia,wO _ _,⟨dx,w1,w3,hx3,r12.same s3,r32.same s3⟩,hv3,rv2.same s3,ne,rw3,?_⟩;split at hr
    ·rename_i st' k' ht;rw [ht];split at hr
     ·rename_i hps;intro H4 vs' b4 hv4 rv4;have l4:Lb (fun c=>c=av) H3 H4:=Lb.but b4 hv3 rfl;refine hN _ _ (⟨ws,j,kn⟩::fs) st' k ⟨fun b o e nb=>b4 _ _ (sm3 b o e nb) (aR e nv),vX hK hC l4 ok (Ne.symm (a0 nv)) (self2.same s3),⟨x::as,by rw [ex];exact b4 _ _ hf3 ne,l4.fra ⟨dx,w1,w3,hx3,r12.same s3,r32.same s3⟩ pw pk nxv,pw,pk,nx0,nxa,l4.frs frr3 fun b hb z=>?_⟩,⟨vs',hv4,rv4⟩,hps⟩ hr;obtain ⟨_,C',dx',fs',e⟩:=asi3 b hb;rw [z,hv3] at e;cases e
     ·exact absurd hr.symm hne
    ·rename_i st' ws' kn' k' ht;rw [ht];split at hr
     ·rename_i hps;intro H4 vs' y hy bs self4 hf4 fa hv4 rv4;obtain ⟨dxp3,q1,q2,q3,hsa3,_⟩:=iD hK hC (self2.same s3);have l4:Lb (fun b=>b=a\/b=af\/b=av) H3 H4:=⟨bs,fun b hb=>by
       rcases hb with rfl|rfl|rfl
       ·exact ⟨_,hsa3,rfl⟩
       ·exact ⟨_,hf3,rfl⟩
       ·exact ⟨_,hv3,rfl⟩⟩
      have old:∀b,(H0 b=none/\∃C dx fs,H3 b=some (.ins C dx fs))->¬(b=a\/b=af\/b=av):=fun b ⟨z0,C',dx',fs',e⟩ z=>by
       rcases z with rfl|rfl|rfl
       ·exact a0 z0 rfl
       ·rw [hf3] at e;cases e
       ·rw [hv3] at e;cases e
      have nyx:y∉x::as:=fun hb=>by
       rcases List.mem_cons.mp hb with z|z
       ·rw [z,hx3] at hy;cases hy
       ·obtain ⟨_,C',dx',fs',e⟩:=asi3 y z;rw [hy] at e;cases e
      have y0:H0 y=none:=by
       cases hq:H0 y with
       | none=>rfl
       | some oo=>
        exfalso;by_cases hya:y=a
        ·rw [hya,hsa3] at hy;cases hy
        ·rw [sm3 _ _ hq hya] at hy;cases hy
      have pk':D.aG ws'=true/\D.aG (kn'.map (·.2))=true:=RL ht;refine hN _ _ (⟨ws',ws'.length,kn'⟩::⟨ws,j,kn⟩::fs) st' k' ⟨fun b o e nb=>?_,self4,⟨y::x::as,?_,fa,pk'.1,pk'.2,y0,nyx,l4.fra ⟨dx,w1,w3,hx3,r12.same s3,r32.same s3⟩ pw pk (old x ⟨nx0,_,_,_,hx3⟩),pw,pk,nx0,nxa,l4.frs frr3 fun b hb=>old b (asi3 b hb)⟩,⟨vs',hv4,rv4⟩,hps⟩ hr
      ·refine bs _ _ (sm3 b o e nb) fun z=>?_
       rcases z with z|z|z
       ·exact nb z
       ·rw [z,nf] at e;cases e
       ·rw [z,nv] at e;cases e
      ·rw [hf4];simp
     ·exact absurd hr.symm hne
    ·rename_i c as' ht;rw [ht];intro H4 bs;refine hE c as' hr.symm H4 fun b o e nb=>bs _ _ (sm3 b o e nb) fun z=>?_
     rcases z with z|z|z
     ·exact nb z
     ·rw [z,nf] at e;cases e
     ·rw [z,nv] at e;cases e
    ·exact absurd hr.symm hne
   ·exact absurd hr.symm hne
end
end Mi
end
section
namespace Mi
open PySem L2 PySem.W PySem.SeqAt PySem.Spec PyProof.Rows
noncomputable def Z5 (lP:List (Str×Srx)) (vW:List D->Res D):List D->Res D
 | [pr,.tup ws,.int m]=>if D.aG ws&&pr.pure then (match evS [.uD,pr,.int m] lP with
  | .ok fs=>(match (fs.map (fun p=>p.2):List D) with
   | [.dct hd,.dct mk,.dct rl,.int m',.int 0,.int 0,.int 0]=>if D.aG (hd.map (·.2))&&(D.aG (mk.map (·.2))&&D.aG (rl.map (·.2))) then (match CZ hd mk rl m' ws with
    | .ok (y,k)=>(match vW [y] with
     | .ok d=>if d.pure then .ok (.tup [d,.int k.c,.int k.p,.int k.d]) else .bad
     | _=>.bad)
    | .err c as=>.err c as
    | .bad=>.bad) else .bad
   | _=>.bad)
  | _=>.bad) else .bad
 | _=>.bad
variable [KFrag]
theorem RN {rl:List (D×D)} {m:Int} {k:Cn} {tk:D} {ps:List D} {c:Str} {as:List D} (h:NB rl m k tk ps=.err c as):c = "Spent"/\as=[.exc "Spent" []]:=by
 obtain ⟨w0,xs,z0,more,r0,r1,own,ws',kn',k'',_,_,_,_,_,pw,hz,_,e⟩:=rB h (by intro z;cases z);split at e
 ·cases e;exact ⟨rfl,rfl⟩
 ·cases e
theorem RP {hd mk rl:List (D×D)} {m:Int} {k:Cn} {kn:List (D×D)} {st:List D} {w:D} {c:Str} {as:List D} (h:K1 hd mk rl m k kn st w=.err c as):c = "Spent"/\as=[.exc "Spent" []]:=by
 unfold K1 at h;split at h
 ·split at h
  ·cases h
  ·split at h
   ·split at h
    ·split at h
     ·split at h <;> cases h
     ·split at h
      ·cases h
      ·rename_i hq;cases h;exact RN hq
      ·cases h
    ·cases h
   ·cases h
 ·cases h
theorem m_ {hd mk rl:List (D×D)} {m:Int} {c:Str} {as:List D}:∀{n:Nat} {fs:List Fr} {st:List D} {k:Cn},runN hd mk rl m n fs st k=.err c as->c = "Spent"/\as=[.exc "Spent" []]
 | 0,_,_,_,h=>by cases h
 | n+1,[],st,k,h=>by cases h
 | n+1,⟨ws,0,kn⟩::fs,st,k,h=>m_ (n:=n) (fs:=fs) h
 | n+1,⟨ws,i+1,kn⟩::fs,st,k,h=>by
  unfold runN at h;split at h
  ·cases h
  ·split at h
   ·split at h
    ·split at h
     ·exact m_ h
     ·cases h
    ·split at h
     ·exact m_ h
     ·cases h
    ·rename_i hq;cases h;exact RP hq
    ·cases h
   ·cases h
theorem RQ {hd mk rl:List (D×D)} {m:Int} {ws:List D} {c:Str} {as:List D} (h:CZ hd mk rl m ws=.err c as):c = "Spent"/\as=[.exc "Spent" []]:=by
 obtain ⟨r,n,_,h1,h2⟩:=K4 h (by intro z;cases z);unfold aC2 at h2;split at h2
 ·split at h2 <;> cases h2
 ·cases h2;exact m_ h1
 ·cases h2
section
variable {K:PySem.W.Frag} {C CF CS:Addr} {l lP:List (Str×Srx)} {vW:List D->Res D}
theorem RT {N:List Str} (hN:N.length=5) (hK:KFrag.K=K) (hC:nsIn K mainGlobals "PlainRun" = some (some (.ref C))) (hCF:nsIn K mainGlobals "Frame" = some (some (.ref CF))) (clF:Cls K CF) (nl:bQ K CF "left")
  (hl:∀ws kn,D.aG ws=true->D.aG (kn.map (·.2))=true->evS [.uD,.tup ws,.dct kn] l=.ok [("words",.tup ws),("left",.int ws.length),("known",.dct kn)]) {vs:List V} {H:Hp} {Q:VK} {E:XK} (h:K5 CS vs H Q E):aFj K C CF CS l E {nx:=fun _ H'=>Q .non H',rt:=Q} (L2.start N vs) H:=by
 obtain ⟨a,vw,hd,mk,rl,m,ws,rfl,ok,pw,self,rw,hc⟩:=h;have hst:L2.start N [V.ref a,vw]=[some (.ref a),some vw,none,none,none]:=by
  unfold L2.start;rw [hN];rfl
 rw [hst];generalize hres:CZ hd mk rl m ws=q at hc;have hq:q≠.bad:=fun z=>by subst z;exact hc
 obtain ⟨res,n0,hne,hr0,he⟩:=K4 hres hq;obtain ⟨dxp,g1,g2,g3,hsa,_⟩:=iD hK hC self;refine ⟨vw,rfl,fun p hp=>?_⟩;have s1:bK H (upd H p (.dK [])):=bK.upd hp;refine ⟨[.tup ws,.dct []],_,rfl,.cons (rw.same s1) (.cons (.dK aC trivial .nil (by simp)) .nil),hl ws [] pw rfl,fun CF' x dx H2 vf hn2 hx s2 hx2 rf2=>?_⟩;rw [hCF] at hn2;cases hn2;have rfa:=rf2 All (fun _ _=>trivial) (.cons (rw.same s1) (.cons (.dK aC trivial .nil (by simp)) .nil));cases rfa with
 | cons q1 rfa=>
 cases rfa with
 | cons q2 rfa=>
 cases rfa with
 | cons q3 rfa=>
 cases rfa;cases q2;refine ⟨by show 1<=sizeLine;decide,fun pf hpf=>?_⟩;show sE (aCz nJ) (dZ 3) _ [some (.ref a),some vw,some (.ref pf),none,none] (upd H2 pf (.lst [.ref x]));refine ⟨Nat.zero_le _,fun pv hpv=>?_⟩;have hnf:pf≠pv:=fun z=>by
  subst z;rw [aC] at hpv;cases hpv
 have hpv2:H2 pv=none:=by rw [aJ (Ne.symm hnf)] at hpv;exact hpv
 have s3:bK H2 (upd (upd H2 pf (.lst [.ref x])) pv (.lst [])):=(bK.upd hpf).trans (bK.upd hpv);have s03:bK H (upd (upd H2 pf (.lst [.ref x])) pv (.lst [])):=(s1.trans s2).trans s3;have none0:∀b,H2 b=none->H b=none:=fun b hb=>(s1.trans s2).free hb
 have hx0:H x=none:=s1.free hx;have I0:VI CF hd mk rl m H a pf pv [⟨ws,ws.length,[]⟩] [] ⟨0,0,0⟩ (upd (upd H2 pf (.lst [.ref x])) pv (.lst [])):=
  ⟨fun b o e _=>s03 b o e,self.same s03,⟨[x],by rw [aJ hnf];exact aC,⟨dx,_,_,s3 _ _ hx2,q1.same s3,q3.same s3⟩,pw,rfl,hx0,by simp,trivial⟩,⟨[],aC,.nil⟩,rfl⟩
 show DX (aF8 K 2) (tWB K C CF CS E) _ [some (.ref a),some vw,some (.ref pf),some (.ref pv),none] (upd (upd H2 pf (.lst [.ref x])) pv (.lst []));refine ⟨fun n σ H'=>∃o4 fs st k,σ=[some (.ref a),some vw,some (.ref pf),some (.ref pv),o4]/\VI CF hd mk rl m H a pf pv fs st k H'/\runN hd mk rl m n fs st k=res,⟨n0,_,_,_,_,rfl,I0,hr0⟩,?_⟩;rintro n σ H' ⟨o4,fs,st,k,rfl,I,hr⟩;cases n with
 | zero=>exact absurd hr.symm hne
 | succ n=>
 obtain ⟨as,hf,fr⟩:=I.frs;refine ⟨.ref pf,rfl,!((as.map V.ref).reverse).isEmpty,.inl ⟨_,.of hf,rfl⟩,?_⟩;cases fs with
 | nil=>
  cases as with
  | cons x as=>exact fr.elim
  | nil=>
  show (if false=true then _ else _);rw [if_neg Bool.false_ne_true];have hr:Res.ok (st,k)=res:=hr;subst hr;unfold aC2 at he;dsimp only at he;split at he
  ·rename_i y hy;subst he;obtain ⟨vs,hv,rv⟩:=I.val;obtain ⟨st',rfl⟩:∃st',st=st'++[y]:=by
    have hn:st≠[]:=fun z=>by rw [z] at hy;cases hy
    refine ⟨st.dropLast,?_⟩;rw [List.getLast?_eq_some_getLast hn] at hy;cases hy;exact (List.dropLast_concat_getLast hn).symm
   rw [List.reverse_append,List.reverse_singleton] at rv;cases rv with
   | cons ry rr=>
   have py:y.pure=true:=cC.mp I.pv y (by simp);exact ⟨.ref pv,rfl,pv,_,0,_,rfl,rfl,.of hv,V9 (j:=0) rfl,hc _ _ I.sm I.self ry py⟩
  ·exact absurd he.symm hq
 | cons f fs=>
  cases as with
  | nil=>exact fr.elim
  | cons x as=>
  rw [if_pos (by simp)];refine ⟨fun σ' H''=>∃n',n'<n+1/\∃o4 fs st k,σ'=[some (.ref a),some vw,some (.ref pf),some (.ref pv),o4]/\VI CF hd mk rl m H a pf pv fs st k H''/\runN hd mk rl m n' fs st k=res,fun _ _ z=>z,?_⟩;refine RM hK hC hCF clF nl ok ⟨_,hsa⟩ (none0 _ hpf) (none0 _ hpv2) hnf I hr hne (fun c as e H' b=>?_) fun o4 H fs st k I hr=>⟨n,by lia,o4,fs,st,k,rfl,I,hr⟩
  subst e;subst he;exact hc H' b
noncomputable def aC3 (K:PySem.W.Frag) (vW:List D->Res D):TS:=aA5 (aF4 (cJ (gE (aQ (f9 1 vW) (aB mO aY)) true) (cJ (wK K (dY 3) "calls") (cJ (wK K (dY 3) "copies") (cJ (wK K (dY 3) "drops") nJ)))))
noncomputable def aFk (K:PySem.W.Frag) (C CS:Addr) (lP:List (Str×Srx)) (vW:List D->Res D) (E:XK):TS:=
 o_ (sE (tMk K "PlainRun" lP 2 (cJ (dY 0) (cJ (dY 2) nJ))) (dZ 3))
  (o_ (sE (zL C "value_of" (K5 CS) [] E (dY 3) (cJ (dY 1) nJ)) (dZ 4)) (aC3 K vW))
theorem RV {N:List Str} (hN:N.length=5) (hK:KFrag.K=K) (hC:nsIn K mainGlobals "PlainRun" = some (some (.ref C))) (hS:nsIn K mainGlobals "Spent" = some (some (.ref CS))) (cl:Cls K C) (nc:bQ K C "calls") (np:bQ K C "copies") (nd:bQ K C "drops")
  (hnm:lP.map (·.1)=([Str.ofString "heads",Str.ofString "makers",Str.ofString "rules",Str.ofString "most",Str.ofString "calls",Str.ofString "copies",Str.ofString "drops"]:List Str)) {vs:List V} {H:Hp} {Q:VK} {E:XK} (h:spZ (Z5 lP vW) 3 vs H Q E):aFk K C CS lP vW E {nx:=fun _ H'=>Q .non H',rt:=Q} (L2.start N vs) H:=by
 obtain ⟨ds,hd3,r,h⟩:=h;generalize hw:Z5 lP vW ds=w at h;unfold Z5 at hw;split at hw
 ·rename_i pr ws m;split at hw
  ·rename_i hb;rw [Bool.and_eq_true] at hb;split at hw
   ·rename_i fs hev;split at hw
    ·rename_i hd mk rl m' hfs;split at hw
     ·rename_i hpu;simp only [Bool.and_eq_true] at hpu;have hf:fs=prF hd mk rl m' ⟨0,0,0⟩:=by
       have h1:=(T9 hev).2;rw [hnm] at h1;have:fs=(fs.map (·.1)).zip (fs.map (·.2)):=by
        clear hev hfs h1;induction fs with
        | nil=>rfl
        | cons p fs ih=>rw [List.map_cons,List.map_cons,List.zip_cons_cons,<-ih]
       rw [this,h1,hfs];rfl
      subst hf;cases r with
      | cons rp r=>
      cases r with
      | cons rws r=>
      cases r with
      | cons rm r=>
      cases r;rename_i vp vws vm;have hst:L2.start N [vp,vws,vm]=[some vp,some vws,some vm,none,none]:=by
       unfold L2.start;rw [hN];rfl
      rw [hst];refine ⟨vp,rfl,vm,rfl,[pr,.int m],_,rfl,.cons rp (.cons rm .nil),hev,fun C' x dx H1 vf hn hx s1 hx1 rf=>?_⟩;rw [hC] at hn;cases hn;have rfa:=rf All (fun _ _=>trivial) (.cons rp (.cons rm .nil));have self1:Rep All H1 (.ref x) (.ins "PlainRun" (prF hd mk rl m' ⟨0,0,0⟩)):=.ins (by rw [hK];exact hC) hx1 rfa;have nx:∀{b:Addr} {o:HO},H b=some o->b≠x:=fun e=>aR e hx
      show o_ _ _ _ [some vp,some vws,some vm,some (.ref x),none] H1;refine ⟨.ref x,rfl,x,dx,_,rfl,hx1,rfa.t6 rfl,vws,rfl,x,vws,hd,mk,rl,m',ws,rfl,⟨hpu.1,hpu.2.1,hpu.2.2⟩,hb.1,self1,rws.same s1,?_⟩;cases hv:CZ hd mk rl m' ws with
      | ok q=>
       obtain ⟨y,k⟩:=q;rw [hv] at hw;dsimp only at hw;split at hw
       ·rename_i d hd';split at hw
        ·rename_i pd;subst hw;intro v H2 b2 self2 ry py;show aC3 K vW {nx:=fun _ H'=>Q .non H',rt:=Q} [some vp,some vws,some vm,some (.ref x),some v] H2;refine ⟨[.uD,.uD,.uD,.uD,y],d,(EL.skip (.skip (.skip (.skip (.cons ry .nil))))).er,?_,fun vd H3 s3 rd _=>?_⟩
         ·have e4:d9 4 [.uD,.uD,.uD,.uD,y]=.ok y:=bV rfl (KY py);exact bB (aF e4 rfl) ((iC rfl).trans hd')
         ·obtain ⟨dx2,g1,g2,g3,hx2,_⟩:=iD hK hC self2;have hx3:=s3 _ _ hx2;refine ⟨.ref x,rfl,x,C,dx2,_,.int k.c,rfl,hx3,cl,nc,rfl,.ref x,rfl,x,C,dx2,_,.int k.p,rfl,hx3,cl,np,rfl,.ref x,rfl,x,C,dx2,_,.int k.d,rfl,hx3,cl,nd,rfl,by show 4<=sizeLine;decide,fun p hp=>?_⟩;have rt:Rep All (upd H3 p (.tup [vd,.int k.c,.int k.p,.int k.d])) (.ref p) (.tup [d,.int k.c,.int k.p,.int k.d]):=.tup aC (.cons (rd.same (bK.upd hp)) (.cons (.int _) (.cons (.int _) (.cons (.int _) .nil))));refine h _ _ (fun b o e=>bK.upd hp b o (s3 _ _ (b2 _ _ (s1 _ _ e) (nx e)))) rt fun _=>rt.bH ?_
          rw [D.pure];simp [D.aG,D.pure,pd]
        ·subst hw;exact h.elim
       ·subst hw;exact h.elim
      | err c as=>
       rw [hv] at hw;subst hw;obtain ⟨rfl,rfl⟩:=RQ hv;obtain ⟨fs',C',e1,e2,e3⟩:=h;cases e1;rw [hK,hS] at e2;cases e2;exact fun H2 b2=>e3 H2 none (fun b o e=>b2 _ _ (s1 _ _ e) (nx e)) rfl
      | bad=>
       rw [hv] at hw;subst hw;exact h.elim
     ·subst hw;exact h.elim
    ·subst hw;exact h.elim
   ·subst hw;exact h.elim
  ·subst hw;exact h.elim
 ·subst hw;exact h.elim
end
theorem aC4 {C:Addr} {vs:List V} {H:Hp} {Q:VK} {E:XK} (h:Z3 C vs H Q E):vs.length=3:=by
 obtain ⟨_,_,_,_,_,_,_,_,_,e,_⟩:=h;rw [e];rfl
theorem YM {CF CS:Addr} {vs:List V} {H:Hp} {Q:VK} {E:XK} (h:KR CF CS vs H Q E):vs.length=3:=by
 obtain ⟨_,_,_,_,_,_,_,_,_,_,e,_⟩:=h;rw [e];rfl
theorem aC5 {CF CS:Addr} {vs:List V} {H:Hp} {Q:VK} {E:XK} (h:aC0 CF CS vs H Q E):vs.length=4:=by
 obtain ⟨_,_,_,_,_,_,_,_,_,_,_,_,_,_,_,_,_,e,_⟩:=h;rw [e];rfl
theorem YQ {CS:Addr} {vs:List V} {H:Hp} {Q:VK} {E:XK} (h:K5 CS vs H Q E):vs.length=2:=by
 obtain ⟨_,_,_,_,_,_,_,e,_⟩:=h;rw [e];rfl
theorem YS {f:List D->Res D} {n:Nat} {vs:List V} {H:Hp} {Q:VK} {E:XK} (h:spZ f n vs H Q E):vs.length=n:=by
 obtain ⟨_,e,r,_⟩:=h;rw [r.length,e]
section
variable {P:Program} {w:World} {K:PySem.W.Frag} {mg:Str->Option Value} {base:Heap} {x qual:Str} {st:Stmt} {f T:Addr} {its:Array Value} {fd:FuncData} {N ps:List Str} {k:Nat}
theorem aEn {sp:Sp} (F:aE8 K x qual st f fd T its) (S:bZ N ps (aH st)) (len:∀vs H Q E,sp vs H Q E->vs.length=ps.length)
  (hbody:∀(cdv:Value) (A:Around) (outer:List Env) (s:Shared) (H:Hp) (vs:List V) (Q:VK) (E:XK),jC k (A.deeper (envOfC qual (aH st) s.heap.objs.size f cdv))->sp vs H Q E->
   ∃t,PSs (wL (CX2 P w) P w K mg base N qual (aH st) f cdv A outer s H E) (cD st) t/\t {nx:=fun _ H'=>Q .non H',rt:=Q} (start N vs) H):i_ P w K mg base (CX2 P w) (k+1) f fd ps sp:=by
 obtain ⟨oc,od,kV,doc,pm,an,cdv,ct,osl,rfl,lk,hcd⟩:=F.ex;exact V2 lk hcd S len fun A outer s H vs Q E hr hsp=>hbody cdv A outer s H vs Q E hr hsp
theorem _root_.L2.i_.aGh {v:List D->Res D} {n:Nat} (F:i_ P w K mg base (CX2 P w) k f fd ps (spZ v n)):i_ P w K mg base CX0 k f fd ps (spD v n):=by
 have go:∀{vs H Q E},spD v n vs H Q E->spZ v n vs H Q (fun _ _ _=>False):=fun ⟨ds,d,h1,r,h,q⟩=>⟨ds,h1,r,by rw [h];exact q⟩
 refine ⟨fun vs H Q E h=>F.len vs H Q _ (go h),fun A outer s H args us vs Q E hr he hb hv h=>codeAny_mono (F.run A outer s H args us vs Q _ hr he hb hv (go h)) fun r s' hq=>?_⟩;cases r with
 | ok fl=>cases fl <;> exact hq
 | error e=>
  obtain ⟨_,_,_,_,_,_,_,_,_,_,_,_,z⟩:=hq;exact z.elim
end
end Mi
end
section
local macro_rules | `(tactic| trivial) => `(tactic| first | exact Or.inl rfl | exact Or.inr rfl | exact Or.inr (Or.inl rfl) | exact Or.inr (Or.inr rfl))
namespace Lk58
open PySem L2 Mi PySem.W
noncomputable def top (i:Nat):Stmt:=PySem.Challenge.pw_hookmill_k58_whole_many_rules.main.body.getD i (.Pass ⟨0,0,0,0⟩)
abbrev mC:Stmt:=top 4
def CJ:Nat->Bool:=fun i=>i==1
noncomputable def CK:FS:=b8 (cT true 1 (bC (.dct [])) true) (b8 (zT (bJ (b2 getD dU iK) false) (tgN [2,3,4]) (WM 1 kZ (jF (aB fB (aB mO aY))))) (b8 (zT (bJ (b2 getD dU uP) false) (tgN [2,3,5,6]) (WM 1 kZ (jF (aB fB (aB (b2 aBb (jF (aB iV aY)) qI) aY))))) (HD 1)))
def fC:List D->Res D:=fnS 1 7 CK
abbrev mD:Stmt:=top 7
def CN:Nat->Bool:=fun i=>i==1||i==2
noncomputable def mF:FS:=b8 (cT true 1 (qK aY) true) (b8 (cT true 2 (qK (aB (bPu dU) aY)) true) (b8 (aE9 (bTr kZ) (b8 (BK 2 3) (b8 (PJ 1 (b2 getD fB gG)) (aBf 2 (b1 aD7 (b2 getD fB iK)))))) (nZ (aQ fX (aB iJ aY)) false)))
def fD:List D->Res D:=fnS 1 4 mF
abbrev kJ:Stmt:=rowOf (top 8) 0
noncomputable def jM:List (Str×Srx):=[("words",.par 1),("left",.exp (aQ lN (aB iJ aY))),("known",.par 2)]
abbrev cQ:Stmt:=rowOf (top 9) 0
noncomputable def cY:List (Str×Srx):=[("heads",.exp (aQ (f9 1 fC) (aB iJ aY))),("makers",.exp (b1 xV (dI 3 (bJ (b2 getD iJ iK) false) mQ (dW) (jF (aB (b2 getD fB gG) (aB (bC (.bl true)) aY))) false))),("rules",.exp (b1 rA (dI 3 (bJ (b2 getD iJ zR) false) mQ (dW) (jF (aB (jF (aB (b2 getD fB gG) (aB (b2 getD fB iK) aY))) (aB fB aY))) false))),("most",.par 2),("calls",.exp gG),("copies",.exp gG),("drops",.exp gG)]
abbrev cZ:Stmt:=rowOf (top 9) 1
abbrev cL:Stmt:=rowOf (top 9) 2
abbrev iH:Stmt:=rowOf (top 9) 3
abbrev cO:Stmt:=rowOf (top 9) 4
abbrev mG:Stmt:=top 6
def bR:List D->Res D:=Z5 cY fD
abbrev c7:Stmt:=top 12
def uA:Nat->Bool:=fun i=>i==5
noncomputable def jN:FS:=b8 (cT false 1 (bC (.str "abcdefghijklmnopqrstuvwxyz")) true) (b8 (cT false 2 (b2 (aZ .mod) dU M8) true) (b8 (cT false 3 (b2 (aZ .mod) (b2 (aZ .fdiv) dU M8) (b2 (aZ .add) kZ iK)) true) (b8 (cT false 4 (bM joinM (bC (.str "")) (aB (dI 8 (j7 (aB kZ aY) j0) mQ (dW) (b2 getD iJ (b2 (aZ .mod) (b2 (aZ .add) (b2 (aZ .fdiv) dU vD) (b2 oH pM pM)) lV)) false) aY)) true) (b8 (cT true 5 (qK aY) true) (b8 (zT (j7 (aB lV aY) j0) (tg1 6) (b8 (cT false 7 (b2 getD iJ (b2 (aZ .mod) (b2 (aZ .add) (b2 (aZ .fdiv) dU vD) (b2 oH (bC (.int 7)) qI)) lV)) false) (PJ 5 (b2 (aZ .add) (b2 (aZ .add) (m8 mO (lW) (dH fB)) O_) (m8 mO (dH fB) (lW)))))) (b8 (sIf (bTB (b2 (gJ .eq) (b2 (aZ .mod) (b2 (aZ .fdiv) dU vD) zR) iK)) (cT true 5 (dI 8 (j7 (aB lV aY) j0) mQ (dW) (b2 oH (b2 getD iJ (b2 (aZ .mod) (b2 (aZ .add) (b2 (aZ .fdiv) dU G9) (b2 (aZ .mod) pM TJ)) lV)) (b2 (aZ .add) iK (b2 (aZ .fdiv) pM TJ))) true) true) (uQ)) (b8 (sIf (bOr (bTB (b2 inX (bC (.str "copy")) iV)) (bTB (b2 inX (bC (.str "drop")) iV))) (cT true 5 (dI 8 (bJ iV false) mQ (dW) (b2 (aZ .add) pM (bC (.str "e"))) true) true) (uQ)) (HD 5))))))))
def dB:List D->Res D:=fnS 1 8 jN
abbrev gD:Stmt:=top 11
def pB:Nat->Bool:=fun i=>false
noncomputable def pC:FS:=b8 (sIf (bTB (b2 (gJ (.ord .lt)) iJ (aQ lN (aB dU aY)))) (nZ (b2 getD dU iJ) false) (uQ)) (nZ gG true)
def aX:List D->Res D:=fnS 2 2 pC
abbrev jO:Stmt:=top 14
def uB:Nat->Bool:=fun i=>false
noncomputable def jP:FS:=b8 (sIf (bOr (vG (bTr (b1 (nW .tuple) dU))) (bOr (bTB (b2 (gJ .ne) (aQ lN (aB dU aY)) TJ)) (vG (bTr (b1 (nW .tuple) (b2 getD dU gG)))))) (nZ (bC (.bl false)) true) (uQ)) (b8 (sIf (bOr (bTB (b2 (gJ .ne) (aQ lN (aB (b2 getD dU gG) aY)) iK)) (bOr (vG (bTr (b1 (nW .str) (b2 getD (b2 getD dU gG) gG)))) (bTB (b2 (gJ .ne) (b2 getD (b2 getD dU gG) gG) iJ)))) (nZ (bC (.bl false)) true) (uQ)) (b8 (zT (bJ (qK (aB iK (aB uP (aB zR aY)))) true) (tg1 3) (sIf (bOr (vG (bTr (b1 (nW .int) (b2 getD dU fB)))) (bOr (bTr (b1 (nW .bool) (b2 getD dU fB))) (bTB (b2 (gJ .ne) (b2 getD dU fB) (b2 getD (qK (aB (bPu kZ) (aB gG (aB gG aY)))) (b2 (aZ .sub) fB iK)))))) (nZ (bC (.bl false)) true) (uQ))) (nZ (bC (.bl true)) true)))
def bT:List D->Res D:=fnS 3 4 jP
abbrev kO:Stmt:=top 13
def vY:Nat->Bool:=fun i=>false
noncomputable def vZ:FS:=b8 (cT false 4 (b2 (aZ .add) (b2 (aZ .add) (b2 (aZ .add) (b2 (aZ .mod) dU (bC (.int 1000003))) (b2 oH (b2 oH (bC (.int 31)) iJ) iJ)) (b2 oH (bC (.int 17)) kZ)) (b2 oH (b2 oH (bC (.int 5)) iJ) kZ)) true) (nZ (b2 (aZ .mod) (b2 (aZ .mod) (b2 oH mO (b2 (aZ .add) (b2 (aZ .add) (b2 oH uP iJ) zR) (b2 oH kZ kZ))) (bC (.int 1013))) fB) true)
def bD:List D->Res D:=fnS 4 5 vZ
abbrev jQ:Stmt:=top 15
def uC:Nat->Bool:=fun i=>false
noncomputable def uE:FS:=b8 (cT false 3 (bC .non) true) (b8 (aEc bR 3 (aB dU (aB iJ (aB kZ aY))) ["Spent"] 3 4) (nZ (b2 (gJ .notN) fB (bC .non)) true))
def cG:List D->Res D:=fnS 3 5 uE
abbrev mH:Stmt:=top 16
def o_law:Nat->Bool:=fun i=>i==7
noncomputable def YT:FS:=b8 (cT false 1 (aQ (f9 1 dB) (aB (aQ (f9 2 aX) (aB dU (aB gG aY))) aY)) true) (b8 (cT false 2 (aQ (f9 2 aX) (aB dU (aB iK aY))) true) (b8 (cT false 3 (aQ (f9 2 aX) (aB dU (aB uP aY))) true) (b8 (cT false 4 (b2 getD iJ gG) false) (b8 (cT false 5 (m8 iJ (dH iK) (dH (b2 (aZ .add) uP (b2 (aZ .mod) kZ M8)))) true) (b8 (cT false 6 (m8 iJ (dH (bC (.int 9))) (dH (b2 (aZ .add) (bC (.int 10)) (b2 (aZ .mod) (b2 (aZ .fdiv) kZ M8) M8)))) true) (b8 (cT true 7 (qK aY) true) (b8 (zT (j7 (aB (aQ lN (aB qI aY)) aY) j0) (tg1 8) (zT (j7 (aB (aQ lN (aB iV aY)) aY) j0) (tg1 9) (b8 (cT false 10 (b2 getD iV (aQ (f9 4 bD) (aB fB (aB pM (aB (d9 9) (aB (aQ lN (aB iV aY)) aY)))))) false) (PJ 7 (jF (aB (b2 getD qI pM) (aB (b2 getD iV (d9 9)) (aB (jF aY) (aB (jF (aB (d9 10) aY)) aY))))))))) (b8 (cT false 11 (b2 (aZ .mod) (b2 (aZ .fdiv) kZ (bC (.int 64))) (aQ lN (aB O_ aY))) true) (b8 (cT false 12 (aQ fX (aB (dI 19 (bJ qI false) mQ (dW) (jF (aB qJ (aB mO (aB mO (aB (jF aY) aY))))) false) aY)) false) (b8 (cT false 13 (aQ fX (aB (dI 19 (bJ iV false) mQ (dW) (jF (aB qJ (aB mO (aB (jF aY) aY)))) false) aY)) false) (b8 (cT false 14 (jF (aB (jF (aB mO aY)) (aB (d9 13) (aB (d9 12) (aB (aQ fX (aB (b2 (aZ .add) (m8 O_ (dH (d9 11)) (lW)) (m8 O_ (lW) (dH (d9 11)))) aY)) aY))))) false) (b8 (cT false 15 (dI 19 (bJ (m8 dU (dH zR) (dH G_)) true) mQ (dW) (b2 (aZ .mod) qJ (aQ lN (aB qI aY))) true) true) (b8 (cT false 16 (b2 (aZ .mod) (b2 (aZ .fdiv) kZ (bC (.int 640))) (aQ lN (aB iV aY))) true) (b8 (cT false 17 (aQ fX (aB (b2 (aZ .add) (dI 19 (bJ G8 false) mQ (dW) (b2 getD qI qJ) false) (qK (aB (bPu (b2 getD iV mZ)) aY))) aY)) false) (b8 (X6 15 (tg1 8) (cT false 16 (aQ (f9 4 bD) (aB fB (aB pM (aB mZ (aB (aQ lN (aB iV aY)) aY))))) true)) (b8 (cT false 18 (aQ lN (aB G8 aY)) true) (b8 (sIf (HB (bTB (b2 (gJ (.ord .gt)) iW gG)) (vG (bTr (aQ (f9 3 cG) (aB lH (aB lJ (aB (b2 (aZ .sub) iW iK) aY))))))) (nZ (bC (.bl false)) true) (uQ)) (b8 (sIf (vG (bTr (aQ (f9 3 bT) (aB (aQ (fun ds=>f9 3 bR (ds++[.int 400])) (aB lH (aB lJ aY))) (aB (b2 getD iV mZ) (aB iW aY)))))) (nZ (bC (.bl false)) true) (uQ)) (nZ (aQ (f9 3 bT) (aB (aQ (f9 3 bR) (aB lH (aB lJ (aB iW aY)))) (aB (b2 getD iV mZ) (aB iW aY)))) true)))))))))))))))))))
def CP:List D->Res D:=fnS 1 19 YT
noncomputable abbrev pZ:List Str:=["program", "heads", "name", "kind", "parts", "taken", "more"]
abbrev p6:List Str:=["value", "found", "waiting", "node"]
abbrev K6:List Str:=["program", "words", "most", "plain", "value"]
noncomputable abbrev cH:List Str:=["cell", "letters", "size", "at", "base", "names", "k", "sign"]
abbrev j6:List Str:=["script", "k"]
abbrev mW:List Str:=["found", "word", "calls", "k"]
abbrev oX:List Str:=["seed", "i", "j", "many", "mark"]
abbrev mX:List Str:=["program", "words", "bound", "caught", "e"]
noncomputable abbrev pD:List Str:=["script", "names", "shape", "seed", "kind", "makers", "takers", "rules", "i", "j", "goal", "at", "rows", "leaves", "program", "steps", "stand", "words", "calls"]
theorem v6:bZ pZ ["program"] (aH mC):=by refine ⟨rfl,rfl,rfl,?_,rfl,?_,?_⟩ <;> decide +kernel
theorem uF [KFrag] {P:Program} {w:World} {K:Frag} {mg:Str->Option Value} {base:Heap} {fad:Addr} {fd:FuncData} (hK:KFrag.K=K) (B:Bt mg)  (F:Fun K "heads_of" "heads_of" mC fad fd) (hm:mg "heads_of" = some (.ref fad)):jK P w K mg base 1 "heads_of" 1 fC:=by
 have sc:=v6;refine oG (ps:=["program"]) (N:=pZ) (k:=0) F hm (F.binds fun _ _ _ _ _ _ us hl=>match us,hl with|[_],_=>rfl) sc CJ (by decide) (by decide) fun cdv A outer s H E hr=>?_
 have hu:=xP hr;exact aL (cF (i:=1) (o:=true) rfl sc.nd rfl (by trivial) (PN)) (aL (pO PassesOwn.never rfl (eQ (b_ (cA hK hu) (aA (i:=0)) (aK) (fun _ _=>rfl))) (JB _ (is:=[2,3,4]) (by decide)) (DR rfl (eY (aV (i:=2) sc.nd rfl (by trivial)) (eY (aV (i:=3) sc.nd rfl (by trivial)) (eY (aV (i:=4) sc.nd rfl (by trivial)) (uZ))))) (bU (T5 (i:=1) hu rfl rfl (by trivial) (aA (i:=2)) (eF (aD (aA (i:=3)) (aD (aA (i:=4)) (aM))))))) (aL (pO PassesOwn.never rfl (eQ (b_ (cA hK hu) (aA (i:=0)) (aK) (fun _ _=>rfl))) (JB _ (is:=[2,3,5,6]) (by decide)) (DR rfl (eY (aV (i:=2) sc.nd rfl (by trivial)) (eY (aV (i:=3) sc.nd rfl (by trivial)) (eY (aV (i:=5) sc.nd rfl (by trivial)) (eY (aV (i:=6) sc.nd rfl (by trivial)) (uZ)))))) (bU (T5 (i:=1) hu rfl rfl (by trivial) (aA (i:=2)) (eF (aD (aA (i:=3)) (aD (bN XH (eF (aD (aA (i:=5)) (aM))) (aA (i:=6))) (aM))))))) (bU (IK (i:=1) rfl rfl (by trivial)))))
theorem v7:bZ p6 ["value"] (aH mD):=by refine ⟨rfl,rfl,rfl,?_,rfl,?_,?_⟩ <;> decide +kernel
theorem uG [KFrag] {P:Program} {w:World} {K:Frag} {mg:Str->Option Value} {base:Heap} {fad:Addr} {fd:FuncData} (hK:KFrag.K=K) (B:Bt mg)  (F:Fun K "words_of" "words_of" mD fad fd) (hm:mg "words_of" = some (.ref fad)):jK P w K mg base 1 "words_of" 1 fD:=by
 have sc:=v7;refine oG (ps:=["value"]) (N:=p6) (k:=0) F hm (F.binds fun _ _ _ _ _ _ us hl=>match us,hl with|[_],_=>rfl) sc CN (by decide) (by decide) fun cdv A outer s H E hr=>?_
 have hu:=xP hr;exact aL (cF (i:=1) (o:=true) rfl sc.nd rfl (by trivial) (n8 (aM))) (aL (cF (i:=2) (o:=true) rfl sc.nd rfl (by trivial) (n8 (aD (XR (aA (i:=0))) (aM)))) (aL (aBc PassesOwn.never (mR (aA (i:=2))) (aL (XJ (i:=2) (j:=3) rfl rfl (by trivial) sc.nd rfl (by trivial) rfl) (aL (I_ (i:=1) rfl rfl (by trivial) (b_ (cA hK hu) (aA (i:=3)) (aK) (fun _ _=>rfl))) (bU (aBg (i:=2) rfl rfl (by trivial) (XS (by rfl) (by rfl) B.list (by rfl) B.reversed (b_ (cA hK hu) (aA (i:=3)) (aK) (fun _ _=>rfl)))))))) (bU (iQ (fM jY (by rfl) B.tuple fZ (aD (aA (i:=1)) (aM)))))))
theorem RW:bZ (["self", "words", "known"]:List Str) ["self", "words", "known"] (aH kJ):=by refine ⟨rfl,rfl,rfl,?_,rfl,?_,?_⟩ <;> decide +kernel
theorem K7 [KFrag] {P:Program} {w:World} {K:Frag} {mg:Str->Option Value} {base:Heap} {fad:Addr} {fd:FuncData} (hK:KFrag.K=K) (B:Bt mg) {C:Addr}  (cls:Cls K C) (na:∀f∈jM.map (·.1),bQ K C f) (F:Fun K "__init__" "Frame.__init__" kJ fad fd):i_ P w K mg base CX0 1 fad fd ["self", "words", "known"] (Q5 C jM 2):=by
 have sc:=RW;refine UG (N:=(["self", "words", "known"]:List Str)) (ps:=["self", "words", "known"]) (k:=0) F sc rfl rfl cls (by decide +kernel) na (by decide) fun cdv A outer s H E hr=>?_
 have hu:=xP hr;exact bA (fV (aN (i:=0) rfl (by trivial)) (aN (i:=1) rfl (by trivial)) rfl) (bA (fV (aN (i:=0) rfl (by trivial)) (cP (iM hK) (by rfl) B.len iR (aD (aA (i:=1)) (aM))) rfl) (bA (fV (aN (i:=0) rfl (by trivial)) (aN (i:=2) rfl (by trivial)) rfl) (qC)))
theorem v_:bZ (["self", "program", "most"]:List Str) ["self", "program", "most"] (aH cQ):=by refine ⟨rfl,rfl,rfl,?_,rfl,?_,?_⟩ <;> decide +kernel
theorem uH [KFrag] {P:Program} {w:World} {K:Frag} {mg:Str->Option Value} {base:Heap} {fad:Addr} {fd:FuncData} (hK:KFrag.K=K) (B:Bt mg) {C:Addr} (c_heads_of:jK P w K mg base 1 "heads_of" 1 fC) (cls:Cls K C) (na:∀f∈cY.map (·.1),bQ K C f) (F:Fun K "__init__" "PlainRun.__init__" cQ fad fd):i_ P w K mg base CX0 2 fad fd ["self", "program", "most"] (Q5 C cY 2):=by
 have sc:=v_;refine UG (N:=(["self", "program", "most"]:List Str)) (ps:=["self", "program", "most"]) (k:=1) F sc rfl rfl cls (by decide +kernel) na (by decide) fun cdv A outer s H E hr=>?_
 have hu:=xP hr;exact bA (fV (aN (i:=0) rfl (by trivial)) (cV c_heads_of hr (by decide) (by rfl) (aD (aA (i:=1)) (aM))) rfl) (bA (fV (aN (i:=0) rfl (by trivial)) (J6 (by rfl) (by rfl) B.dict (iB (ownN:=(["maker"]:List Str)) (show cU (["self", "program", "most"]:List Str) (aH cQ) _ (["maker"]:List Str) from by refine ⟨rfl,?_,?_,?_,?_,?_,?_⟩ <;> decide +kernel) (n:=3) (m:=1) rfl rfl rfl (eQ (b_ (cA hK hu) (aA (i:=1)) (aK) (fun _ _=>rfl))) (gB 3) (fun _=>aV (i:=3) (show ((List.map (g_ (["maker"]:List Str)) (["self", "program", "most"]:List Str)++(["maker"]:List Str)):List Str).Nodup from by decide +kernel) rfl (by trivial)) (fun _=>eF (aD (b_ (cA hK hu) (aA (i:=3)) (aK) (fun _ _=>rfl)) (aD (vK) (aM)))) (fun _=>rfl))) rfl) (bA (fV (aN (i:=0) rfl (by trivial)) (BZ (by rfl) hu (by rfl) B.dict (iB (ownN:=(["rule"]:List Str)) (show cU (["self", "program", "most"]:List Str) (aH cQ) _ (["rule"]:List Str) from by refine ⟨rfl,?_,?_,?_,?_,?_,?_⟩ <;> decide +kernel) (n:=3) (m:=1) rfl rfl rfl (eQ (b_ (cA hK hu) (aA (i:=1)) (aK) (fun _ _=>rfl))) (gB 3) (fun _=>aV (i:=3) (show ((List.map (g_ (["rule"]:List Str)) (["self", "program", "most"]:List Str)++(["rule"]:List Str)):List Str).Nodup from by decide +kernel) rfl (by trivial)) (fun _=>eF (aD (eF (aD (b_ (cA hK hu) (aA (i:=3)) (aK) (fun _ _=>rfl)) (aD (b_ (cA hK hu) (aA (i:=3)) (aK) (fun _ _=>rfl)) (aM)))) (aD (aA (i:=3)) (aM)))) (fun _=>rfl))) rfl) (bA (fV (aN (i:=0) rfl (by trivial)) (aN (i:=2) rfl (by trivial)) rfl) (bA (fV (aN (i:=0) rfl (by trivial)) (aK) rfl) (bA (fV (aN (i:=0) rfl (by trivial)) (aK) rfl) (bA (fV (aN (i:=0) rfl (by trivial)) (aK) rfl) (qC)))))))
theorem wA:bZ (["self", "words", "frames", "values", "frame"]:List Str) ["self", "words"] (aH cZ):=by refine ⟨rfl,rfl,rfl,?_,rfl,?_,?_⟩ <;> decide +kernel
theorem uI:bZ (["self", "frames", "values", "word", "known", "parts"]:List Str) ["self", "frames", "values", "word"] (aH cL):=by refine ⟨rfl,rfl,rfl,?_,rfl,?_,?_⟩ <;> decide +kernel
theorem K8:bZ (["self", "taker", "parts", "taken", "rule", "known", "name", "value"]:List Str) ["self", "taker", "parts"] (aH iH):=by refine ⟨rfl,rfl,rfl,?_,rfl,?_,?_⟩ <;> decide +kernel
theorem rE:bZ (["self", "uses", "size"]:List Str) ["self", "uses", "size"] (aH cO):=by refine ⟨rfl,rfl,rfl,?_,rfl,?_,?_⟩ <;> decide +kernel
theorem aEo (σ:L2.St) (H:Hp) (Q Q':List V->Hp->Prop) (h:∀vs H',Q vs H'->Q' vs H') (x:(cJ (dY 1) (cJ wR nJ)) σ H Q):(cJ (dY 1) (cJ wR nJ)) σ H Q':=by
 obtain ⟨v,e,q⟩:=x;exact ⟨v,e,fun p hp=>h _ _ (q p hp)⟩
theorem aEp [KFrag] (σ:L2.St) (H:Hp) (Q Q':List V->Hp->Prop) (h:∀vs H',Q vs H'->Q' vs H') (x:(cJ (gE cf7 false) (cJ (dY 5) nJ)) σ H Q):(cJ (gE cf7 false) (cJ (dY 5) nJ)) σ H Q':=by
 obtain ⟨ρ,d,e,e2,q⟩:=x;exact ⟨ρ,d,e,e2,fun v H' s r n=>let ⟨u,z,q⟩:=q v H' s r n;⟨u,z,h _ _ q⟩⟩
theorem aEq (σ:L2.St) (H:Hp) (Q Q':List V->Hp->Prop) (h:∀vs H',Q vs H'->Q' vs H') (x:(cJ (dY 0) (cJ (dY 2) nJ)) σ H Q):(cJ (dY 0) (cJ (dY 2) nJ)) σ H Q':=by
 obtain ⟨v,e,u,z,q⟩:=x;exact ⟨v,e,u,z,h _ _ q⟩
theorem aC6 [KFrag] (ws:List D) (kn:List (D×D)) (h:D.aG ws=true) (hk:D.aG (kn.map (·.2))=true):evS [.uD,.tup ws,.dct kn] jM=.ok [("words",.tup ws),("left",.int ws.length),("known",.dct kn)]:=by
 have h1:okF (.tup ws)=true:=by unfold okF;rw [D.pure,h];rfl
 have e3:evS [.uD,.tup ws,.dct kn] [("known",.par 2)]=.ok [("known",.dct kn)]:=by
  show (if okF (.dct kn)=true then Res.ok [(("known" : Str),D.dct kn)] else .bad)=_;rw [if_pos (rC hk)]
 have e2:evS [.uD,.tup ws,.dct kn] [("left",.exp (aQ lN (aB iJ aY))),("known",.par 2)]=.ok [("left",.int ws.length),("known",.dct kn)]:=by
  show (do let ds <- evS [.uD,.tup ws,.dct kn] [("known",.par 2)];if okF (.int ws.length)=true then Res.ok ((("left" : Str),D.int ws.length)::ds) else .bad)=_;rw [e3];rfl
 show (do let ds <- evS [.uD,.tup ws,.dct kn] [("left",.exp (aQ lN (aB iJ aY))),("known",.par 2)];if okF (.tup ws)=true then Res.ok ((("words" : Str),D.tup ws)::ds) else .bad)=_;rw [e2,Res.aO,if_pos h1]
theorem dR [KFrag] {P:Program} {w:World} {K:Frag} {mg:Str->Option Value} {base:Heap} {fad:Addr} {fd:FuncData} (hK:KFrag.K=K) (B:Bt mg) {C:Addr} (cl:Cls K C) (nd:bQ K C "drops") (np:bQ K C "copies") (F:Fun K "count_uses" "PlainRun.count_uses" cO fad fd):i_ P w K mg base CX0 1 fad fd ["self", "uses", "size"] (Z3 C):=by
 have sc:=rE;refine F.ok (N:=(["self", "uses", "size"]:List Str)) (k:=0) sc (fun vs H Q E h=>aC4 h) fun cdv A outer s H vs Q E hr h=>⟨tCU K,?_,YC rfl cl nd np h⟩
 exact (cN (yX (DP (SX (aN (i:=1) rfl (by trivial)) lA)) (cN (fV (aN (i:=0) rfl (by trivial)) (rY (fU (aN (i:=0) rfl (by trivial)) rfl) (aN (i:=2) rfl (by trivial))) rfl)) (cN (fV (aN (i:=0) rfl (by trivial)) (rY (fU (aN (i:=0) rfl (by trivial)) rfl) (aA1 (SN (aN (i:=1) rfl (by trivial)) lA) (aN (i:=2) rfl (by trivial)))) rfl))))
theorem jR [KFrag] {P:Program} {w:World} {K:Frag} {mg:Str->Option Value} {base:Heap} {fad:Addr} {fd:FuncData} (hK:KFrag.K=K) (B:Bt mg) {C CF CS fm:Addr} {fdm:FuncData} {psm:List Str} (q_Frame:Z2 P w K mg base 1 "Frame" jM 2) (hC:nsIn K mainGlobals "PlainRun" = some (some (.ref C))) (hCF:nsIn K mainGlobals "Frame" = some (some (.ref CF))) (cl:Cls K C) (nc:bQ K C "calls") (np:bQ K C "copies") (nd:bQ K C "drops") (nm:bQ K C "most") (fr:uR K "PlainRun" "rules") (mS:mg "Spent" = some (.ref CS)) (xS:excIn K CS aE7 "ValueError.__new__" = true) (M:Meth K C "count_uses" fm) (T:i_ P w K mg base CX0 1 fm fdm psm (Z3 C)) (hb:Binds K fdm psm []) (F:Fun K "called" "PlainRun.called" iH fad fd):i_ P w K mg base (CX2 P w) 3 fad fd ["self", "taker", "parts"] (KR CF CS):=by
 have sc:=K8;refine aEi (N:=(["self", "taker", "parts", "taken", "rule", "known", "name", "value"]:List Str)) (k:=2) F sc (fun vs H Q E h=>YM h) fun cdv A outer s H vs Q E hr h=>⟨aFa K C CS jM E,?_,RJ rfl hK hC hCF cl nc np nd nm aC6 h⟩
 have hu:=xP hr;exact (bA (lB (b_ (cA hK hu) (aA (i:=2)) (aK) (fun _ _=>rfl)) (aV (i:=3) sc.nd rfl (by trivial))) (bA (lB (b_ (cA hK hu) (tY hK fr (aA (i:=0))) (eF (aD (aA (i:=1)) (aD (b_ (cA hK hu) (aA (i:=3)) (aK) (fun _ _=>rfl)) aM))) (fun _ _=>rfl)) (aV (i:=4) sc.nd rfl (by trivial))) (bA (lB (Q_ (by rfl) B.dict (by rfl) B.zip (aD (b_ (cA hK hu) (aA (i:=4)) (aK) (fun _ _=>rfl)) (aD (bN dJ (fM (WY (by rfl)) (by rfl) B.list JC (aD (b_ (cA hK hu) (aA (i:=3)) (aK) (fun _ _=>rfl)) aM)) (mU hK (aA (i:=2)) (fL (aK)) n_)) aM))) (aV (i:=5) sc.nd rfl (by trivial))) (bA (fV (aN (i:=0) rfl (by trivial)) (rY (fU (aN (i:=0) rfl (by trivial)) rfl) lA) rfl) (bA (aBp (FJ PassesOwn.leaving rfl (RD (i:=5) rfl (by trivial)) (DR rfl (eY (aV (i:=6) sc.nd rfl (by trivial)) (eY (aV (i:=7) sc.nd rfl (by trivial)) uZ))) (cN (jB (qF (aN (i:=0) rfl (by trivial)) cl M T (hr.mono (by decide)) hb .nil O7 (bI (aAu PySem.F.plainAttrs_tuple PySem.F.slot_tuple_count PySem.F.type_tuple_count KH (b_ (cA hK hu) (aA (i:=4)) (aK) (fun _ _=>rfl)) (aD (aA (i:=6)) aM) (fun _ _ _ _ _ h r=>KJ h r)) (bI (b_ (cA hK hu) (aA (i:=7)) (aK) (fun _ _=>rfl)) dF))))))) (bA (yX (DP (aDi (rY (rY (fU (aN (i:=0) rfl (by trivial)) rfl) (fU (aN (i:=0) rfl (by trivial)) rfl)) (fU (aN (i:=0) rfl (by trivial)) rfl)) (fU (aN (i:=0) rfl (by trivial)) rfl))) (cN (PS.imp (QL rfl (by rfl) mS xS (bI SM dF)) fun D σ H hE=>⟨by decide,fun pins s h2 a us I hx=>J_ I hx hE⟩)) qC) (cN (rZ (X4 q_Frame hr (by decide) (by rfl) (bI (b_ (cA hK hu) (aA (i:=4)) (aK) (fun _ _=>rfl)) (bI (aN (i:=5) rfl (by trivial)) dF)) (hmono:=aEp))))))))))
theorem eO [KFrag] {P:Program} {w:World} {K:Frag} {mg:Str->Option Value} {base:Heap} {fad:Addr} {fd:FuncData} (hK:KFrag.K=K) (B:Bt mg) {C CF CS fm:Addr} {fdm:FuncData} {psm:List Str} (hC:nsIn K mainGlobals "PlainRun" = some (some (.ref C))) (clF:Cls K CF) (nk:bQ K CF "known") (cl:Cls K C) (fh:uR K "PlainRun" "heads") (fm_:uR K "PlainRun" "makers") (M:Meth K C "called" fm) (T:i_ P w K mg base (CX2 P w) 3 fm fdm psm (KR CF CS)) (hb:Binds K fdm psm []) (F:Fun K "take_word" "PlainRun.take_word" cL fad fd):i_ P w K mg base (CX2 P w) 4 fad fd ["self", "frames", "values", "word"] (aC0 CF CS):=by
 have sc:=uI;refine aEi (N:=(["self", "frames", "values", "word", "known", "parts"]:List Str)) (k:=3) F sc (fun vs H Q E h=>aC5 h) fun cdv A outer s H vs Q E hr h=>⟨tTk K C CF CS E,?_,YJ rfl hK hC clF nk h⟩
 have hu:=xP hr;exact (bA (lB (fU (N_ lU (aN (i:=1) rfl (by trivial)) (aA6 S5 lA) (fun _ _=>rfl)) rfl) (aV (i:=4) sc.nd rfl (by trivial))) (cN (yX (jG (xQ hu) (aA (i:=3)) (aA (i:=4)) (by with_unfolding_all rfl)) (cN (jB (zO PySem.F.plainAttrs_list PySem.F.slot_list_append PySem.F.type_list_append jD (aN (i:=2) rfl (by trivial)) (by exact (bI (b_ (cA hK hu) (aA (i:=4)) (aA (i:=3)) (fun _ _=>rfl)) dF))))) (bA (RK (own:=own1 2) (cn := "kind") (show cU (["self", "frames", "values", "word", "known", "parts"]:List Str) (aH cL) _ (["kind"]:List Str) from by refine ⟨rfl,?_,?_,?_,?_,?_,?_⟩ <;> decide +kernel) (n:=6) rfl rfl rfl (eQ (b_ (cA hK hu) (b_ (cA hK hu) (tY hK fh (aA (i:=0))) (aA (i:=3)) (fun _ _=>rfl)) (aK) (fun _ _=>rfl))) (fun _=>aV (i:=6) (show ((List.map (g_ (["kind"]:List Str)) (["self", "frames", "values", "word", "known", "parts"]:List Str)++(["kind"]:List Str)):List Str).Nodup from by decide +kernel) rfl (by trivial)) (fun _=>X5 (i:=2) rfl rfl (by trivial)) (fun _=>rfl) (iy:=5) sc.nd rfl (by trivial) (Or.inl rfl) (by with_unfolding_all rfl)) (cN (yX (jG (xQ hu) (aA (i:=3)) (tY hK fm_ (aA (i:=0))) (by with_unfolding_all rfl)) (cN (jB (zO PySem.F.plainAttrs_list PySem.F.slot_list_append PySem.F.type_list_append jD (aN (i:=2) rfl (by trivial)) (by exact (bI (eF (aD (aA (i:=3)) (aD (fM jY (by rfl) B.tuple fZ (aD (aA (i:=5)) aM)) (aD (bN dJ (aK) (cP (aB6 (by rfl)) (by rfl) B.sum aB7 (aD (iB (ownN:=(["part"]:List Str)) (show cU (["self", "frames", "values", "word", "known", "parts"]:List Str) (aH cL) _ (["part"]:List Str) from by refine ⟨rfl,?_,?_,?_,?_,?_,?_⟩ <;> decide +kernel) (n:=6) (m:=1) rfl rfl rfl (eQ (aA (i:=5))) (gB 6) (fun _=>aV (i:=6) (show ((List.map (g_ (["part"]:List Str)) (["self", "frames", "values", "word", "known", "parts"]:List Str)++(["part"]:List Str)):List Str).Nodup from by decide +kernel) rfl (by trivial)) (fun _=>(b_ (cA hK hu) (aA (i:=6)) (aK) (fun _ _=>rfl))) (fun _=>rfl)) aM))) aM)))) dF))))) (cN (jB (zO PySem.F.plainAttrs_list PySem.F.slot_list_append PySem.F.type_list_append jD (aN (i:=1) rfl (by trivial)) (by exact (bI (qF (aN (i:=0) rfl (by trivial)) cl M T (hr.mono (by decide)) hb .nil lZ (bI (aN (i:=3) rfl (by trivial)) (bI (aN (i:=5) rfl (by trivial)) dF))) dF)))))))))))
theorem d7 [KFrag] {P:Program} {w:World} {K:Frag} {mg:Str->Option Value} {base:Heap} {fad:Addr} {fd:FuncData} (hK:KFrag.K=K) (B:Bt mg) {C CF CS fm:Addr} {fdm:FuncData} {psm:List Str} (q_Frame:Z2 P w K mg base 1 "Frame" jM 2) (hC:nsIn K mainGlobals "PlainRun" = some (some (.ref C))) (hCF:nsIn K mainGlobals "Frame" = some (some (.ref CF))) (clF:Cls K CF) (nl:bQ K CF "left") (cl:Cls K C) (M:Meth K C "take_word" fm) (T:i_ P w K mg base (CX2 P w) 4 fm fdm psm (aC0 CF CS)) (hb:Binds K fdm psm []) (fw:uR K "Frame" "words") (fl:uR K "Frame" "left") (F:Fun K "value_of" "PlainRun.value_of" cZ fad fd):i_ P w K mg base (CX2 P w) 5 fad fd ["self", "words"] (K5 CS):=by
 have sc:=wA;refine aEi (N:=(["self", "words", "frames", "values", "frame"]:List Str)) (k:=4) F sc (fun vs H Q E h=>YQ h) fun cdv A outer s H vs Q E hr h=>⟨aFj K C CF CS jM E,?_,RT rfl hK hC hCF clF nl aC6 h⟩
 have hu:=xP hr;exact (bA (lB (FW (bI (X4 q_Frame hr (by decide) (by rfl) (bI (aN (i:=1) rfl (by trivial)) (bI wU dF)) (hmono:=aEo)) dF)) (aV (i:=2) sc.nd rfl (by trivial))) (bA (lB (FW dF) (aV (i:=3) sc.nd rfl (by trivial))) (bA (wI PassesOwn.leaving (wJ (aN (i:=2) rfl (by trivial)) (fun _=>rfl)) (bA (lB (N_ lU (aN (i:=2) rfl (by trivial)) (aA6 S5 lA) (fun _ _=>rfl)) (aV (i:=4) sc.nd rfl (by trivial))) (cN (yX (DP (SX (fU (aN (i:=4) rfl (by trivial)) rfl) lA)) (cN (jB (wQ PySem.F.plainAttrs_list PySem.F.slot_list_pop PySem.F.type_list_pop GQ (aN (i:=2) rfl (by trivial))))) (bA (fV (aN (i:=4) rfl (by trivial)) (SN (fU (aN (i:=4) rfl (by trivial)) rfl) lA) rfl) (cN (jB (qF (aN (i:=0) rfl (by trivial)) cl M T (hr.mono (by decide)) hb .nil lZ (bI (aN (i:=2) rfl (by trivial)) (bI (aN (i:=3) rfl (by trivial)) (bI (b_ (cA hK hu) (tY hK fw (aA (i:=4))) (tY hK fl (aA (i:=4))) (fun _ _=>rfl)) dF))))))))))) (cN (rZ (N_ lU (aN (i:=3) rfl (by trivial)) lA (fun _ _=>rfl)))))))
theorem RX:bZ K6 ["program", "words", "most"] (aH mG):=by refine ⟨rfl,rfl,rfl,?_,rfl,?_,?_⟩ <;> decide +kernel
theorem yI [KFrag] {P:Program} {w:World} {K:Frag} {mg:Str->Option Value} {base:Heap} {fad:Addr} {fd:FuncData} (hK:KFrag.K=K) (B:Bt mg) (c_words_of:jK P w K mg base 1 "words_of" 1 fD) {C CS fm:Addr} {fdm:FuncData} {psm:List Str} (q_PlainRun:Z2 P w K mg base 2 "PlainRun" cY 2) (hC:nsIn K mainGlobals "PlainRun" = some (some (.ref C))) (hS:nsIn K mainGlobals "Spent" = some (some (.ref CS))) (cl:Cls K C) (nc:bQ K C "calls") (np:bQ K C "copies") (nd:bQ K C "drops") (M:Meth K C "value_of" fm) (T:i_ P w K mg base (CX2 P w) 5 fm fdm psm (K5 CS)) (hb:Binds K fdm psm []) {T':Addr} {its:Array Value} (F:aE8 K "worth" "worth" mG fad fd T' its):i_ P w K mg base (CX2 P w) 6 fad fd ["program", "words", "most"] (spZ bR 3):=by
 have sc:=RX;refine aEn (N:=K6) (k:=5) F sc (fun vs H Q E h=>YS h) fun cdv A outer s H vs Q E hr h=>⟨aFk K C CS cY fD E,?_,RV rfl hK hC hS cl nc np nd rfl h⟩
 have hu:=xP hr;exact (bA (lB (X4 q_PlainRun hr (by decide) (by rfl) (bI (aN (i:=0) rfl (by trivial)) (bI (aN (i:=2) rfl (by trivial)) dF)) (hmono:=aEq)) (aV (i:=3) sc.nd rfl (by trivial))) (bA (lB (qF (aN (i:=3) rfl (by trivial)) cl M T (hr.mono (by decide)) hb .nil lZ (bI (aN (i:=1) rfl (by trivial)) dF)) (aV (i:=4) sc.nd rfl (by trivial))) (cN (rZ (S7 (bI (cV c_words_of hr (by decide) (by rfl) (aD (aA (i:=4)) aM)) (bI (fU (aN (i:=3) rfl (by trivial)) rfl) (bI (fU (aN (i:=3) rfl (by trivial)) rfl) (bI (fU (aN (i:=3) rfl (by trivial)) rfl) dF)))))))))
theorem rF:bZ cH ["cell"] (aH c7):=by refine ⟨rfl,rfl,rfl,?_,rfl,?_,?_⟩ <;> decide +kernel
theorem pF [KFrag] {P:Program} {w:World} {K:Frag} {mg:Str->Option Value} {base:Heap} {fad:Addr} {fd:FuncData} (hK:KFrag.K=K) (B:Bt mg)  (F:Fun K "_law_names" "_law_names" c7 fad fd) (hm:mg "_law_names" = some (.ref fad)):jK P w K mg base 1 "_law_names" 1 dB:=by
 have sc:=rF;refine oG (ps:=["cell"]) (N:=cH) (k:=0) F hm (F.binds fun _ _ _ _ _ _ us hl=>match us,hl with|[_],_=>rfl) sc uA (by decide) (by decide) fun cdv A outer s H E hr=>?_
 have hu:=xP hr
 exact aL (cF (i:=1) (o:=false) rfl sc.nd rfl (by trivial) (sZ)) (aL (cF (i:=2) (o:=false) rfl sc.nd rfl (by trivial) (bN fJ (aA (i:=0)) (aK))) (aL (cF (i:=3) (o:=false) rfl sc.nd rfl (by trivial) (bN fJ (bN h_ (aA (i:=0)) (aK)) (bN dJ (aA (i:=2)) (aK)))) (aL (cF (i:=4) (o:=false) rfl sc.nd rfl (by trivial) (aAu PySem.F.plainAttrs_str PySem.F.slot_str_join PySem.F.type_str_join W9 (sZ) (aD (iB (ownN:=(["j"]:List Str)) (show cU cH (aH c7) _ (["j"]:List Str) from by refine ⟨rfl,?_,?_,?_,?_,?_,?_⟩ <;> decide +kernel) (n:=8) (m:=1) rfl rfl rfl (oA (by rfl) B.range (aD (aA (i:=2)) (aM))) (gB 8) (fun _=>aV (i:=8) (show ((List.map (g_ (["j"]:List Str)) cH++(["j"]:List Str)):List Str).Nodup from by decide +kernel) rfl (by trivial)) (fun _=>b_ (cA hK hu) (aA (i:=1)) (bN fJ (bN dJ (bN h_ (aA (i:=0)) (aK)) (bN fP (aA (i:=8)) (aA (i:=8)))) (aK)) (fun _ _=>rfl)) (fun _=>rfl)) (aM)) (fun _ _ _ _ _ h r=>QH h r))) (aL (cF (i:=5) (o:=true) rfl sc.nd rfl (by trivial) (n8 (aM))) (aL (pO PassesOwn.never rfl (oA (by rfl) B.range (aD (aK) (aM))) (oF (i:=6) rfl) (aV (i:=6) sc.nd rfl (by trivial)) (aL (cF (i:=7) (o:=false) rfl sc.nd rfl (by trivial) (b_ (cA hK hu) (aA (i:=1)) (bN fJ (bN dJ (bN h_ (aA (i:=0)) (aK)) (bN fP (aK) (aA (i:=6)))) (aK)) (fun _ _=>rfl))) (bU (I_ (i:=5) rfl rfl (by trivial) (bN dJ (bN dJ (mU hK (aA (i:=4)) (n_) (fL (aA (i:=3)))) (aA (i:=7))) (mU hK (aA (i:=4)) (fL (aA (i:=3))) (n_))))))) (aL (tL (jG (aDv hu) (bN fJ (bN h_ (aA (i:=0)) (aK)) (aK)) (aK) (mJ _)) (bU (qT (ownN:=(["k"]:List Str)) (show cU cH (aH c7) _ (["k"]:List Str) from by refine ⟨rfl,?_,?_,?_,?_,?_,?_⟩ <;> decide +kernel) (n:=8) (m:=1) rfl rfl rfl (oA (by rfl) B.range (aD (aK) (aM))) (gB 8) (fun _=>aV (i:=8) (show ((List.map (g_ (["k"]:List Str)) cH++(["k"]:List Str)):List Str).Nodup from by decide +kernel) rfl (by trivial)) (fun _=>bN fP (b_ (cA hK hu) (aA (i:=1)) (bN fJ (bN dJ (bN h_ (aA (i:=0)) (aK)) (bN fJ (aA (i:=8)) (aK))) (aK)) (fun _ _=>rfl)) (bN dJ (aK) (bN h_ (aA (i:=8)) (aK)))) (fun _=>rfl) (iy:=5) (o:=true) rfl sc.nd rfl (by trivial) (Or.inl rfl) (by with_unfolding_all rfl))) (jH)) (aL (tL (PW.pt (vL (jG (xQ hu) (sZ) (aA (i:=5)) (by with_unfolding_all rfl)) (xF (jG (xQ hu) (sZ) (aA (i:=5)) (by with_unfolding_all rfl))))) (bU (qT (ownN:=(["name"]:List Str)) (show cU cH (aH c7) _ (["name"]:List Str) from by refine ⟨rfl,?_,?_,?_,?_,?_,?_⟩ <;> decide +kernel) (n:=8) (m:=1) rfl rfl rfl (eQ (aA (i:=5))) (gB 8) (fun _=>aV (i:=8) (show ((List.map (g_ (["name"]:List Str)) cH++(["name"]:List Str)):List Str).Nodup from by decide +kernel) rfl (by trivial)) (fun _=>bN dJ (aA (i:=8)) (sZ)) (fun _=>rfl) (iy:=5) (o:=true) rfl sc.nd rfl (by trivial) (Or.inl rfl) (by with_unfolding_all rfl))) (jH)) (bU (IK (i:=5) rfl rfl (by trivial))))))))))
theorem oY:bZ j6 ["script", "k"] (aH gD):=by refine ⟨rfl,rfl,rfl,?_,rfl,?_,?_⟩ <;> decide +kernel
theorem m5 [KFrag] {P:Program} {w:World} {K:Frag} {mg:Str->Option Value} {base:Heap} {fad:Addr} {fd:FuncData} (hK:KFrag.K=K) (B:Bt mg)  (F:Fun K "_law_cell_at" "_law_cell_at" gD fad fd) (hm:mg "_law_cell_at" = some (.ref fad)):jK P w K mg base 1 "_law_cell_at" 2 aX:=by
 have sc:=oY;refine oG (ps:=["script", "k"]) (N:=j6) (k:=0) F hm (F.binds fun _ _ _ _ _ _ us hl=>match us,hl with|[_,_],_=>rfl) sc pB (by decide) (by decide) fun cdv A outer s H E hr=>?_
 have hu:=xP hr;exact aL (tL (jG (aDw hu) (aA (i:=1)) (cP (iM hK) (by rfl) B.len iR (aD (aA (i:=0)) (aM))) (mJ _)) (bU (iQ (b_ (cA hK hu) (aA (i:=0)) (aA (i:=1)) (fun _ _=>rfl)))) (jH)) (bU (iQ (aK)))
theorem rG:bZ mW ["found", "word", "calls"] (aH jO):=by refine ⟨rfl,rfl,rfl,?_,rfl,?_,?_⟩ <;> decide +kernel
theorem pG [KFrag] {P:Program} {w:World} {K:Frag} {mg:Str->Option Value} {base:Heap} {fad:Addr} {fd:FuncData} (hK:KFrag.K=K) (B:Bt mg)  (F:Fun K "_law_right" "_law_right" jO fad fd) (hm:mg "_law_right" = some (.ref fad)):jK P w K mg base 1 "_law_right" 3 bT:=by
 have sc:=rG;refine oG (ps:=["found", "word", "calls"]) (N:=mW) (k:=0) F hm (F.binds fun _ _ _ _ _ _ us hl=>match us,hl with|[_,_,_],_=>rfl) sc uB (by decide) (by decide) fun cdv A outer s H E hr=>?_
 have hu:=xP hr;exact aL (tL (PW.pt (vL (pN (mR (tG .tuple (aA (i:=0)) (by rfl) B.isi dN (by rfl) B.tuple fZ))) (vL (jG (PP hu) (cP (iM hK) (by rfl) B.len iR (aD (aA (i:=0)) (aM))) (aK) (mJ _)) (xF (pN (mR (tG .tuple (b_ (cA hK hu) (aA (i:=0)) (aK) (fun _ _=>rfl)) (by rfl) B.isi dN (by rfl) B.tuple fZ))))))) (bU (iQ (vK))) (jH)) (aL (tL (PW.pt (vL (jG (PP hu) (cP (iM hK) (by rfl) B.len iR (aD (b_ (cA hK hu) (aA (i:=0)) (aK) (fun _ _=>rfl)) (aM))) (aK) (mJ _)) (vL (pN (mR (tG .str (b_ (cA hK hu) (b_ (cA hK hu) (aA (i:=0)) (aK) (fun _ _=>rfl)) (aK) (fun _ _=>rfl)) (by rfl) B.isi dN (by rfl) B.str aAy))) (xF (jG (PP hu) (b_ (cA hK hu) (b_ (cA hK hu) (aA (i:=0)) (aK) (fun _ _=>rfl)) (aK) (fun _ _=>rfl)) (aA (i:=1)) (mJ _)))))) (bU (iQ (vK))) (jH)) (aL (pO PassesOwn.never rfl (eQ (n8 (aD (aK) (aD (aK) (aD (aK) (aM)))))) (oF (i:=3) rfl) (aV (i:=3) sc.nd rfl (by trivial)) (bU (tL (PW.pt (vL (pN (mR (tG .int (b_ (cA hK hu) (aA (i:=0)) (aA (i:=3)) (fun _ _=>rfl)) (by rfl) B.isi dN (by rfl) B.int aAx))) (vL (mR (tG .bool (b_ (cA hK hu) (aA (i:=0)) (aA (i:=3)) (fun _ _=>rfl)) (by rfl) B.isi dN (by rfl) B.bool W8)) (xF (jG (PP hu) (b_ (cA hK hu) (aA (i:=0)) (aA (i:=3)) (fun _ _=>rfl)) (b_ (cA hK hu) (n8 (aD (XR (aA (i:=2))) (aD (aK) (aD (aK) (aM))))) (bN TX (aA (i:=3)) (aK)) (fun _ _=>rfl)) (mJ _)))))) (bU (iQ (vK))) (jH)))) (bU (iQ (vK)))))
theorem uJ:bZ oX ["seed", "i", "j", "many"] (aH kO):=by refine ⟨rfl,rfl,rfl,?_,rfl,?_,?_⟩ <;> decide +kernel
theorem rH [KFrag] {P:Program} {w:World} {K:Frag} {mg:Str->Option Value} {base:Heap} {fad:Addr} {fd:FuncData} (hK:KFrag.K=K) (B:Bt mg)  (F:Fun K "_law_goes" "_law_goes" kO fad fd) (hm:mg "_law_goes" = some (.ref fad)):jK P w K mg base 1 "_law_goes" 4 bD:=by
 have sc:=uJ;refine oG (ps:=["seed", "i", "j", "many"]) (N:=oX) (k:=0) F hm (F.binds fun _ _ _ _ _ _ us hl=>match us,hl with|[_,_,_,_],_=>rfl) sc vY (by decide) (by decide) fun cdv A outer s H E hr=>?_
 have hu:=xP hr;exact aL (cF (i:=4) (o:=false) rfl sc.nd rfl (by trivial) (bN dJ (bN dJ (bN dJ (bN fJ (aA (i:=0)) (aK)) (bN fP (bN fP (aK) (aA (i:=1))) (aA (i:=1)))) (bN fP (aK) (aA (i:=2)))) (bN fP (bN fP (aK) (aA (i:=1))) (aA (i:=2))))) (bU (iQ (bN fJ (bN fJ (bN fP (aA (i:=4)) (bN dJ (bN dJ (bN fP (aK) (aA (i:=1))) (aK)) (bN fP (aA (i:=2)) (aA (i:=2))))) (aK)) (aA (i:=3)))))
theorem rJ:bZ mX ["program", "words", "bound"] (aH jQ):=by refine ⟨rfl,rfl,rfl,?_,rfl,?_,?_⟩ <;> decide +kernel
theorem pH [KFrag] {P:Program} {w:World} {K:Frag} {mg:Str->Option Value} {base:Heap} {fad:Addr} {fd:FuncData} (hK:KFrag.K=K) (B:Bt mg)  (z_worth:XX P w K mg base 6 "worth" 3 bR) {c_Spent:Addr} (m_Spent:mg "Spent" = some (.ref c_Spent)) (y1:aEe (fun c=>∃C,nsIn K mainGlobals c=some (some (.ref C))/\exmOne K (.ref C) (.ref c_Spent)=some true) ["Spent"]) (F:Fun K "_law_spent" "_law_spent" jQ fad fd) (hm:mg "_law_spent" = some (.ref fad)):jK P w K mg base 7 "_law_spent" 3 cG:=by
 have sc:=rJ;refine oG (ps:=["program", "words", "bound"]) (N:=mX) (k:=6) F hm (F.binds fun _ _ _ _ _ _ us hl=>match us,hl with|[_,_,_],_=>rfl) sc uC (by decide) (by decide) fun cdv A outer s H E hr=>?_
 have hu:=xP hr;exact aL (cF (i:=3) (o:=false) rfl sc.nd rfl (by trivial) (TQ)) (aL (aBm (ic:=3) (ie:=4) hK rfl rfl z_worth hr (by decide) (by rfl) (aD (aA (i:=0)) (aD (aA (i:=1)) (aD (aA (i:=2)) (aM)))) (by rfl) m_Spent (J9 y1) sc.nd rfl rfl rfl (by trivial) (.inl rfl) rfl rfl (by decide)) (bU (iQ (aAm WR (aA (i:=3)) (TQ) (mJ _)))))
theorem aC7:bZ pD ["script"] (aH mH):=by refine ⟨rfl,rfl,rfl,?_,rfl,?_,?_⟩ <;> decide +kernel
theorem aC8 [KFrag] {P:Program} {w:World} {K:Frag} {mg:Str->Option Value} {base:Heap} {fad:Addr} {fd:FuncData} (hK:KFrag.K=K) (B:Bt mg) (c__law_cell_at:jK P w K mg base 1 "_law_cell_at" 2 aX) (c__law_names:jK P w K mg base 1 "_law_names" 1 dB) (c__law_goes:jK P w K mg base 1 "_law_goes" 4 bD) (c__law_spent:jK P w K mg base 7 "_law_spent" 3 cG) (c_worth:aBa P w K mg base 6 "worth" "most" 2 (.int 400) bR) (c__law_right:jK P w K mg base 1 "_law_right" 3 bT) (F:Fun K "law" "law" mH fad fd):i_ P w K mg base CX0 8 fad fd ["script"] (spD CP 1):=by
 have sc:=aC7;refine aAw (ps:=["script"]) (N:=pD) (k:=7) F sc o_law (by decide) (by decide) fun cdv A outer s H E hr=>?_
 have hu:=xP hr
 exact aL (cF (i:=1) (o:=false) rfl sc.nd rfl (by trivial) (cV c__law_names hr (by decide) (by rfl) (aD (cV c__law_cell_at hr (by decide) (by rfl) (aD (aA (i:=0)) (aD (aK) (aM)))) (aM)))) (aL (cF (i:=2) (o:=false) rfl sc.nd rfl (by trivial) (cV c__law_cell_at hr (by decide) (by rfl) (aD (aA (i:=0)) (aD (aK) (aM))))) (aL (cF (i:=3) (o:=false) rfl sc.nd rfl (by trivial) (cV c__law_cell_at hr (by decide) (by rfl) (aD (aA (i:=0)) (aD (aK) (aM))))) (aL (cF (i:=4) (o:=false) rfl sc.nd rfl (by trivial) (b_ (cA hK hu) (aA (i:=1)) (aK) (fun _ _=>rfl))) (aL (cF (i:=5) (o:=false) rfl sc.nd rfl (by trivial) (mU hK (aA (i:=1)) (fL (aK)) (fL (bN dJ (aK) (bN fJ (aA (i:=2)) (aK)))))) (aL (cF (i:=6) (o:=false) rfl sc.nd rfl (by trivial) (mU hK (aA (i:=1)) (fL (aK)) (fL (bN dJ (aK) (bN fJ (bN h_ (aA (i:=2)) (aK)) (aK)))))) (aL (cF (i:=7) (o:=true) rfl sc.nd rfl (by trivial) (n8 (aM))) (aL (pO PassesOwn.never rfl (oA (by rfl) B.range (aD (cP (iM hK) (by rfl) B.len iR (aD (aA (i:=6)) (aM))) (aM))) (oF (i:=8) rfl) (aV (i:=8) sc.nd rfl (by trivial)) (bU (pO PassesOwn.never rfl (oA (by rfl) B.range (aD (cP (iM hK) (by rfl) B.len iR (aD (aA (i:=5)) (aM))) (aM))) (oF (i:=9) rfl) (aV (i:=9) sc.nd rfl (by trivial)) (aL (cF (i:=10) (o:=false) rfl sc.nd rfl (by trivial) (b_ (cA hK hu) (aA (i:=5)) (cV c__law_goes hr (by decide) (by rfl) (aD (aA (i:=3)) (aD (aA (i:=8)) (aD (aA (i:=9)) (aD (cP (iM hK) (by rfl) B.len iR (aD (aA (i:=5)) (aM))) (aM)))))) (fun _ _=>rfl))) (bU (I_ (i:=7) rfl rfl (by trivial) (eF (aD (b_ (cA hK hu) (aA (i:=6)) (aA (i:=8)) (fun _ _=>rfl)) (aD (b_ (cA hK hu) (aA (i:=5)) (aA (i:=9)) (fun _ _=>rfl)) (aD (eF (aM)) (aD (eF (aD (aA (i:=10)) (aM))) (aM)))))))))))) (aL (cF (i:=11) (o:=false) rfl sc.nd rfl (by trivial) (bN fJ (bN h_ (aA (i:=2)) (aK)) (cP (iM hK) (by rfl) B.len iR (aD (aA (i:=7)) (aM))))) (aL (cF (i:=12) (o:=false) rfl sc.nd rfl (by trivial) (fM jY (by rfl) B.tuple fZ (aD (iB (ownN:=(["name"]:List Str)) (show cU pD (aH mH) _ (["name"]:List Str) from by refine ⟨rfl,?_,?_,?_,?_,?_,?_⟩ <;> decide +kernel) (n:=19) (m:=1) rfl rfl rfl (eQ (aA (i:=6))) (gB 19) (fun _=>aV (i:=19) (show ((List.map (g_ (["name"]:List Str)) pD++(["name"]:List Str)):List Str).Nodup from by decide +kernel) rfl (by trivial)) (fun _=>eF (aD (aA (i:=19)) (aD (aA (i:=4)) (aD (aA (i:=4)) (aD (eF (aM)) (aM)))))) (fun _=>rfl)) (aM)))) (aL (cF (i:=13) (o:=false) rfl sc.nd rfl (by trivial) (fM jY (by rfl) B.tuple fZ (aD (iB (ownN:=(["name"]:List Str)) (show cU pD (aH mH) _ (["name"]:List Str) from by refine ⟨rfl,?_,?_,?_,?_,?_,?_⟩ <;> decide +kernel) (n:=19) (m:=1) rfl rfl rfl (eQ (aA (i:=5))) (gB 19) (fun _=>aV (i:=19) (show ((List.map (g_ (["name"]:List Str)) pD++(["name"]:List Str)):List Str).Nodup from by decide +kernel) rfl (by trivial)) (fun _=>eF (aD (aA (i:=19)) (aD (aA (i:=4)) (aD (eF (aM)) (aM))))) (fun _=>rfl)) (aM)))) (aL (cF (i:=14) (o:=false) rfl sc.nd rfl (by trivial) (eF (aD (eF (aD (aA (i:=4)) (aM))) (aD (aA (i:=13)) (aD (aA (i:=12)) (aD (fM jY (by rfl) B.tuple fZ (aD (bN dJ (mU hK (aA (i:=7)) (fL (aA (i:=11))) (n_)) (mU hK (aA (i:=7)) (n_) (fL (aA (i:=11))))) (aM))) (aM))))))) (aL (qT (ownN:=(["cell"]:List Str)) (show cU pD (aH mH) _ (["cell"]:List Str) from by refine ⟨rfl,?_,?_,?_,?_,?_,?_⟩ <;> decide +kernel) (n:=19) (m:=1) rfl rfl rfl (eQ (mU hK (aA (i:=0)) (fL (aK)) (fL (aK)))) (gB 19) (fun _=>aV (i:=19) (show ((List.map (g_ (["cell"]:List Str)) pD++(["cell"]:List Str)):List Str).Nodup from by decide +kernel) rfl (by trivial)) (fun _=>bN fJ (aA (i:=19)) (cP (iM hK) (by rfl) B.len iR (aD (aA (i:=6)) (aM)))) (fun _=>rfl) (iy:=15) (o:=false) rfl sc.nd rfl (by trivial) (Or.inl rfl) (by with_unfolding_all rfl)) (aL (cF (i:=16) (o:=false) rfl sc.nd rfl (by trivial) (bN fJ (bN h_ (aA (i:=2)) (aK)) (cP (iM hK) (by rfl) B.len iR (aD (aA (i:=5)) (aM))))) (aL (cF (i:=17) (o:=false) rfl sc.nd rfl (by trivial) (fM jY (by rfl) B.tuple fZ (aD (bN dJ (iB (ownN:=(["i"]:List Str)) (show cU pD (aH mH) _ (["i"]:List Str) from by refine ⟨rfl,?_,?_,?_,?_,?_,?_⟩ <;> decide +kernel) (n:=19) (m:=1) rfl rfl rfl (eQ (aA (i:=15))) (gB 19) (fun _=>aV (i:=19) (show ((List.map (g_ (["i"]:List Str)) pD++(["i"]:List Str)):List Str).Nodup from by decide +kernel) rfl (by trivial)) (fun _=>b_ (cA hK hu) (aA (i:=6)) (aA (i:=19)) (fun _ _=>rfl)) (fun _=>rfl)) (n8 (aD (XR (b_ (cA hK hu) (aA (i:=5)) (aA (i:=16)) (fun _ _=>rfl))) (aM)))) (aM)))) (aL (X8 (i:=15) rfl PassesOwn.never rfl (by rfl) B.reversed rfl (by trivial) (oF (i:=8) rfl) (aV (i:=8) sc.nd rfl (by trivial)) (bU (cF (i:=16) (o:=false) rfl sc.nd rfl (by trivial) (cV c__law_goes hr (by decide) (by rfl) (aD (aA (i:=3)) (aD (aA (i:=8)) (aD (aA (i:=16)) (aD (cP (iM hK) (by rfl) B.len iR (aD (aA (i:=5)) (aM))) (aM))))))))) (aL (cF (i:=18) (o:=false) rfl sc.nd rfl (by trivial) (cP (iM hK) (by rfl) B.len iR (aD (aA (i:=15)) (aM)))) (aL (tL (PW.pt (aAp (jG (aDx hu) (aA (i:=18)) (aK) (mJ _)) (WQ (pN (mR (cV c__law_spent hr (by decide) (by rfl) (aD (aA (i:=14)) (aD (aA (i:=17)) (aD (bN TX (aA (i:=18)) (aK)) (aM)))))))))) (bU (iQ (vK))) (jH)) (aL (tL (pN (mR (cV c__law_right hr (by decide) (by rfl) (aD (JS c_worth hr (by decide) (by rfl) (aD (aA (i:=14)) (aD (aA (i:=17)) (aM)))) (aD (b_ (cA hK hu) (aA (i:=5)) (aA (i:=16)) (fun _ _=>rfl)) (aD (aA (i:=18)) (aM))))))) (bU (iQ (vK))) (jH)) (bU (iQ (cV c__law_right hr (by decide) (by rfl) (aD (cV c_worth.cal hr (by decide) (by rfl) (aD (aA (i:=14)) (aD (aA (i:=17)) (aD (aA (i:=18)) (aM))))) (aD (b_ (cA hK hu) (aA (i:=5)) (aA (i:=16)) (fun _ _=>rfl)) (aD (aA (i:=18)) (aM)))))))))))))))))))))))))
noncomputable def AtN (K:Frag) (n:Str) (st:Stmt):Prop:=∃(f:Addr) (fd:FuncData),nsIn K mainGlobals n=some (some (.ref f))/\Fun K n n st f fd
theorem aEr {K:Frag} {n:Str} {st:Stmt} {f:Addr} {oc kV dc pm cd ct:Value} {od an:Option Addr} {sl:Array (Option Value)} (a:nsIn K mainGlobals n=some (some (.ref f))) (l:K.lookup f=some ⟨oc,od,.func (fnOf n n (cW st) (cD st) (aH st) .none kV dc pm an cd ct),sl⟩) (c:codeIn K cd n=true) (k:keepIn K (.ref f)=true):AtN K n st:=⟨f,_,a,fG (st:=st) l c k⟩
theorem aC9 {l:OpenLaw} {w:World} {K:Frag} {h:Heap} {mg:Str->Option Value} {fa:Addr} (X:K.In h) (G:h.Ns mainGlobals mg) (hfa:mg "law" = some (.ref fa)) (a0:AtN K "heads_of" mC) (a1:AtN K "words_of" mD)
  {f2 T2:Addr} {oc2 kV2 dc2 pm2 cd2 ct2 tc2:Value} {od2 an2 td2:Option Addr} {sl2 tl2:Array (Option Value)} {tk2:Tok} {tn2:Nat} (a2:nsIn K mainGlobals "worth" = some (some (.ref f2))) (l2:K.lookup f2=some ⟨oc2,od2,.func (fnOf "worth" "worth" (cW mG) (cD mG) (aH mG) (.ref T2) kV2 dc2 pm2 an2 cd2 ct2),sl2⟩) (c2:codeIn K cd2 "worth" = true) (k2:keepIn K (.ref f2)=true) (t2:K.lookup T2=some ⟨tc2,td2,.seq #[.int 400 tk2] tn2,tl2⟩) (a3:AtN K "_law_names" c7) (a4:AtN K "_law_cell_at" gD) (a5:AtN K "_law_right" jO) (a6:AtN K "_law_goes" kO) (a7:AtN K "_law_spent" jQ)
  {f8:Addr} {oc8 kV8 dc8 pm8 cd8 ct8:Value} {od8 an8:Option Addr} {sl8:Array (Option Value)} (a8:nsIn K mainGlobals "law" = some (some (.ref f8))) (l8:K.lookup f8=some ⟨oc8,od8,.func (fnOf "law" "law" (cW mH) (cD mH) (aH mH) .none kV8 dc8 pm8 an8 cd8 ct8),sl8⟩) (c8:codeIn K cd8 "law" = true) (k8:keepIn K (.ref f8)=true) (z_len:nsIn K mainGlobals "len" = some none) (z_min:nsIn K mainGlobals "min" = some none) (z_max:nsIn K mainGlobals "max" = some none) (z_list:nsIn K mainGlobals "list" = some none) (z_tuple:nsIn K mainGlobals "tuple" = some none) (z_sorted:nsIn K mainGlobals "sorted" = some none) (z_range:nsIn K mainGlobals "range" = some none) (z_isinstance:nsIn K mainGlobals "isinstance" = some none) (z_int:nsIn K mainGlobals "int" = some none) (z_bool:nsIn K mainGlobals "bool" = some none) (z_str:nsIn K mainGlobals "str" = some none) (z_dict:nsIn K mainGlobals "dict" = some none) (z_all:nsIn K mainGlobals "all" = some none) (z_enumerate:nsIn K mainGlobals "enumerate" = some none) (z_sum:nsIn K mainGlobals "sum" = some none) (z_zip:nsIn K mainGlobals "zip" = some none) (z_abs:nsIn K mainGlobals "abs" = some none) (z_reversed:nsIn K mainGlobals "reversed" = some none) {d_Spent:Addr} (g_Spent:nsIn K mainGlobals "Spent" = some (some (.ref d_Spent))) (xm_Spent_Spent:exmOne K (.ref d_Spent) (.ref d_Spent)=some true) {d_Frame:Addr} (g_Frame:nsIn K mainGlobals "Frame" = some (some (.ref d_Frame))) {i_Frame:Addr} {oc_Frame kV_Frame dc_Frame pm_Frame cd_Frame ct_Frame:Value} {od_Frame an_Frame:Option Addr} {sl_Frame:Array (Option Value)} {d_PlainRun:Addr} (g_PlainRun:nsIn K mainGlobals "PlainRun" = some (some (.ref d_PlainRun))) {i_PlainRun:Addr} {oc_PlainRun kV_PlainRun dc_PlainRun pm_PlainRun cd_PlainRun ct_PlainRun:Value} {od_PlainRun an_PlainRun:Option Addr} {sl_PlainRun:Array (Option Value)} {i_take_word:Addr} {oc_take_word kV_take_word dc_take_word pm_take_word cd_take_word ct_take_word:Value} {od_take_word an_take_word:Option Addr} {sl_take_word:Array (Option Value)} {i_value_of:Addr} {oc_value_of kV_value_of dc_value_of pm_value_of cd_value_of ct_value_of:Value} {od_value_of an_value_of:Option Addr} {sl_value_of:Array (Option Value)} {i_called:Addr} {oc_called kV_called dc_called pm_called cd_called ct_called:Value} {od_called an_called:Option Addr} {sl_called:Array (Option Value)} {i_count_uses:Addr} {oc_count_uses kV_count_uses dc_count_uses pm_count_uses cd_count_uses ct_count_uses:Value} {od_count_uses an_count_uses:Option Addr} {sl_count_uses:Array (Option Value)} (pg_Frame:plainGet K d_Frame Str.empty=true) (hd_Frame:hasDictIn K d_Frame=true) (po_Frame:plainOver K d_Frame=true) (sa_Frame:findIn K (.ref d_Frame) "__setattr__" = some (some (.builtin "object.__setattr__"))) (mk_Frame:makesIn K d_Frame=true) (kp_Frame:keepIn K (.ref d_Frame)=true) (in_Frame:findIn K (.ref d_Frame) "__init__" = some (some (.ref i_Frame))) (li_Frame:K.lookup i_Frame=some ⟨oc_Frame,od_Frame,.func (fnOf "__init__" "Frame.__init__" (cW kJ) (cD kJ) (aH kJ) .none kV_Frame dc_Frame pm_Frame an_Frame cd_Frame ct_Frame),sl_Frame⟩) (ci_Frame:codeIn K cd_Frame "Frame.__init__" = true) (ki_Frame:keepIn K (.ref i_Frame)=true) (fn_Frame:isFn K (.ref i_Frame)=true) (no_Frame_words:findIn K (.ref d_Frame) "words" = some none) (no_Frame_left:findIn K (.ref d_Frame) "left" = some none) (no_Frame_known:findIn K (.ref d_Frame) "known" = some none) (pg_PlainRun:plainGet K d_PlainRun Str.empty=true) (hd_PlainRun:hasDictIn K d_PlainRun=true) (po_PlainRun:plainOver K d_PlainRun=true) (sa_PlainRun:findIn K (.ref d_PlainRun) "__setattr__" = some (some (.builtin "object.__setattr__"))) (mk_PlainRun:makesIn K d_PlainRun=true) (kp_PlainRun:keepIn K (.ref d_PlainRun)=true) (in_PlainRun:findIn K (.ref d_PlainRun) "__init__" = some (some (.ref i_PlainRun))) (li_PlainRun:K.lookup i_PlainRun=some ⟨oc_PlainRun,od_PlainRun,.func (fnOf "__init__" "PlainRun.__init__" (cW cQ) (cD cQ) (aH cQ) .none kV_PlainRun dc_PlainRun pm_PlainRun an_PlainRun cd_PlainRun ct_PlainRun),sl_PlainRun⟩) (ci_PlainRun:codeIn K cd_PlainRun "PlainRun.__init__" = true) (ki_PlainRun:keepIn K (.ref i_PlainRun)=true) (fn_PlainRun:isFn K (.ref i_PlainRun)=true) (no_PlainRun_heads:findIn K (.ref d_PlainRun) "heads" = some none) (no_PlainRun_makers:findIn K (.ref d_PlainRun) "makers" = some none) (no_PlainRun_rules:findIn K (.ref d_PlainRun) "rules" = some none) (no_PlainRun_most:findIn K (.ref d_PlainRun) "most" = some none) (no_PlainRun_calls:findIn K (.ref d_PlainRun) "calls" = some none) (no_PlainRun_copies:findIn K (.ref d_PlainRun) "copies" = some none) (no_PlainRun_drops:findIn K (.ref d_PlainRun) "drops" = some none) (in_take_word:findIn K (.ref d_PlainRun) "take_word" = some (some (.ref i_take_word))) (li_take_word:K.lookup i_take_word=some ⟨oc_take_word,od_take_word,.func (fnOf "take_word" "PlainRun.take_word" (cW cL) (cD cL) (aH cL) .none kV_take_word dc_take_word pm_take_word an_take_word cd_take_word ct_take_word),sl_take_word⟩) (ci_take_word:codeIn K cd_take_word "PlainRun.take_word" = true) (ki_take_word:keepIn K (.ref i_take_word)=true) (eO:isFn K (.ref i_take_word)=true) (in_value_of:findIn K (.ref d_PlainRun) "value_of" = some (some (.ref i_value_of))) (li_value_of:K.lookup i_value_of=some ⟨oc_value_of,od_value_of,.func (fnOf "value_of" "PlainRun.value_of" (cW cZ) (cD cZ) (aH cZ) .none kV_value_of dc_value_of pm_value_of an_value_of cd_value_of ct_value_of),sl_value_of⟩) (ci_value_of:codeIn K cd_value_of "PlainRun.value_of" = true) (ki_value_of:keepIn K (.ref i_value_of)=true) (d7:isFn K (.ref i_value_of)=true) (in_called:findIn K (.ref d_PlainRun) "called" = some (some (.ref i_called))) (li_called:K.lookup i_called=some ⟨oc_called,od_called,.func (fnOf "called" "PlainRun.called" (cW iH) (cD iH) (aH iH) .none kV_called dc_called pm_called an_called cd_called ct_called),sl_called⟩) (ci_called:codeIn K cd_called "PlainRun.called" = true) (ki_called:keepIn K (.ref i_called)=true) (jR:isFn K (.ref i_called)=true) (in_count_uses:findIn K (.ref d_PlainRun) "count_uses" = some (some (.ref i_count_uses))) (li_count_uses:K.lookup i_count_uses=some ⟨oc_count_uses,od_count_uses,.func (fnOf "count_uses" "PlainRun.count_uses" (cW cO) (cD cO) (aH cO) .none kV_count_uses dc_count_uses pm_count_uses an_count_uses cd_count_uses ct_count_uses),sl_count_uses⟩) (ci_count_uses:codeIn K cd_count_uses "PlainRun.count_uses" = true) (ki_count_uses:keepIn K (.ref i_count_uses)=true) (dR:isFn K (.ref i_count_uses)=true) (xp_Spent:excIn K d_Spent aE7 "ValueError.__new__" = true) :
  ∃fd:FuncData,(∀(s:Shared) (v:Value),BindsTo s fd ⟨[v],[]⟩ [("script",v)])/\∀base:Heap,K.In base->base.Ns mainGlobals mg->i_ l.prog w K mg base CX0 8 fa fd ["script"] (@spD ⟨K⟩ CP 1):=by
 have e:=hfa.symm.trans (mg_of X G a8);cases e
 letI:KFrag:=⟨K⟩
 have Y:=fun {n:Str} {v:Value}=>mg_of (n:=n) (v:=v) X G
 have Z:=fun {n:Str}=>mg_none_of (n:=n) X G
 obtain ⟨f0,_,a0,F0⟩:=a0;obtain ⟨f1,_,a1,F1⟩:=a1;obtain ⟨f3,_,a3,F3⟩:=a3;obtain ⟨f4,_,a4,F4⟩:=a4;obtain ⟨f5,_,a5,F5⟩:=a5;obtain ⟨f6,_,a6,F6⟩:=a6;obtain ⟨f7,_,a7,F7⟩:=a7;have B:Bt mg:=⟨Z z_len,Z z_min,Z z_max,Z z_list,Z z_tuple,Z z_sorted,Z z_range,Z z_isinstance,Z z_int,Z z_bool,Z z_str,Z z_dict,Z z_all,Z z_enumerate,Z z_sum,Z z_zip,Z z_abs,Z z_reversed⟩
 refine ⟨fnOf "law" "law" (cW mH) (cD mH) (aH mH) .none kV8 dc8 pm8 an8 cd8 ct8,fun s v=>.of_eq rfl,fun base _ _=>?_⟩;have h_heads_of:=uF (P:=l.prog) (w:=w) (base:=base) rfl B  F0 (Y a0);have h_words_of:=uG (P:=l.prog) (w:=w) (base:=base) rfl B  F1 (Y a1);have cl_Frame:Cls K d_Frame:=⟨pg_Frame,hd_Frame,po_Frame,sa_Frame⟩
 have q_Frame:Z2 l.prog w K mg base 1 "Frame" jM 2:=⟨d_Frame,i_Frame,_,_,g_Frame,Y g_Frame,⟨mk_Frame,in_Frame,fn_Frame,kp_Frame⟩,K7 rfl B  cl_Frame (List.forall_mem_cons.2 ⟨no_Frame_words,(List.forall_mem_cons.2 ⟨no_Frame_left,(List.forall_mem_cons.2 ⟨no_Frame_known,(List.forall_mem_nil _)⟩)⟩)⟩) (fG (st:=kJ) li_Frame ci_Frame ki_Frame),((fG (st:=kJ) li_Frame ci_Frame ki_Frame).binds fun _ _ _ _ _ _ us hl=>match us,hl with|[_,_,_],_=>rfl)⟩
 have fl_Frame_words:uR K "Frame" "words":=fun C h=>by cases (g_Frame.symm.trans h);exact ⟨cl_Frame,no_Frame_words⟩
 have fl_Frame_left:uR K "Frame" "left":=fun C h=>by cases (g_Frame.symm.trans h);exact ⟨cl_Frame,no_Frame_left⟩
 have fl_Frame_known:uR K "Frame" "known":=fun C h=>by cases (g_Frame.symm.trans h);exact ⟨cl_Frame,no_Frame_known⟩
 have cl_PlainRun:Cls K d_PlainRun:=⟨pg_PlainRun,hd_PlainRun,po_PlainRun,sa_PlainRun⟩
 have q_PlainRun:Z2 l.prog w K mg base 2 "PlainRun" cY 2:=⟨d_PlainRun,i_PlainRun,_,_,g_PlainRun,Y g_PlainRun,⟨mk_PlainRun,in_PlainRun,fn_PlainRun,kp_PlainRun⟩,uH rfl B h_heads_of cl_PlainRun (List.forall_mem_cons.2 ⟨no_PlainRun_heads,(List.forall_mem_cons.2 ⟨no_PlainRun_makers,(List.forall_mem_cons.2 ⟨no_PlainRun_rules,(List.forall_mem_cons.2 ⟨no_PlainRun_most,(List.forall_mem_cons.2 ⟨no_PlainRun_calls,(List.forall_mem_cons.2 ⟨no_PlainRun_copies,(List.forall_mem_cons.2 ⟨no_PlainRun_drops,(List.forall_mem_nil _)⟩)⟩)⟩)⟩)⟩)⟩)⟩) (fG (st:=cQ) li_PlainRun ci_PlainRun ki_PlainRun),((fG (st:=cQ) li_PlainRun ci_PlainRun ki_PlainRun).binds fun _ _ _ _ _ _ us hl=>match us,hl with|[_,_,_],_=>rfl)⟩
 have fl_PlainRun_heads:uR K "PlainRun" "heads":=fun C h=>by cases (g_PlainRun.symm.trans h);exact ⟨cl_PlainRun,no_PlainRun_heads⟩
 have fl_PlainRun_makers:uR K "PlainRun" "makers":=fun C h=>by cases (g_PlainRun.symm.trans h);exact ⟨cl_PlainRun,no_PlainRun_makers⟩
 have fl_PlainRun_rules:uR K "PlainRun" "rules":=fun C h=>by cases (g_PlainRun.symm.trans h);exact ⟨cl_PlainRun,no_PlainRun_rules⟩
 have fl_PlainRun_most:uR K "PlainRun" "most":=fun C h=>by cases (g_PlainRun.symm.trans h);exact ⟨cl_PlainRun,no_PlainRun_most⟩
 have fl_PlainRun_calls:uR K "PlainRun" "calls":=fun C h=>by cases (g_PlainRun.symm.trans h);exact ⟨cl_PlainRun,no_PlainRun_calls⟩
 have fl_PlainRun_copies:uR K "PlainRun" "copies":=fun C h=>by cases (g_PlainRun.symm.trans h);exact ⟨cl_PlainRun,no_PlainRun_copies⟩
 have fl_PlainRun_drops:uR K "PlainRun" "drops":=fun C h=>by cases (g_PlainRun.symm.trans h);exact ⟨cl_PlainRun,no_PlainRun_drops⟩
 have y_1:=Lk58.dR (P:=l.prog) (w:=w) (mg:=mg) (base:=base) rfl B cl_PlainRun no_PlainRun_drops no_PlainRun_copies (fG (st:=cO) li_count_uses ci_count_uses ki_count_uses);have y_2:=Lk58.jR (P:=l.prog) (w:=w) (base:=base) rfl B q_Frame g_PlainRun g_Frame cl_PlainRun no_PlainRun_calls no_PlainRun_copies no_PlainRun_drops no_PlainRun_most fl_PlainRun_rules (Y g_Spent) xp_Spent ⟨in_count_uses,dR,ki_count_uses⟩ y_1 ((fG (st:=cO) li_count_uses ci_count_uses ki_count_uses).binds fun _ _ _ _ _ _ us hl=>match us,hl with|[_,_,_],_=>rfl) (fG (st:=iH) li_called ci_called ki_called);have y_3:=Lk58.eO (P:=l.prog) (w:=w) (base:=base) rfl B g_PlainRun cl_Frame no_Frame_known cl_PlainRun fl_PlainRun_heads fl_PlainRun_makers ⟨in_called,jR,ki_called⟩ y_2 ((fG (st:=iH) li_called ci_called ki_called).binds fun _ _ _ _ _ _ us hl=>match us,hl with|[_,_,_],_=>rfl) (fG (st:=cL) li_take_word ci_take_word ki_take_word);have y_4:=Lk58.d7 (P:=l.prog) (w:=w) (base:=base) rfl B q_Frame g_PlainRun g_Frame cl_Frame no_Frame_left cl_PlainRun ⟨in_take_word,eO,ki_take_word⟩ y_3 ((fG (st:=cL) li_take_word ci_take_word ki_take_word).binds fun _ _ _ _ _ _ us hl=>match us,hl with|[_,_,_,_],_=>rfl) fl_Frame_words fl_Frame_left (fG (st:=cZ) li_value_of ci_value_of ki_value_of);have F2:aE8 K "worth" "worth" mG f2 _ T2 #[.int 400 tk2]:=⟨⟨_,_,_,_,_,_,_,_,_,rfl,l2,c2⟩,k2,⟨_,_,_,_,t2⟩⟩
 have h_worth:aBa l.prog w K mg base 6 "worth" "most" 2 (.int 400) bR:=⟨⟨f2,_,["program", "words", "most"],.int 400 tk2,.int 400,(yI rfl B h_words_of q_PlainRun g_PlainRun g_Spent cl_PlainRun no_PlainRun_calls no_PlainRun_copies no_PlainRun_drops ⟨in_value_of,d7,ki_value_of⟩ y_4 ((fG (st:=cZ) li_value_of ci_value_of ki_value_of).binds fun _ _ _ _ _ _ us hl=>match us,hl with|[_,_],_=>rfl) F2).aGh,Y a2,k2,(fun s us X' hl=>match us,(show us.length=3 by simpa using hl) with|[_,_,_],_=>BindsTo.of_defaults rfl (X' _ _ t2) rfl rfl rfl),(fun s us X' hl=>match us,(show us.length=2 by simpa using hl) with|[_,_],_=>BindsTo.of_defaults rfl (X' _ _ t2) rfl rfl rfl),⟨_,rfl⟩,fun _=>.int 400,fun s us y X' hl=>match us,hl with|[_,_],_=>by first|exact .of_eq rfl|exact .of_eq (by with_unfolding_all rfl)|exact BindsTo.of_defaults rfl (X' _ _ t2) rfl rfl rfl|exact BindsTo.of_defaults rfl (X' _ _ t2) rfl (by with_unfolding_all rfl) (by with_unfolding_all rfl)⟩⟩
 have z_worth:XX l.prog w K mg base 6 "worth" 3 bR:=⟨f2,_,["program", "words", "most"],yI rfl B h_words_of q_PlainRun g_PlainRun g_Spent cl_PlainRun no_PlainRun_calls no_PlainRun_copies no_PlainRun_drops ⟨in_value_of,d7,ki_value_of⟩ y_4 ((fG (st:=cZ) li_value_of ci_value_of ki_value_of).binds fun _ _ _ _ _ _ us hl=>match us,hl with|[_,_],_=>rfl) F2,Y a2,k2,fun s us X' hl=>match us,(show us.length=3 by simpa using hl) with|[_,_,_],_=>BindsTo.of_defaults rfl (X' _ _ t2) rfl rfl rfl⟩
 have h__law_names:=pF (P:=l.prog) (w:=w) (base:=base) rfl B  F3 (Y a3);have h__law_cell_at:=m5 (P:=l.prog) (w:=w) (base:=base) rfl B  F4 (Y a4);have h__law_right:=pG (P:=l.prog) (w:=w) (base:=base) rfl B  F5 (Y a5);have h__law_goes:=rH (P:=l.prog) (w:=w) (base:=base) rfl B  F6 (Y a6);have h__law_spent:=pH (P:=l.prog) (w:=w) (base:=base) rfl B  z_worth (Y g_Spent) ⟨⟨_,g_Spent,xm_Spent_Spent⟩,trivial⟩ F7 (Y a7);exact aC8 rfl B h__law_cell_at h__law_names h__law_goes h__law_spent h_worth h__law_right (fG (st:=mH) l8 c8 k8)
theorem walk {l:OpenLaw} {q:Program} {loose:List Str} {XP:(Str->Option Value)->Heap->Prop} {YP:World->Heap->Prop} {d:DefRec} {K:Params->Frag} (main:∀ns:List Int,ns.length<=63->CP [.scr (ns.map D.int)]=.ok (.bl true)) (hn:l.most=some 63) (hdf:d.params.defaults=[])
  (hY:∀(w:World) (h:Heap),YP w h->(K w.params).In h)
  (F:∀(w:World) (mg:Str->Option Value) (fa:Addr) (h:Heap),(K w.params).In h->h.Ns mainGlobals mg->mg d.name=some (.ref fa)->
   ∃fd:FuncData,(∀(s:Shared) (u:Value),BindsTo s fd ⟨[u],[]⟩ [("script",u)])/\∀base:Heap,(K w.params).In base->base.Ns mainGlobals mg->i_ l.prog w (K w.params) mg base CX0 8 fa fd ["script"] (@spD ⟨K w.params⟩ CP 1)) :
  WalkO q loose XP YP l.row.toRowW d [] (fun f vs=>PySem.call f vs):=
 L2.WF (n:=63) (k:=8) (x := "script") (CX:=fun _=>CX0) (sp:=fun w=>@spD ⟨K w.params⟩ CP 1) hn (by decide) hdf ⟨rfl,by decide,by decide⟩ hY F (fun w H a ns hl hO hS=>JD main hl hO hS) fun _ _ _ _ _ z=>z
end Lk58
end
section
namespace Lk58
open PySem L2 Mi
theorem aCa {f g:FS} {ρ:List D} {d:D} (h:f ρ=.ok (.rt d)):b8 f g ρ=.ok (.rt d):=by
 unfold b8;rw [h];rfl
theorem aEs {f:FE} {ρ:List D} {d:D} (h:f ρ=.ok d) (hp:d.pure=true):bPu f ρ=.ok d:=by
 unfold bPu;rw [h,Res.aO,if_pos hp]
theorem oZ (a b:Int) (h:iI b=true):oH (.int a) (.int b)=.ok (.int (a*b)):=by
 show aZ .mul (.int a) (.int b)=_;exact aB4 a b h
theorem lM (a b:Int) (h:iI a=true):oH (.int a) (.int b)=.ok (.int (a*b)):=by
 show aZ .mul (.int a) (.int b)=_;exact W_ a b h
theorem K9 (a:Int) (h1:-10000000000<=a) (h2:a<=10000000000):iI a=true:=by
 unfold iI;rw [Bool.and_eq_true,decide_eq_true_eq,decide_eq_true_eq];lia
theorem U0 (a b:Int):gJ (.ord .lt) (.int a) (.int b)=.ok (.bl (decide (a<b))):=rfl
theorem cmp_gt (a b:Int):gJ (.ord .gt) (.int a) (.int b)=.ok (.bl (decide (b<a))):=rfl
theorem K_ (a b:Int):gJ .eq (.int a) (.int b)=.ok (.bl (a==b)):=rfl
theorem YW (a b:Int):gJ .ne (.int a) (.int b)=.ok (.bl (!(a==b))):=rfl
theorem YX (ns:List Int) (i:Int) (h0:0<=i) (h1:i<ns.length):∃n,getD (.scr (ns.map D.int)) (.int i)=.ok (.int n):=by
 have hl:i.toNat<ns.length:=by lia
 refine ⟨ns[i.toNat],?_⟩;show Res.ofOpt ((ixD (ns.map D.int).length i).bind fun j=>(ns.map D.int)[j]?)=_;unfold ixD;rw [if_pos h0,List.length_map,if_pos h1];simp [hl]
def tx (cs:List Nat):Str:=⟨cs.toArray⟩
theorem p7 (cs:List Nat):(tx cs).length=cs.length:=by
 show cs.toArray.size=_;simp
theorem LC (a b:List Nat):tx a++tx b=tx (a++b):=by
 show (⟨a.toArray++b.toArray⟩:Str)=⟨(a++b).toArray⟩
 congr 1
 simp
theorem U3 {a b:List Nat} (h:tx a=tx b):a=b:=by
 unfold tx at h;injection h with h
 have:=congrArg Array.toList h;simpa using this
def abc:Str := "abcdefghijklmnopqrstuvwxyz"
theorem aCb:∀i,i<26->abc.cps.toList[i]?=some (97+i):=by decide +kernel
theorem letter (i:Int) (h0:0<=i) (h1:i<26):getD (.str abc) (.int i)=.ok (.str (tx [97+i.toNat])):=by
 have hl:decide (abc.length<=lim)=true:=by decide +kernel
 have h26:abc.cps.toList.length=26:=by decide +kernel
 have hix:ixD abc.cps.toList.length i=some i.toNat:=by
  unfold ixD;rw [if_pos h0,h26,if_pos (by lia)]
 show (if decide (abc.length<=lim) then Res.ofOpt (((ixD abc.cps.toList.length i).bind fun j=>abc.cps.toList[j]?).map fun c=>D.str ⟨#[c]⟩) else .bad)=_;rw [hl,if_pos rfl,hix];simp only [Option.bind_some];rw [aCb _ (by lia)];rfl
def one (c:Nat):Str:=⟨#[c]⟩
theorem uK:∀(cs:List Nat) (a:Array Nat),((cs.map one).foldl (fun acc p=>acc++("" : Str).cps++p.cps) a)=a++cs.toArray
 | [],a=>by simp
 | c::cs,a=>by
  rw [List.map_cons,List.foldl_cons,uK cs];apply Array.ext';simp [one,show (("" : Str).cps)=#[] from rfl]
theorem join_one (cs:List Nat):Txt.join ("" : Str) (cs.map one)=tx cs:=by
 unfold Txt.join Builtin.Str.glued tx;cases cs with
 | nil=>rfl
 | cons c cs=>
  rw [List.map_cons,List.drop_succ_cons,List.drop_zero,List.headD_cons,uK]
  congr 1
  apply Array.ext';simp [one]
theorem uL:∀cs:List Nat,oJ (cs.map fun c=>D.str (one c))=some (cs.map one)
 | []=>rfl
 | c::cs=>by
  show (oJ (cs.map fun c=>D.str (one c))).map (one c::·)=_;rw [uL cs];rfl
theorem YZ (cs:List Nat) (h:cs.length<=100):joinM (.str "") [.lst (cs.map fun c=>D.str (one c))]=.ok (.str (tx cs)):=by
 show (match oJ (cs.map fun c=>D.str (one c)) with|some ts=>if JoinOk "" ts then Res.ok (D.str (Txt.join "" ts)) else .bad|none=>.bad)=_;rw [uL];show (if JoinOk "" (cs.map one) then Res.ok (D.str (Txt.join "" (cs.map one))) else .bad)=_;have hok:JoinOk "" (cs.map one)=true:=by
  unfold JoinOk;rw [StrLaws.joinFits (B:=1) (fun y hy=>by obtain ⟨c,_,rfl⟩:=List.mem_map.mp hy;exact Nat.le_refl _) (by rw [List.length_map,show (("" : Str).length)=0 from rfl];lia)];rfl
 rw [if_pos hok,join_one]
theorem aGi {a b:FT} {ρ:List D} (h1:a ρ=.ok true):bOr a b ρ=.ok true:=by
 unfold bOr;rw [h1];rfl
theorem aGj {a b:FT} {ρ:List D} {r:Res Bool} (h1:a ρ=.ok false) (h2:b ρ=r):bOr a b ρ=r:=by
 unfold bOr;rw [h1];exact h2
theorem wB {a b:FT} {ρ:List D} {x y:Bool} (h1:a ρ=.ok x) (h2:b ρ=.ok y):bOr a b ρ=.ok (x||y):=by
 cases x with
 | true=>exact aGi h1
 | false=>exact aGj h1 h2
theorem jT {a:FE} {ρ:List D} {i:Int} (h:a ρ=.ok (.int i)):dH a ρ=.ok (some i):=by
 unfold dH;rw [h];rfl
theorem LK {a:FE} {lo hi:List D->Res (Option Int)} {ρ:List D} {x:Str} {l h:Option Int} (h1:a ρ=.ok (.str x)) (h2:lo ρ=.ok l) (h3:hi ρ=.ok h) (hx:x.length<=1000):m8 a lo hi ρ=.ok (.str (Txt.slice x l h)):=by
 unfold m8;rw [h1,Res.aO,h2,Res.aO,h3,Res.aO];show (if decide (x.length<=lim) then Res.ok (D.str (Txt.slice x l h)) else .bad)=_;rw [if_pos (by rw [bW];exact decide_eq_true (by lia))]
theorem U4 (x:Str):tx x.cps.toList=x:=rfl
theorem Y0 (c:Nat) (n:Nat) (h:1<=n):Txt.mul (tx [c]) (n:Int)=tx (List.replicate n c):=by
 unfold Txt.mul;rw [if_neg (by lia)];split
 ·rename_i h1;have:n=1:=by
   simp [p7] at h1;lia
  subst this;rfl
 ·have:∀(m:Nat) (a:List Nat),(List.replicate m (tx [c]).cps).foldl (·++·) a.toArray=(a++List.replicate m c).toArray:=by
   intro m;induction m with
   | zero=>intro a;simp
   | succ m ih=>
    intro a;rw [List.replicate_succ,List.foldl_cons];have:a.toArray++(tx [c]).cps=(a++[c]).toArray:=by
     apply Array.ext';simp [tx]
    rw [this,ih,List.replicate_succ];simp
  have e:=this n [];rw [Int.toNat_natCast];show (⟨_⟩:Str)=⟨_⟩
  congr 1
theorem RZ (c:Nat) (n:Nat) (h:1<=n) (h2:n<=100):oH (.str (tx [c])) (.int n)=.ok (.str (tx (List.replicate n c))):=by
 show (if decide (0<=(n:Int))&&decide ((n:Int)<=100000)&&decide ((tx [c]).length*(n:Int).toNat<=lim) then Res.ok (D.str (Txt.mul (tx [c]) n)) else .bad)=_;have e3:decide ((tx [c]).length*(n:Int).toNat<=lim)=true:=by
  rw [p7,bW];simp;lia
 rw [e3,decide_eq_true (by lia),decide_eq_true (by lia),Y0 c n h];rfl
structure Nmf (nm:Nat->List Nat):Prop where
 inj:∀s t,s<26->t<26->nm s=nm t->s=t
 len:∀s,s<26->(nm s).length<=100
theorem Y4 {P Q A B:List Nat} (h:P++A++Q=P++B++Q):A=B:=by
 rw [List.append_assoc,List.append_assoc] at h;exact List.append_cancel_right (List.append_cancel_left h)
theorem uM (n:Nat):∀N:List Str,D.fQ n (N.map D.str)=true
 | []=>by rw [List.map_nil,D.fQ]
 | x::N=>by
  rw [List.map_cons,D.fQ,uM n N];rw [D.bF] <;> simp
theorem yJ (x:Str):(D.str x).bF aU=true:=by
 unfold aU;rw [D.bF] <;> simp
theorem o5:∀N:List Str,D.aG (N.map D.str)=true
 | []=>rfl
 | x::N=>by
  rw [List.map_cons,D.aG,o5 N];rfl
theorem LQ (x:Str):∀N:List Str,(N.map D.str).any (fun y=>eqD y (.str x))=decide (x∈N)
 | []=>rfl
 | y::N=>by
  rw [List.map_cons,List.any_cons,LQ x N];show ((y==x)||_)=_;by_cases h:y=x
  ·simp [h]
  ·have h2:¬x=y:=fun e=>h e.symm
   simp [h,h2]
theorem in_str (x:Str) (N:List Str):gJ .isin (.str x) (.lst (N.map D.str))=.ok (.bl (decide (x∈N))):=by
 show (if (D.str x).bF aU&&D.fQ aU (N.map D.str) then Res.ok (D.bl ((N.map D.str).any fun y=>eqD y (.str x))) else .bad)=_;rw [yJ,uM,LQ];rfl
theorem gW {a:FE} {ρ:List D} {xs:List D} {fr:Bool} (h:a ρ=.ok (.lst xs)):bJ a fr ρ=.ok (xs,fr):=by
 unfold bJ;rw [h,Res.aO];show Res.ok (xs,fr||false)=_;rw [Bool.or_false]
theorem jZ {a:FE} {ρ:List D} {xs:List D} {fr:Bool} (h:a ρ=.ok (.tup xs)):bJ a fr ρ=.ok (xs,fr||D.aG xs):=by
 unfold bJ;rw [h,Res.aO];show Res.ok (xs,fr||(D.tup xs).pure)=_;rw [D.pure]
theorem e_ {α:Type} {n:Nat} {it:FI} {f:FE} {k kk:Bool} {ρ:List D} (d y:α->D) (xs:List α) (hρ:ρ.length=n) (h1:it ρ=.ok (xs.map d,kk)) (h2:xs.length<=100000) (h3:∀a∈xs,f (ρ++[d a])=.ok (y a)/\(k||(y a).pure)=true):dI n it mQ dW f k ρ=.ok (.lst (xs.map y)):=by
 refine JK h1 (by rw [List.length_map,bW];lia) ?_;have:∀(xs:List α) (acc:List D),(∀a∈xs,f (ρ++[d a])=.ok (y a)/\(k||(y a).pure)=true)->nY (vH n mQ dW f k ρ) acc (xs.map d)=.ok (acc++xs.map y):=by
  intro xs;induction xs with
  | nil=>intro acc _;simp [nY]
  | cons x xs ih=>
   intro acc h;rw [List.map_cons,nY,tQ hρ (b:=true) rfl fun _=>h x (List.mem_cons_self ..)];show nY _ (acc++[y x]) _=_;rw [ih _ fun a ha=>h a (List.mem_cons_of_mem _ ha),List.append_assoc];rfl
 exact (this xs [] h3).trans (by rw [List.nil_append])
theorem aEt {f:D->List D->Res D} {o:FE} {a:FA} {ρ:List D} {x:D} {xs:List D} {r:Res D} (h1:o ρ=.ok x) (h2:a ρ=.ok xs) (h3:f x xs=r):bM f o a ρ=r:=by
 unfold bM;rw [h1,Res.aO,h2,Res.aO,h3]
theorem aEu (a b:List Nat) (h:tx a++("e" : Str)=tx b++("e" : Str)):a=b:=by
 have e:("e" : Str)=tx [101]:=rfl;rw [e,LC,LC] at h;exact List.append_cancel_right (U3 h)
theorem rK (n d a:Nat):TF n d (some (a:Int))=min a n:=by
 show (if (a:Int)<0 then (max ((a:Int)+(n:Int)) 0).toNat else (min (a:Int) (n:Int)).toNat)=_;rw [if_neg (by lia)];lia
theorem yK (n d:Nat):TF n d none=d:=rfl
theorem aCc {α:Type} (xs:List α) (a:Nat):cutD xs none (some (a:Int))=xs.take a:=by
 unfold cutD;rw [rK,yK,List.drop_zero,Nat.sub_zero];by_cases h:a<=xs.length
 ·rw [Nat.min_eq_left h]
 ·rw [Nat.min_eq_right (by lia),List.take_of_length_le (Nat.le_refl _),List.take_of_length_le (by lia)]
theorem R1 {α:Type} (xs:List α) (a:Nat):cutD xs (some (a:Int)) none=xs.drop a:=by
 unfold cutD;rw [rK,yK];by_cases h:a<=xs.length
 ·rw [Nat.min_eq_left h,List.take_of_length_le (by rw [List.length_drop];exact Nat.le_refl _)]
 ·rw [Nat.min_eq_right (by lia),List.drop_eq_nil_of_le (Nat.le_refl _),List.drop_eq_nil_of_le (by lia),List.take_nil]
def sy (N:List Str) (i:Nat):D:=.str (N.getD i "")
theorem aCd (N:List Str) (h:N.length=26):N.map D.str=(List.range 26).map (sy N):=by
 apply List.ext_getElem
 ·simp [h]
 ·intro i h1 h2;rw [List.getElem_map,List.getElem_map,List.getElem_range];have h1':i<N.length:=by rw [List.length_map] at h1;exact h1
  show D.str (N[i]'h1')=D.str (N.getD i "");rw [List.getD_eq_getElem?_getD,List.getElem?_eq_getElem h1'];rfl
theorem CQ {N:List Str} (h:N.length=26) (hN:N.Nodup) {i j:Nat} (hi:i<26) (hj:j<26):eqD (sy N i) (sy N j)=decide (i=j):=by
 show ((N.getD i "")==(N.getD j ""))=_;have hi':i<N.length:=by lia
 have hj':j<N.length:=by lia
 rw [List.getD_eq_getElem?_getD,List.getD_eq_getElem?_getD,List.getElem?_eq_getElem hi',List.getElem?_eq_getElem hj'];show (N[i]==N[j])=_;by_cases e:i=j
 ·subst e;simp
 ·have:¬N[i]=N[j]:=fun g=>e ((List.getElem_inj hN).mp g)
  simp [e,this]
theorem cR (N:List Str):∀l:List Nat,D.aG (l.map (sy N))=true
 | []=>rfl
 | i::l=>by
  rw [List.map_cons,D.aG,cR N l];rfl
theorem LR (N:List Str) (i:Nat):(sy N i).bF aU=true:=yJ _
theorem u5 {α:Type} {f:α->D} {l:List α} {i:Nat} {a:α} {x:Int} (hx:x=i) (h:l[i]?=some a):getD (.lst (l.map f)) (.int x)=.ok (f a):=by
 subst hx;obtain ⟨hi,e⟩:=List.getElem?_eq_some_iff.mp h;show Res.ofOpt ((ixD (l.map f).length (i:Int)).bind fun j=>(l.map f)[j]?)=_;unfold ixD;rw [if_pos (by lia),List.length_map,if_pos (by lia)];simp [h]
theorem kW {f:Nat->D} {n i:Nat} {x:Int} (hx:x=i) (hi:i<n):getD (.lst ((List.range n).map f)) (.int x)=.ok (f i):=u5 hx (by rw [List.getElem?_range hi])
abbrev Rw:=Nat×Nat×List Nat
abbrev Tk:=Nat×Nat×Nat×List Nat
noncomputable def rwD (N:List Str) (r:Rw):D:=.tup [sy N r.1,sy N r.2.1,.tup (r.2.2.map (sy N))]
noncomputable def tkD (N:List Str) (r:Tk):D:=.tup [sy N r.1,sy N r.2.1,sy N r.2.2.1,.tup (r.2.2.2.map (sy N))]
theorem o8 (N:List Str) (r:Rw):(rwD N r).pure=true:=by
 show ((sy N r.1).pure&&((sy N r.2.1).pure&&((D.tup (r.2.2.map (sy N))).pure&&true)))=true;rw [D.pure,cR];rfl
theorem o9 (N:List Str) (r:Tk):(tkD N r).pure=true:=by
 show ((sy N r.1).pure&&((sy N r.2.1).pure&&((sy N r.2.2.1).pure&&((D.tup (r.2.2.2.map (sy N))).pure&&true))))=true;rw [D.pure,cR];rfl
theorem bO {α:Type} {f:α->D} (h:∀a,(f a).pure=true):∀l:List α,D.aG (l.map f)=true
 | []=>rfl
 | x::l=>by
  rw [List.map_cons,D.aG,h,bO h l];rfl
theorem rM {a:FE} {lo hi:List D->Res (Option Int)} {ρ xs:List D} {l h:Option Int} (h1:a ρ=.ok (.lst xs)) (h2:lo ρ=.ok l) (h3:hi ρ=.ok h) (hx:D.aG xs=true):m8 a lo hi ρ=.ok (.lst (cutD xs l h)):=by
 unfold m8;rw [h1,Res.aO,h2,Res.aO,h3,Res.aO];show (if D.aG xs then Res.ok (D.lst (cutD xs l h)) else .bad)=_;rw [if_pos hx]
theorem Y5 {g:D->Res D} {f:FE} {ρ:List D} {x y:D} (h:f ρ=.ok x) (h2:g x=.ok y):b1 g f ρ=.ok y:=by
 unfold b1;rw [h];exact h2
theorem call_v {n m:Nat} {f:FS} {ds:List D} {d:D} (h:f (ds++List.replicate (m-n) D.uD)=.ok (.rt d)):fnS n m f ds=.ok d:=by
 unfold fnS;rw [h];rfl
theorem U5 {a:FT} {ρ:List D} {b:Bool} (h:a ρ=.ok b):vG a ρ=.ok (!b):=by
 unfold vG;rw [h,Res.aO];rfl
theorem aCe {a:FE} {ρ:List D} {b:Bool} (h:a ρ=.ok (.bl b)):bTr a ρ=.ok b:=by
 unfold bTr;rw [h,Res.aO];rfl
end Lk58
end
section
namespace Lk58
open PySem L2 Mi
noncomputable def nmb:FS:=(b8 (cT false 7 (b2 getD iJ (b2 (aZ .mod) (b2 (aZ .add) (b2 (aZ .fdiv) dU vD) (b2 oH (bC (.int 7)) qI)) lV)) false) (PJ 5 (b2 (aZ .add) (b2 (aZ .add) (m8 mO (lW) (dH fB)) O_) (m8 mO (dH fB) (lW)))))
noncomputable def nm3:FS:=(cT false 4 (bM joinM (bC (.str "")) (aB (dI 8 (j7 (aB kZ aY) j0) mQ (dW) (b2 getD iJ (b2 (aZ .mod) (b2 (aZ .add) (b2 (aZ .fdiv) dU vD) (b2 oH pM pM)) lV)) false) aY)) true)
noncomputable def nm6:FS:=(sIf (bTB (b2 (gJ .eq) (b2 (aZ .mod) (b2 (aZ .fdiv) dU vD) zR) iK)) (cT true 5 (dI 8 (j7 (aB lV aY) j0) mQ (dW) (b2 oH (b2 getD iJ (b2 (aZ .mod) (b2 (aZ .add) (b2 (aZ .fdiv) dU G9) (b2 (aZ .mod) pM TJ)) lV)) (b2 (aZ .add) iK (b2 (aZ .fdiv) pM TJ))) true) true) (uQ))
noncomputable def nm7:FS:=(sIf (bOr (bTB (b2 inX (bC (.str "copy")) iV)) (bTB (b2 inX (bC (.str "drop")) iV))) (cT true 5 (dI 8 (bJ iV false) mQ (dW) (b2 (aZ .add) pM (bC (.str "e"))) true) true) (uQ))
theorem R3:jN=b8 (cT false 1 (bC (.str "abcdefghijklmnopqrstuvwxyz")) true) (b8 (cT false 2 (b2 (aZ .mod) dU M8) true) (b8 (cT false 3 (b2 (aZ .mod) (b2 (aZ .fdiv) dU M8) (b2 (aZ .add) kZ iK)) true) (b8 nm3 (b8 (cT true 5 (qK aY) true) (b8 (zT (j7 (aB lV aY) j0) (tg1 6) nmb) (b8 nm6 (b8 nm7 (HD 5)))))))):=rfl
noncomputable abbrev nv (cell size at_:Int) (base:Str) (NM:List D) (a b:D):List D:=[.int cell,.str abc,.int size,.int at_,.str base,.lst NM,a,b]
theorem L_ {cell size at_:Int} {base:Str} {P Q:List Nat} (hb:base.length<=10) (hP:Txt.slice base none (some at_)=tx P) (lP:P.length<=10) (hQ:Txt.slice base (some at_) none=tx Q) (lQ:Q.length<=10) (k:Int) (hk0:0<=k) (hk1:k<=100) (NM:List D) (hN:NM.length<100) (b:D):∃b',nmb (nv cell size at_ base NM (.int k) b)=.ok (.nx (nv cell size at_ base (NM++[.str (tx (P++[97+((cell / 72+7*k) % 26).toNat]++Q))]) (.int k) b')):=by
 have ap:∀(a b:List Nat),a.length<=100->b.length<=100->aZ .add (.str (tx a)) (.str (tx b))=.ok (.str (tx (a++b))):=fun a b h1 h2=>by
  rw [JL _ _ (by rw [p7,p7,bW];lia),LC]
 refine ⟨.str (tx [97+((cell / 72+7*k) % 26).toNat]),?_⟩;refine a_ (ρ':=nv cell size at_ base NM (.int k) (.str (tx [97+((cell / 72+7*k) % 26).toNat]))) (j9 (i:=7) (aP (x:=.str abc) rfl (aP (aP (aP (x:=.int cell) rfl rfl (gC _ _ (by decide) (by decide))) (aP (x:=.int 7) (y:=.int k) rfl rfl (lM _ _ (by decide))) (iT _ _)) rfl (eX _ _ (by decide))) (letter _ (by lia) (by lia))) rfl) ?_;have slP:m8 mO (lW) (dH fB) (nv cell size at_ base NM (.int k) (.str (tx [97+((cell / 72+7*k) % 26).toNat])))=.ok (.str (tx P)):=by
  rw [<-hP];exact LK rfl rfl (jT rfl) (by lia)
 have slQ:m8 mO (dH fB) (lW) (nv cell size at_ base NM (.int k) (.str (tx [97+((cell / 72+7*k) % 26).toNat])))=.ok (.str (tx Q)):=by
  rw [<-hQ];exact LK rfl (jT rfl) rfl (by lia)
 exact JH (xs:=NM) (aP (aP slP rfl (ap _ _ (by lia) (by simp))) slQ (ap _ _ (by simp only [List.length_append,List.length_singleton];lia) (by lia))) rfl (by rw [bW];lia) rfl
theorem p8 {cell size at_:Int} {base:Str} {P Q:List Nat} (hb:base.length<=10) (hP:Txt.slice base none (some at_)=tx P) (lP:P.length<=10) (hQ:Txt.slice base (some at_) none=tx Q) (lQ:Q.length<=10):∀(m j:Nat) (NM:List D) (a b:D),NM.length+m<100->j+m<=100->∃a' b',sY (tg1 6) nmb ((List.range' j m).map fun (k:Nat)=>D.int (0+(k:Int))) (nv cell size at_ base NM a b)=.ok (.nx (nv cell size at_ base (NM++(List.range' j m).map fun (k:Nat)=>D.str (tx (P++[97+((cell / 72+7*(0+(k:Int))) % 26).toNat]++Q))) a' b'))
 | 0,j,NM,a,b,_,_=>⟨a,b,by
  rw [List.range'_zero,List.map_nil,List.map_nil,List.append_nil];rfl⟩
 | m+1,j,NM,a,b,h,hj=>by
  obtain ⟨b1,e1⟩:=L_ (cell:=cell) (size:=size) hb hP lP hQ lQ (0+(j:Int)) (by lia) (by lia) NM (by lia) b;obtain ⟨a2,b2,e2⟩:=p8 (cell:=cell) (size:=size) hb hP lP hQ lQ m (j+1) (NM++[.str (tx (P++[97+((cell / 72+7*(0+(j:Int))) % 26).toNat]++Q))]) (.int (0+(j:Int))) b1 (by rw [List.length_append,List.length_singleton];lia) (by lia);refine ⟨a2,b2,?_⟩;rw [List.range'_succ,List.map_cons,List.map_cons];refine dO (ρ1:=nv cell size at_ base NM (.int (0+(j:Int))) b) rfl e1 ?_;rw [e2,List.append_assoc];rfl
theorem U6 {g:Nat->Str} (h:∀j k,j<26->k<26->g j=g k->j=k):((List.range' 0 26).map g).Nodup:=by
 rw [List.nodup_iff_pairwise_ne,List.pairwise_map];refine List.Pairwise.imp_of_mem ?_ (List.nodup_iff_pairwise_ne.mp (List.nodup_range' (s:=0) (n:=26) (step:=1) (by decide)));intro j k hj hk hne e;rw [List.mem_range'_1] at hj hk;exact hne (h j k (by lia) (by lia) e)
theorem R4 (cell:Int):∃N:List Str,N.length=26/\N.Nodup/\dB [.int cell]=.ok (.lst (N.map D.str)):=by
 generalize hs:cell % 8=size;have hz0:0<=size:=by lia
 have hz1:size<8:=by lia
 let at_:=cell / 8 % (size+1)
 let bcs:List Nat:=(List.range size.toNat).map fun (k:Nat)=>97+((cell / 72+(0+(k:Int))*(0+(k:Int))) % 26).toNat
 have hbl:bcs.length<=10:=by show (List.map _ _).length<=10;rw [List.length_map,List.length_range];lia
 have hb:(tx bcs).length<=10:=by rw [p7];exact hbl
 obtain ⟨P,hP,lP⟩:∃P,Txt.slice (tx bcs) none (some at_)=tx P/\P.length<=10:=⟨_,(U4 _).symm,Nat.le_trans (Txt.slice_le ..) hb⟩
 obtain ⟨Q,hQ,lQ⟩:∃P,Txt.slice (tx bcs) (some at_) none=tx P/\P.length<=10:=⟨_,(U4 _).symm,Nat.le_trans (Txt.slice_le ..) hb⟩
 obtain ⟨a',b',L⟩:=p8 (cell:=cell) (size:=size) (at_:=at_) hb hP lP hQ lQ 26 0 [] .uD .uD (by decide) (by decide)
 -- the names ahead of the last test
 obtain ⟨nm,lnm,M,h6⟩:∃nm:Nat->List Nat,(∀k,k<26->(nm k).length<=100)/\(∀j k,j<26->k<26->nm j=nm k->j=k)/\nm6 (nv cell size at_ (tx bcs) ((List.range' 0 26).map fun (k:Nat)=>D.str (tx (P++[97+((cell / 72+7*(0+(k:Int))) % 26).toNat]++Q))) a' b')=.ok (.nx (nv cell size at_ (tx bcs) ((List.range' 0 26).map fun (k:Nat)=>D.str (tx (nm k))) a' b')):=by
  by_cases h1:cell / 72 % 3=1
  ·refine ⟨fun k=>List.replicate (1+k / 4) (97+((cell / 216+((k:Int) % 4)) % 26).toNat),fun k hk=>by rw [List.length_replicate];lia,fun j k hj hk e=>?_,?_⟩
   ·have e1:=congrArg List.length e;rw [List.length_replicate,List.length_replicate] at e1;have e2:=congrArg (fun l=>l.head?) e;simp only [Nat.add_comm 1,List.replicate_succ,List.head?_cons,Option.some.injEq] at e2;lia
   ·refine aE6 (qU (aP (aP (aP (x:=.int cell) rfl rfl (gC _ _ (by decide) (by decide))) rfl (eX _ _ (by decide))) rfl ((K_ _ _).trans (by rw [h1];rfl)))) (j_ (i:=5) (d:=.lst ((List.range' 0 26).map fun (k:Nat)=>D.str (tx (List.replicate (1+k / 4) (97+((cell / 216+((k:Int) % 4)) % 26).toNat))))) ?_ ?_)
    ·have hc:=e_ (n:=8) (it:=j7 (aB lV aY) j0) (f:=b2 oH (b2 getD iJ (b2 (aZ .mod) (b2 (aZ .add) (b2 (aZ .fdiv) dU G9) (b2 (aZ .mod) pM TJ)) lV)) (b2 (aZ .add) iK (b2 (aZ .fdiv) pM TJ))) (k:=true) (ρ:=nv cell size at_ (tx bcs) ((List.range' 0 26).map fun (k:Nat)=>D.str (tx (P++[97+((cell / 72+7*(0+(k:Int))) % 26).toNat]++Q))) a' b') (fun k:Nat=>D.int (0+(k:Int))) (fun k:Nat=>D.str (tx (List.replicate (1+k / 4) (97+((cell / 216+((k:Int) % 4)) % 26).toNat)))) (List.range 26) rfl (tO (n:=26) (aF rfl rfl) (by decide) (by decide)) (by decide) (fun k hk=>⟨aP (aP (x:=.str abc) rfl (aP (aP (aP (x:=.int cell) rfl rfl (gC _ _ (by decide) (by decide))) (aP (x:=.int (0+(k:Int))) rfl rfl (eX _ _ (by decide))) (iT _ _)) rfl (eX _ _ (by decide))) (letter _ (by lia) (by lia))) (aP (x:=.int 1) (y:=.int ((0+(k:Int)) / 4)) rfl (aP (x:=.int (0+(k:Int))) rfl rfl (gC _ _ (by decide) (by decide))) (z:=.int ((1+k / 4:Nat):Int)) (by rw [iT,Int.zero_add];congr 2)) (by rw [Int.zero_add];exact RZ _ _ (by lia) (by have:=List.mem_range.mp hk;lia)),rfl⟩);rw [<-List.range_eq_range'];exact hc
    ·have e:=o5 ((List.range' 0 26).map fun (k:Nat)=>tx (List.replicate (1+k / 4) (97+((cell / 216+((k:Int) % 4)) % 26).toNat)));rw [List.map_map] at e;exact e
  ·refine ⟨fun k=>P++[97+((cell / 72+7*(0+(k:Int))) % 26).toNat]++Q,fun k hk=>by simp only [List.length_append,List.length_singleton];lia,fun j k hj hk e=>?_,?_⟩
   ·have e1:=Y4 e;simp only [List.cons.injEq,and_true] at e1
    try omega
   ·exact T6 (qU (aP (aP (aP (x:=.int cell) rfl rfl (gC _ _ (by decide) (by decide))) rfl (eX _ _ (by decide))) rfl ((K_ _ _).trans (by rw [beq_eq_false_iff_ne.mpr h1])))) rfl
 generalize hN0:((List.range' 0 26).map fun k=>tx (nm k))=N0;have l0:N0.length=26:=by rw [<-hN0,List.length_map];rfl
 have eN:((List.range' 0 26).map fun (k:Nat)=>D.str (tx (nm k)))=N0.map D.str:=by rw [<-hN0,List.map_map];rfl
 have tl:∀x∈N0,x.length<=100:=fun x hx=>by
  rw [<-hN0,List.mem_map] at hx;obtain ⟨k,hk,rfl⟩:=hx;rw [p7];rw [List.mem_range'_1] at hk;exact lnm k (by lia)
 rw [eN] at h6;have cond:(bOr (bTB (b2 inX (bC (.str "copy")) iV)) (bTB (b2 inX (bC (.str "drop")) iV))) (nv cell size at_ (tx bcs) (N0.map D.str) a' b')=.ok (decide (("copy" : Str)∈N0)||decide (("drop" : Str)∈N0)):=wB (qU (aP rfl rfl (in_str _ _))) (qU (aP rfl rfl (in_str _ _)));have pre:∀(R:Res Fl),b8 nm7 (HD 5) (nv cell size at_ (tx bcs) (N0.map D.str) a' b')=R->jN [.int cell,.uD,.uD,.uD,.uD,.uD,.uD,.uD]=R:=fun R hg=>by
  rw [R3];refine a_ (ρ':=[.int cell,.str abc,.uD,.uD,.uD,.uD,.uD,.uD]) (eU (i:=1) rfl) ?_;refine a_ (ρ':=[.int cell,.str abc,.int size,.uD,.uD,.uD,.uD,.uD]) (eU (i:=2) (aP rfl rfl ((eX _ _ (by decide)).trans (by rw [hs])))) ?_;refine a_ (ρ':=[.int cell,.str abc,.int size,.int at_,.uD,.uD,.uD,.uD]) (eU (i:=3) (aP (aP rfl rfl (gC _ _ (by decide) (by decide))) (aP (x:=.int size) rfl rfl (iT _ _)) (eX _ _ (by lia)))) ?_;refine a_ (ρ':=[.int cell,.str abc,.int size,.int at_,.str (tx bcs),.uD,.uD,.uD]) (eU (i:=4) ?_) ?_
  ·have hc:=e_ (n:=8) (it:=j7 (aB kZ aY) j0) (f:=b2 getD iJ (b2 (aZ .mod) (b2 (aZ .add) (b2 (aZ .fdiv) dU vD) (b2 oH pM pM)) lV)) (k:=false) (ρ:=[.int cell,.str abc,.int size,.int at_,.uD,.uD,.uD,.uD]) (fun k:Nat=>D.int (0+(k:Int))) (fun k:Nat=>.str (one (97+((cell / 72+(0+(k:Int))*(0+(k:Int))) % 26).toNat))) (List.range size.toNat) rfl (tO (n:=size) (aF rfl rfl) (by lia) (by lia)) (by rw [List.length_range];lia) (fun k hk=>⟨aP (x:=.str abc) rfl (aP (aP (aP (x:=.int cell) rfl rfl (gC _ _ (by decide) (by decide))) (aP (x:=.int (0+(k:Int))) rfl rfl (oZ _ _ (QK _ (by lia) (by have:=List.mem_range.mp hk;lia)))) (iT _ _)) rfl (eX _ _ (by decide))) (letter _ (by lia) (by lia)),rfl⟩);have hj:=YZ bcs (by lia);rw [List.map_map] at hj;exact aEt rfl (aF hc rfl) hj
  refine a_ (ρ':=nv cell size at_ (tx bcs) [] .uD .uD) (j_ (i:=5) rfl rfl) ?_;refine a_ (pQ (tO (n:=26) (aF rfl rfl) (by decide) (by decide)) ?_) (a_ h6 hg);rw [List.nil_append] at L;exact L
 by_cases hc:(decide (("copy" : Str)∈N0)||decide (("drop" : Str)∈N0))=true
 ·refine ⟨N0.map fun x=>x++("e" : Str),by rw [List.length_map,l0],?_,?_⟩
  ·rw [<-hN0,List.map_map];exact U6 fun j k hj hk e=>M j k hj hk (aEu _ _ e)
  ·refine call_v (pre _ (a_ (aE6 (cond.trans (by rw [hc])) (j_ (i:=5) (d:=.lst ((N0.map fun x=>x++("e" : Str)).map D.str)) ?_ (o5 _))) rfl));rw [List.map_map];exact e_ (n:=8) D.str (fun x=>D.str (x++("e" : Str))) N0 rfl (gW rfl) (by lia) (fun x hx=>⟨aP rfl rfl (JL _ _ (by have:=tl x hx;rw [bW];show x.length+1<=_;lia)),rfl⟩)
 ·refine ⟨N0,l0,hN0▸U6 fun j k hj hk e=>M j k hj hk (U3 e),?_⟩;exact call_v (pre _ (a_ (T6 (cond.trans (by rw [Bool.eq_false_iff.mpr hc])) rfl) rfl))
end Lk58
end
section
namespace Lk58
open PySem L2 Mi
def hdV (N:List Str) (r:Rw):D:=.tup [sy N r.2.1,.tup (r.2.2.map (sy N))]
def hdD (N:List Str) (F:List Rw):List (D×D):=F.map fun r=>(sy N r.1,hdV N r)
def tr (t:Tk):Rw:=(t.1,t.2.1,t.2.2.1::t.2.2.2)
theorem rN (N:List Str) (r:Rw):(hdV N r).pure=true:=by
 show ((sy N r.2.1).pure&&((D.tup (r.2.2.map (sy N))).pure&&true))=true;rw [D.pure,cR];rfl
theorem wC {α:Type} {N:List Str} (hN:N.length=26) (hd:N.Nodup) (nm:α->Nat) (g:α->D):∀(L:List α),(L.map nm).Nodup->(∀a∈L,nm a<26)->∀a∈L,b7 (L.map fun a=>(sy N (nm a),g a)) (sy N (nm a))=some (g a)
 | [],_,_,a,ha=>by simp at ha
 | b::L,h1,h2,a,ha=>by
  rw [List.map_cons,b7,CQ hN hd (h2 b (List.mem_cons_self ..)) (h2 a ha)];rw [List.map_cons,List.nodup_cons] at h1;rcases List.mem_cons.mp ha with e|e
  ·subst e;rw [decide_eq_true rfl,if_pos rfl]
  ·have:¬nm b=nm a:=fun g=>h1.1 (g▸List.mem_map_of_mem (f:=nm) e)
   rw [decide_eq_false this,if_neg (by simp)];exact wC hN hd nm g L h1.2 (fun c hc=>h2 c (List.mem_cons_of_mem _ hc)) a e
theorem nA:∀{ps:List D},(∀p∈ps,p.pure=true)->D.aG ps=true
 | [],_=>rfl
 | p::ps,h=>by rw [D.aG,h p (by simp),nA fun q hq=>h q (by simp [hq])];rfl
def mkD (N:List Str) (M:List Rw):List (D×D):=M.map fun r=>(sy N r.1,.bl true)
structure Hds (F:List Rw):Prop where
 nd:(F.map (·.1)).Nodup
 lt:∀r∈F,r.1<26/\r.2.1<26/\(∀i∈r.2.2,i<26)/\r.2.2.length<=10
 ln:F.length<=100
section
variable {N:List Str} (hN:N.length=26) (hd:N.Nodup)
include hN hd
theorem rO {α:Type} (nm:α->Nat) (g:α->D) {i:Nat} (hi:i<26) (v:D):∀(L:List α),(∀a∈L,nm a<26)->i∉L.map nm->putD (L.map fun a=>(sy N (nm a),g a)) (sy N i) v=(L.map fun a=>(sy N (nm a),g a))++[(sy N i,v)]
 | [],_,_=>rfl
 | a::L,h1,h2=>by
  rw [List.map_cons,List.mem_cons,not_or] at h2;rw [List.map_cons,putD,CQ hN hd (h1 a (List.mem_cons_self ..)) hi,decide_eq_false (fun g=>h2.1 g.symm),if_neg (by simp),rO nm g hi v L (fun b hb=>h1 b (List.mem_cons_of_mem _ hb)) h2.2];rfl
omit hN hd in
theorem MF {α:Type} (nm:α->Nat) (g:α->D) (L:List α) (i:Nat):rT (L.map fun a=>(sy N (nm a),g a)) (sy N i)=true:=by
 show (true&&(L.map fun a=>(sy N (nm a),g a)).all fun p=>isTup p.1==false)=true;rw [Bool.true_and,List.all_eq_true];intro y hy;obtain ⟨k,_,rfl⟩:=List.mem_map.mp hy;rfl
theorem yL {pr e f g h:D} (e5:D):∀(M L:List Rw),((L++M).map (·.1)).Nodup->(∀r∈L++M,r.1<26)->L.length+M.length<=1000->∀(a b c:D),∃a' b' c',sY (tgN [2,3,4]) (WM 1 kZ (jF (aB fB (aB mO aY)))) (M.map (rwD N)) [pr,.dct (hdD N L),a,b,c,e5,f]=.ok (.nx [pr,.dct (hdD N (L++M)),a',b',c',e5,f])
 | [],L,_,_,_,a,b,c=>⟨a,b,c,by rw [List.append_nil];rfl⟩
 | r::M,L,h1,h2,h3,a,b,c=>by
  have hr:r.1<26:=h2 r (by simp);have hn:r.1∉L.map (·.1):=fun hm=>by
   rw [List.map_append,List.map_cons,List.nodup_append] at h1;exact h1.2.2 _ hm _ (List.mem_cons_self ..) rfl
  have e1:hdD N (L++[r])=putD (hdD N L) (sy N r.1) (hdV N r):=by
   unfold hdD;rw [rO hN hd (fun r:Rw=>r.1) (hdV N) hr _ L (fun x hx=>h2 x (by simp [hx])) hn,List.map_append];rfl
  rw [List.length_cons] at h3;obtain ⟨a',b',c',q⟩:=yL (pr:=pr) (e:=e) (f:=f) (g:=g) (h:=h) e5 M (L++[r]) (by rw [List.append_assoc];exact h1) (by rw [List.append_assoc];exact h2) (by rw [List.length_append,List.length_singleton];lia) (sy N r.1) (sy N r.2.1) (.tup (r.2.2.map (sy N)));refine ⟨a',b',c',?_⟩;rw [List.map_cons];rw [List.append_assoc] at q;refine dO (ρ1:=[pr,.dct (hdD N L),sy N r.1,sy N r.2.1,.tup (r.2.2.map (sy N)),e5,f]) rfl (T7 (i:=1) (kvs:=hdD N L) (k:=sy N r.1) (d:=hdV N r) (eV (aF rfl (aF rfl rfl)) (by rw [bW];simp)) rfl rfl (by unfold hdD;rw [List.length_map,bW];lia) (MF ..) (rN ..)) ?_;rw [<-e1];exact q
theorem yM {pr:D}:∀(T:List Tk) (L:List Rw),((L++T.map tr).map (·.1)).Nodup->(∀r∈L++T.map tr,r.1<26)->L.length+T.length<=1000->(∀t∈T,t.2.2.2.length<=10)->∀(a b c d e:D),∃a' b' c' d' e',sY (tgN [2,3,5,6]) (WM 1 kZ (jF (aB fB (aB (b2 aBb (jF (aB iV aY)) qI) aY)))) (T.map (tkD N)) [pr,.dct (hdD N L),a,b,c,d,e]=.ok (.nx [pr,.dct (hdD N (L++T.map tr)),a',b',c',d',e'])
 | [],L,_,_,_,_,a,b,c,d,e=>⟨a,b,c,d,e,by rw [show L++List.map tr []=L from List.append_nil L];rfl⟩
 | t::T,L,h1,h2,h3,h4,a,b,c,d,e=>by
  have hr:(tr t).1<26:=h2 (tr t) (by simp);have hn:(tr t).1∉L.map (·.1):=fun hm=>by
   rw [List.map_cons,List.map_append,List.map_cons,List.nodup_append] at h1;exact h1.2.2 _ hm _ (List.mem_cons_self ..) rfl
  have e1:hdD N (L++[tr t])=putD (hdD N L) (sy N (tr t).1) (hdV N (tr t)):=by
   unfold hdD;rw [rO hN hd (fun r:Rw=>r.1) (hdV N) hr _ L (fun x hx=>h2 x (List.mem_append_left _ hx)) hn,List.map_append];rfl
  rw [List.length_cons] at h3;obtain ⟨a',b',c',d',e',q⟩:=yM (pr:=pr) T (L++[tr t]) (by rw [List.append_assoc];exact h1) (by rw [List.append_assoc];exact h2) (by rw [List.length_append,List.length_singleton];lia) (fun x hx=>h4 x (List.mem_cons_of_mem _ hx)) (sy N t.1) (sy N t.2.1) c (sy N t.2.2.1) (.tup (t.2.2.2.map (sy N)));refine ⟨a',b',c',d',e',?_⟩;rw [List.map_cons];rw [List.append_assoc] at q;have hl:=h4 t (List.mem_cons_self ..);have had:aBb (.tup [sy N t.2.2.1]) (.tup (t.2.2.2.map (sy N)))=.ok (.tup ((tr t).2.2.map (sy N))):=by
   show (if decide ([sy N t.2.2.1].length+(t.2.2.2.map (sy N)).length<=lim) then Res.ok (D.tup ([sy N t.2.2.1]++t.2.2.2.map (sy N))) else .bad)=_;rw [List.length_map,bW,decide_eq_true (by simp;lia)];rfl
  refine dO (ρ1:=[pr,.dct (hdD N L),sy N t.1,sy N t.2.1,c,sy N t.2.2.1,.tup (t.2.2.2.map (sy N))]) rfl (T7 (i:=1) (kvs:=hdD N L) (k:=sy N (tr t).1) (d:=hdV N (tr t)) (eV (aF rfl (aF (aP (eV (aF rfl rfl) (by rw [bW];simp)) rfl had) rfl)) (by rw [bW];simp)) rfl rfl (by unfold hdD;rw [List.length_map,bW];lia) (MF ..) (rN ..)) ?_;rw [<-e1];exact q
theorem R5 {M:List Rw} {T:List Tk} (F:Hds (M++T.map tr)) {P0 P3:D}:fC [.tup [P0,.tup (M.map (rwD N)),.tup (T.map (tkD N)),P3]]=.ok (.dct (hdD N (M++T.map tr))):=by
 have hl:=F.ln;rw [List.length_append,List.length_map] at hl;obtain ⟨a,b,c,q1⟩:=yL hN hd (pr:=.tup [P0,.tup (M.map (rwD N)),.tup (T.map (tkD N)),P3]) (e:=.uD) (f:=.uD) (g:=.uD) (h:=.uD) .uD M [] (by have:=F.nd;rw [List.map_append,List.nodup_append] at this;exact this.1) (fun r hr=>(F.lt r (List.mem_append_left _ hr)).1) (by simp;lia) .uD .uD .uD;obtain ⟨a2,b2',c2,d2,e2,q2⟩:=yM hN hd (pr:=.tup [P0,.tup (M.map (rwD N)),.tup (T.map (tkD N)),P3]) T M F.nd (fun r hr=>(F.lt r hr).1) (by lia) (fun t ht=>by have:=(F.lt (tr t) (List.mem_append_right _ (List.mem_map_of_mem ht))).2.2.2;have e:(tr t).2.2.length=t.2.2.2.length+1:=rfl;lia) a b c .uD .uD;refine call_v ?_;refine a_ (ρ':=[.tup [P0,.tup (M.map (rwD N)),.tup (T.map (tkD N)),P3],.dct [],.uD,.uD,.uD,.uD,.uD]) (j_ (i:=1) rfl rfl) ?_;refine a_ (pQ ((jZ (aP rfl rfl rfl)).trans (by rw [bO (o8 N)];rfl)) q1) ?_;exact a_ (pQ ((jZ (aP rfl rfl rfl)).trans (by rw [bO (o9 N)];rfl)) q2) rfl
theorem U7 {F:List Rw} (hF:Hds F) {r:Rw} (hr:r∈F):getD (.dct (hdD N F)) (sy N r.1)=.ok (hdV N r):=by
 show (if true then Res.ofOpt (b7 (hdD N F) (sy N r.1)) else .bad)=_;unfold hdD;rw [if_pos rfl,wC hN hd (fun r:Rw=>r.1) (hdV N) F hF.nd (fun a ha=>(hF.lt a ha).1) r hr];rfl
omit hN hd in
omit hN hd in
theorem Y6 {ρ:List D} {i:Nat} {r:Rw} (h:d9 i ρ=.ok (rwD N r)):b2 getD (d9 i) gG ρ=.ok (sy N r.1)/\b2 getD (d9 i) iK ρ=.ok (sy N r.2.1)/\b2 getD (d9 i) uP ρ=.ok (.tup (r.2.2.map (sy N))):=⟨aP h rfl rfl,aP h rfl rfl,aP h rfl rfl⟩
theorem Y7 {i j:Nat} (hi:i<26) (hj:j<26):gJ .ne (sy N i) (sy N j)=.ok (.bl (!decide (i=j))):=by
 show (if (sy N i).bF aU&&(sy N j).bF aU then Res.ok (D.bl (!eqD (sy N i) (sy N j))) else .bad)=_;rw [LR,LR,CQ hN hd hi hj];rfl
end
noncomputable def mkE:FE:=(b1 xV (dI 3 (bJ (b2 getD iJ iK) false) mQ (dW) (jF (aB (b2 getD fB gG) (aB (bC (.bl true)) aY))) false))
noncomputable def ruE:FE:=(b1 rA (dI 3 (bJ (b2 getD iJ zR) false) mQ (dW) (jF (aB (jF (aB (b2 getD fB gG) (aB (b2 getD fB iK) aY))) (aB fB aY))) false))
theorem aEv:cY=([("heads",.exp (aQ (f9 1 fC) (aB iJ aY))),("makers",.exp mkE),("rules",.exp ruE),("most",.par 2),("calls",.exp gG),("copies",.exp gG),("drops",.exp gG)]:List (Str×Srx)):=rfl
theorem yN {N:List Str}:∀M:List Rw,oO (M.map fun r=>D.tup [sy N r.1,.bl true])=some (mkD N M)
 | []=>rfl
 | r::M=>by
  show (if fH (sy N r.1)&&(D.bl true).pure then (oO (M.map fun r=>D.tup [sy N r.1,.bl true])).map ((sy N r.1,D.bl true)::·) else none)=_;rw [yN M];rfl
section
variable {N:List Str} (hN:N.length=26) (hd:N.Nodup)
include hN hd
theorem yO:∀(M L:List Rw),((L++M).map (·.1)).Nodup->(∀r∈L++M,r.1<26)->gU (mkD N L) (mkD N M)=mkD N (L++M)
 | [],L,_,_=>by rw [List.append_nil];rfl
 | r::M,L,h1,h2=>by
  show gU (putD (mkD N L) (sy N r.1) (.bl true)) (mkD N M)=_;have hnot:r.1∉L.map (·.1):=fun z=>by
   rw [List.map_append,List.nodup_append] at h1;exact h1.2.2 r.1 z r.1 (by simp) rfl
  have e:=rO hN hd (fun a:Rw=>a.1) (fun _=>D.bl true) (i:=r.1) (h2 r (by simp)) (.bl true) L (fun a ha=>h2 a (by simp [ha])) hnot;have e':putD (mkD N L) (sy N r.1) (.bl true)=mkD N (L++[r]):=by
   show putD (L.map fun a=>(sy N a.1,D.bl true)) (sy N r.1) (.bl true)=_;rw [e];unfold mkD;rw [List.map_append];rfl
  rw [e',yO M (L++[r]) (by simpa using h1) (by simpa using h2)];simp
theorem aCf {M:List Rw} (hM:Hds M) {P0 P2 P3 mo:D}:mkE [.uD,.tup [P0,.tup (M.map (rwD N)),P2,P3],mo]=.ok (.dct (mkD N M)):=by
 have hl:=hM.ln;refine Y5 (e_ (n:=3) (rwD N) (fun r:Rw=>D.tup [sy N r.1,.bl true]) M rfl (jZ (aP rfl rfl rfl)) (by lia) fun r hr=>⟨eV (aF (Y6 (i:=3) (r:=r) rfl).1 (aF rfl rfl)) (by rw [bW];simp),rfl⟩) ?_;show (match oO (M.map fun r:Rw=>D.tup [sy N r.1,.bl true]) with|some ps=>if decide ((M.map fun r:Rw=>D.tup [sy N r.1,.bl true]).length<=1000) then Res.ok (D.dct (gU [] ps)) else .bad|none=>.bad)=_;rw [yN];dsimp only;rw [if_pos (by rw [List.length_map];exact decide_eq_true (by lia))];have:=yO hN hd M [] hM.nd fun r hr=>(hM.lt r hr).1
 rw [List.nil_append] at this;exact congrArg (fun z=>Res.ok (D.dct z)) this
end
abbrev Ru:=Nat×Nat×List Nat×List Nat
noncomputable def ruD (N:List Str) (r:Ru):D:=.tup [sy N r.1,sy N r.2.1,.tup (r.2.2.1.map (sy N)),.tup (r.2.2.2.map (sy N))]
noncomputable def rlD (N:List Str) (R:List Ru):List (D×D):=R.map fun r=>(.tup [sy N r.1,sy N r.2.1],ruD N r)
theorem gF (N:List Str) (r:Ru):(ruD N r).pure=true:=by
 show ((sy N r.1).pure&&((sy N r.2.1).pure&&((D.tup (r.2.2.1.map (sy N))).pure&&((D.tup (r.2.2.2.map (sy N))).pure&&true))))=true;rw [D.pure,D.pure,cR,cR];rfl
structure Rls (R:List Ru):Prop where
 nd:(R.map fun r=>(r.1,r.2.1)).Nodup
 lt:∀r∈R,r.1<26/\r.2.1<26
 ln:R.length<=100
theorem yP {N:List Str}:∀R:List Ru,oU (R.map fun r=>D.tup [.tup [sy N r.1,sy N r.2.1],ruD N r])=some (rlD N R)
 | []=>rfl
 | r::R=>by
  show (if [sy N r.1,sy N r.2.1].all fH&&(ruD N r).pure then (oU (R.map fun r=>D.tup [.tup [sy N r.1,sy N r.2.1],ruD N r])).map ((D.tup [sy N r.1,sy N r.2.1],ruD N r)::·) else none)=_;rw [yP R,gF];rfl
section
variable {N:List Str} (hN:N.length=26) (hd:N.Nodup)
include hN hd
theorem MJ {a b c d:Nat} (ha:a<26) (hb:b<26) (hc:c<26) (he:d<26):eqD (.tup [sy N a,sy N b]) (.tup [sy N c,sy N d])=decide ((a,b)=(c,d)):=by
 show (eqD (sy N a) (sy N c)&&(eqD (sy N b) (sy N d)&&true))=_;rw [CQ hN hd ha hc,CQ hN hd hb he,Bool.and_true];by_cases h:a=c <;> by_cases h2:b=d <;> simp [h,h2]
theorem U8 {i j:Nat} (hi:i<26) (hj:j<26) (v:D):∀(L:List Ru),(∀r∈L,r.1<26/\r.2.1<26)->(i,j)∉(L.map fun r=>(r.1,r.2.1))->putD (rlD N L) (.tup [sy N i,sy N j]) v=rlD N L++[(.tup [sy N i,sy N j],v)]
 | [],_,_=>rfl
 | a::L,h1,h2=>by
  rw [List.map_cons,List.mem_cons,not_or] at h2;have ha:=h1 a (List.mem_cons_self ..);show (if eqD (.tup [sy N a.1,sy N a.2.1]) (.tup [sy N i,sy N j]) then _ else (D.tup [sy N a.1,sy N a.2.1],ruD N a)::putD (rlD N L) (.tup [sy N i,sy N j]) v)=_;rw [MJ hN hd ha.1 ha.2 hi hj,decide_eq_false (fun g=>h2.1 g.symm),if_neg (by simp),U8 hi hj v L (fun b hb=>h1 b (List.mem_cons_of_mem _ hb)) h2.2];rfl
theorem yQ:∀(R L:List Ru),((L++R).map fun r=>(r.1,r.2.1)).Nodup->(∀r∈L++R,r.1<26/\r.2.1<26)->gU (rlD N L) (rlD N R)=rlD N (L++R)
 | [],L,_,_=>by rw [List.append_nil];rfl
 | r::R,L,h1,h2=>by
  show gU (putD (rlD N L) (.tup [sy N r.1,sy N r.2.1]) (ruD N r)) (rlD N R)=_;have hnot:(r.1,r.2.1)∉(L.map fun r=>(r.1,r.2.1)):=fun z=>by
   rw [List.map_append,List.nodup_append] at h1;exact h1.2.2 (r.1,r.2.1) z (r.1,r.2.1) (by simp) rfl
  have hr:=h2 r (by simp);have e':putD (rlD N L) (.tup [sy N r.1,sy N r.2.1]) (ruD N r)=rlD N (L++[r]):=by
   rw [U8 hN hd hr.1 hr.2 _ L (fun b hb=>h2 b (by simp [hb])) hnot];unfold rlD;rw [List.map_append];rfl
  rw [e',yQ R (L++[r]) (by simpa using h1) (by simpa using h2)];simp
theorem MK:∀(R:List Ru),(R.map fun r=>(r.1,r.2.1)).Nodup->(∀r∈R,r.1<26/\r.2.1<26)->∀r∈R,b7 (rlD N R) (.tup [sy N r.1,sy N r.2.1])=some (ruD N r)
 | [],_,_,r,hr=>by simp at hr
 | b::L,h1,h2,a,ha=>by
  have hb:=h2 b (List.mem_cons_self ..);have hA:=h2 a ha;show (if eqD (.tup [sy N b.1,sy N b.2.1]) (.tup [sy N a.1,sy N a.2.1]) then some (ruD N b) else b7 (rlD N L) (.tup [sy N a.1,sy N a.2.1]))=_;rw [MJ hN hd hb.1 hb.2 hA.1 hA.2];rw [List.map_cons,List.nodup_cons] at h1;rcases List.mem_cons.mp ha with e|e
  ·subst e;rw [decide_eq_true rfl,if_pos rfl]
  ·have:¬(b.1,b.2.1)=(a.1,a.2.1):=fun g=>h1.1 (g▸List.mem_map_of_mem (f:=fun r:Ru=>(r.1,r.2.1)) e)
   rw [decide_eq_false this,if_neg (by simp),MK L h1.2 (fun r hr=>h2 r (List.mem_cons_of_mem _ hr)) a e]
theorem aCg {R:List Ru} (hR:Rls R) {r:Ru} (hr:r∈R):getD (.dct (rlD N R)) (.tup [sy N r.1,sy N r.2.1])=.ok (ruD N r):=by
 show (if keyOk (.tup [sy N r.1,sy N r.2.1])=true then Res.ofOpt (b7 (rlD N R) (.tup [sy N r.1,sy N r.2.1])) else .bad)=_;rw [if_pos (by rfl),MK hN hd R hR.nd hR.lt r hr];rfl
theorem aCh {R:List Ru} (hR:Rls R) {P0 P1 P2 mo:D}:ruE [.uD,.tup [P0,P1,P2,.tup (R.map (ruD N))],mo]=.ok (.dct (rlD N R)):=by
 have hl:=hR.ln;refine Y5 (e_ (n:=3) (ruD N) (fun r:Ru=>D.tup [.tup [sy N r.1,sy N r.2.1],ruD N r]) R rfl (jZ (aP rfl rfl rfl)) (by lia) fun r hr=>⟨eV (aF (eV (aF (aP rfl rfl rfl) (aF (aP rfl rfl rfl) rfl)) (by rw [bW];simp)) (aF rfl rfl)) (by rw [bW];simp),?_⟩) ?_
 ·show (false||((D.tup [sy N r.1,sy N r.2.1]).pure&&((ruD N r).pure&&true)))=true;rw [gF];rfl
 ·show (match oU (R.map fun r:Ru=>D.tup [.tup [sy N r.1,sy N r.2.1],ruD N r]) with|some ps=>if decide ((R.map fun r:Ru=>D.tup [.tup [sy N r.1,sy N r.2.1],ruD N r]).length<=1000) then Res.ok (D.dct (gU [] ps)) else .bad|none=>.bad)=_;rw [yP];dsimp only;rw [if_pos (by rw [List.length_map];exact decide_eq_true (by lia))];have:=yQ hN hd R [] hR.nd hR.lt;rw [List.nil_append] at this;exact congrArg (fun z=>Res.ok (D.dct z)) this
theorem rP (F:List Rw):D.aG ((hdD N F).map (·.2))=true:=nA fun p hp=>by
 unfold hdD at hp;rw [List.map_map] at hp;obtain ⟨r,_,rfl⟩:=List.mem_map.mp hp;exact rN N r
theorem rQ (M:List Rw):D.aG ((mkD N M).map (·.2))=true:=nA fun p hp=>by
 unfold mkD at hp;rw [List.map_map] at hp;obtain ⟨r,_,rfl⟩:=List.mem_map.mp hp;rfl
theorem rR (R:List Ru):D.aG ((rlD N R).map (·.2))=true:=nA fun p hp=>by
 unfold rlD at hp;rw [List.map_map] at hp;obtain ⟨r,_,rfl⟩:=List.mem_map.mp hp;exact gF N r
noncomputable def MN (N:List Str) (ks:List Nat) (M:List Rw) (T:List Tk) (R:List Ru):D:=.tup [.tup (ks.map (sy N)),.tup (M.map (rwD N)),.tup (T.map (tkD N)),.tup (R.map (ruD N))]
theorem MP {ks:List Nat} {M:List Rw} {T:List Tk} {R:List Ru} (hF:Hds (M++T.map tr)) (hM:Hds M) (hR:Rls R) {b:Int}:evS [.uD,MN N ks M T R,.int b] cY=.ok (prF (hdD N (M++T.map tr)) (mkD N M) (rlD N R) b ⟨0,0,0⟩):=by
 have h3:=aCh hN hd hR (P0:=.tup (ks.map (sy N))) (P1:=.tup (M.map (rwD N))) (P2:=.tup (T.map (tkD N))) (mo:=.int b);have h1:aQ (f9 1 fC) (aB iJ aY) [.uD,MN N ks M T R,.int b]=.ok (.dct (hdD N (M++T.map tr))):=bB (aF rfl rfl) ((iC rfl).trans (R5 hN hd hF));have h2:=aCf hN hd hM (P0:=.tup (ks.map (sy N))) (P2:=.tup (T.map (tkD N))) (P3:=.tup (R.map (ruD N))) (mo:=.int b);have k:∀kn:List (D×D),D.aG (kn.map (·.2))=true->okF (.dct kn)=true:=fun kn h=>by
  show (false||D.aG (kn.map (·.2)))=true;rw [h];rfl
 rw [aEv];have step:∀{ρ:List D} {f:Str} {s:Srx} {r:List (Str×Srx)} {d:D} {ds:List (Str×D)},s.ev ρ=.ok d->okF d=true->evS ρ r=.ok ds->evS ρ ((f,s)::r)=.ok ((f,d)::ds):=by
  intro ρ f s r d ds g1 g2 g3;show (do let d <- s.ev ρ;let ds <- evS ρ r;if okF d then Res.ok ((f,d)::ds) else .bad)=_;rw [g1,Res.aO,g3,Res.aO,if_pos g2]
 exact step h1 (k _ (rP hN hd _)) (step h2 (k _ (rQ hN hd _)) (step h3 (k _ (rR hN hd _)) (step rfl rfl (step rfl rfl (step rfl rfl (step rfl rfl rfl))))))
theorem R6 {ks:List Nat} {M:List Rw} {T:List Tk} {R:List Ru} (hF:Hds (M++T.map tr)) (hM:Hds M) (hR:Rls R) {b:Int} {W:List Nat} {y d:D} {k:Cn} (hv:CZ (hdD N (M++T.map tr)) (mkD N M) (rlD N R) b (W.map (sy N))=.ok (y,k)) (hw:fD [y]=.ok d) (pd:d.pure=true):bR [MN N ks M T R,.tup (W.map (sy N)),.int b]=.ok (.tup [d,.int k.c,.int k.p,.int k.d]):=by
 have pp:(MN N ks M T R).pure=true:=by
  show ((D.tup (ks.map (sy N))).pure&&((D.tup (M.map (rwD N))).pure&&((D.tup (T.map (tkD N))).pure&&((D.tup (R.map (ruD N))).pure&&true))))=true;rw [D.pure,D.pure,D.pure,D.pure,cR,bO (o8 N),bO (o9 N),bO (gF N)];rfl
 unfold bR Z5;dsimp only;rw [if_pos (by rw [cR,pp];rfl),MP hN hd hF hM hR];show (if (D.aG ((hdD N (M++T.map tr)).map (·.2))&&(D.aG ((mkD N M).map (·.2))&&D.aG ((rlD N R).map (·.2))))=true then _ else _)=_;rw [if_pos (by rw [rP hN hd,rQ hN hd,rR hN hd];rfl),hv];dsimp only;rw [hw];dsimp only;rw [if_pos pd]
theorem MT {ks:List Nat} {M:List Rw} {T:List Tk} {R:List Ru} (hF:Hds (M++T.map tr)) (hM:Hds M) (hR:Rls R) {b:Int} {W:List Nat} {c:Str} {as:List D} (hv:CZ (hdD N (M++T.map tr)) (mkD N M) (rlD N R) b (W.map (sy N))=.err c as):bR [MN N ks M T R,.tup (W.map (sy N)),.int b]=.err c as:=by
 have pp:(MN N ks M T R).pure=true:=by
  show ((D.tup (ks.map (sy N))).pure&&((D.tup (M.map (rwD N))).pure&&((D.tup (T.map (tkD N))).pure&&((D.tup (R.map (ruD N))).pure&&true))))=true;rw [D.pure,D.pure,D.pure,D.pure,cR,bO (o8 N),bO (o9 N),bO (gF N)];rfl
 unfold bR Z5;dsimp only;rw [if_pos (by rw [cR,pp];rfl),MP hN hd hF hM hR];show (if (D.aG ((hdD N (M++T.map tr)).map (·.2))&&(D.aG ((mkD N M).map (·.2))&&D.aG ((rlD N R).map (·.2))))=true then _ else _)=_;rw [if_pos (by rw [rP hN hd,rQ hN hd,rR hN hd];rfl),hv]
end
end Lk58
end
section
namespace Lk58
open PySem L2 Mi
def Mk (a:Nat):List Rw:=(List.range a).map fun j=>(1+j,0,[])
def Tks (t:Nat):List Tk:=(List.range t).map fun i=>(9+i,0,0,[])
def vS (N:List Str) (s:Nat):D:=.tup [sy N (1+s),.tup [],.int 1]
structure Tab (a t:Nat) (g:Nat->Nat->Nat) (R:List Ru):Prop where
 a1:1<=a
 a8:a<=8
 t8:t<=8
 gl:∀i j,i<t->j<a->g i j<a
 rl:Rls R
 ru:∀i j,i<t->j<a->(9+i,1+j,[],[1+g i j])∈R
theorem Z6 {a:Nat} (h:a<=8):Hds (Mk a):=by
 refine ⟨?_,fun r hr=>?_,by unfold Mk;rw [List.length_map,List.length_range];lia⟩
 ·unfold Mk;rw [List.map_map,List.nodup_iff_pairwise_ne,List.pairwise_map];refine List.Pairwise.imp_of_mem ?_ (List.nodup_iff_pairwise_ne.mp List.nodup_range);intro i j _ _ hne e;have e:1+i=1+j:=e;lia
 ·obtain ⟨j,hj,rfl⟩:=List.mem_map.mp hr;have:=List.mem_range.mp hj;exact ⟨by show 1+j<26;lia,by show 0<26;decide,(fun i hi=>by cases hi),by show 0<=10;decide⟩
theorem aDa {a t:Nat} (h:a<=8) (h2:t<=8):Hds (Mk a++(Tks t).map tr):=by
 refine ⟨?_,fun r hr=>?_,by unfold Mk Tks;rw [List.length_append,List.length_map,List.length_map,List.length_map,List.length_range,List.length_range];lia⟩
 ·rw [List.map_append,List.nodup_append];refine ⟨(Z6 h).nd,?_,fun x hx y hy e=>?_⟩
  ·unfold Tks;rw [List.map_map,List.map_map,List.nodup_iff_pairwise_ne,List.pairwise_map];refine List.Pairwise.imp_of_mem ?_ (List.nodup_iff_pairwise_ne.mp List.nodup_range);intro i j _ _ hne e;have e:9+i=9+j:=e;lia
  ·obtain ⟨r,hr,rfl⟩:=List.mem_map.mp hx;obtain ⟨j,hj,rfl⟩:=List.mem_map.mp hr;obtain ⟨q,hq,rfl⟩:=List.mem_map.mp hy;obtain ⟨u,hu,rfl⟩:=List.mem_map.mp hq;obtain ⟨i,hi,rfl⟩:=List.mem_map.mp hu;have:=List.mem_range.mp hj;have e:1+j=9+i:=e;lia
 ·rcases List.mem_append.mp hr with hr|hr
  ·exact (Z6 h).lt r hr
  ·obtain ⟨u,hu,rfl⟩:=List.mem_map.mp hr;obtain ⟨i,hi,rfl⟩:=List.mem_map.mp hu;have:=List.mem_range.mp hi;refine ⟨by show 9+i<26;lia,by show 0<26;decide,fun i hi=>?_,by show 1<=10;decide⟩;have:i=0:=by simpa [tr] using hi
   lia
section
variable {N:List Str} (hN:N.length=26) (hd:N.Nodup) {a t:Nat} {g:Nat->Nat->Nat} {R:List Ru} (B:Tab a t g R)
include hN hd B
theorem U9 (i:Nat):rT (mkD N (Mk a)) (sy N i)=true:=MF (fun r:Rw=>r.1) (fun _=>D.bl true) (Mk a) i
theorem Y8 {s:Nat} (hs:s<a):(b7 (mkD N (Mk a)) (sy N (1+s))).isSome=true:=by
 have:=wC hN hd (fun r:Rw=>r.1) (fun _=>D.bl true) (Mk a) (Z6 B.a8).nd (fun r hr=>((Z6 B.a8).lt r hr).1) (1+s,0,[]) (List.mem_map.mpr ⟨s,List.mem_range.mpr hs,rfl⟩);show (b7 ((Mk a).map fun r:Rw=>(sy N r.1,D.bl true)) (sy N (1+s))).isSome=true;rw [this];rfl
theorem Y9 {i:Nat} (hi:9+i<26):b7 (mkD N (Mk a)) (sy N (9+i))=none:=by
 have a8:=B.a8;have go:∀L:List Rw,(∀r∈L,r.1<9)->b7 (mkD N L) (sy N (9+i))=none:=by
  intro L;induction L with
  | nil=>intro _;rfl
  | cons r L ih=>
   intro h;have hr:=h r (by simp);show (if eqD (sy N r.1) (sy N (9+i)) then _ else b7 (mkD N L) (sy N (9+i)))=_;rw [CQ hN hd (by lia) hi,decide_eq_false (by lia),if_neg (by simp),ih fun q hq=>h q (by simp [hq])]
 refine go _ fun r hr=>?_
 obtain ⟨j,hj,rfl⟩:=List.mem_map.mp hr;have:=List.mem_range.mp hj;show 1+j<9;lia
theorem yR {m:Int} {k:Cn} {st:List D} {s:Nat} (hs:s<a) (hl:st.length<=100):K1 (hdD N (Mk a++(Tks t).map tr)) (mkD N (Mk a)) (rlD N R) m k [] st (sy N (1+s))=.ok (vS N s::st,none,k):=by
 have hg:=U7 hN hd (aDa B.a8 B.t8) (r:=(1+s,0,[])) (List.mem_append_left _ (List.mem_map.mpr ⟨s,List.mem_range.mpr hs,rfl⟩));have hn:tkN (hdD N (Mk a++(Tks t).map tr)) (sy N (1+s))=some 0:=by
  unfold tkN;rw [hg];rfl
 unfold K1;rw [if_pos (by rw [U9 hN hd B,decide_eq_true (by lia)];rfl)];show (match tkN (hdD N (Mk a++(Tks t).map tr)) (sy N (1+s)) with|some n=>_|none=>_)=_;rw [hn];dsimp only;rw [if_pos (Nat.zero_le _),if_pos (Y8 hN hd B hs)];rfl
theorem R7 {m:Int} {k:Cn} {st:List D} {i s:Nat} (hi:i<t) (hs:s<a) (hl:st.length<=100):K1 (hdD N (Mk a++(Tks t).map tr)) (mkD N (Mk a)) (rlD N R) m k [] (vS N s::st) (sy N (9+i))=if k.c+1+k.p+k.d > m then .err "Spent" [.exc "Spent" []] else .ok (st,some ([sy N (1+g i s)],[]),k.call):=by
 have t8:=B.t8;have hg:=U7 hN hd (aDa B.a8 B.t8) (r:=(9+i,0,[0])) (List.mem_append_right _ (List.mem_map.mpr ⟨(9+i,0,0,[]),List.mem_map.mpr ⟨i,List.mem_range.mpr hi,rfl⟩,rfl⟩));have hn:tkN (hdD N (Mk a++(Tks t).map tr)) (sy N (9+i))=some 1:=by
  unfold tkN;rw [hg];rfl
 have hr:=aCg hN hd B.rl (B.ru i s hi hs);have hc:NB (rlD N R) m k (sy N (9+i)) [vS N s]=if k.c+1+k.p+k.d > m then .err "Spent" [.exc "Spent" []] else .ok ([sy N (1+g i s)],[],k.call):=by
  show (match getD (.dct (rlD N R)) (.tup [sy N (9+i),sy N (1+s)]) with|.ok (.tup [r0,r1,.tup own,.tup ws])=>_|_=>_)=_;rw [hr];rfl
 unfold K1;rw [if_pos (by rw [U9 hN hd B,decide_eq_true (by rw [List.length_cons];lia)];rfl)];show (match tkN (hdD N (Mk a++(Tks t).map tr)) (sy N (9+i)) with|some n=>_|none=>_)=_;rw [hn];dsimp only;rw [if_pos (by rw [List.length_cons];lia),Y9 hN hd B (by lia),if_neg (by simp),List.take_succ_cons,List.take_zero,List.drop_succ_cons,List.drop_zero,hc];by_cases hgt:k.c+1+k.p+k.d > m
 ·rw [if_pos hgt,if_pos hgt]
 ·rw [if_neg hgt,if_neg hgt]
def wdS (S:List Nat) (s:Nat):List Nat:=S.map (9+·)++[1+s]
theorem U_ {m:Int} {S:List Nat} {s0:Nat} (hS:∀i∈S,i<t):∀(i:Nat),i<=S.length->∀(s:Nat),s<a->∀c:Int,c<=m->Mi.runN (hdD N (Mk a++(Tks t).map tr)) (mkD N (Mk a)) (rlD N R) m (3*i+2) [⟨(wdS S s0).map (sy N),i,[]⟩] [vS N s] ⟨c,0,0⟩=if c+i<=m then .ok ([vS N ((S.take i).foldr g s)],⟨c+i,0,0⟩) else .err "Spent" [.exc "Spent" []]
 | 0,_,s,hs,c,hc=>by
  rw [if_pos (by lia)];show Res.ok ([vS N s],(⟨c,0,0⟩:Cn))=Res.ok ([vS N s],⟨c+((0:Nat):Int),0,0⟩);rw [show c+((0:Nat):Int)=c from by lia]
 | i+1,hi,s,hs,c,hc=>by
  have hw:((wdS S s0).map (sy N))[i]?=some (sy N (9+S[i])):=by
   unfold wdS;rw [List.getElem?_map,List.getElem?_append_left (by rw [List.length_map];lia),List.getElem?_map,List.getElem?_eq_getElem (by lia)];rfl
  have hSi:S[i]<t:=hS _ (List.getElem_mem _);have e1:=R7 hN hd B (m:=m) (k:=⟨c,0,0⟩) (st:=[]) hSi hs (by simp);have hf:(S.take (i+1)).foldr g s=(S.take i).foldr g (g S[i] s):=by
   rw [List.take_succ_eq_append_getElem (by lia),List.foldr_append];rfl
  rw [show 3*(i+1)+2=3*i+4+1 from by lia,Mi.runN,hw];dsimp only;rw [if_pos (by decide),e1];by_cases hgt:c+1+0+0 > m
  ·rw [if_pos hgt,if_neg (by lia)]
  ·rw [if_neg hgt];dsimp only;rw [if_pos (by rfl)];have gl:=B.gl S[i] s hSi hs;have e2:=yR hN hd B (m:=m) (k:=(⟨c,0,0⟩:Cn).call) (st:=[]) gl (by simp);show Mi.runN _ _ _ m (3*i+3+1) (⟨[sy N (1+g S[i] s)],0+1,[]⟩::_) [] _=_;rw [Mi.runN];rw [show ([sy N (1+g S[i] s)]:List D)[0]?=some (sy N (1+g S[i] s)) from rfl];dsimp only;rw [if_pos (decide_eq_true (by show 1<900000;decide)),e2];dsimp only;rw [if_pos (by rfl)];show Mi.runN _ _ _ m (3*i+2) [⟨(wdS S s0).map (sy N),i,[]⟩] [vS N (g S[i] s)] ⟨c+1,0,0⟩=_;rw [U_ hS i (by lia) (g S[i] s) gl (c+1) (by lia),hf];have:c+1+(i:Int)=c+((i+1:Nat):Int):=by lia
   rw [this]
theorem Y_ {m:Int} {S:List Nat} {s0:Nat} (hS:∀i∈S,i<t) (h0:s0<a) (hm:0<=m):CZ (hdD N (Mk a++(Tks t).map tr)) (mkD N (Mk a)) (rlD N R) m ((wdS S s0).map (sy N))=if (S.length:Int)<=m then .ok (vS N (S.foldr g s0),⟨S.length,0,0⟩) else .err "Spent" [.exc "Spent" []]:=by
 have hl:((wdS S s0).map (sy N)).length=S.length+1:=by unfold wdS;rw [List.length_map,List.length_append,List.length_map];rfl
 have hw:((wdS S s0).map (sy N))[S.length]?=some (sy N (1+s0)):=by
  unfold wdS;rw [List.getElem?_map,List.getElem?_append_right (by rw [List.length_map];exact Nat.le_refl _),List.length_map,Nat.sub_self];rfl
 have e:=U_ hN hd B (m:=m) (s0:=s0) hS S.length (Nat.le_refl _) s0 h0 0 hm;have e0:Mi.runN (hdD N (Mk a++(Tks t).map tr)) (mkD N (Mk a)) (rlD N R) m (3*S.length+2+1) [⟨(wdS S s0).map (sy N),((wdS S s0).map (sy N)).length,[]⟩] [] ⟨0,0,0⟩=if (0:Int)+S.length<=m then .ok ([vS N ((S.take S.length).foldr g s0)],⟨0+S.length,0,0⟩) else .err "Spent" [.exc "Spent" []]:=by
  rw [hl,Mi.runN,hw];dsimp only;rw [if_pos (by decide),yR hN hd B h0 (by simp)];dsimp only;rw [if_pos (by rfl)];exact e
 rw [Int.zero_add,List.take_of_length_le (Nat.le_refl _)] at e0;by_cases hle:(S.length:Int)<=m
 ·rw [if_pos hle] at e0 ⊢;exact K3 e0 (by intro z;cases z)
 ·rw [if_neg hle] at e0 ⊢;exact K3 e0 (by intro z;cases z)
end
end Lk58
end
section
namespace Lk58
open PySem L2 Mi
theorem ZC {c:FT} {body:FS} {n:Nat} {ρ:List D} (h1:c ρ=.ok false):CW c body (n+1) ρ=.ok (.nx ρ):=by
 rw [CW,h1];rfl
theorem R8 {c:FT} {body:FS} {n:Nat} {ρ ρ':List D} {r:Res Fl} (h1:c ρ=.ok true) (h2:body ρ=.ok (.nx ρ')) (h3:CW c body n ρ'=r):CW c body (n+1) ρ=r:=by
 rw [CW,h1,Res.aO,if_pos rfl,h2];exact h3
theorem ZD {i j:Nat} {ρ xs:List D} {x:D} (h:ρ.getD i .uD=.lst (xs++[x])) {ρ':List D} (he:(ρ.set i (.lst xs)).set j x=ρ'):BK i j ρ=.ok (.nx ρ'):=by
 subst he;unfold BK;rw [h];dsimp only;rw [List.length_append,List.length_singleton,Nat.add_sub_cancel,List.getElem?_append_right (Nat.le_refl _),Nat.sub_self,List.dropLast_concat];rfl
theorem aCi {i:Nat} {ρ:List D} {f:FE} {xs ys:List D} (h1:f ρ=.ok (.lst ys)) (h2:ρ.getD i .uD=.lst xs) (hl:xs.length+ys.length<=10000) (hp:D.aG ys=true):aBf i f ρ=.ok (.nx (ρ.set i (.lst (xs++ys)))):=by
 unfold aBf;rw [h1,Res.aO,h2];dsimp only;rw [if_pos (by rw [hp,bW,decide_eq_true (by lia)];rfl)]
theorem aCj {a:FA} {ρ xs:List D} (h:a ρ=.ok xs) (hl:xs.length<=lim):qK a ρ=.ok (.lst xs):=by
 unfold qK;rw [h,Res.aO,if_pos (decide_eq_true hl)];rfl
def oc:FT:=(bTr kZ)
def ob0:FS:=(BK 2 3)
def ob1:FS:=(PJ 1 (b2 getD fB gG))
def ob2:FS:=(aBf 2 (b1 aD7 (b2 getD fB iK)))
def ob:FS:=b8 ob0 (b8 ob1 ob2)
theorem aEw:mF=b8 (cT true 1 (qK aY) true) (b8 (cT true 2 (qK (aB (bPu dU) aY)) true) (b8 (aE9 oc ob) (nZ (aQ fX (aB iJ aY)) false))):=rfl
theorem M3 {N:List Str} {s:Nat}:fD [vS N s]=.ok (.tup [sy N (1+s)]):=by
 refine call_v ?_;show mF [vS N s,.uD,.uD,.uD]=_;rw [aEw];refine a_ (ρ':=[vS N s,.lst [],.uD,.uD]) (j_ (i:=1) rfl rfl) ?_;refine a_ (ρ':=[vS N s,.lst [],.lst [vS N s],.uD]) (j_ (i:=2) rfl rfl) ?_;refine a_ (ρ':=[vS N s,.lst [sy N (1+s)],.lst [],vS N s]) ?_ rfl;show CW oc ob (998+1+1) [vS N s,.lst [],.lst [vS N s],.uD]=_;refine R8 (ρ':=[vS N s,.lst [sy N (1+s)],.lst [],vS N s]) rfl ?_ ?_
 ·refine a_ (ρ':=[vS N s,.lst [],.lst [],vS N s]) (ZD (xs:=[]) (x:=vS N s) rfl rfl) ?_;refine a_ (ρ':=[vS N s,.lst [sy N (1+s)],.lst [],vS N s]) (JH (xs:=[]) (d:=sy N (1+s)) (aP rfl rfl rfl) rfl (by rw [bW];decide) rfl) ?_;exact aCi (i:=2) (xs:=[]) (ys:=[]) (Y5 (x:=.tup []) (aP rfl rfl rfl) rfl) rfl (by decide) rfl
 ·exact ZC rfl
def foS (w:D) (c:Int):D:=.tup [.tup [w],.int c,.int 0,.int 0]
theorem ZF {seed:Int} {i j n:Nat} (hi:i<100) (hj:j<100) (hn:0<n) (hn2:n<=100):∃x:Nat,x<n/\bD [.int seed,.int i,.int j,.int n]=.ok (.int x):=by
 have sm:∀x:Int,-1000000<=x->x<=1000000->iI x=true:=fun x h1 h2=>K9 x (by lia) (by lia)
 have i2:(31*(i:Int))<=31*100:=by lia
 let mark:Int:=seed % 1000003+31*(i:Int)*i+17*(j:Int)+5*(i:Int)*j
 let x:Int:=mark*(2*(i:Int)+3+(j:Int)*j) % 1013 % n
 have x0:0<=x:=Int.emod_nonneg _ (by lia);have x1:x<n:=Int.emod_lt_of_pos _ (by lia);have jj:(j:Int)*j<=100*100:=by
  have:j*j<=100*100:=Nat.mul_le_mul (by lia) (by lia)
  exact_mod_cast this
 have jj0:0<=(j:Int)*j:=by
  have:0<=j*j:=Nat.zero_le _
  exact_mod_cast this
 refine ⟨x.toNat,by lia,?_⟩;refine call_v ?_;refine a_ (ρ':=[.int seed,.int i,.int j,.int n,.int mark]) (eU (i:=4) (aP (aP (aP (aP (x:=.int seed) rfl rfl (eX _ _ (by decide))) (aP (aP (x:=.int 31) (y:=.int i) rfl rfl (lM _ _ (by decide))) (y:=.int i) rfl (oZ _ _ (sm _ (by lia) (by lia)))) (iT _ _)) (aP (x:=.int 17) (y:=.int j) rfl rfl (lM _ _ (by decide))) (iT _ _)) (aP (aP (x:=.int 5) (y:=.int i) rfl rfl (lM _ _ (by decide))) (y:=.int j) rfl (oZ _ _ (sm _ (by lia) (by lia)))) (iT _ _))) ?_;have e:D.int ((x.toNat:Nat):Int)=.int x:=by rw [show ((x.toNat:Nat):Int)=x from by lia]
 rw [e];exact xT (aP (aP (aP (x:=.int mark) rfl (aP (aP (aP (x:=.int 2) (y:=.int i) rfl rfl (lM _ _ (by decide))) rfl (iT _ _)) (aP (x:=.int j) (y:=.int j) rfl rfl (oZ _ _ (sm _ (by lia) (by lia)))) (iT _ _)) (oZ _ _ (sm _ (by lia) (by lia)))) rfl (eX _ _ (by decide))) (y:=.int n) rfl (eX _ _ (by lia))) rfl
theorem wD (ns:List Int) (k:Nat):∃r:Int,aX [.scr (ns.map D.int),.int k]=.ok (.int r):=by
 have hl:lN [.scr (ns.map D.int)]=.ok (.int ns.length):=by
  show Res.ok (D.int ((ns.map D.int).length:Int))=_;rw [List.length_map]
 by_cases h:k<ns.length
 ·obtain ⟨r,hr⟩:=YX ns k (by lia) (by lia);exact ⟨r,call_v (aCa (aE6 (qU (aP rfl (bB (aF rfl rfl) hl) ((U0 _ _).trans (by rw [decide_eq_true (by lia)])))) (xT (aP rfl rfl hr) rfl)))⟩
 ·exact ⟨0,call_v (a_ (T6 (qU (aP rfl (bB (aF rfl rfl) hl) ((U0 _ _).trans (by rw [decide_eq_false (by lia)])))) rfl) (xT rfl rfl))⟩
theorem M4 {ρ:List D} {i:Nat} {d:D} (h:ρ.getD i .uD=d) (hn:d≠.uD):d9 i ρ=.ok d:=by
 unfold d9;rw [h];cases d <;> first|rfl|exact absurd rfl hn
theorem R9 {pr W:D} {b:Int} (hpr:pr≠.uD) (hW:W≠.uD) (h:bR [pr,W,.int b]=.err "Spent" [.exc "Spent" []]):cG [pr,W,.int b]=.ok (.bl true):=by
 refine call_v ?_;refine a_ (ρ':=[pr,W,.int b,.non,.uD]) (eU (i:=3) rfl) ?_;refine a_ (ρ':=[pr,W,.int b,.exc "Spent" [],.uD]) ?_ rfl;have e:aB dU (aB iJ (aB kZ aY)) [pr,W,.int b,.non,.uD]=.ok [pr,W,.int b]:=aF (M4 rfl hpr) (aF (M4 rfl hW) (aF rfl rfl));unfold aEc;rw [e,Res.aO,show f9 3 bR [pr,W,.int b]=_ from (iC rfl).trans h];rfl
end Lk58
end
section
namespace Lk58
open PySem L2 Mi
noncomputable def rg0:FS:=(sIf (bOr (vG (bTr (b1 (nW .tuple) dU))) (bOr (bTB (b2 (gJ .ne) (aQ lN (aB dU aY)) TJ)) (vG (bTr (b1 (nW .tuple) (b2 getD dU gG)))))) (nZ (bC (.bl false)) true) (uQ))
noncomputable def rg1:FS:=(sIf (bOr (bTB (b2 (gJ .ne) (aQ lN (aB (b2 getD dU gG) aY)) iK)) (bOr (vG (bTr (b1 (nW .str) (b2 getD (b2 getD dU gG) gG)))) (bTB (b2 (gJ .ne) (b2 getD (b2 getD dU gG) gG) iJ)))) (nZ (bC (.bl false)) true) (uQ))
noncomputable def rgb:FS:=(sIf (bOr (vG (bTr (b1 (nW .int) (b2 getD dU fB)))) (bOr (bTr (b1 (nW .bool) (b2 getD dU fB))) (bTB (b2 (gJ .ne) (b2 getD dU fB) (b2 getD (qK (aB (bPu kZ) (aB gG (aB gG aY)))) (b2 (aZ .sub) fB iK)))))) (nZ (bC (.bl false)) true) (uQ))
theorem R_:jP=b8 rg0 (b8 rg1 (b8 (zT (bJ (qK (aB iK (aB uP (aB zR aY)))) true) (tg1 3) rgb) (nZ (bC (.bl true)) true))):=rfl
theorem SJ {N:List Str} (hN:N.length=26) (hd:N.Nodup) {i:Nat} (hi:i<26) {c:Int}:bT [foS (sy N i) c,sy N i,.int c]=.ok (.bl true):=by
 refine call_v ?_;show jP [foS (sy N i) c,sy N i,.int c,.uD]=_;rw [R_];refine a_ (ρ':=[foS (sy N i) c,sy N i,.int c,.uD]) (T6 (wB (x:=false) (y:=false) rfl (wB (x:=false) (y:=false) rfl rfl)) rfl) ?_;have e1:bTB (b2 (gJ .ne) (b2 getD (b2 getD dU gG) gG) iJ) [foS (sy N i) c,sy N i,.int c,.uD]=.ok false:=qU (aP (x:=sy N i) (y:=sy N i) rfl rfl ((Y7 hN hd hi hi).trans (by rw [decide_eq_true rfl];rfl)));refine a_ (ρ':=[foS (sy N i) c,sy N i,.int c,.uD]) (T6 (wB (x:=false) (y:=false) rfl (wB (x:=false) (y:=false) rfl e1)) rfl) ?_;have cc:gJ .ne (.int c) (.int c)=.ok (.bl false):=(YW _ _).trans (by simp);have t1:rgb [foS (sy N i) c,sy N i,.int c,.int 1]=.ok (.nx [foS (sy N i) c,sy N i,.int c,.int 1]):=T6 (wB (x:=false) (y:=false) rfl (wB (x:=false) (y:=false) rfl (qU (aP (x:=.int c) (y:=.int c) rfl rfl cc)))) rfl;have t2:rgb [foS (sy N i) c,sy N i,.int c,.int 2]=.ok (.nx [foS (sy N i) c,sy N i,.int c,.int 2]):=rfl;have t3:rgb [foS (sy N i) c,sy N i,.int c,.int 3]=.ok (.nx [foS (sy N i) c,sy N i,.int c,.int 3]):=rfl;refine a_ (ρ':=[foS (sy N i) c,sy N i,.int c,.int 3]) (pQ (xs:=[.int 1,.int 2,.int 3]) (show bJ (qK (aB iK (aB uP (aB zR aY)))) true [foS (sy N i) c,sy N i,.int c,.uD]=.ok ([.int 1,.int 2,.int 3],true) from rfl) ?_) rfl;exact dO rfl t1 (dO rfl t2 (dO rfl t3 rfl))
theorem M5 {f:Nat->D} {lo hi:Nat} (h1:lo<=hi) (h2:hi<=26):cutD ((List.range 26).map f) (some (lo:Int)) (some (hi:Int))=(List.range (hi-lo)).map fun k=>f (lo+k):=by
 unfold cutD;rw [rK,rK,List.length_map,List.length_range,Nat.min_eq_left (show hi<=26 from h2),Nat.min_eq_left (show lo<=26 by lia)];apply List.ext_getElem
 ·simp;lia
 ·intro i h3 h4;rw [List.length_map,List.length_range] at h4;simp
noncomputable def R0 (a t:Nat) (g:Nat->Nat->Nat):List Ru:=(List.range t).flatMap fun i=>(List.range a).map fun j=>(9+i,1+j,[],[1+g i j])
theorem VB {a t:Nat} {g:Nat->Nat->Nat} {r:Ru}:r∈R0 a t g↔∃i j,i<t/\j<a/\r=(9+i,1+j,[],[1+g i j]):=by
 unfold R0;rw [List.mem_flatMap];constructor
 ·rintro ⟨i,hi,hr⟩;obtain ⟨j,hj,rfl⟩:=List.mem_map.mp hr;exact ⟨i,j,List.mem_range.mp hi,List.mem_range.mp hj,rfl⟩
 ·rintro ⟨i,j,hi,hj,rfl⟩;exact ⟨i,List.mem_range.mpr hi,List.mem_map.mpr ⟨j,List.mem_range.mpr hj,rfl⟩⟩
theorem M6 (a t:Nat) (g:Nat->Nat->Nat):(R0 a t g).length=t*a:=by
 unfold R0;rw [List.length_flatMap];have:(List.range t).map (fun i=>((List.range a).map fun j=>((9+i,1+j,[],[1+g i j]):Ru)).length)=(List.range t).map fun _=>a:=by
  apply List.map_congr_left;intro i _;rw [List.length_map,List.length_range]
 rw [this];clear this;induction t with
 | zero=>simp
 | succ t ih=>
  rw [List.range_succ,List.map_append,List.sum_append,ih,Nat.succ_mul];simp
theorem aEx (a t:Nat) (g:Nat->Nat->Nat):((R0 a t g).map fun r=>(r.1,r.2.1)).Nodup:=by
 unfold R0;rw [List.map_flatMap,List.nodup_iff_pairwise_ne,List.pairwise_flatMap];refine ⟨fun i _=>?_,?_⟩
 ·rw [List.map_map,List.pairwise_map];refine List.Pairwise.imp_of_mem ?_ (List.nodup_iff_pairwise_ne.mp List.nodup_range);intro j k _ _ hne e;have e:=congrArg (fun p:Nat×Nat=>p.2) e;have e:1+j=1+k:=e;lia
 ·refine List.Pairwise.imp_of_mem ?_ (List.nodup_iff_pairwise_ne.mp List.nodup_range);intro i k _ _ hne x hx y hy e;rw [List.map_map] at hx hy;obtain ⟨j,_,rfl⟩:=List.mem_map.mp hx;obtain ⟨j',_,rfl⟩:=List.mem_map.mp hy;have e:=congrArg (fun p:Nat×Nat=>p.1) e;have e:9+i=9+k:=e;lia
theorem tab_of {a t:Nat} {g:Nat->Nat->Nat} (a1:1<=a) (a8:a<=8) (t8:t<=8) (gl:∀i j,i<t->j<a->g i j<a) (n:Nat):Tab a t g ((R0 a t g).drop n++(R0 a t g).take n):=by
 have pm:List.Perm ((R0 a t g).drop n++(R0 a t g).take n) (R0 a t g):=by
  have:=List.perm_append_comm (l₁:=(R0 a t g).drop n) (l₂:=(R0 a t g).take n);rw [List.take_append_drop] at this;exact this
 refine ⟨a1,a8,t8,gl,⟨(pm.map _).nodup_iff.mpr (aEx a t g),fun r hr=>?_,?_⟩,fun i j hi hj=>pm.mem_iff.mpr (VB.mpr ⟨i,j,hi,hj,rfl⟩)⟩
 ·obtain ⟨i,j,hi,hj,rfl⟩:=VB.mp (pm.mem_iff.mp hr);exact ⟨by show 9+i<26;lia,by show 1+j<26;lia⟩
 ·rw [pm.length_eq,M6];exact Nat.le_trans (Nat.mul_le_mul t8 a8) (by decide)
end Lk58
end
section
namespace Lk58
open PySem L2 Mi
noncomputable def lw0:FS:=cT false 1 (aQ (f9 1 dB) (aB (aQ (f9 2 aX) (aB dU (aB gG aY))) aY)) true
noncomputable def lw1:FS:=cT false 2 (aQ (f9 2 aX) (aB dU (aB iK aY))) true
noncomputable def lw2:FS:=cT false 3 (aQ (f9 2 aX) (aB dU (aB uP aY))) true
def lw3:FS:=cT false 4 (b2 getD iJ gG) false
noncomputable def lw4:FS:=cT false 5 (m8 iJ (dH iK) (dH (b2 (aZ .add) uP (b2 (aZ .mod) kZ M8)))) true
noncomputable def lw5:FS:=cT false 6 (m8 iJ (dH (bC (.int 9))) (dH (b2 (aZ .add) (bC (.int 10)) (b2 (aZ .mod) (b2 (aZ .fdiv) kZ M8) M8)))) true
def lw6:FS:=cT true 7 (qK aY) true
noncomputable def lwi:FS:=b8 (cT false 10 (b2 getD iV (aQ (f9 4 bD) (aB fB (aB pM (aB (d9 9) (aB (aQ lN (aB iV aY)) aY)))))) false) (PJ 7 (jF (aB (b2 getD qI pM) (aB (b2 getD iV (d9 9)) (aB (jF aY) (aB (jF (aB (d9 10) aY)) aY))))))
noncomputable def lwo:FS:=zT (j7 (aB (aQ lN (aB iV aY)) aY) j0) (tg1 9) lwi
noncomputable def lw7:FS:=zT (j7 (aB (aQ lN (aB qI aY)) aY) j0) (tg1 8) lwo
noncomputable def lw8:FS:=cT false 11 (b2 (aZ .mod) (b2 (aZ .fdiv) kZ (bC (.int 64))) (aQ lN (aB O_ aY))) true
noncomputable def lw9:FS:=cT false 12 (aQ fX (aB (dI 19 (bJ qI false) mQ (dW) (jF (aB qJ (aB mO (aB mO (aB (jF aY) aY))))) false) aY)) false
noncomputable def aFl:FS:=cT false 13 (aQ fX (aB (dI 19 (bJ iV false) mQ (dW) (jF (aB qJ (aB mO (aB (jF aY) aY)))) false) aY)) false
noncomputable def aFm:FS:=cT false 14 (jF (aB (jF (aB mO aY)) (aB (d9 13) (aB (d9 12) (aB (aQ fX (aB (b2 (aZ .add) (m8 O_ (dH (d9 11)) (lW)) (m8 O_ (lW) (dH (d9 11)))) aY)) aY))))) false
noncomputable def aFn:FS:=cT false 15 (dI 19 (bJ (m8 dU (dH zR) (dH G_)) true) mQ (dW) (b2 (aZ .mod) qJ (aQ lN (aB qI aY))) true) true
noncomputable def aFo:FS:=cT false 16 (b2 (aZ .mod) (b2 (aZ .fdiv) kZ (bC (.int 640))) (aQ lN (aB iV aY))) true
noncomputable def aFp:FS:=cT false 17 (aQ fX (aB (b2 (aZ .add) (dI 19 (bJ G8 false) mQ (dW) (b2 getD qI qJ) false) (qK (aB (bPu (b2 getD iV mZ)) aY))) aY)) false
noncomputable def lwr:FS:=cT false 16 (aQ (f9 4 bD) (aB fB (aB pM (aB mZ (aB (aQ lN (aB iV aY)) aY))))) true
def aFq:FS:=X6 15 (tg1 8) lwr
def aFr:FS:=cT false 18 (aQ lN (aB G8 aY)) true
noncomputable def aDb:FS:=sIf (HB (bTB (b2 (gJ (.ord .gt)) iW gG)) (vG (bTr (aQ (f9 3 cG) (aB lH (aB lJ (aB (b2 (aZ .sub) iW iK) aY))))))) (nZ (bC (.bl false)) true) (uQ)
noncomputable def aDc:FS:=sIf (vG (bTr (aQ (f9 3 bT) (aB (aQ (fun ds=>f9 3 bR (ds++[.int 400])) (aB lH (aB lJ aY))) (aB (b2 getD iV mZ) (aB iW aY)))))) (nZ (bC (.bl false)) true) (uQ)
noncomputable def aEy:FS:=nZ (aQ (f9 3 bT) (aB (aQ (f9 3 bR) (aB lH (aB lJ (aB iW aY)))) (aB (b2 getD iV mZ) (aB iW aY)))) true
theorem aEz:YT=b8 lw0 (b8 lw1 (b8 lw2 (b8 lw3 (b8 lw4 (b8 lw5 (b8 lw6 (b8 lw7 (b8 lw8 (b8 lw9 (b8 aFl (b8 aFm (b8 aFn (b8 aFo (b8 aFp (b8 aFq (b8 aFr (b8 aDb (b8 aDc (aEy))))))))))))))))))):=rfl
abbrev mkL (N:List Str) (a:Nat):List D:=(List.range a).map fun j=>sy N (1+j)
abbrev tkL (N:List Str) (t:Nat):List D:=(List.range t).map fun i=>sy N (9+i)
theorem kY {α:Type} {f:α->D} {l:List α} {n:Nat} (h:l.length=n):lN [.lst (l.map f)]=.ok (.int n):=by
 show Res.ok (D.int ((l.map f).length:Int))=_;rw [List.length_map,h]
section
variable {sc nm sh kd x9 x10 x11 x12 x13 x14 x15 x16 x17 x18:D} {seed:Int} {N:List Str} {a t:Nat} {g:Nat->Nat->Nat}
theorem aCk (hg:∀i j,i<t->j<a->g i j<a/\bD [.int seed,.int i,.int j,.int a]=.ok (.int (g i j))) {L:List Ru} (hl:L.length<100) {i j:Nat} (hi:i<t) (hj:j<a):lwi [sc,nm,sh,.int seed,kd,.lst (mkL N a),.lst (tkL N t),.lst (L.map (ruD N)),.int i,.int j,x10,x11,x12,x13,x14,x15,x16,x17,x18]=.ok (.nx [sc,nm,sh,.int seed,kd,.lst (mkL N a),.lst (tkL N t),.lst ((L++[(9+i,1+j,[],[1+g i j])]).map (ruD N)),.int i,.int j,sy N (1+g i j),x11,x12,x13,x14,x15,x16,x17,x18]):=by
 obtain ⟨g1,g2⟩:=hg i j hi hj;refine a_ (ρ':=[sc,nm,sh,.int seed,kd,.lst (mkL N a),.lst (tkL N t),.lst (L.map (ruD N)),.int i,.int j,sy N (1+g i j),x11,x12,x13,x14,x15,x16,x17,x18]) (j9 (i:=10) (aP (x:=.lst (mkL N a)) rfl (bB (aF (x:=.int seed) rfl (aF (x:=.int i) rfl (aF (x:=.int j) rfl (aF (bB (aF rfl rfl) (kY List.length_range)) rfl)))) ((iC rfl).trans g2)) (kW (f:=fun j=>sy N (1+j)) rfl g1)) rfl) ?_;rw [List.map_append];exact JH (i:=7) (xs:=L.map (ruD N)) (d:=ruD N (9+i,1+j,[],[1+g i j])) (eV (aF (aP (x:=.lst (tkL N t)) (y:=.int i) rfl rfl (kW (f:=fun i=>sy N (9+i)) rfl hi)) (aF (aP (x:=.lst (mkL N a)) (y:=.int j) rfl rfl (kW (f:=fun j=>sy N (1+j)) rfl hj)) (aF rfl (aF (eV (aF rfl rfl) (by rw [bW];simp)) rfl)))) (by rw [bW];simp)) rfl (by rw [List.length_map,bW];lia) (gF ..)
theorem yS (hg:∀i j,i<t->j<a->g i j<a/\bD [.int seed,.int i,.int j,.int a]=.ok (.int (g i j))) {i:Nat} (hi:i<t):∀(n j:Nat) (L:List Ru) (x9 x10:D),j+n<=a->L.length+n<100->∃x9' x10',sY (tg1 9) lwi ((List.range' j n).map fun (k:Nat)=>D.int (0+(k:Int))) [sc,nm,sh,.int seed,kd,.lst (mkL N a),.lst (tkL N t),.lst (L.map (ruD N)),.int i,x9,x10,x11,x12,x13,x14,x15,x16,x17,x18]=.ok (.nx [sc,nm,sh,.int seed,kd,.lst (mkL N a),.lst (tkL N t),.lst ((L++(List.range' j n).map fun j=>(9+i,1+j,[],[1+g i j])).map (ruD N)),.int i,x9',x10',x11,x12,x13,x14,x15,x16,x17,x18])
 | 0,j,L,x9,x10,_,_=>⟨x9,x10,by rw [List.range'_zero,List.map_nil,List.map_nil,List.append_nil];rfl⟩
 | n+1,j,L,x9,x10,h1,h2=>by
  obtain ⟨x9',x10',e⟩:=yS hg hi n (j+1) (L++[(9+i,1+j,[],[1+g i j])]) (.int j) (sy N (1+g i j)) (by lia) (by rw [List.length_append,List.length_singleton];lia);refine ⟨x9',x10',?_⟩;rw [List.range'_succ,List.map_cons,List.map_cons,Int.zero_add];refine dO rfl (aCk hg (by lia) hi (show j<a by lia)) ?_;rw [List.append_assoc] at e;exact e
theorem yU (hg:∀i j,i<t->j<a->g i j<a/\bD [.int seed,.int i,.int j,.int a]=.ok (.int (g i j))) (a8:a<=8):∀(n i:Nat) (L:List Ru) (x8 x9 x10:D),i+n<=t->L.length+8*n<92->∃x8' x9' x10',sY (tg1 8) lwo ((List.range' i n).map fun (k:Nat)=>D.int (0+(k:Int))) [sc,nm,sh,.int seed,kd,.lst (mkL N a),.lst (tkL N t),.lst (L.map (ruD N)),x8,x9,x10,x11,x12,x13,x14,x15,x16,x17,x18]=.ok (.nx [sc,nm,sh,.int seed,kd,.lst (mkL N a),.lst (tkL N t),.lst ((L++(List.range' i n).flatMap fun i=>(List.range a).map fun j=>(9+i,1+j,[],[1+g i j])).map (ruD N)),x8',x9',x10',x11,x12,x13,x14,x15,x16,x17,x18])
 | 0,i,L,x8,x9,x10,_,_=>⟨x8,x9,x10,by rw [List.range'_zero,List.map_nil,List.flatMap_nil,List.append_nil];rfl⟩
 | n+1,i,L,x8,x9,x10,h1,h2=>by
  obtain ⟨y9,y10,e1⟩:=yS (sc:=sc) (nm:=nm) (sh:=sh) (kd:=kd) (x11:=x11) (x12:=x12) (x13:=x13) (x14:=x14) (x15:=x15) (x16:=x16) (x17:=x17) (x18:=x18) (N:=N) hg (show i<t by lia) a 0 L x9 x10 (by lia) (by lia);rw [<-List.range_eq_range'] at e1;obtain ⟨x8',x9',x10',e⟩:=yU hg a8 n (i+1) (L++(List.range a).map fun j=>(9+i,1+j,[],[1+g i j])) (.int i) y9 y10 (by lia) (by rw [List.length_append,List.length_map,List.length_range];lia);refine ⟨x8',x9',x10',?_⟩;rw [List.range'_succ,List.map_cons,List.flatMap_cons,Int.zero_add];rw [List.append_assoc] at e;refine dO rfl (pQ (tO (n:=a) (aF (bB (aF rfl rfl) (kY List.length_range)) rfl) (by lia) (by lia)) ?_) e;rw [Int.toNat_natCast];exact e1
theorem aCl (hg:∀i j,i<t->j<a->g i j<a/\bD [.int seed,.int i,.int j,.int a]=.ok (.int (g i j))) (a8:a<=8) (t8:t<=8):∃x8' x9' x10',lw7 [sc,nm,sh,.int seed,kd,.lst (mkL N a),.lst (tkL N t),.lst [],.uD,.uD,.uD,x11,x12,x13,x14,x15,x16,x17,x18]=.ok (.nx [sc,nm,sh,.int seed,kd,.lst (mkL N a),.lst (tkL N t),.lst ((R0 a t g).map (ruD N)),x8',x9',x10',x11,x12,x13,x14,x15,x16,x17,x18]):=by
 obtain ⟨x8',x9',x10',e⟩:=yU (sc:=sc) (nm:=nm) (sh:=sh) (kd:=kd) (x11:=x11) (x12:=x12) (x13:=x13) (x14:=x14) (x15:=x15) (x16:=x16) (x17:=x17) (x18:=x18) (N:=N) hg a8 t 0 [] .uD .uD .uD (by lia) (by simp;lia);refine ⟨x8',x9',x10',?_⟩;rw [List.nil_append,<-List.range_eq_range'] at e;refine pQ (tO (n:=t) (aF (bB (aF rfl rfl) (kY List.length_range)) rfl) (by lia) (by lia)) ?_;rw [Int.toNat_natCast];exact e
theorem yV {rl x9 x10:D} (hg:∀i j,i<t->j<a->g i j<a/\bD [.int seed,.int i,.int j,.int a]=.ok (.int (g i j))):∀(S:List Nat),(∀i∈S,i<t)->∀(s:Nat),s<a->∀x8:D,∃x8',S.foldl (fun s i=>g i s) s<a/\sY (tg1 8) lwr (S.map fun (i:Nat)=>D.int i) [sc,nm,sh,.int seed,kd,.lst (mkL N a),.lst (tkL N t),rl,x8,x9,x10,x11,x12,x13,x14,x15,.int s,x17,x18]=.ok (.nx [sc,nm,sh,.int seed,kd,.lst (mkL N a),.lst (tkL N t),rl,x8',x9,x10,x11,x12,x13,x14,x15,.int ((S.foldl (fun s i=>g i s) s:Nat):Int),x17,x18])
 | [],_,s,hs,x8=>⟨x8,hs,rfl⟩
 | i::S,h,s,hs,x8=>by
  obtain ⟨g1,g2⟩:=hg i s (h i (by simp)) hs;obtain ⟨x8',q,e⟩:=yV hg S (fun k hk=>h k (by simp [hk])) (g i s) g1 (.int i);refine ⟨x8',q,?_⟩;rw [List.map_cons];exact dO (ρ1:=[sc,nm,sh,.int seed,kd,.lst (mkL N a),.lst (tkL N t),rl,.int i,x9,x10,x11,x12,x13,x14,x15,.int s,x17,x18]) rfl (eU (i:=16) (bB (aF (x:=.int seed) rfl (aF (x:=.int i) rfl (aF (x:=.int s) rfl (aF (bB (aF rfl rfl) (kY List.length_range)) rfl)))) ((iC rfl).trans g2))) e
end
end Lk58
end
section
namespace Lk58
open PySem L2 Mi
theorem JM {α β:Type} (f:α->β) (xs:List α) (lo hi:Option Int):cutD (xs.map f) lo hi=(cutD xs lo hi).map f:=by
 unfold cutD;rw [List.length_map,List.map_take,List.map_drop]
theorem vP {α:Type} (xs:List α) (lo hi:Option Int):(cutD xs lo hi).length<=xs.length:=by
 unfold cutD;rw [List.length_take,List.length_drop];lia
section
variable {sc kd x8 x9 x10 x11 x12 x13 x14 x15 x16 x17 x18:D} {nm rl:List D} {sh se:Int} {N:List Str} {a t n:Nat} {g:Nat->Nat->Nat} {S:List Nat} {s:Nat}
noncomputable abbrev ev (sc:D) (nm:List D) (sh se:Int) (kd:D) (mk tk rl:List D) (x8 x9 x10 x11 x12 x13 x14 x15 x16 x17 x18:D):List D:=[sc,.lst nm,.int sh,.int se,kd,.lst mk,.lst tk,.lst rl,x8,x9,x10,x11,x12,x13,x14,x15,x16,x17,x18]
theorem aCm {xs:List D} {c:Int} (h:aX [.scr xs,.int 0]=.ok (.int c)) (h2:dB [.int c]=.ok (.lst nm)):lw0 [.scr xs,.uD,.uD,.uD,.uD,.uD,.uD,.uD,.uD,.uD,.uD,.uD,.uD,.uD,.uD,.uD,.uD,.uD,.uD]=.ok (.nx [.scr xs,.lst nm,.uD,.uD,.uD,.uD,.uD,.uD,.uD,.uD,.uD,.uD,.uD,.uD,.uD,.uD,.uD,.uD,.uD]):=
 eU (i:=1) (bB (aF (bB (aF rfl (aF rfl rfl)) ((iC rfl).trans h)) rfl) ((iC rfl).trans h2))
theorem aCn {xs:List D} {c:Int} (h:aX [.scr xs,.int 1]=.ok (.int c)):lw1 [.scr xs,.lst nm,.uD,.uD,.uD,.uD,.uD,.uD,.uD,.uD,.uD,.uD,.uD,.uD,.uD,.uD,.uD,.uD,.uD]=.ok (.nx [.scr xs,.lst nm,.int c,.uD,.uD,.uD,.uD,.uD,.uD,.uD,.uD,.uD,.uD,.uD,.uD,.uD,.uD,.uD,.uD]):=
 eU (i:=2) (bB (aF rfl (aF rfl rfl)) ((iC rfl).trans h))
theorem aCo {xs:List D} {c:Int} (h:aX [.scr xs,.int 2]=.ok (.int c)):lw2 [.scr xs,.lst nm,.int sh,.uD,.uD,.uD,.uD,.uD,.uD,.uD,.uD,.uD,.uD,.uD,.uD,.uD,.uD,.uD,.uD]=.ok (.nx [.scr xs,.lst nm,.int sh,.int c,.uD,.uD,.uD,.uD,.uD,.uD,.uD,.uD,.uD,.uD,.uD,.uD,.uD,.uD,.uD]):=
 eU (i:=3) (bB (aF rfl (aF rfl rfl)) ((iC rfl).trans h))
abbrev nmL (N:List Str):List D:=(List.range 26).map (sy N)
theorem aCp:lw3 [sc,.lst (nmL N),.int sh,.int se,.uD,.uD,.uD,.uD,.uD,.uD,.uD,.uD,.uD,.uD,.uD,.uD,.uD,.uD,.uD]=.ok (.nx [sc,.lst (nmL N),.int sh,.int se,sy N 0,.uD,.uD,.uD,.uD,.uD,.uD,.uD,.uD,.uD,.uD,.uD,.uD,.uD,.uD]):=
 j9 (i:=4) (aP (x:=.lst (nmL N)) (y:=.int 0) rfl rfl (kW (f:=sy N) rfl (by decide))) rfl
theorem aCq (ha:(a:Int)=sh % 8+1):lw4 [sc,.lst (nmL N),.int sh,.int se,sy N 0,.uD,.uD,.uD,.uD,.uD,.uD,.uD,.uD,.uD,.uD,.uD,.uD,.uD,.uD]=.ok (.nx [sc,.lst (nmL N),.int sh,.int se,sy N 0,.lst (mkL N a),.uD,.uD,.uD,.uD,.uD,.uD,.uD,.uD,.uD,.uD,.uD,.uD,.uD]):=by
 refine eU (i:=5) ((rM (xs:=nmL N) (l:=some 1) (h:=some (2+sh % 8)) rfl (jT rfl) (jT (aP rfl (aP rfl rfl (eX _ _ (by decide))) (iT _ _))) (cR N _)).trans ?_);rw [show (2+sh % 8:Int)=((1+a:Nat):Int) from by lia];have:=M5 (f:=sy N) (lo:=1) (hi:=1+a) (by lia) (by lia);rw [show (1+a-1)=a from by lia] at this;exact congrArg (fun z=>Res.ok (D.lst z)) this
theorem aCr (ht:(t:Int)=sh / 8 % 8+1):lw5 [sc,.lst (nmL N),.int sh,.int se,sy N 0,.lst (mkL N a),.uD,.uD,.uD,.uD,.uD,.uD,.uD,.uD,.uD,.uD,.uD,.uD,.uD]=.ok (.nx [sc,.lst (nmL N),.int sh,.int se,sy N 0,.lst (mkL N a),.lst (tkL N t),.uD,.uD,.uD,.uD,.uD,.uD,.uD,.uD,.uD,.uD,.uD,.uD]):=by
 refine eU (i:=6) ((rM (xs:=nmL N) (l:=some 9) (h:=some (10+sh / 8 % 8)) rfl (jT rfl) (jT (aP rfl (aP (aP rfl rfl (gC _ _ (by decide) (by decide))) rfl (eX _ _ (by decide))) (iT _ _))) (cR N _)).trans ?_);rw [show (10+sh / 8 % 8:Int)=((9+t:Nat):Int) from by lia];have:=M5 (f:=sy N) (lo:=9) (hi:=9+t) (by lia) (by lia);rw [show (9+t-9)=t from by lia] at this;exact congrArg (fun z=>Res.ok (D.lst z)) this
theorem aCs:lw6 [sc,.lst nm,.int sh,.int se,sy N 0,.lst (mkL N a),.lst (tkL N t),.uD,.uD,.uD,.uD,.uD,.uD,.uD,.uD,.uD,.uD,.uD,.uD]=.ok (.nx (ev sc nm sh se (sy N 0) (mkL N a) (tkL N t) [] .uD .uD .uD .uD .uD .uD .uD .uD .uD .uD .uD)):=j_ (i:=7) rfl rfl
theorem aCt (hl:0<rl.length) (hn:(n:Int)=sh / 64 % (rl.length:Int)):lw8 (ev sc nm sh se kd (mkL N a) (tkL N t) rl x8 x9 x10 .uD .uD .uD .uD .uD .uD .uD .uD)=.ok (.nx (ev sc nm sh se kd (mkL N a) (tkL N t) rl x8 x9 x10 (.int n) .uD .uD .uD .uD .uD .uD .uD)):=by
 rw [hn];exact eU (i:=11) (aP (aP (x:=.int sh) rfl rfl (gC _ _ (by decide) (by decide))) (y:=.int rl.length) (bB (aF rfl rfl) rfl) (eX _ _ (by lia)))
theorem aCu (h8:t<=8):lw9 (ev sc nm sh se (sy N 0) (mkL N a) (tkL N t) rl x8 x9 x10 x11 .uD .uD .uD .uD .uD .uD .uD)=.ok (.nx (ev sc nm sh se (sy N 0) (mkL N a) (tkL N t) rl x8 x9 x10 x11 (.tup ((Tks t).map (tkD N))) .uD .uD .uD .uD .uD .uD)):=by
 have e:(Tks t).map (tkD N)=(List.range t).map fun i=>tkD N (9+i,0,0,[]):=by unfold Tks;rw [List.map_map];rfl
 rw [e];refine j9 (i:=12) (bB (aF (e_ (n:=19) (fun i=>sy N (9+i)) (fun i=>tkD N (9+i,0,0,[])) (List.range t) rfl (gW rfl) (by rw [List.length_range];lia) fun i hi=>⟨eV (aF rfl (aF rfl (aF rfl (aF (eV (xs:=[]) rfl (by rw [bW];simp)) rfl)))) (by rw [bW];simp),rfl⟩) rfl) rfl) ?_;show (D.tup _).pure=true;rw [D.pure];exact bO (fun i=>o9 N _) _
theorem ZG (h8:a<=8):aFl (ev sc nm sh se (sy N 0) (mkL N a) (tkL N t) rl x8 x9 x10 x11 x12 .uD .uD .uD .uD .uD .uD)=.ok (.nx (ev sc nm sh se (sy N 0) (mkL N a) (tkL N t) rl x8 x9 x10 x11 x12 (.tup ((Mk a).map (rwD N))) .uD .uD .uD .uD .uD)):=by
 have e:(Mk a).map (rwD N)=(List.range a).map fun j=>rwD N (1+j,0,[]):=by unfold Mk;rw [List.map_map];rfl
 rw [e];refine j9 (i:=13) (bB (aF (e_ (n:=19) (fun j=>sy N (1+j)) (fun j=>rwD N (1+j,0,[])) (List.range a) rfl (gW rfl) (by rw [List.length_range];lia) fun i hi=>⟨eV (aF rfl (aF rfl (aF (eV (xs:=[]) rfl (by rw [bW];simp)) rfl))) (by rw [bW];simp),rfl⟩) rfl) rfl) ?_;show (D.tup _).pure=true;rw [D.pure];exact bO (fun i=>o8 N _) _
theorem ZJ {R:List Ru} (hl:R.length<=100):aFm (ev sc nm sh se (sy N 0) (mkL N a) (tkL N t) (R.map (ruD N)) x8 x9 x10 (.int n) (.tup ((Tks t).map (tkD N))) (.tup ((Mk a).map (rwD N))) .uD .uD .uD .uD .uD)=.ok (.nx (ev sc nm sh se (sy N 0) (mkL N a) (tkL N t) (R.map (ruD N)) x8 x9 x10 (.int n) (.tup ((Tks t).map (tkD N))) (.tup ((Mk a).map (rwD N))) (MN N [0] (Mk a) (Tks t) (R.drop n++R.take n)) .uD .uD .uD .uD)):=by
 have pr:D.aG (R.map (ruD N))=true:=bO (gF N) _;have ad:aZ .add (.lst ((R.drop n).map (ruD N))) (.lst ((R.take n).map (ruD N)))=.ok (.lst ((R.drop n++R.take n).map (ruD N))):=by
  show (if (decide (((R.drop n).map (ruD N)).length+((R.take n).map (ruD N)).length<=lim)&&D.aG ((R.drop n).map (ruD N))&&D.aG ((R.take n).map (ruD N)))=true then Res.ok (D.lst (_++_)) else .bad)=_;rw [bO (gF N),bO (gF N),if_pos (by rw [List.length_map,List.length_map,List.length_drop,List.length_take,bW,decide_eq_true (by lia)];rfl),List.map_append]
 refine j9 (i:=14) (eV (xs:=[.tup [sy N 0],.tup ((Mk a).map (rwD N)),.tup ((Tks t).map (tkD N)),.tup ((R.drop n++R.take n).map (ruD N))]) (aF (eV (aF rfl rfl) (by rw [bW];simp)) (aF rfl (aF rfl (aF (bB (aF (aP (x:=.lst ((R.drop n).map (ruD N))) (y:=.lst ((R.take n).map (ruD N))) ((rM (xs:=R.map (ruD N)) (l:=some (n:Int)) (h:=none) rfl (jT rfl) rfl pr).trans (by rw [R1,<-List.map_drop])) ((rM (xs:=R.map (ruD N)) (l:=none) (h:=some (n:Int)) rfl rfl (jT rfl) pr).trans (by rw [aCc,<-List.map_take])) ad) rfl) rfl) rfl)))) (by rw [bW];simp)) ?_;show ((D.tup [sy N 0]).pure&&((D.tup ((Mk a).map (rwD N))).pure&&((D.tup ((Tks t).map (tkD N))).pure&&((D.tup ((R.drop n++R.take n).map (ruD N))).pure&&true))))=true;rw [D.pure,D.pure,D.pure,D.pure,bO (o8 N),bO (o9 N),bO (gF N)];rfl
theorem ZK {xs:List Int} (hx:xs.length<=1000) (ht:0<t):aFn (ev (.scr (xs.map D.int)) nm sh se kd (mkL N a) (tkL N t) rl x8 x9 x10 x11 x12 x13 x14 .uD .uD .uD .uD)=.ok (.nx (ev (.scr (xs.map D.int)) nm sh se kd (mkL N a) (tkL N t) rl x8 x9 x10 x11 x12 x13 x14 (.lst (((cutD xs (some 3) (some 123)).map fun c=>(c % (t:Int)).toNat).map fun (i:Nat)=>D.int i)) .uD .uD .uD)):=by
 have e:m8 dU (dH zR) (dH G_) (ev (.scr (xs.map D.int)) nm sh se kd (mkL N a) (tkL N t) rl x8 x9 x10 x11 x12 x13 x14 .uD .uD .uD .uD)=.ok (.lst ((cutD xs (some 3) (some 123)).map D.int)):=by
  show (if D.aG (xs.map D.int)=true then Res.ok (D.lst (cutD (xs.map D.int) (some 3) (some 123))) else .bad)=_;rw [z9,if_pos rfl,JM]
 have hl:=vP xs (some 3) (some 123);rw [List.map_map];refine eU (i:=15) (e_ (n:=19) D.int (fun c:Int=>D.int (((c % (t:Int)).toNat:Nat):Int)) (cutD xs (some 3) (some 123)) rfl (gW e) (by lia) fun c _=>⟨?_,rfl⟩);rw [show (((c % (t:Int)).toNat:Nat):Int)=c % (t:Int) from by have:=Int.emod_nonneg c (show (t:Int)≠0 by lia);lia];exact aP (x:=.int c) rfl (bB (aF rfl rfl) (kY List.length_range)) (eX _ _ (by lia))
theorem ZL (ha:0<a) (hs:(s:Int)=sh / 640 % (a:Int)):aFo (ev sc nm sh se kd (mkL N a) (tkL N t) rl x8 x9 x10 x11 x12 x13 x14 x15 .uD .uD .uD)=.ok (.nx (ev sc nm sh se kd (mkL N a) (tkL N t) rl x8 x9 x10 x11 x12 x13 x14 x15 (.int s) .uD .uD)):=by
 rw [hs];exact eU (i:=16) (aP (aP (x:=.int sh) rfl rfl (gC _ _ (by decide) (by decide))) (bB (aF rfl rfl) (kY List.length_range)) (eX _ _ (by lia)))
theorem ZM (hS:∀i∈S,i<t) (hl:S.length<=1000) (hs:s<a):aFp (ev sc nm sh se kd (mkL N a) (tkL N t) rl x8 x9 x10 x11 x12 x13 x14 (.lst (S.map fun (i:Nat)=>D.int i)) (.int s) .uD .uD)=.ok (.nx (ev sc nm sh se kd (mkL N a) (tkL N t) rl x8 x9 x10 x11 x12 x13 x14 (.lst (S.map fun (i:Nat)=>D.int i)) (.int s) (.tup ((wdS S s).map (sy N))) .uD)):=by
 have e1:dI 19 (bJ G8 false) mQ (dW) (b2 getD qI qJ) false (ev sc nm sh se kd (mkL N a) (tkL N t) rl x8 x9 x10 x11 x12 x13 x14 (.lst (S.map fun (i:Nat)=>D.int i)) (.int s) .uD .uD)=.ok (.lst (S.map fun i=>sy N (9+i))):=e_ (n:=19) (fun (i:Nat)=>D.int i) (fun i=>sy N (9+i)) S rfl (gW rfl) (by lia) fun i hi=>⟨aP (x:=.lst (tkL N t)) (y:=.int i) rfl rfl (kW (f:=fun i=>sy N (9+i)) rfl (hS i hi)),rfl⟩
 have e2:qK (aB (bPu (b2 getD iV mZ)) aY) (ev sc nm sh se kd (mkL N a) (tkL N t) rl x8 x9 x10 x11 x12 x13 x14 (.lst (S.map fun (i:Nat)=>D.int i)) (.int s) .uD .uD)=.ok (.lst [sy N (1+s)]):=aCj (aF (aEs (aP (x:=.lst (mkL N a)) (y:=.int s) rfl rfl (kW (f:=fun j=>sy N (1+j)) rfl hs)) rfl) rfl) (by rw [bW];simp);have pS:D.aG (S.map fun i=>sy N (9+i))=true:=bO (fun _=>rfl) _;have ad:aZ .add (.lst (S.map fun i=>sy N (9+i))) (.lst [sy N (1+s)])=.ok (.lst ((wdS S s).map (sy N))):=by
  show (if (decide ((S.map fun i=>sy N (9+i)).length+[sy N (1+s)].length<=lim)&&D.aG (S.map fun i=>sy N (9+i))&&D.aG [sy N (1+s)])=true then Res.ok (D.lst (_++_)) else .bad)=_;rw [pS,if_pos (by rw [List.length_map,bW,decide_eq_true (by simp;lia)];rfl)];unfold wdS;rw [List.map_append,List.map_map];rfl
 refine j9 (i:=17) (bB (aF (aP e1 e2 ad) rfl) rfl) ?_;show (D.tup _).pure=true;rw [D.pure,cR]
theorem ZP (hg:∀i j,i<t->j<a->g i j<a/\bD [.int se,.int i,.int j,.int a]=.ok (.int (g i j))) (hS:∀i∈S,i<t) (hs:s<a):∃x8',S.foldr g s<a/\aFq (ev sc nm sh se kd (mkL N a) (tkL N t) rl x8 x9 x10 x11 x12 x13 x14 (.lst (S.map fun (i:Nat)=>D.int i)) (.int s) x17 .uD)=.ok (.nx (ev sc nm sh se kd (mkL N a) (tkL N t) rl x8' x9 x10 x11 x12 x13 x14 (.lst (S.map fun (i:Nat)=>D.int i)) (.int ((S.foldr g s:Nat):Int)) x17 .uD)):=by
 obtain ⟨x8',h1,h2⟩:=yV (sc:=sc) (nm:=.lst nm) (sh:=.int sh) (kd:=kd) (rl:=.lst rl) (x9:=x9) (x10:=x10) (x11:=x11) (x12:=x12) (x13:=x13) (x14:=x14) (x15:=.lst (S.map fun (i:Nat)=>D.int i)) (x17:=x17) (x18:=.uD) (N:=N) hg S.reverse (fun i hi=>hS i (List.mem_reverse.mp hi)) s hs x8;rw [List.foldl_reverse] at h1 h2;refine ⟨x8',h1,?_⟩;rw [List.map_reverse] at h2;exact h2
theorem ZQ:aFr (ev sc nm sh se kd (mkL N a) (tkL N t) rl x8 x9 x10 x11 x12 x13 x14 (.lst (S.map fun (i:Nat)=>D.int i)) (.int s) x17 .uD)=.ok (.nx (ev sc nm sh se kd (mkL N a) (tkL N t) rl x8 x9 x10 x11 x12 x13 x14 (.lst (S.map fun (i:Nat)=>D.int i)) (.int s) x17 (.int S.length))):=eU (i:=18) (bB (aF rfl rfl) (kY rfl))
end
end Lk58
end
section
namespace Lk58
open PySem L2 Mi
theorem aB2 {a b:FT} {ρ:List D} {r:Res Bool} (h1:a ρ=.ok true) (h2:b ρ=r):HB a b ρ=r:=by
 unfold HB;rw [h1];exact h2
theorem aB3 {a b:FT} {ρ:List D} (h1:a ρ=.ok false):HB a b ρ=.ok false:=by
 unfold HB;rw [h1];rfl
theorem ZR {ρ pr W:List D} {w fo:D} {c:Nat} (v14:d9 14 ρ=.ok (.tup pr)) (v17:d9 17 ρ=.ok (.tup W)) (v18:d9 18 ρ=.ok (.int c)) (hm:b2 getD iV mZ ρ=.ok w) (h1:0<c->cG [.tup pr,.tup W,.int ((c:Int)-1)]=.ok (.bl true)) (h2:bR [.tup pr,.tup W,.int 400]=.ok fo) (h3:bR [.tup pr,.tup W,.int c]=.ok fo) (h4:bT [fo,w,.int c]=.ok (.bl true)):b8 aDb (b8 aDc aEy) ρ=.ok (.rt (.bl true)):=by
 have f1:aB lH (aB lJ (aB (b2 (aZ .sub) iW iK) aY)) ρ=.ok [.tup pr,.tup W,.int ((c:Int)-1)]:=aF v14 (aF v17 (aF (aP v18 rfl rfl) rfl));have g0:bTB (b2 (gJ (.ord .gt)) iW gG) ρ=.ok (decide (0<(c:Int))):=qU (aP v18 rfl (cmp_gt _ _));have f2:aB lH (aB lJ aY) ρ=.ok [.tup pr,.tup W]:=aF v14 (aF v17 rfl);have f3:aB lH (aB lJ (aB iW aY)) ρ=.ok [.tup pr,.tup W,.int c]:=aF v14 (aF v17 (aF v18 rfl));have w2:aQ (fun ds=>f9 3 bR (ds++[.int 400])) (aB lH (aB lJ aY)) ρ=.ok fo:=bB f2 h2;have w3:aQ (f9 3 bR) (aB lH (aB lJ (aB iW aY))) ρ=.ok fo:=bB f3 h3;have r2:aQ (f9 3 bT) (aB (aQ (fun ds=>f9 3 bR (ds++[.int 400])) (aB lH (aB lJ aY))) (aB (b2 getD iV mZ) (aB iW aY))) ρ=.ok (.bl true):=bB (aF w2 (aF hm (aF v18 rfl))) h4;have r3:aQ (f9 3 bT) (aB (aQ (f9 3 bR) (aB lH (aB lJ (aB iW aY)))) (aB (b2 getD iV mZ) (aB iW aY))) ρ=.ok (.bl true):=bB (aF w3 (aF hm (aF v18 rfl))) h4;have e17:aDb ρ=.ok (.nx ρ):=by
  refine T6 ?_ rfl;by_cases hc:0<c
  ·have g1:aQ (f9 3 cG) (aB lH (aB lJ (aB (b2 (aZ .sub) iW iK) aY))) ρ=.ok (.bl true):=bB f1 (h1 hc);exact aB2 (g0.trans (by rw [decide_eq_true (by lia)])) (U5 (b:=true) (aCe g1))
  ·exact aB3 (g0.trans (by rw [decide_eq_false (by lia)]))
 have e18:aDc ρ=.ok (.nx ρ):=T6 (U5 (b:=true) (aCe r2)) rfl;exact a_ e17 (a_ e18 (xT r3 rfl))
section
variable {sc kd x8 x9 x10 x11 x12 x13 x15:D} {nm rl pr W:List D} {sh se:Int} {N:List Str} {a t:Nat} {s:Nat} {c:Nat} {w fo:D}
theorem aCv (hs:s<a) (h1:0<c->cG [.tup pr,.tup W,.int ((c:Int)-1)]=.ok (.bl true)) (h2:bR [.tup pr,.tup W,.int 400]=.ok fo) (h3:bR [.tup pr,.tup W,.int c]=.ok fo) (h4:bT [fo,sy N (1+s),.int c]=.ok (.bl true)):b8 aDb (b8 aDc aEy) (ev sc nm sh se kd (mkL N a) (tkL N t) rl x8 x9 x10 x11 x12 x13 (.tup pr) x15 (.int s) (.tup W) (.int c))=.ok (.rt (.bl true)):=
 ZR rfl rfl rfl (aP (x:=.lst (mkL N a)) (y:=.int s) rfl rfl (kW (f:=fun j=>sy N (1+j)) rfl hs)) h1 h2 h3 h4
end
theorem main:∀ns:List Int,ns.length<=63->CP [.scr (ns.map D.int)]=.ok (.bl true):=fun ns hns=>by
 obtain ⟨c0,q0⟩:=wD ns 0;obtain ⟨sh,q1⟩:=wD ns 1;obtain ⟨se,q2⟩:=wD ns 2;obtain ⟨N,hN,hd,qN⟩:=R4 c0;rw [aCd N hN] at qN;obtain ⟨a,ha⟩:∃a:Nat,(a:Int)=sh % 8+1:=⟨(sh % 8+1).toNat,by lia⟩
 obtain ⟨t,ht⟩:∃t:Nat,(t:Int)=sh / 8 % 8+1:=⟨(sh / 8 % 8+1).toNat,by lia⟩
 have a1:1<=a:=by lia
 have a8:a<=8:=by lia
 have t1:1<=t:=by lia
 have t8:t<=8:=by lia
 have H:∀i j:Nat,∃x:Nat,i<t->j<a->x<a/\bD [.int se,.int i,.int j,.int a]=.ok (.int x):=fun i j=>by
  by_cases h:i<t/\j<a
  ·obtain ⟨x,h1,h2⟩:=ZF (seed:=se) (i:=i) (j:=j) (n:=a) (by lia) (by lia) (by lia) (by lia);exact ⟨x,fun _ _=>⟨h1,h2⟩⟩
  ·exact ⟨0,fun h1 h2=>absurd ⟨h1,h2⟩ h⟩
 obtain ⟨g,hg⟩:∃g:Nat->Nat->Nat,∀i j,i<t->j<a->g i j<a/\bD [.int se,.int i,.int j,.int a]=.ok (.int (g i j)):=⟨fun i j=>(H i j).choose,fun i j=>(H i j).choose_spec⟩
 clear H;have rlen:((R0 a t g).map (ruD N)).length=t*a:=by rw [List.length_map,M6]
 have rpos:0<t*a:=Nat.mul_pos t1 a1;obtain ⟨n,hn⟩:∃n:Nat,(n:Int)=sh / 64 % (((R0 a t g).map (ruD N)).length:Int):=by
  have h0:=Int.emod_nonneg (sh / 64) (show (((R0 a t g).map (ruD N)).length:Int)≠0 by lia);exact ⟨(sh / 64 % (((R0 a t g).map (ruD N)).length:Int)).toNat,by lia⟩
 obtain ⟨s0,hs0⟩:∃s:Nat,(s:Int)=sh / 640 % (a:Int):=by
  have h0:=Int.emod_nonneg (sh / 640) (show (a:Int)≠0 by lia);exact ⟨(sh / 640 % (a:Int)).toNat,by lia⟩
 have s0a:s0<a:=by
  have:=Int.emod_lt_of_pos (sh / 640) (show (0:Int)<a by lia);lia
 generalize hS0:((cutD ns (some 3) (some 123)).map fun c=>(c % (t:Int)).toNat)=S;have hS:∀i∈S,i<t:=fun i hi=>by
  rw [<-hS0] at hi;obtain ⟨c,_,rfl⟩:=List.mem_map.mp hi;have h1:=Int.emod_nonneg c (show (t:Int)≠0 by lia);have h2:=Int.emod_lt_of_pos c (show (0:Int)<t by lia);lia
 have lS:S.length<=63:=by
  rw [<-hS0,List.length_map];exact Nat.le_trans (vP ns _ _) hns
 have B:=tab_of (g:=g) a1 a8 t8 (fun i j hi hj=>(hg i j hi hj).1) n;have R0l:(R0 a t g).length<=100:=by
  rw [M6];exact Nat.le_trans (Nat.mul_le_mul t8 a8) (by decide)
 obtain ⟨y8,y9,y10,e7⟩:=aCl (sc:=.scr (ns.map D.int)) (nm:=.lst (nmL N)) (sh:=.int sh) (kd:=sy N 0) (x11:=.uD) (x12:=.uD) (x13:=.uD) (x14:=.uD) (x15:=.uD) (x16:=.uD) (x17:=.uD) (x18:=.uD) (N:=N) hg a8 t8;obtain ⟨z8,hf,e15⟩:=ZP (sc:=.scr (ns.map D.int)) (nm:=nmL N) (sh:=sh) (kd:=sy N 0) (rl:=(R0 a t g).map (ruD N)) (x8:=y8) (x9:=y9) (x10:=y10) (x11:=.int n) (x12:=.tup ((Tks t).map (tkD N))) (x13:=.tup ((Mk a).map (rwD N))) (x14:=MN N [0] (Mk a) (Tks t) ((R0 a t g).drop n++(R0 a t g).take n)) (x17:=.tup ((wdS S s0).map (sy N))) (N:=N) hg hS s0a;have vr:∀m:Int,0<=m->_:=fun m hm=>Y_ hN hd B (m:=m) (S:=S) (s0:=s0) hS s0a hm
 have wk:∀m:Int,(S.length:Int)<=m->bR [MN N [0] (Mk a) (Tks t) ((R0 a t g).drop n++(R0 a t g).take n),.tup ((wdS S s0).map (sy N)),.int m]=.ok (foS (sy N (1+S.foldr g s0)) S.length):=fun m hm=>R6 hN hd (aDa a8 t8) (Z6 a8) B.rl ((vr m (by lia)).trans (by rw [if_pos hm])) M3 rfl
 have we:0<S.length->bR [MN N [0] (Mk a) (Tks t) ((R0 a t g).drop n++(R0 a t g).take n),.tup ((wdS S s0).map (sy N)),.int ((S.length:Int)-1)]=.err "Spent" [.exc "Spent" []]:=fun hp=>MT hN hd (aDa a8 t8) (Z6 a8) B.rl ((vr _ (by lia)).trans (by rw [if_neg (by lia)]))
 have e12:=ZK (nm:=nmL N) (sh:=sh) (se:=se) (kd:=sy N 0) (rl:=(R0 a t g).map (ruD N)) (x8:=y8) (x9:=y9) (x10:=y10) (x11:=.int n) (x12:=.tup ((Tks t).map (tkD N))) (x13:=.tup ((Mk a).map (rwD N))) (x14:=MN N [0] (Mk a) (Tks t) ((R0 a t g).drop n++(R0 a t g).take n)) (N:=N) (a:=a) (xs:=ns) (by lia) (show 0<t from t1);rw [hS0] at e12;refine call_v ?_;show YT [.scr (ns.map D.int),.uD,.uD,.uD,.uD,.uD,.uD,.uD,.uD,.uD,.uD,.uD,.uD,.uD,.uD,.uD,.uD,.uD,.uD]=_;rw [aEz];refine a_ (aCm q0 qN) (a_ (aCn q1) (a_ (aCo q2) (a_ aCp (a_ (aCq ha) (a_ (aCr ht) (a_ aCs (a_ e7 ?_)))))));refine a_ (aCt (by rw [rlen];exact rpos) hn) (a_ (aCu t8) (a_ (ZG a8) (a_ (ZJ R0l) (a_ e12 (a_ (ZL a1 hs0) (a_ (ZM hS (by lia) s0a) (a_ e15 (a_ ZQ ?_))))))));exact aCv hf (fun hp=>R9 (by intro z;cases z) (by intro z;cases z) (we hp)) (wk 400 (by lia)) (wk _ (Int.le_refl _)) (SJ hN hd (by lia))
end Lk58
end
section
open PySem PySem.W PyProof.Rows
def PySem.W.Fast.tw5627611603386826372 : Unit:=()
def PySem.W.Fast.tw158698192001940825 : Unit:=()
def PySem.W.Fast.tw9688445405624567555 : Unit:=()
def PySem.W.Fast.tw16879210666075803945 : Unit:=()
def PySem.W.Fast.tw10477220867900317600 : Unit:=()
def PySem.W.Fast.tw13520440810645394504 : Unit:=()
def PySem.W.Fast.tw2356757191323170990 : Unit:=()
def PySem.W.Fast.tw9970507976047400604 : Unit:=()
def PySem.W.Fast.tw12576507873663559905 : Unit:=()
def PySem.W.Fast.tw73308181013435703 : Unit:=()
def PySem.W.Fast.tw8173358844713299048 : Unit:=()
def PySem.W.Fast.tw12283648157026606366 : Unit:=()
set_option maxRecDepth 100000 in
set_option maxHeartbeats 0 in
theorem PySem.Challenge.cw_hookmill_k58_whole_many_rules_holds : PySem.Challenge.rw_hookmill_k58_whole_many_rules.Holds := by
 w_on;o_law;k_head;(case hw=>w_witness2)
 k_fill
 refine Lk58.walk (l:=PySem.Challenge.rw_hookmill_k58_whole_many_rules) Lk58.main rfl rfl (fun w h Y=>PySem.W.kIn_of Y) ?F
 case F=>
  intro w mg fa h KX G hmg
  refine' Lk58.aC9 KX G hmg ?a0 ?a1 ?a2 ?l2 ?c2 ?k2 ?t2 ?a3 ?a4 ?a5 ?a6 ?a7 ?a8 ?l8 ?c8 ?k8 ?z_len ?z_min ?z_max ?z_list ?z_tuple ?z_sorted ?z_range ?z_isinstance ?z_int ?z_bool ?z_str ?z_dict ?z_all ?z_enumerate ?z_sum ?z_zip ?z_abs ?z_reversed ?g_Spent ?xm_Spent_Spent ?g_Frame ?g_PlainRun ?pg_Frame ?hd_Frame ?po_Frame ?sa_Frame ?mk_Frame ?kp_Frame ?in_Frame ?li_Frame ?ci_Frame ?ki_Frame ?fn_Frame ?no_Frame_words ?no_Frame_left ?no_Frame_known ?pg_PlainRun ?hd_PlainRun ?po_PlainRun ?sa_PlainRun ?mk_PlainRun ?kp_PlainRun ?in_PlainRun ?li_PlainRun ?ci_PlainRun ?ki_PlainRun ?fn_PlainRun ?no_PlainRun_heads ?no_PlainRun_makers ?no_PlainRun_rules ?no_PlainRun_most ?no_PlainRun_calls ?no_PlainRun_copies ?no_PlainRun_drops ?in_take_word ?li_take_word ?ci_take_word ?ki_take_word ?eO ?in_value_of ?li_value_of ?ci_value_of ?ki_value_of ?d7 ?in_called ?li_called ?ci_called ?ki_called ?jR ?in_count_uses ?li_count_uses ?ci_count_uses ?ki_count_uses ?dR ?xp_Spent
  (case a0|a1|a3|a4|a5|a6|a7=>refine' Lk58.aEr ?a ?b ?c ?d;(case a=>k_is);(case b=>k_is);(case c=>k_is);case d=>k_is)
  (case a2|l2|c2|k2|t2|a8|l8|c8|k8|z_len|z_min|z_max|z_list|z_tuple|z_sorted|z_range|z_isinstance|z_int|z_bool|z_str|z_dict|z_all|z_enumerate|z_sum|z_zip|z_abs|z_reversed|g_Spent|g_Frame|g_PlainRun|pg_Frame|hd_Frame|po_Frame|sa_Frame|mk_Frame|kp_Frame|in_Frame|li_Frame|ci_Frame|ki_Frame|fn_Frame|no_Frame_words|no_Frame_left|no_Frame_known|pg_PlainRun|hd_PlainRun|po_PlainRun|sa_PlainRun|mk_PlainRun|kp_PlainRun|in_PlainRun|li_PlainRun|ci_PlainRun|ki_PlainRun|fn_PlainRun|no_PlainRun_heads|no_PlainRun_makers|no_PlainRun_rules|no_PlainRun_most|no_PlainRun_calls|no_PlainRun_copies|no_PlainRun_drops|in_take_word|li_take_word|ci_take_word|ki_take_word|eO|in_value_of|li_value_of|ci_value_of|ki_value_of|d7|in_called|li_called|ci_called|ki_called|jR|in_count_uses|li_count_uses|ci_count_uses|ki_count_uses|dR=>k_is)
  (case xm_Spent_Spent=>kts_exm)
  (case xp_Spent=>k_exc)
end
