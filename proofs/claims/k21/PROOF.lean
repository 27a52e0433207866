import PyProof.Rows.All
import Wide.All
import OpenK.AllK
import Wide.FinOn
import PyProof.EqAt
import PyProof.EqKinds
import PyProof.TupleCall
import Lean
import PyProof.Rows.SortRuns
import PySem.Syntax
import PyProof.NeKinds
import PyProof.WalkInts
import KE.KDictList
import PyProof.CompUse
import PyProof.StrWalks
import PyProof.EnumMake
import PyProof.EnumFor
import PyProof.StrCalls2
import PyProof.StrBlock2
import PyProof.StrBlockI
import PyProof.SliceStr2
import PyProof.ConsumeWalk
import PyProof.StrLawsJoin
import KE.KTryMore
import KE.KTryDeep
import OpenK.KOwn
import PyProof.ExcClass3
import KE.KIsAll
import PyProof.ExcArgsOwn
import PyProof.NsDelKeeps
import PyProof.ListRange
import PyProof.DictWalks
import KE.KEqDict
import PyProof.Rows.TupAdd
import PyProof.DictIter
import PyProof.AttrMissHeap
import PyProof.ZipIter
import PyProof.TupleIter
import PyProof.WalksMore
import PyProof.FactsAll.zip
import KE.KDictOf
import PyProof.Conv_int
import PyProof.Conv_int_bool
import PyProof.StrBlockL
import PyProof.MakeMany
import PyProof.MeetsStr2
import PyProof.CallRoads3
import PyProof.Rows.TupIn
import PyProof.DictRoadsH
import PyProof.DictList
import KE.KDictSum
import PyProof.TupleOfSeq
import PySem.Challenge.RW_hookmill_k21_turned
set_option Elab.async false
set_option maxRecDepth 100000
set_option maxHeartbeats 4000000
set_option linter.all false
set_option autoImplicit false
set_option genSizeOfSpec false
set_option genInjectivity true
section
namespace L2
open PySem PySem.Spec PyProof.Rows
noncomputable abbrev Key:=Sum Int Str
noncomputable def z6:Key->Value->Bool
 | .inl k,v=>Value.isInt k v
 | .inr x,v=>Value.isStrOf x v
noncomputable def aDz (w:World):Key->Int
 | .inl k=>hashInt k
 | .inr x=>hashStr w x
theorem cB:∀{k:Key} {v:Value},z6 k v=true->(∃i t,k=Sum.inl i/\v=Value.int i t)\/(∃x t,k=Sum.inr x/\v=Value.str x t)
 | .inl i,v,h=>by
  obtain ⟨t,e⟩:=Value.isInt_shape (k:=i) (v:=v) h;exact .inl ⟨i,t,rfl,e⟩
 | .inr x,v,h=>by
  obtain ⟨t,e⟩:=Value.isStrOf_shape (x:=x) (v:=v) h;exact .inr ⟨x,t,rfl,e⟩
theorem GF (i:Int) (t:Tok):z6 (.inl i) (.int i t)=true:=by simp [z6,Value.isInt]
theorem GJ (x:Str) (t:Tok):z6 (.inr x) (.str x t)=true:=by simp [z6,Value.isStrOf]
theorem YX (a b:Int):decide ((Sum.inl a:Key)=Sum.inl b)=(a==b):=by
 by_cases e:a=b
 ·subst e;simp
 ·have h:¬(Sum.inl a:Key)=Sum.inl b:=fun q=>e (Sum.inl.inj q)
  rw [decide_eq_false h];exact (beq_eq_false_iff_ne.mpr e).symm
theorem YZ (a b:Str):decide ((Sum.inr a:Key)=Sum.inr b)=decide (a=b):=by
 by_cases e:a=b
 ·subst e;simp
 ·have h:¬(Sum.inr a:Key)=Sum.inr b:=fun q=>e (Sum.inr.inj q)
  rw [decide_eq_false h,decide_eq_false e]
theorem Y0 (a:Int) (b:Str):decide ((Sum.inl a:Key)=Sum.inr b)=false:=decide_eq_false (fun q=>nomatch q)
theorem Y4 (a:Str) (b:Int):decide ((Sum.inr a:Key)=Sum.inl b)=false:=decide_eq_false (fun q=>nomatch q)
noncomputable def cN (prog:Program) (w:World):PySem.KeyKind prog w Key where
 is:=z6
 hash:=aDz w
 inj:=fun v a b ha hb=>by
  rcases cB ha with ⟨i,t,rfl,rfl⟩|⟨x,t,rfl,rfl⟩
  ·rcases cB hb with ⟨j,u,rfl,e⟩|⟨y,u,rfl,e⟩
   ·injection e with e1 _;rw [e1]
   ·exact nomatch e
  ·rcases cB hb with ⟨j,u,rfl,e⟩|⟨y,u,rfl,e⟩
   ·exact nomatch e
   ·injection e with e1 _;rw [e1]
 byValue:=fun k v h=>by
  rcases cB h with ⟨i,t,rfl,rfl⟩|⟨x,t,rfl,rfl⟩ <;> rfl
 pyHash:=fun hv h=>by
  rcases cB hv with ⟨i,t,rfl,rfl⟩|⟨x,t,rfl,rfl⟩
  ·exact wpAny_pyHash_int h
  ·exact wpAny_pyHash_str h
 eqBool:=fun hu hv h=>by
  rcases cB hu with ⟨i,t,rfl,rfl⟩|⟨x,t,rfl,rfl⟩
  ·rcases cB hv with ⟨j,u,rfl,rfl⟩|⟨y,u,rfl,rfl⟩
   ·rw [YX] at h;exact wpAny_eqBool_int h
   ·rw [Y0] at h;exact SeqAt.EqAt.int_str i t y u _ _ _ _ h
  ·rcases cB hv with ⟨j,u,rfl,rfl⟩|⟨y,u,rfl,rfl⟩
   ·rw [Y4] at h;exact SeqAt.EqAt.str_int x t j u _ _ _ _ h
   ·rw [YZ] at h;exact wpAny_eqBool_str h
 «strs»:=fun k x t v h=>by
  rcases cB h with ⟨i,u,rfl,e⟩|⟨y,u,rfl,e⟩
  ·exact nomatch e
  ·injection e with e1 _
   subst e1;cases v <;> rfl
theorem vU (prog:Program) (w:World) (i:Int) (t:Tok):(cN prog w).is (.inl i) (.int i t)=true:=GF i t
theorem vV (prog:Program) (w:World) (x:Str) (t:Tok):(cN prog w).is (.inr x) (.str x t)=true:=GJ x t
end L2
namespace L2
open PySem PySem.Spec PyProof.Rows
inductive V where
 | non|bl (b:Bool)|int (i:Int)|str (x:Str)|byt (b:Array UInt8)|flt (b:UInt64)|ref (a:Addr)|ty (n:String)
 deriving DecidableEq
noncomputable def RelV:V->Value->Prop
 | .non,u=>u=Value.none
 | .bl b,u=>u=Value.bool b
 | .int i,u=>∃t,u=Value.int i t
 | .str x,u=>∃t,u=Value.str x t
 | .byt b,u=>∃t,u=Value.bytes b t
 | .flt b,u=>∃t,u=Value.float b t
 | .ref a,u=>u=Value.ref a
 | .ty n,u=>u=Value.type n
noncomputable abbrev Vals:List V->List Value->Prop:=Paired RelV
theorem Vals.length {xs:List V} {us:List Value} (r:Vals xs us):xs.length=us.length:=Paired.length r
theorem Vals.get:∀{xs:List V} {us:List Value} {i:Nat} {x:V},Vals xs us->xs[i]?=some x->∃u,us[i]?=some u/\RelV x u
 | _,_,_,_,.nil,e=>by simp at e
 | _,_,0,_,.cons r _,e=>by simp at e;subst e;exact ⟨_,rfl,r⟩
 | _,_,i+1,x,.cons _ t,e=>by
  obtain ⟨u,h1,h2⟩:=Vals.get (i:=i) (x:=x) t (by simpa using e);exact ⟨u,by simpa using h1,h2⟩
theorem Vals.set {x:V} {u:Value} (r:RelV x u):∀{xs:List V} {us:List Value} (i:Nat),Vals xs us->Vals (xs.set i x) (us.set i u)
 | _,_,_,.nil=>.nil
 | _,_,0,.cons _ t=>.cons r t
 | _,_,i+1,.cons q t=>.cons q (Vals.set r i t)
theorem Vals.append:∀{xs ys:List V} {us ws:List Value},Vals xs us->Vals ys ws->Vals (xs++ys) (us++ws)
 | _,_,_,_,.nil,s=>s
 | _,_,_,_,.cons r t,s=>.cons r (Vals.append t s)
theorem Vals.take:∀{xs:List V} {us:List Value} (n:Nat),Vals xs us->Vals (xs.take n) (us.take n)
 | _,_,0,_=>.nil
 | _,_,_+1,.nil=>.nil
 | _,_,n+1,.cons r t=>.cons r (Vals.take n t)
theorem Vals.drop:∀{xs:List V} {us:List Value} (n:Nat),Vals xs us->Vals (xs.drop n) (us.drop n)
 | _,_,0,r=>r
 | _,_,_+1,.nil=>.nil
 | _,_,n+1,.cons _ t=>Vals.drop n t
noncomputable def OJ:Option V->Option Value->Prop
 | some v,some u=>RelV v u
 | none,none=>True
 | _,_=>False
noncomputable def KV {κ:Type}:List (κ×V)->List (κ×Value)->Prop:=Paired fun (p:κ×V) (q:κ×Value)=>p.1=q.1/\RelV p.2 q.2
noncomputable def kV:Key->V
 | .inl i=>.int i
 | .inr x=>.str x
inductive HO where
 | lst (xs:List V)
 | tup (xs:List V)
 | dK (kvs:List (Key×V))|dT (kvs:List (List Key×V))
 | set (S:Int->Bool) (n:Nat)
 | ins (C dx:Addr) (fs:List (Str×V))
 | own (x:Addr)
 | xd (fs:List (Str×V))
 | met (f x:Addr)
 | rng (lo hi:Int)
 | frz (o:Obj) (u:HO)
 | tbl (ps:Array Value)
 | ext (φ:Heap->Prop)
noncomputable abbrev Hp:=Addr->Option HO
noncomputable def upd (H:Hp) (a:Addr) (o:HO):Hp:=fun b=>if b=a then some o else H b
theorem aL {H:Hp} {a:Addr} {o:HO}:upd H a o a=some o:=by unfold upd;rw [if_pos rfl]
theorem bI {H:Hp} {a b:Addr} {o:HO} (h:b≠a):upd H a o b=H b:=by unfold upd;rw [if_neg h]
theorem vW {H:Hp} {a:Addr} {o u:HO}:upd (upd H a o) a u=upd H a u:=by
 funext b;unfold upd;split <;> rfl
theorem UG {H:Hp} {a b:Addr} {o u:HO} (h:H a=some o) (h':H b=some u) (d:o≠u):a≠b:=by
 intro e;subst e;rw [h] at h';exact d (Option.some.inj h')
theorem cT {H:Hp} {a b:Addr} {o:HO} (h:H a=some o) (h':H b=none):a≠b:=by
 intro e;subst e;rw [h] at h';cases h'
noncomputable def iI (h:Heap) (a:Addr) (its:Array Value):Prop:=∃o,h.get? a=some o/\o.cls=.type "tuple"/\∃n,(o.data,o.dict)=(Data.seq its n,none)
theorem iI.tup {h:Heap} {a:Addr} {its:Array Value} (t:iI h a its):IsTup h a its:=let ⟨o,e,c,n,d⟩:=t;⟨o,e,c,n,congrArg (·.1) d⟩
theorem iI.bare {h:Heap} {a:Addr} {its:Array Value} (t:iI h a its):∃o,h.get? a=some o/\o.dict=none:=let ⟨o,e,_,_,d⟩:=t;⟨o,e,congrArg (·.2) d⟩
theorem iI.new (h:Heap) (items:Array Value):iI (h.push {cls:=.type "tuple",data:=.seq items}) h.objs.size items:=⟨_,Heap.get?_push_size _ rfl,rfl,_,rfl⟩
section
variable (P:Program) (w:World)
noncomputable def gF (H:Hp) (h:Heap) (a:Addr):HO->Prop
 | .lst xs=>xs.length<=sizeLine/\∃(its:List Value) (n:Nat),Vals xs its/\h.get? a=some {cls:=.type "list",data:=.seq its.toArray n}
 | .tup xs=>xs.length<=sizeLine/\∃its:List Value,Vals xs its/\iI h a its.toArray
 | .dK kvs=>kvs.length<=sizeLine/\(a==sysModules)=false/\∃vs,KV kvs vs/\h.DictOf (cN P w) a vs
 | .dT kvs=>kvs.length<=sizeLine/\(a==sysModules)=false/\∃xs:List (List Key×Addr×Value),
   Paired (fun (p:List Key×V) (q:List Key×Addr×Value)=>p.1=q.1/\H q.2.1=some (.tup (p.1.map kV))/\RelV p.2 q.2.2) kvs xs/\
   ∃o es ep,h.get? a=some o/\o.ExactDict/\o.data=.dict es ep/\es.toList=xs.map (entryOfKey (tupleKind (cN P w)))/\(xs.map (·.1)).Nodup
 | .set S n=>h.SetOf (intKind P w) a S n
 | .ins C dx fs=>H dx=some (.own a)/\fs.length<=1000/\dx≠a/\h.get? a=some (PySem.W.instObj C dx)/\
   ∃mA,h.Ns1 dx mA/\(∀f,OJ (fs.lookup f) (mA f))/\PySem.Within mA (fs.map (·.1))
 | .own _=>∃o,h.get? a=some o
 | .xd fs=>∃mA,h.Ns1 a mA/\∀f,OJ (fs.lookup f) (mA f)
 | .rng lo hi=>∃t u v,h.get? a=some {cls:=.type "range",data:=.fields #[.int lo t,.int hi u,.int 1 v]}
 | .frz o u=>h.get? a=some o/\gF H h a u
 | .tbl ps=>h.get? a=some {cls:=.none,data:=.fields ps}
 | .met f x=>h.get? a=some (PySem.W.methodObj (.ref f) (.ref x))
 | .ext φ=>φ h/\(∃o,h.get? a=some o)/\∀h1 h2:Heap,φ h1->(∀o,h1.get? a=some o->h2.get? a=some o)->φ h2
noncomputable def HOk (H:Hp) (h:Heap):Prop:=∀a o,H a=some o->gF P w H h a o
end
section
variable {P:Program} {w:World} {H H':Hp} {h h':Heap} {a:Addr} {o:HO}
theorem gF.lt (x:gF P w H h a o):a<h.objs.size:=by
 cases o with
 | lst xs=>obtain ⟨_,_,_,_,e⟩:=x;exact Heap.lt_size e
 | tup xs=>obtain ⟨_,_,_,p⟩:=x;exact p.tup.lt
 | dK kvs=>obtain ⟨_,_,_,_,o,_,_,e,_⟩:=x;exact Heap.lt_size e
 | dT kvs=>obtain ⟨_,_,_,_,o,_,_,e,_⟩:=x;exact Heap.lt_size e
 | set S n=>obtain ⟨o,_,_,_,e,_⟩:=x;exact Heap.lt_size e
 | ins C dx fs=>obtain ⟨_,_,_,e,_⟩:=x;exact Heap.lt_size e
 | own y=>obtain ⟨_,e⟩:=x;exact Heap.lt_size e
 | xd fs=>obtain ⟨_,⟨_,_,_,e,_⟩,_⟩:=x;exact Heap.lt_size e
 | rng lo hi=>obtain ⟨_,_,_,e⟩:=x;exact Heap.lt_size e
 | frz ob u=>obtain ⟨e,_⟩:=x;exact Heap.lt_size e
 | tbl ps=>exact Heap.lt_size (show h.get? a=some _ from x)
 | met f y=>exact Heap.lt_size (show h.get? a=some _ from x)
 | ext φ=>obtain ⟨_,⟨_,e⟩,_⟩:=x;exact Heap.lt_size e
theorem Paired.aCb {α β:Type} {F G:α->β->Prop}:∀{l₁:List α} {l₂:List β},Paired F l₁ l₂->(∀a b,F a b->G a b)->Paired G l₁ l₂
 | _,_,.nil,_=>.nil
 | _,_,.cons r t,f=>.cons (f _ _ r) (Paired.aCb t f)
theorem gF.stay (x:gF P w H h a o) (k:∀b u,(b=a\/H b=some (.own a))->h.get? b=some u->h'.get? b=some u)
  (ho:∀b,H b=some (.own a)->H' b=some (.own a)) (ht:∀b xs,H b=some (.tup xs)->H' b=some (.tup xs)):gF P w H' h' a o:=by
 induction o with
 | lst xs=>obtain ⟨z,its,n,r,e⟩:=x;exact ⟨z,its,n,r,k _ _ (.inl rfl) e⟩
 | tup xs=>obtain ⟨z,its,r,ob,e,c⟩:=x;exact ⟨z,its,r,ob,k _ _ (.inl rfl) e,c⟩
 | dK kvs=>obtain ⟨z,y,vs,r,ob,es,ep,e,c⟩:=x;exact ⟨z,y,vs,r,ob,es,ep,k _ _ (.inl rfl) e,c⟩
 | dT kvs=>
  obtain ⟨z,y,xs,r,ob,es,ep,e,c⟩:=x;exact ⟨z,y,xs,Paired.aCb r fun p q z=>⟨z.1,ht _ _ z.2.1,z.2.2⟩,ob,es,ep,k _ _ (.inl rfl) e,c⟩
 | set S n=>obtain ⟨ob,es,ep,t,e,c⟩:=x;exact ⟨ob,es,ep,t,k _ _ (.inl rfl) e,c⟩
 | ins C dx fs=>
  obtain ⟨d,z,ne,e,mA,⟨od,es,ep,e2,c⟩,r⟩:=x;exact ⟨ho _ d,z,ne,k _ _ (.inl rfl) e,mA,⟨od,es,ep,k _ _ (.inr d) e2,c⟩,r⟩
 | own y=>obtain ⟨ob,e⟩:=x;exact ⟨ob,k _ _ (.inl rfl) e⟩
 | xd fs=>obtain ⟨mA,⟨od,es,ep,e,c⟩,r⟩:=x;exact ⟨mA,⟨od,es,ep,k _ _ (.inl rfl) e,c⟩,r⟩
 | rng lo hi=>obtain ⟨t,u,v,e⟩:=x;exact ⟨t,u,v,k _ _ (.inl rfl) e⟩
 | frz ob u ih=>obtain ⟨e,q⟩:=x;exact ⟨k _ _ (.inl rfl) e,ih q⟩
 | tbl ps=>
  have e:h.get? a=some {cls:=.none,data:=.fields ps}:=x;show h'.get? a=some {cls:=.none,data:=.fields ps};exact k a _ (.inl rfl) e
 | met f y=>
  have e:h.get? a=some (PySem.W.methodObj (.ref f) (.ref y)):=x;show h'.get? a=some (PySem.W.methodObj (.ref f) (.ref y));exact k a _ (.inl rfl) e
 | ext φ=>obtain ⟨p,⟨o,e⟩,st⟩:=x;exact ⟨st _ _ p fun o q=>k _ _ (.inl rfl) q,⟨o,k _ _ (.inl rfl) e⟩,st⟩
theorem HOk.lt (x:HOk P w H h) (e:H a=some o):a<h.objs.size:=(x a o e).lt
theorem HOk.fresh (x:HOk P w H h) (e:h.objs.size<=a):H a=none:=by
 cases q:H a with
 | none=>rfl
 | some u=>exact absurd (Nat.lt_of_lt_of_le (x.lt q) e) (Nat.lt_irrefl _)
theorem HOk.kept (x:HOk P w H h) (k:∀b u,h.get? b=some u->h'.get? b=some u):HOk P w H h':=fun a o e=>
 (x a o e).stay (fun b u _ q=>k b u q) (fun _ q=>q) fun _ _ q=>q
theorem HOk.laid (x:HOk P w H h) (k:∀b u,h.get? b=some u->h'.get? b=some u) (hp:h.objs.size<=a) (new:gF P w (upd H a o) h' a o):HOk P w (upd H a o) h':=fun b u e=>by
 have hn:=x.fresh hp;by_cases hb:b=a
 ·subst hb;rw [aL] at e;cases e;exact new
 ·rw [bI hb] at e;exact (x b u e).stay (fun c v _ q=>k c v q) (fun c q=>by rw [bI (cT q hn)];exact q) fun c xs q=>by rw [bI (cT q hn)];exact q
end
noncomputable def Rd (H:Hp) (a:Addr) (u:HO):Prop:=H a=some u\/∃o,H a=some (.frz o u)
theorem Rd.ok {P:Program} {w:World} {H:Hp} {h:Heap} {a:Addr} {u:HO} (r:Rd H a u) (x:HOk P w H h):gF P w H h a u:=by
 rcases r with r|⟨o,r⟩
 ·exact x a u r
 ·obtain ⟨_,q⟩:=x a _ r;exact q
noncomputable def Mut:Option HO->Prop
 | some (.lst _)=>True
 | some (.dK _)=>True
 | some (.dT _)=>True
 | some (.set _ _)=>True
 | some (.ins _ _ _)=>True
 | some (.ext _)=>True
 | _=>False
section
variable {P:Program} {w:World} {H:Hp} {h h':Heap} {x e:Addr} {o':HO}
theorem HOk.write (ok:HOk P w H h) (mu:Mut (H x)) (he:e=x\/H e=some (.own x)) (k:∀b u,b≠e->h.get? b=some u->h'.get? b=some u) (heo:∃u,h'.get? e=some u)
  (new:gF P w (upd H x o') h' x o'):HOk P w (upd H x o') h':=fun b u q=>by
 have nown:∀c y,H c=some (.own y)->c≠x:=fun c y r z=>by subst z;rw [r] at mu;exact mu
 have ntup:∀c xs,H c=some (.tup xs)->c≠x:=fun c xs r z=>by subst z;rw [r] at mu;exact mu
 by_cases hb:b=x
 ·subst hb;rw [aL] at q;cases q;exact new
 ·rw [bI hb] at q;by_cases hbe:b=e
  ·have q':H b=some (.own x):=by
    rcases he with z|z
    ·exact absurd (hbe.trans z) hb
    ·rw [hbe];exact z
   rw [q] at q';cases q';obtain ⟨v,hv⟩:=heo;exact ⟨v,by rw [hbe];exact hv⟩
  ·refine (ok b u q).stay (fun c v hc r=>k c v ?_ r) (fun c r=>by rw [bI (nown c b r)];exact r) fun c xs r=>by rw [bI (ntup c xs r)];exact r
   rcases hc with rfl|hc
   ·exact hbe
   ·rintro rfl;rcases he with z|z
    ·exact nown c b hc z
    ·rw [hc] at z;cases z;exact hb rfl
end
structure Un (fs ex:List Addr) (H H':Hp) (h h':Heap):Prop where
 keep:∀b o,h.get? b=some o->H b=none->b∉fs->b∉ex->h'.get? b=some o
 slot:∀b o,h.get? b=some o->H b=none->b∈fs->b∉ex->∃sl,h'.get? b=some {o with slots:=sl}
 free:∀b o,h.get? b=some o->H b=none->b∉ex->H' b=none
 there:∀b o,h.get? b=some o->b∉ex->∃o',h'.get? b=some o'
 tups:∀b xs,H b=some (.tup xs)->H' b=some (.tup xs)
 frzs:∀b o u,H b=some (.frz o u)->H' b=some (.frz o u)
 tbls:∀b ps,H b=some (.tbl ps)->∃more,H' b=some (.tbl (ps++more))
section
variable {fs fs' ex ex':List Addr} {H H1 H2:Hp} {h h1 h2 h':Heap} {a x e:Addr} {o:HO}
theorem Un.any (u:Un fs ex H H1 h h1) {b:Addr} {ob:Obj} (q:h.get? b=some ob) (n:H b=none) (hx:b∉ex):∃sl,h1.get? b=some {ob with slots:=sl}:=by
 by_cases hb:b∈fs
 ·exact u.slot b ob q n hb hx
 ·exact ⟨ob.slots,u.keep b ob q n hb hx⟩
theorem Un.kept (k:∀b u,h.get? b=some u->h'.get? b=some u):Un fs ex H H h h':=
 ⟨fun b ob q _ _ _=>k b ob q,fun b ob q _ _ _=>⟨ob.slots,k b ob q⟩,fun _ _ _ n _=>n,fun b ob q _=>⟨ob,k b ob q⟩,fun _ _ q=>q,fun _ _ _ q=>q,fun _ ps q=>⟨#[],by rw [q];simp⟩⟩
theorem Un.refl:Un fs ex H H h h:=Un.kept fun _ _ q=>q
theorem Un.laid (k:∀b u,h.get? b=some u->h'.get? b=some u) (hp:h.objs.size<=a) (hn:H a=none):Un fs ex H (upd H a o) h h' where
 keep:=fun b u q _ _ _=>k b u q
 slot:=fun b u q _ _ _=>⟨u.slots,k b u q⟩
 free:=fun b u q n _=>by rw [bI (Nat.ne_of_lt (Nat.lt_of_lt_of_le (Heap.lt_size q) hp))];exact n
 there:=fun b u q _=>⟨u,k b u q⟩
 tups:=fun b xs q=>by rw [bI (cT q hn)];exact q
 frzs:=fun b u xs q=>by rw [bI (cT q hn)];exact q
 tbls:=fun b ps q=>⟨#[],by rw [bI (cT q hn),q];simp⟩
theorem Un.write (mu:Mut (H x)) (he:e=x\/H e=some (.own x)) (k:∀b u,b≠e->h.get? b=some u->h'.get? b=some u) (heo:∃u,h'.get? e=some u):Un fs ex H (upd H x o) h h':=by
 have hx:∀b,H b=none->b≠x:=fun b n z=>by subst z;rw [n] at mu;exact mu
 have hb:∀b,H b=none->b≠e:=fun b n z=>by
  subst z;rcases he with r|r
  ·exact hx b n r
  ·rw [n] at r;cases r
 have hm:∀b u,H b=some u->¬Mut (some u)->b≠x:=fun b u q nm z=>by subst z;rw [q] at mu;exact nm mu
 refine ⟨fun b u q n _ _=>k b u (hb b n) q,fun b u q n _ _=>⟨u.slots,k b u (hb b n) q⟩,fun b u q n _=>by rw [bI (hx b n)];exact n,fun b u q _=>?_,
  fun b xs q=>by rw [bI (hm b _ q fun z=>z)];exact q,fun b u xs q=>by rw [bI (hm b _ q fun z=>z)];exact q,fun b ps q=>⟨#[],by rw [bI (hm b _ q fun z=>z),q];simp⟩⟩
 by_cases hbe:b=e
 ·subst hbe;exact heo
 ·exact ⟨u,k b u hbe q⟩
end
noncomputable def trk (h:Heap) (H:Hp):List Addr:=(List.range h.objs.size).filter fun a=>(H a).isSome
noncomputable def O6 (h:Heap) (H:Hp):Heap:=PySem.W.hideAll h (trk h H)
theorem GK (h:Heap) (H:Hp):(O6 h H).objs.size=h.objs.size:=PySem.W.hideAll_size _ _
theorem O7 {h:Heap} {H:Hp} {b:Addr} {o:Obj} (e:h.get? b=some o) (n:H b=none):(O6 h H).get? b=some o:=
 PySem.W.hideAll_get _ e fun hm=>by
  have q:(H b).isSome=true:=(List.mem_filter.mp hm).2;rw [n] at q;simp at q
theorem UJ {h:Heap} {H:Hp} {b:Addr} {o:Obj} (e:(O6 h H).get? b=some o):h.get? b=some o/\H b=none:=by
 have e':h.get? b=some o:=PySem.W.of_hideAll (trk h H) e;refine ⟨e',?_⟩;cases q:H b with
 | none=>rfl
 | some x=>
  have hm:b∈trk h H:=List.mem_filter.mpr ⟨List.mem_range.mpr (Heap.lt_size e'),by simp [q]⟩;have z:(O6 h H).get? b=none:=PySem.W.hideAll_none (trk h H) hm;rw [z] at e;cases e
end L2
namespace L2
open PySem PySem.Spec PyProof.Rows
structure Mod (K:PySem.W.Frag) (mg:Str->Option Value) (base:Heap):Prop where
 kin:K.In base
 glob:base.Ns mainGlobals mg
 blt:∃mb,base.Ns builtinsNs mb/\∀x:Str,x ≠ "__name__"->mb x=bootBuiltins x
 nolimit:base.NoLimit
/-- the context: a def's body (or a comprehension's block) running. base: fixed through the whole law; s₀, H₀: the entry; outer: the frames whose slots others may change (a def's callers); stack: all frames that run;
   ex: iterators that were made ahead of the entry and are walked here (a comprehension's); fn: the names whose cells were made at the entry (a def: all; a comprehension's block: its own); calm: not within an except suite; pn: pins that every state bears; xe: what is wanted of an exception that leaves the code -/
structure Cx where
 prog:Program
 w:World
 K:PySem.W.Frag
 mg:Str->Option Value
 base:Heap
 A:Around
 N:List Str
 s₀:Shared
 H₀:Hp
 env:Env
 outer:List Env
 stack:List Env
 ex:List Addr
 fn:Str->Bool
 calm:Bool
 pn:List (Addr×Obj)
 xe:Value->Shared->Prop
noncomputable def frs (l:List Env):List Addr:=l.filterMap (·.frame)
noncomputable abbrev Cx.fs (X:Cx):List Addr:=frs X.outer
noncomputable def Vis (sc:Scope) (x:Str):Prop:=sc.names.lookup x=some .local\/sc.names.lookup x=some .cell\/sc.names.lookup x=some .free
noncomputable def Loc (sc:Scope) (x:Str):Prop:=sc.names.lookup x=some .local\/sc.names.lookup x=some .cell
noncomputable def Look (env:Env) (h:Heap) (m:Str->Option Value) (x:Str) (u:Value):Prop:=
 (env.kindOf x=some .local/\m x=some u)\/((env.kindOf x=some .cell\/env.kindOf x=some .free)/\∃c,env.cells.lookup x=some c/\h.IsCell c (some u))
structure Cx.Ok (X:Cx):Prop where
 mod:Mod X.K X.mg X.base
 kind:X.env.scope.kind=.function
 glob:X.env.globals=mainGlobals
 blt:X.env.builtins=builtinsNs
 above:X.s₀.heap.objs.size<=X.env.locals
 inj:∀x y c,X.env.cells.lookup x=some c->X.env.cells.lookup y=some c->x=y
 has:∀x,(X.env.kindOf x=some .cell\/X.env.kindOf x=some .free)->∃c,X.env.cells.lookup x=some c
 cab:∀x c,X.fn x=true->X.env.cells.lookup x=some c->X.s₀.heap.objs.size<=c
 hd:X.calm=true->X.A.handled=none
 frames:X.A.frames=some X.stack
 stk:X.stack=X.outer\/(X.stack=X.env::X.outer/\X.env.frame=some X.env.locals)
 exf:∀b∈X.ex,b≠X.env.locals/\∀x c,X.env.cells.lookup x=some c->c≠b
 bs:∀b o,X.base.get? b=some o->X.s₀.heap.get? b=some o/\X.H₀ b=none
 bsz:X.base.objs.size<=X.s₀.heap.objs.size
 noex:∀b o,X.base.get? b=some o->b∉X.ex
 exfs:∀b∈X.ex,b∉X.fs
 GP:X.s₀.heap.FunFrames X.base X.outer
 frf:∀b∈X.fs,X.H₀ b=none
structure Inv (X:Cx) (pins:List (Addr×Obj)) (σ:List (Option V)) (H:Hp) (s:Shared):Prop where
 ok:X.Ok
 os:s.os=X.s₀.os
 bare:AllBare s.gens
 base:Un X.fs X.ex X.H₀ H X.s₀.heap s.heap
 loc:∃m,s.heap.Ns X.env.locals m/\∀(i:Nat) (x:Str) (v:V),X.N[i]?=some x->σ[i]?=some (some v)->Vis X.env.scope x->∃u,RelV v u/\Look X.env s.heap m x u
 cell:∀x c,X.env.cells.lookup x=some c->∃v,s.heap.IsCell c v
 free:H X.env.locals=none
 freeC:∀x c,X.env.cells.lookup x=some c->H c=none
 pin:∀p∈X.pn++pins,s.heap.get? p.1=some p.2/\H p.1=none/\p.1≠X.env.locals/\p.1∉X.fs/\∀v,p.2.data≠.cell v
 hok:HOk X.prog X.w H s.heap
 len:σ.length=X.N.length
section
variable {X:Cx} {pins:List (Addr×Obj)} {σ:List (Option V)} {H H':Hp} {s:Shared} {h':Heap}
theorem Cx.Ok.aE0 (ok:X.Ok) {b:Addr} {o:Obj} (e:X.base.get? b=some o):b∉X.fs:=fun hb=>by
 have:=(ok.GP.mem hb).1;rw [e] at this;cases this
theorem Inv.bs (I:Inv X pins σ H s):∀b o,X.base.get? b=some o->s.heap.get? b=some o/\H b=none:=fun b o e=>
 ⟨I.base.keep b o (I.ok.bs b o e).1 (I.ok.bs b o e).2 (I.ok.aE0 e) (I.ok.noex b o e),I.base.free b o (I.ok.bs b o e).1 (I.ok.bs b o e).2 (I.ok.noex b o e)⟩
theorem Inv.bk (I:Inv X pins σ H s):∀b o,X.base.get? b=some o->s.heap.get? b=some o:=fun b o e=>(I.bs b o e).1
theorem Inv.mod (I:Inv X pins σ H s):Mod X.K X.mg X.base:=I.ok.mod
theorem Inv.kIn (I:Inv X pins σ H s):X.K.In s.heap:=I.ok.mod.kin.keeps I.bk
theorem Inv.lt (I:Inv X pins σ H s):X.env.locals<s.heap.objs.size:=let ⟨_,hn,_⟩:=I.loc;hn.lt
theorem Inv.sz (I:Inv X pins σ H s):X.s₀.heap.objs.size<=s.heap.objs.size:=Nat.le_trans I.ok.above (Nat.le_of_lt I.lt)
theorem Inv.aDn (I:Inv X pins σ H s) {a:Addr} (h:s.heap.objs.size<=a):a∉X.fs:=fun hb=>by
 obtain ⟨_,o,ho,_⟩:=I.ok.GP.mem hb;exact absurd (Nat.lt_of_lt_of_le (Heap.lt_size ho) (Nat.le_trans I.sz h)) (Nat.lt_irrefl _)
theorem Inv.cne (I:Inv X pins σ H s):∀x c,X.env.cells.lookup x=some c->c≠X.env.locals:=fun x c e z=>by
 obtain ⟨v,o,ho,hd⟩:=I.cell x c e;obtain ⟨m,⟨o',es,ep,ho',hd',_⟩,_⟩:=I.loc;rw [z,ho'] at ho;cases ho;rw [hd'] at hd;cases hd
theorem Inv.GP (I:Inv X pins σ H s):s.heap.FunFrames X.base X.outer:=by
 have all:∀(l:List Env),(∀b∈frs l,b∈X.fs)->X.s₀.heap.FunFrames X.base l->s.heap.FunFrames X.base l:=by
  intro l;induction l with
  | nil=>intro _ _;trivial
  | cons env r ih=>
   intro hs hl;obtain ⟨hk,⟨L,o,hf,hn,ho,hd⟩,hr⟩:=hl;have hL:L∈X.fs:=hs L (by unfold frs;rw [List.filterMap_cons,hf];exact List.mem_cons_self);obtain ⟨sl,e⟩:=I.base.slot L o ho (I.ok.frf L hL) hL fun z=>I.ok.exfs L z hL
   exact ⟨hk,⟨L,_,hf,hn,e,hd⟩,ih (fun b hb=>hs b (by unfold frs;rw [List.filterMap_cons,hf];exact List.mem_cons_of_mem _ hb)) hr⟩
 exact all X.outer (fun _ hb=>hb) I.ok.GP
theorem Inv.stack (I:Inv X pins σ H s):s.heap.FunFrames X.base X.stack:=by
 rcases I.ok.stk with e|⟨e,hf⟩
 ·rw [e];exact I.GP
 ·rw [e];obtain ⟨m,hn,_⟩:=I.loc;refine .cons (by rw [I.ok.kind];decide) hf hn ?_ I.GP;exact Heap.get?_none_of_le (Nat.le_trans I.ok.bsz I.ok.above)
theorem Inv.qC (I:Inv X pins σ H s):∀b∈frs X.stack,b∈X.env.locals::X.fs:=fun b hb=>by
 rcases I.ok.stk with e|⟨e,hf⟩
 ·rw [e] at hb;exact List.mem_cons_of_mem _ hb
 ·rw [e] at hb;unfold frs at hb;rw [List.filterMap_cons,hf] at hb;exact hb
theorem Inv.GQ (I:Inv X pins σ H s):∀b∈frs X.stack,H b=none:=fun b hb=>by
 rcases List.mem_cons.mp (I.qC b hb) with e|hb
 ·rw [e];exact I.free
 ·obtain ⟨_,o,ho,_⟩:=I.ok.GP.mem hb;exact I.base.free b o ho (I.ok.frf b hb) fun z=>I.ok.exfs b z hb
theorem Inv.step {g':Array GenState} {t':Nat} {d':Drawn} {ch:List Addr} (I:Inv X pins σ H s)
  (hch:∀b∈ch,(b∈X.ex\/X.s₀.heap.objs.size<=b)/\b≠X.env.locals/\(∀x c,X.env.cells.lookup x=some c->c≠b)/\∀p∈X.pn++pins,p.1≠b)
  (keep:∀b o,b≠X.env.locals->b∉X.fs->b∉ch->s.heap.get? b=some o->H b=none->h'.get? b=some o)
  (slot:∀b o,b≠X.env.locals->b∈X.fs->b∉ch->s.heap.get? b=some o->H b=none->∃sl,h'.get? b=some {o with slots:=sl}) (free:∀b o,b∉ch->s.heap.get? b=some o->H b=none->H' b=none)
  (there:∀b o,b∉ch->s.heap.get? b=some o->∃o',h'.get? b=some o')
  (tups:∀b xs,H b=some (.tup xs)->H' b=some (.tup xs)) (frzs:∀b o u,H b=some (.frz o u)->H' b=some (.frz o u)) (tbls:∀b ps,H b=some (.tbl ps)->∃more,H' b=some (.tbl (ps++more)))
  (ns:∀m,s.heap.Ns X.env.locals m->h'.Ns X.env.locals m) (hok:HOk X.prog X.w H' h') (hg:AllBare g') :
  Inv X pins σ H' {s with heap:=h',gens:=g',drawn:=d',toks:=t'}:=by
 have neL:∀b o,X.s₀.heap.get? b=some o->b≠X.env.locals:=fun b o e=>Nat.ne_of_lt (Nat.lt_of_lt_of_le (Heap.lt_size e) I.ok.above)
 have neC:∀b o,X.s₀.heap.get? b=some o->b∉X.ex->b∉ch:=fun b o e hx hb=>by
  rcases (hch b hb).1 with z|z
  ·exact hx z
  ·exact absurd (Nat.lt_of_lt_of_le (Heap.lt_size e) z) (Nat.lt_irrefl _)
 have cellK:∀x c,X.env.cells.lookup x=some c->∀v,s.heap.IsCell c v->h'.IsCell c v:=fun x c e v ⟨o,ho,hd⟩=>by
  have nch:c∉ch:=fun z=>(hch c z).2.2.1 x c e rfl
  by_cases hc:c∈X.fs
  ·obtain ⟨sl,q⟩:=slot c o (I.cne x c e) hc nch ho (I.freeC x c e);exact ⟨_,q,hd⟩
  ·exact ⟨o,keep c o (I.cne x c e) hc nch ho (I.freeC x c e),hd⟩
 refine ⟨I.ok,I.os,hg,⟨fun b o e n hb hx=>?_,fun b o e n hb hx=>?_,fun b o e n hx=>?_,fun b o e hx=>?_,fun b xs e=>tups b xs (I.base.tups b xs e),fun b o xs e=>frzs b o xs (I.base.frzs b o xs e),fun b ps e=>?_⟩,?_,fun x c e=>?_,?_,fun x c e=>?_,fun p hp=>?_,hok,I.len⟩
 ·exact keep b o (neL b o e) hb (neC b o e hx) (I.base.keep b o e n hb hx) (I.base.free b o e n hx)
 ·obtain ⟨sl,e1⟩:=I.base.slot b o e n hb hx;obtain ⟨sl',e2⟩:=slot b _ (neL b o e) hb (neC b o e hx) e1 (I.base.free b o e n hx);exact ⟨sl',e2⟩
 ·obtain ⟨o',e1⟩:=I.base.there b o e hx;exact free b o' (neC b o e hx) e1 (I.base.free b o e n hx)
 ·obtain ⟨o',e1⟩:=I.base.there b o e hx;exact there b o' (neC b o e hx) e1
 ·obtain ⟨m1,e1⟩:=I.base.tbls b ps e;obtain ⟨m2,e2⟩:=tbls b _ e1;exact ⟨m1++m2,by rw [e2,Array.append_assoc]⟩
 ·obtain ⟨m,hn,hl⟩:=I.loc;refine ⟨m,ns m hn,fun i x v e1 e2 e3=>?_⟩;obtain ⟨u,r,l⟩:=hl i x v e1 e2 e3;refine ⟨u,r,?_⟩;rcases l with l|⟨k,c,e,z⟩
  ·exact .inl l
  ·exact .inr ⟨k,c,e,cellK x c e _ z⟩
 ·obtain ⟨v,z⟩:=I.cell x c e;exact ⟨v,cellK x c e v z⟩
 ·obtain ⟨m,⟨o,_,_,ho,_⟩,_⟩:=I.loc;exact free _ o (fun z=>(hch _ z).2.1 rfl) ho I.free
 ·obtain ⟨v,o,ho,hd⟩:=I.cell x c e;exact free c o (fun z=>(hch c z).2.2.1 x c e rfl) ho (I.freeC x c e)
 ·obtain ⟨e,n,ne,nf,d⟩:=I.pin p hp;have nch:p.1∉ch:=fun z=>(hch p.1 z).2.2.2 p hp rfl
  exact ⟨keep p.1 p.2 ne nf nch e n,free p.1 p.2 nch e n,ne,nf,d⟩
theorem Inv.un {t':Nat} (I:Inv X pins σ H s) (u:Un X.fs [] H H' s.heap h') (hok:HOk X.prog X.w H' h'):Inv X pins σ H' {s with heap:=h',toks:=t'}:=by
 obtain ⟨m,⟨o,es,ep,ho,r⟩,_⟩:=id I.loc;obtain ⟨sl,hL⟩:=u.any ho I.free (by simp);exact I.step (g':=s.gens) (d':=s.drawn) (ch:=[]) (fun _ z=>nomatch z) (fun b o _ hb _ e n=>u.keep b o e n hb (by simp)) (fun b o _ hb _ e n=>u.slot b o e n hb (by simp)) (fun b o _ e n=>u.free b o e n (by simp)) (fun b o _ e=>u.there b o e (by simp)) u.tups u.frzs u.tbls (fun m' hm=>by
  obtain ⟨o',es',ep',ho',r'⟩:=hm;rw [ho] at ho';cases ho';exact ⟨_,es',ep',hL,r'⟩) hok I.bare
theorem Inv.call {g':Array GenState} {t':Nat} {d':Drawn} {ch:List Addr} (I:Inv X pins σ H s) (u:Un (frs X.stack) ch H H' s.heap h') (hok:HOk X.prog X.w H' h') (hg:AllBare g')
  (hch:∀b∈ch,(b∈X.ex\/X.s₀.heap.objs.size<=b)/\b≠X.env.locals/\(∀x c,X.env.cells.lookup x=some c->c≠b)/\∀p∈X.pn++pins,p.1≠b) :
  Inv X pins σ H' {s with heap:=h',gens:=g',drawn:=d',toks:=t'}:=by
 obtain ⟨m,⟨o,es,ep,ho,r⟩,_⟩:=id I.loc;obtain ⟨sl,hL⟩:=u.any ho I.free fun z=>(hch _ z).2.1 rfl
 exact I.step (ch:=ch) hch (fun b o hL hb hc e n=>u.keep b o e n (fun z=>(List.mem_cons.mp (I.qC b z)).elim hL hb) hc) (fun b o _ _ hc e n=>u.any e n hc) (fun b o hc e n=>u.free b o e n hc) (fun b o hc e=>u.there b o e hc) u.tups u.frzs u.tbls (fun m' hm=>by
  obtain ⟨o',es',ep',ho',r'⟩:=hm;rw [ho] at ho';cases ho';exact ⟨_,es',ep',hL,r'⟩) hok hg
theorem Inv.turned {t':Nat} {it:Addr} (I:Inv X pins σ H s) (k:∀b o,b≠it->s.heap.get? b=some o->h'.get? b=some o) (hn:H it=none) (hL:it≠X.env.locals)
  (h1:it∈X.ex\/X.s₀.heap.objs.size<=it) (h2:∀x c,X.env.cells.lookup x=some c->c≠it) (h3:∀p∈X.pn++pins,p.1≠it):Inv X pins σ H {s with heap:=h',toks:=t'}:=by
 have nit:∀b u,H b=some u->b≠it:=fun b u e z=>by rw [z,hn] at e;cases e
 refine I.step (g':=s.gens) (d':=s.drawn) (ch:=[it]) (fun b hb=>?_) (fun b o _ _ hc e _=>k b o (fun z=>hc (by simp [z])) e) (fun b o _ _ hc e _=>⟨o.slots,k b o (fun z=>hc (by simp [z])) e⟩) (fun _ _ _ _ n=>n)
  (fun b o hc e=>⟨o,k b o (fun z=>hc (by simp [z])) e⟩) (fun _ _ e=>e) (fun _ _ _ e=>e) (fun b ps e=>⟨#[],by rw [e];simp⟩) (fun m hm=>?_) (fun b u e=>?_) I.bare
 ·have e:b=it:=by simpa using hb
  subst e;exact ⟨h1,hL,h2,h3⟩
 ·obtain ⟨o,es,ep,ho,r⟩:=hm;exact ⟨o,es,ep,k _ o (Ne.symm hL) ho,r⟩
 ·refine (I.hok b u e).stay (fun c v hc q=>k c v ?_ q) (fun _ q=>q) fun _ _ q=>q
  rcases hc with z|z
  ·rw [z];exact nit b u e
  ·exact nit c _ z
theorem Inv.tok (I:Inv X pins σ H s) (t:Nat):Inv X pins σ H {s with toks:=t}:=I.un (h':=s.heap) (t':=t) Un.refl I.hok
theorem Inv.kept {t':Nat} (I:Inv X pins σ H s) (k:∀b u,s.heap.get? b=some u->h'.get? b=some u):Inv X pins σ H {s with heap:=h',toks:=t'}:=I.un (Un.kept k) (I.hok.kept k)
theorem Inv.laid {a:Addr} {o:HO} {t':Nat} (I:Inv X pins σ H s) (k:∀b u,s.heap.get? b=some u->h'.get? b=some u) (hp:s.heap.objs.size<=a) (new:gF X.prog X.w (upd H a o) h' a o) :
  Inv X pins σ (upd H a o) {s with heap:=h',toks:=t'}:=I.un (Un.laid k hp (I.hok.fresh hp)) (I.hok.laid k hp new)
theorem Inv.write {x e:Addr} {o:HO} {t':Nat} (I:Inv X pins σ H s) (mu:Mut (H x)) (he:e=x\/H e=some (.own x)) (k:∀b u,b≠e->s.heap.get? b=some u->h'.get? b=some u) (heo:∃u,h'.get? e=some u)
  (new:gF X.prog X.w (upd H x o) h' x o):Inv X pins σ (upd H x o) {s with heap:=h',toks:=t'}:=I.un (Un.write mu he k heo) (I.hok.write mu he k heo new)
theorem Inv.weak {σ':List (Option V)} (I:Inv X pins σ H s) (hl:σ'.length=σ.length) (w:∀(i:Nat) v,σ'[i]?=some (some v)->σ[i]?=some (some v)):Inv X pins σ' H s:=
 ⟨I.ok,I.os,I.bare,I.base,let ⟨m,hn,hl'⟩:=I.loc;⟨m,hn,fun i x v e1 e2 e3=>hl' i x v e1 (w i v e2) e3⟩,I.cell,I.free,I.freeC,I.pin,I.hok,hl.trans I.len⟩
theorem Inv.vX {pins':List (Addr×Obj)} (I:Inv X pins σ H s) (h:∀p∈pins',s.heap.get? p.1=some p.2/\H p.1=none/\p.1≠X.env.locals/\p.1∉X.fs/\∀v,p.2.data≠.cell v):Inv X pins' σ H s:=
 ⟨I.ok,I.os,I.bare,I.base,I.loc,I.cell,I.free,I.freeC,fun p hp=>(List.mem_append.mp hp).elim (fun z=>I.pin p (List.mem_append_left _ z)) (h p),I.hok,I.len⟩
theorem x_ {N:List Str} (hN:N.Nodup) {i j:Nat} {x:Str} (a:N[i]?=some x) (b:N[j]?=some x):i=j:=by
 obtain ⟨h1,e1⟩:=List.getElem?_eq_some_iff.mp a;obtain ⟨h2,e2⟩:=List.getElem?_eq_some_iff.mp b;exact (List.getElem_inj hN).mp (e1.trans e2.symm)
theorem GR {M:Model} {A:Around} {E:Value->Shared->Prop} {i:Nat} {x:Str} {v:V} {u:Value} {Q:Unit->Shared->Prop} (I:Inv X pins σ H s) (hN:X.N.Nodup) (hi:X.N[i]?=some x) (hx:Loc X.env.scope x) (r:RelV v u)
  (h:∀s',Inv X pins (σ.set i (some v)) H s'->(∃a,Heap.SameBut a s.heap s'.heap/\(a=X.env.locals\/X.env.cells.lookup x=some a))->Q () s') (hf:X.fn x=true\/X.env.scope.names.lookup x=some .local:=by first|exact .inl rfl|exact .inr rfl|assumption):wpAny M A (storeName X.env x u) Q E s:=by
 obtain ⟨m,hn,hl⟩:=id I.loc;have hcls:(X.env.scope.kind==.class||(X.env.scope.kind==.module&&X.env.locals != X.env.globals))=false:=by rw [I.ok.kind];rfl
 have hiσ:i<σ.length:=by rw [I.len];exact (List.getElem?_eq_some_iff.mp hi).1
 have cne:=I.cne;have tracked:∀{a:Addr} {h':Heap},(∃o,s.heap.get? a=some o/\H a=none)->Heap.SameBut a s.heap h'->HOk X.prog X.w H h':=fun {a h'} ha hs b ob e=>by
  obtain ⟨_,_,hfree⟩:=ha;refine (I.hok b ob e).stay (fun c w' hc q=>(hs.2 c ?_).trans q) (fun _ q=>q) fun _ _ q=>q
  rintro rfl;rcases hc with rfl|hc
  ·rw [hfree] at e;cases e
  ·rw [hfree] at hc;cases hc
 rcases hx with hk|hk
 ·refine wpAny_storeName_local hk hn (fun h' hn' hs=>?_) hcls;obtain ⟨oL,_,_,hoL,_⟩:=id hn;refine h _ ⟨I.ok,I.os,I.bare,⟨fun b o e n hb hx=>?_,fun b o e n hb hx=>?_,I.base.free,fun b o e hx=>?_,I.base.tups,I.base.frzs,I.base.tbls⟩,⟨_,hn',fun j y v' e1 e2 e3=>?_⟩,fun y c e=>?_,I.free,I.freeC,fun p hp=>?_,tracked ⟨oL,hoL,I.free⟩ hs,by simpa using I.len⟩ ⟨_,hs,.inl rfl⟩
  ·exact (hs.2 b (Nat.ne_of_lt (Nat.lt_of_lt_of_le (Heap.lt_size e) I.ok.above))).trans (I.base.keep b o e n hb hx)
  ·obtain ⟨sl,e1⟩:=I.base.slot b o e n hb hx;exact ⟨sl,(hs.2 b (Nat.ne_of_lt (Nat.lt_of_lt_of_le (Heap.lt_size e) I.ok.above))).trans e1⟩
  ·obtain ⟨o',e1⟩:=I.base.there b o e hx;exact ⟨o',(hs.2 b (Nat.ne_of_lt (Nat.lt_of_lt_of_le (Heap.lt_size e) I.ok.above))).trans e1⟩
  ·by_cases hj:j=i
   ·subst hj;rw [hi] at e1;cases e1;rw [List.getElem?_set_self hiσ] at e2;cases e2;exact ⟨u,r,.inl ⟨hk,by simp⟩⟩
   ·rw [List.getElem?_set_ne (Ne.symm hj)] at e2;obtain ⟨u',r',q⟩:=hl j y v' e1 e2 e3;refine ⟨u',r',?_⟩;rcases q with ⟨k,e⟩|⟨k,c,e,z⟩
    ·refine .inl ⟨k,?_⟩;have:y≠x:=fun e=>hj (x_ hN e1 (e▸hi))
     simp [this,e]
    ·exact .inr ⟨k,c,e,z.sameBut hs (cne y c e)⟩
  ·obtain ⟨w',z⟩:=I.cell y c e;exact ⟨w',z.sameBut hs (cne y c e)⟩
  ·obtain ⟨e,n,ne,nf,d⟩:=I.pin p hp;exact ⟨(hs.2 p.1 ne).trans e,n,ne,nf,d⟩
 ·have hfn:X.fn x=true:=by
   rcases hf with z|z
   ·exact z
   ·rw [z] at hk;cases hk
  obtain ⟨c,hc⟩:=I.ok.has x (.inl hk);obtain ⟨w',z⟩:=I.cell x c hc;refine wpAny_storeName_cell I.ok.kind hk hc z (fun h' hc' hs=>?_);obtain ⟨oc,hoc,hocd⟩:=id z;refine h {s with heap:=h'} ⟨I.ok,I.os,I.bare,⟨fun b o e n hb hx=>?_,fun b o e n hb hx=>?_,I.base.free,fun b o e hx=>?_,I.base.tups,I.base.frzs,I.base.tbls⟩,⟨m,hn.sameBut hs (Ne.symm (cne x c hc)),fun j y v' e1 e2 e3=>?_⟩,fun y c' e=>?_,I.free,I.freeC,fun p hp=>?_,tracked ⟨oc,hoc,I.freeC x c hc⟩ hs,by simpa using I.len⟩ ⟨c,hs,.inr hc⟩
  ·exact (hs.2 b (Nat.ne_of_lt (Nat.lt_of_lt_of_le (Heap.lt_size e) (I.ok.cab x c hfn hc)))).trans (I.base.keep b o e n hb hx)
  ·obtain ⟨sl,e1⟩:=I.base.slot b o e n hb hx;exact ⟨sl,(hs.2 b (Nat.ne_of_lt (Nat.lt_of_lt_of_le (Heap.lt_size e) (I.ok.cab x c hfn hc)))).trans e1⟩
  ·obtain ⟨o',e1⟩:=I.base.there b o e hx;exact ⟨o',(hs.2 b (Nat.ne_of_lt (Nat.lt_of_lt_of_le (Heap.lt_size e) (I.ok.cab x c hfn hc)))).trans e1⟩
  ·by_cases hj:j=i
   ·subst hj;rw [hi] at e1;cases e1;rw [List.getElem?_set_self hiσ] at e2;cases e2;exact ⟨u,r,.inr ⟨.inl hk,c,hc,hc'⟩⟩
   ·rw [List.getElem?_set_ne (Ne.symm hj)] at e2;obtain ⟨u',r',q⟩:=hl j y v' e1 e2 e3;refine ⟨u',r',?_⟩;rcases q with q|⟨k,c',e,z'⟩
    ·exact .inl q
    ·refine .inr ⟨k,c',e,z'.sameBut hs ?_⟩;rintro rfl;exact hj (x_ hN e1 (I.ok.inj _ _ _ e hc▸hi))
  ·by_cases hcc:c'=c
   ·subst hcc;exact ⟨_,hc'⟩
   ·obtain ⟨w2,z2⟩:=I.cell y c' e;exact ⟨w2,z2.sameBut hs hcc⟩
  ·obtain ⟨e,n,ne,nf,d⟩:=I.pin p hp;refine ⟨(hs.2 p.1 ?_).trans e,n,ne,nf,d⟩;intro q;rw [q,hoc] at e;have q':oc=p.2:=Option.some.inj e;exact d w' (by rw [<-q'];exact hocd)
theorem yC {M:Model} {A:Around} {E:Value->Shared->Prop} {i:Nat} {x:Str} {v:V} {u:Value} {Q:Unit->Shared->Prop} (I:Inv X pins σ H s) (hN:X.N.Nodup) (hi:X.N[i]?=some x) (hx:Loc X.env.scope x) (r:RelV v u)
  (h:∀s',Inv X pins (σ.set i (some v)) H s'->Q () s') (hf:X.fn x=true\/X.env.scope.names.lookup x=some .local:=by first|exact .inl rfl|exact .inr rfl|assumption):wpAny M A (storeName X.env x u) Q E s:=
 GR I hN hi hx r (fun s' I' _=>h s' I') hf
end
noncomputable abbrev XK:=Value->Option Addr->Hp->Prop
noncomputable abbrev St:=List (Option V)
noncomputable abbrev VK:=V->Hp->Prop
noncomputable abbrev TE:=St->Hp->VK->Prop
noncomputable abbrev TT:=St->Hp->(Bool->Hp->Prop)->Prop
noncomputable abbrev TA:=St->Hp->(List V->Hp->Prop)->Prop
structure Ends where
 nx:St->Hp->Prop
 rt:VK
 bk:St->Hp->Prop:=fun _ _=>False
 ct:St->Hp->Prop:=fun _ _=>False
noncomputable abbrev TS:=Ends->St->Hp->Prop
noncomputable def EP (X:Cx) (pins:List (Addr×Obj)) (σ:St) (Q:VK) (u:Value) (s':Shared):Prop:=∃v H',Inv X pins σ H' s'/\RelV v u/\Q v H'
noncomputable def TP (X:Cx) (pins:List (Addr×Obj)) (σ:St) (Q:Bool->Hp->Prop) (b:Bool) (s':Shared):Prop:=∃H',Inv X pins σ H' s'/\Q b H'
noncomputable def AP (X:Cx) (pins:List (Addr×Obj)) (σ:St) (Q:List V->Hp->Prop) (us:List Value) (s':Shared):Prop:=∃vs H',Inv X pins σ H' s'/\Vals vs us/\Q vs H'
noncomputable def SP (X:Cx) (pins:List (Addr×Obj)) (D:Ends) (f:Flow) (s':Shared):Prop:=
 match f with
 | .next=>∃σ' H',Inv X pins σ' H' s'/\D.nx σ' H'
 | .brk=>∃σ' H',Inv X pins σ' H' s'/\D.bk σ' H'
 | .cont=>∃σ' H',Inv X pins σ' H' s'/\D.ct σ' H'
 | .ret u=>∃v σ' H',Inv X pins σ' H' s'/\RelV v u/\D.rt v H'
noncomputable def PE (X:Cx) (e:Expr) (t:TE):Prop:=
 ∀(pins:List (Addr×Obj)) (s:Shared) (σ:St) (H:Hp) (Q:VK),Inv X pins σ H s->t σ H Q->wpAny (model X.prog X.w) X.A (eval e X.env) (EP X pins σ Q) X.xe s
noncomputable def PT (X:Cx) (e:Expr) (t:TT):Prop:=
 ∀(pins:List (Addr×Obj)) (s:Shared) (σ:St) (H:Hp) (Q:Bool->Hp->Prop),Inv X pins σ H s->t σ H Q->wpAny (model X.prog X.w) X.A (isTrue e X.env (eval e X.env)) (TP X pins σ Q) X.xe s
noncomputable def PW (X:Cx) (e:Expr) (t:TT):Prop:=
 ∀(whole:Sem Value) (pins:List (Addr×Obj)) (s:Shared) (σ:St) (H:Hp) (Q:Bool->Hp->Prop),Inv X pins σ H s->t σ H Q->wpAny (model X.prog X.w) X.A (isTrue e X.env whole) (TP X pins σ Q) X.xe s
theorem PW.pt {X:Cx} {e:Expr} {t:TT} (h:PW X e t):PT X e t:=h _
noncomputable def PA (X:Cx) (es:List Expr) (t:TA):Prop:=
 ∀(pos:Pos) (pins:List (Addr×Obj)) (s:Shared) (σ:St) (H:Hp) (Q:List V->Hp->Prop),Inv X pins σ H s->t σ H Q->wpAny (model X.prog X.w) X.A (spliced (backTo pos (starEach es X.env))) (AP X pins σ Q) X.xe s
noncomputable def PS (X:Cx) (st:Stmt) (t:TS):Prop:=
 ∀(pins:List (Addr×Obj)) (s:Shared) (σ:St) (H:Hp) (D:Ends),Inv X pins σ H s->t D σ H->wpAny (model X.prog X.w) X.A (exec st X.env) (SP X pins D) X.xe s
noncomputable def PSs (X:Cx) (st:List Stmt) (t:TS):Prop:=
 ∀(pins:List (Addr×Obj)) (s:Shared) (σ:St) (H:Hp) (D:Ends),Inv X pins σ H s->t D σ H->wpAny (model X.prog X.w) X.A (execs st X.env) (SP X pins D) X.xe s
theorem thn {α:Type} {t:Sem α} {Q Q':α->Shared->Prop} {M:Model} {A:Around} {E:Value->Shared->Prop} {s:Shared} (h:wpAny M A t Q E s) (hQ:∀a s,Q a s->Q' a s):wpAny M A t Q' E s:=wpAny_mono h hQ fun _ _ x=>x
end L2
namespace L2
open PySem PySem.Spec PyProof.Rows
section
variable {X:Cx}
noncomputable def aDo (i:Nat):TE:=fun σ H Q=>∃v,σ[i]?=some (some v)/\Q v H
noncomputable def tC (v:V):TE:=fun _ H Q=>Q v H
theorem eU {i:Nat} {x:Str} {pos:Pos} (hN:X.N[i]?=some x) (hv:Vis X.env.scope x) (hd:(x==("__debug__" : Str))=false:=by decide) (hcd:(x==("__classdict__" : Str))=false:=by decide):PE X (.Name x pos) (aDo i):=by
 intro pins s σ H Q I h;obtain ⟨v,e,h⟩:=h;obtain ⟨m,hn,hl⟩:=I.loc;obtain ⟨u,r,l⟩:=hl i x v hN e hv;have fin:EP X pins σ Q u s:=⟨v,H,I,r,h⟩
 rcases l with ⟨hk,hm⟩|⟨hk,c,hc,hcell⟩
 ·exact wpAny_Name (wpAny_loadName_local I.ok.kind hk hn hm fin) hd
 ·rcases hk with hk|hk
  ·exact wpAny_Name (wpAny_loadName_cell I.ok.kind hk hc hcell fin) hd
  ·exact wpAny_Name (wpAny_loadName_free I.ok.kind hk hc hcell fin hcd) hd
theorem Y5 {i j pos}:PE X (.Constant (.int i) j pos) (tC (.int i)):=fun _ _ _ H _ I h=>wpAny_Constant_int ⟨.int i,H,I.tok _,⟨_,rfl⟩,h⟩
theorem aCc {b j pos}:PE X (.Constant (.bool b) j pos) (tC (.bl b)):=fun _ _ _ H _ I h=>Constant_bool ⟨.bl b,H,I,rfl,h⟩
theorem Y6 {j pos}:PE X (.Constant .none j pos) (tC .non):=fun _ _ _ H _ I h=>Constant_none ⟨.non,H,I,rfl,h⟩
theorem Y7 {x j pos}:PE X (.Constant (.str x) j pos) (tC (.str x)):=fun _ _ _ H _ I h=>Calls.Constant_str ⟨.str x,H,I.tok _,⟨_,rfl⟩,h⟩
noncomputable def Gl (X:Cx) (x:Str):Prop:=X.env.kindOf x=some .globalImplicit
theorem UL {E:Value->Shared->Prop} {pins:List (Addr×Obj)} {s:Shared} {σ:St} {H:Hp} {x:Str} {u:Value} {pos:Pos} {Q:Value->Shared->Prop} (I:Inv X pins σ H s) (hg:Gl X x) (hm:X.mg x=some u) (h:Q u s)
  (hd:(x==("__debug__" : Str))=false:=by decide):wpAny (model X.prog X.w) X.A (eval (.Name x pos) X.env) Q E s:=
 Calls.Name_function_global I.ok.kind hg (Calls.loadGlobal_global (by rw [I.ok.glob];exact I.mod.glob.keeps I.bk) hm h) hd
theorem tV {E:Value->Shared->Prop} {pins:List (Addr×Obj)} {s:Shared} {σ:St} {H:Hp} {x:Str} {u:Value} {pos:Pos} {Q:Value->Shared->Prop} (I:Inv X pins σ H s) (hg:Gl X x) (hm:X.mg x=none) (hv:bootBuiltins x=some u) (h:Q u s)
  (hn:x ≠ "__name__":=by decide) (hd:(x==("__debug__" : Str))=false:=by decide):wpAny (model X.prog X.w) X.A (eval (.Name x pos) X.env) Q E s:=by
 obtain ⟨mb,h1,h2⟩:=I.mod.blt;exact Calls.Name_function_global I.ok.kind hg (Calls.loadGlobal_builtin (by rw [I.ok.glob];exact I.mod.glob.keeps I.bk) hm (by rw [I.ok.blt];exact h1.keeps I.bk) ((h2 x hn).trans hv) h) hd
theorem vY {x:Str} {v:V} {u:Value} {pos:Pos} (hg:Gl X x) (hm:X.mg x=none) (hv:bootBuiltins x=some u) (r:RelV v u) (hn:x ≠ "__name__":=by decide) (hd:(x==("__debug__" : Str))=false:=by decide):PE X (.Name x pos) (tC v):=
 fun _ _ _ H _ I h=>tV I hg hm hv ⟨v,H,I,r,h⟩ hn hd
variable {a b:Expr} {ta tb:TE} {pos:Pos}
variable {tA tB':TT} {rest:List Expr}
noncomputable def aE1 (t u:TT):TT:=fun σ H Q=>t σ H fun c H1=>if c=true then u σ H1 Q else Q false H1
noncomputable def tOr (t u:TT):TT:=fun σ H Q=>t σ H fun c H1=>if c=true then Q true H1 else u σ H1 Q
noncomputable def aE2 (t:TT):TT:=fun σ H Q=>t σ H fun c H1=>Q (!c) H1
theorem UT (ha:PT X a tA):PW X (.BoolOp .And [a] pos) tA:=by
 intro wh pins s σ H Q I h;refine isTrue_and (thn (ha pins s σ H Q I h) fun c s1 e=>?_);cases c with
 | true=>exact isTrue_and_nil e
 | false=>exact e
theorem Y8 (ha:PT X a tA):PW X (.BoolOp .Or [a] pos) tA:=by
 intro wh pins s σ H Q I h;refine isTrue_or (thn (ha pins s σ H Q I h) fun c s1 e=>?_);cases c with
 | false=>exact isTrue_or_nil e
 | true=>exact e
theorem Y9 (ha:PT X a tA) (hb:PW X (.BoolOp .And (b::rest) pos) tB'):PW X (.BoolOp .And (a::b::rest) pos) (aE1 tA tB'):=by
 intro wh pins s σ H Q I h;refine isTrue_and (thn (ha pins s σ H _ I h) fun c s1 ⟨H1,I1,q1⟩=>?_);cases c with
 | true=>exact hb wh pins s1 σ H1 Q I1 q1
 | false=>exact ⟨H1,I1,q1⟩
theorem aCd (ha:PT X a tA) (hb:PW X (.BoolOp .Or (b::rest) pos) tB'):PW X (.BoolOp .Or (a::b::rest) pos) (tOr tA tB'):=by
 intro wh pins s σ H Q I h;refine isTrue_or (thn (ha pins s σ H _ I h) fun c s1 ⟨H1,I1,q1⟩=>?_);cases c with
 | true=>exact ⟨H1,I1,q1⟩
 | false=>exact hb wh pins s1 σ H1 Q I1 q1
theorem Y_ (ha:PT X a tA):PT X (.UnaryOp .Not a pos) (aE2 tA):=by
 intro pins s σ H Q I h;exact isTrue_not (ha pins s σ H (fun c H1=>Q (!c) H1) I h)
noncomputable def aCe (ta tb:TE):TE:=fun σ H Q=>ta σ H fun x H1=>∃c,x=.bl c/\if c=true then tb σ H1 Q else Q (.bl false) H1
noncomputable def aE3 (ta tb:TE):TE:=fun σ H Q=>ta σ H fun x H1=>∃c,x=.bl c/\if c=true then Q (.bl true) H1 else tb σ H1 Q
theorem ZC {op} {t:TE} (h:PE X a t):PE X (.BoolOp op [a] pos) t:=fun pins s σ H Q I hw=>BoolOp_one (h pins s σ H Q I hw)
theorem ZD (ha:PE X a ta) (hb:PE X (.BoolOp .And (b::rest) pos) tb):PE X (.BoolOp .And (a::b::rest) pos) (aCe ta tb):=by
 intro pins s σ H Q I h;refine BoolOp_and (thn (ha pins s σ H _ I h) fun v s1 ⟨x,H1,I1,r1,q1⟩=>?_);obtain ⟨c,rfl,q1⟩:=q1;cases r1;refine wpAny_truthy_bool ?_;cases c with
 | true=>exact hb pins s1 σ H1 Q I1 q1
 | false=>exact ⟨.bl false,H1,I1,rfl,q1⟩
theorem aCf (ha:PE X a ta) (hb:PE X (.BoolOp .Or (b::rest) pos) tb):PE X (.BoolOp .Or (a::b::rest) pos) (aE3 ta tb):=by
 intro pins s σ H Q I h;refine BoolOp_or (thn (ha pins s σ H _ I h) fun v s1 ⟨x,H1,I1,r1,q1⟩=>?_);obtain ⟨c,rfl,q1⟩:=q1;cases r1;refine wpAny_truthy_bool ?_;cases c with
 | false=>exact hb pins s1 σ H1 Q I1 q1
 | true=>exact ⟨.bl true,H1,I1,rfl,q1⟩
end
end L2
namespace L2
open PySem PySem.Spec PyProof.Rows
noncomputable def SqL (K:PySem.W.Frag) (H:Hp) (a:Addr) (xs:List V):Prop:=
 Rd H a (.lst xs)\/
  ∃(o:Obj) (its:Array Value) (n:Nat),K.lookup a=some o/\o.cls=.type "list"/\o.dict=none/\o.data=.seq its n/\its.size<=sizeLine/\Vals xs its.toList
noncomputable def SqT (K:PySem.W.Frag) (H:Hp) (a:Addr) (xs:List V):Prop:=
 Rd H a (.tup xs)\/
  ∃(o:Obj) (its:Array Value) (n:Nat),K.lookup a=some o/\o.cls=.type "tuple"/\o.data=.seq its n/\its.size<=sizeLine/\Vals xs its.toList
noncomputable def aE4:Value->Option V
 | .none=>some .non
 | .bool b=>some (.bl b)
 | .int i _=>some (.int i)
 | .str x _=>some (.str x)
 | .bytes b _=>some (.byt b)
 | .float b _=>some (.flt b)
 | .ref a=>some (.ref a)
 | .type n=>some (.ty n)
 | _=>none
theorem RelV.abs {x:V} {u:Value} (r:RelV x u):aE4 u=some x:=by
 cases x with
 | non=>cases r;rfl
 | bl _=>cases r;rfl
 | int _=>obtain ⟨t,rfl⟩:=r;rfl
 | str _=>obtain ⟨t,rfl⟩:=r;rfl
 | byt _=>obtain ⟨t,rfl⟩:=r;rfl
 | flt _=>obtain ⟨t,rfl⟩:=r;rfl
 | ref _=>cases r;rfl
 | ty _=>cases r;rfl
theorem RelV.inj {x y:V} {u:Value} (r:RelV x u) (q:RelV y u):x=y:=Option.some.inj (r.abs.symm.trans q.abs)
theorem Vals.inj:∀{xs ys:List V} {us:List Value},Vals xs us->Vals ys us->xs=ys
 | _,_,_,.nil,.nil=>rfl
 | _,_,_,.cons r t,.cons r' t'=>by rw [r.inj r',Vals.inj t t']
section
variable {X:Cx} {pins:List (Addr×Obj)} {σ:St} {H:Hp} {s:Shared} {a:Addr} {xs ys:List V}
theorem SqL.of {K:PySem.W.Frag} (h:H a=some (.lst xs)):SqL K H a xs:=.inl (.inl h)
theorem SqT.of {K:PySem.W.Frag} (h:H a=some (.tup xs)):SqT K H a xs:=.inl (.inl h)
theorem Inv.list (I:Inv X pins σ H s) (h:SqL X.K H a xs):∃its:List Value,Vals xs its/\PlainL s.heap a its.toArray/\xs.length<=sizeLine:=by
 rcases h with h|⟨o,its,n,hk,hc,hd,hs,hz,r⟩
 ·obtain ⟨z,its,n,r,e⟩:=h.ok I.hok;exact ⟨its,r,⟨_,n,e,rfl,rfl,rfl⟩,z⟩
 ·refine ⟨its.toList,r,⟨o,n,I.kIn a o hk,hc,hd,by simpa using hs⟩,?_⟩;have e:=r.length;simp only [Array.length_toList] at e;lia
theorem Inv.tuple (I:Inv X pins σ H s) (h:SqT X.K H a xs):∃its:List Value,Vals xs its/\IsTup s.heap a its.toArray/\xs.length<=sizeLine:=by
 rcases h with h|⟨o,its,n,hk,hc,hs,hz,r⟩
 ·obtain ⟨z,its,r,p⟩:=h.ok I.hok;exact ⟨its,r,p.tup,z⟩
 ·refine ⟨its.toList,r,⟨o,I.kIn a o hk,hc,n,by simpa using hs⟩,?_⟩;have e:=r.length;simp only [Array.length_toList] at e;lia
theorem Inv.O8 (I:Inv X pins σ H s) (h:SqL X.K H a xs) (h':SqL X.K H a ys):xs=ys:=by
 obtain ⟨its,r,⟨o,n,e,_,_,d⟩,_⟩:=I.list h;obtain ⟨its',r',⟨o',n',e',_,_,d'⟩,_⟩:=I.list h';rw [e] at e';cases e';rw [d] at d';injection d' with d1 _
 have:its=its':=by simpa using congrArg Array.toList d1
 subst this;exact r.inj r'
theorem Inv.GX (I:Inv X pins σ H s) (h:SqT X.K H a xs) (h':SqT X.K H a ys):xs=ys:=by
 obtain ⟨its,r,⟨o,e,_,n,d⟩,_⟩:=I.tuple h;obtain ⟨its',r',⟨o',e',_,n',d'⟩,_⟩:=I.tuple h';rw [e] at e';cases e';rw [d] at d';injection d' with d1 _
 have:its=its':=by simpa using congrArg Array.toList d1
 subst this;exact r.inj r'
end
noncomputable abbrev Cx.wish (X:Cx) (E:Value->Shared->Prop):Cx:={X with xe:=E}
noncomputable abbrev Cx.nox (X:Cx):Cx:=X.wish fun _ _=>False
theorem Cx.Ok.wish {X:Cx} (ok:X.Ok) (E:Value->Shared->Prop):(X.wish E).Ok:=
 ⟨ok.mod,ok.kind,ok.glob,ok.blt,ok.above,ok.inj,ok.has,ok.cab,ok.hd,ok.frames,ok.stk,ok.exf,ok.bs,ok.bsz,ok.noex,ok.exfs,ok.GP,ok.frf⟩
theorem Cx.Ok.mO {X:Cx} {E:Value->Shared->Prop} (ok:(X.wish E).Ok):X.Ok:=
 ⟨ok.mod,ok.kind,ok.glob,ok.blt,ok.above,ok.inj,ok.has,ok.cab,ok.hd,ok.frames,ok.stk,ok.exf,ok.bs,ok.bsz,ok.noex,ok.exfs,ok.GP,ok.frf⟩
section
variable {X:Cx} {pins:List (Addr×Obj)} {σ:St} {H:Hp} {s:Shared} {E:Value->Shared->Prop}
theorem Inv.wish (I:Inv X pins σ H s) (E:Value->Shared->Prop):Inv (X.wish E) pins σ H s:=⟨I.ok.wish E,I.os,I.bare,I.base,I.loc,I.cell,I.free,I.freeC,I.pin,I.hok,I.len⟩
theorem Inv.mO (I:Inv (X.wish E) pins σ H s):Inv X pins σ H s:=⟨I.ok.mO,I.os,I.bare,I.base,I.loc,I.cell,I.free,I.freeC,I.pin,I.hok,I.len⟩
theorem SP.mO {D:Ends} {f:Flow} {s':Shared} (h:SP (X.wish E) pins D f s'):SP X pins D f s':=by
 cases f with
 | next=>obtain ⟨σ',H',I,q⟩:=h;exact ⟨σ',H',I.mO,q⟩
 | brk=>obtain ⟨σ',H',I,q⟩:=h;exact ⟨σ',H',I.mO,q⟩
 | cont=>obtain ⟨σ',H',I,q⟩:=h;exact ⟨σ',H',I.mO,q⟩
 | ret u=>obtain ⟨v,σ',H',I,r,q⟩:=h;exact ⟨v,σ',H',I.mO,r,q⟩
theorem PSs.nox {st:List Stmt} {t:TS} (h:PSs X.nox st t):PSs X st t:=fun pins s σ H D I hw=>
 wpAny_mono (h pins s σ H D (I.wish _) hw) (fun _ _ q=>q.mO) fun _ _ z=>False.elim z
end
section
variable {X:Cx} {st:Stmt} {rest:List Stmt} {t u:TS} {e:Expr} {te:TE} {pos:Pos}
noncomputable def aCg:TS:=fun D σ H=>D.nx σ H
noncomputable def aDp (t u:TS):TS:=fun D σ H=>t {D with nx:=u D} σ H
theorem UV:PSs X [] aCg:=fun _ _ σ H _ I h=>wpAny_execs_nil ⟨σ,H,I,h⟩
theorem O9 (h1:PS X st t) (h2:PSs X rest u):PSs X (st::rest) (aDp t u):=by
 intro pins s σ H D I h;refine wpAny_execs_cons (thn (h1 pins s σ H {D with nx:=u D} I h) fun f s1 q=>?_);cases f with
 | next=>
  obtain ⟨σ',H',I',q⟩:=q;exact h2 pins s1 σ' H' D I' q
 | ret v=>exact q
 | brk=>exact q
 | cont=>exact q
theorem UW (h1:PS X st t):PSs X [st] t:=by
 intro pins s σ H D I h;refine wpAny_execs_cons (thn (h1 pins s σ H D I h) fun f s1 q=>?_);cases f with
 | next=>exact wpAny_execs_nil q
 | ret v=>exact q
 | brk=>exact q
 | cont=>exact q
theorem Inv.quiet {pins:List (Addr×Obj)} {σ:St} {H:Hp} {s:Shared} (I:Inv X pins σ H s):interactive X.env=false:=by simp [interactive,I.ok.kind]
noncomputable def aCh (te:TE):TS:=fun D σ H=>te σ H fun _ H1=>D.nx σ H1
theorem U0 (he:PE X e te) (hs:swapsWith e none pos.line X.env=pure false:=by rfl):PS X (.Expr e pos) (aCh te):=by
 intro pins s σ H D I h;exact wpAny_Expr_any (thn (he pins s σ H _ I h) fun v s1 ⟨x,H1,I1,r1,q1⟩=>⟨σ,H1,I1,q1⟩) I.quiet hs
noncomputable def aE5 (te:TE):TS:=fun D σ H=>te σ H D.rt
theorem yD (he:PE X e te):PS X (.Return (some e) pos) (aE5 te):=by
 intro pins s σ H D I h;exact wpAny_Return_some (thn (he pins s σ H _ I h) fun v s1 ⟨x,H1,I1,r1,q1⟩=>⟨x,σ,H1,I1,r1,q1⟩)
noncomputable def aE6 (c:TT) (t u:TS):TS:=fun D σ H=>c σ H fun b H1=>if b=true then t D σ H1 else u D σ H1
theorem ZF {c:Expr} {a b:List Stmt} {tc:TT} (hc:PT X c tc) (ha:PSs X a t) (hb:PSs X b u):PS X (.If c a b pos) (aE6 tc t u):=by
 intro pins s σ H D I h;refine wpAny_If (thn (hc pins s σ H _ I h) fun d s1 ⟨H1,I1,q1⟩=>?_);cases d with
 | true=>exact ha pins s1 σ H1 D I1 q1
 | false=>exact hb pins s1 σ H1 D I1 q1
end
noncomputable abbrev TG:=V->St->Hp->(St->Hp->Prop)->Prop
noncomputable abbrev TGs:=List V->St->Hp->(St->Hp->Prop)->Prop
noncomputable def PG (X:Cx) (target:Expr) (t:TG):Prop:=
 ∀(pins:List (Addr×Obj)) (s:Shared) (σ:St) (H:Hp) (v:V) (u:Value) (Q:St->Hp->Prop),Inv X pins σ H s->RelV v u->t v σ H Q->
  wpAny (model X.prog X.w) X.A (assign target X.env u) (fun _ s'=>∃σ' H',Inv X pins σ' H' s'/\Q σ' H') X.xe s
noncomputable def PGs (X:Cx) (ts:List Expr) (t:TGs):Prop:=
 ∀(pins:List (Addr×Obj)) (s:Shared) (σ:St) (H:Hp) (vs:List V) (us:List Value) (Q:St->Hp->Prop),Inv X pins σ H s->Vals vs us->t vs σ H Q->
  wpAny (model X.prog X.w) X.A (assignInOrder ((assignEach ts X.env).map (·.2)) us) (fun _ s'=>∃σ' H',Inv X pins σ' H' s'/\Q σ' H') X.xe s
noncomputable abbrev aE7:=V->V->V->Hp->(Hp->Prop)->Prop
noncomputable def aE8 (X:Cx) (t:aE7):Prop:=
 ∀(pins:List (Addr×Obj)) (s:Shared) (σ:St) (H:Hp) (o i v:V) (ov iv u:Value) (Q:Hp->Prop),Inv X pins σ H s->RelV o ov->RelV i iv->RelV v u->t o i v H Q->
  wpAny (model X.prog X.w) X.A (setItem ov iv u) (fun _ s'=>∃H',Inv X pins σ H' s'/\Q H') X.xe s
section
variable {X:Cx} {pos:Pos}
noncomputable def pP (i:Nat):TG:=fun v σ H Q=>Q (σ.set i (some v)) H
theorem bR {i:Nat} {x:Str} (hN:X.N.Nodup) (hi:X.N[i]?=some x) (hx:Loc X.env.scope x) (hf:X.fn x=true\/X.env.scope.names.lookup x=some .local:=by first|exact .inl rfl|exact .inr rfl|assumption):PG X (.Name x pos) (pP i):=by
 intro pins s σ H v u Q I r h;exact wpAny_assign_Name (yC I hN hi hx r (fun s' I'=>⟨_,H,I',h⟩) hf)
noncomputable def aDq:TGs:=fun vs σ H Q=>vs=[]/\Q σ H
noncomputable def ZG (t:TG) (u:TGs):TGs:=fun vs σ H Q=>∃v r,vs=v::r/\t v σ H fun σ' H'=>u r σ' H' Q
theorem lQ:PGs X [] aDq:=by
 intro pins s σ H vs us Q I r h;obtain ⟨e,h⟩:=h;subst e;cases r;exact assignInOrder_nil ⟨σ,H,I,h⟩
theorem cY {e:Expr} {es:List Expr} {t:TG} {u:TGs} (h1:PG X e t) (h2:PGs X es u)
  (hs:(assignEach (e::es) X.env).map (·.2)=assign e X.env::(assignEach es X.env).map (·.2):=by rfl):PGs X (e::es) (ZG t u):=by
 intro pins s σ H vs us Q I r h;obtain ⟨v,vr,e1,h⟩:=h;subst e1;cases r with
 | cons r rr=>
  rw [hs];refine assignInOrder_cons (thn (h1 pins s σ H _ _ _ I r h) fun _ s1 ⟨σ1,H1,I1,q1⟩=>?_);exact h2 pins s1 σ1 H1 _ _ Q I1 rr q1
noncomputable def aCi (K:PySem.W.Frag) (n:Nat) (t:TGs):TG:=fun v σ H Q=>∃a xs,v=.ref a/\SqT K H a xs/\xs.length=n/\t xs σ H Q
theorem qD {es:List Expr} {k:Nat} {t:TGs} {n:Nat} (hc:X.calm=true) (h:PGs X es t)
  (hn:(assignEach es X.env).length=n:=by rfl) (hst:(assignEach es X.env).findIdx? (·.1)=none:=by rfl):PG X (.Tuple es k pos) (aCi X.K n t):=by
 intro pins s σ H v u Q I r hw;obtain ⟨a,xs,e1,hq,hl,hw⟩:=hw;subst e1;cases r;obtain ⟨its,rv,ht,hz⟩:=I.tuple hq;refine assign_Tuple_tuple (I.ok.hd hc) ht (by simp [hn,<-hl,rv.length]) hst fun h' hx=>?_
 have I1:Inv X pins σ H {s with heap:=h'}:=I.kept (t':=s.toks) fun b o e=>hx b o (Nat.ne_of_lt (Heap.lt_size e)) e
 exact h pins _ σ H xs _ Q I1 (by simpa using rv) hw
noncomputable def aBw (te:TE) (g:TG):TS:=fun D σ H=>te σ H fun x H1=>g x σ H1 D.nx
theorem GZ {i:Nat} {x:Str} {e:Expr} {te:TE} {pos':Pos} (hN:X.N.Nodup) (hi:X.N[i]?=some x) (hx:Loc X.env.scope x) (he:PE X e te) (hs:swapsWith e (some (.Name x pos')) pos.line X.env=pure false:=by rfl) (hf:X.fn x=true\/X.env.scope.names.lookup x=some .local:=by first|exact .inl rfl|exact .inr rfl|assumption) :
  PS X (.Assign [.Name x pos'] e pos) (aBw te (pP i)):=by
 intro pins s σ H D I h;refine wpAny_Assign_Name (thn (he pins s σ H _ I h) fun v s1 ⟨y,H1,I1,r1,q1⟩=>?_) hs;exact yC I1 hN hi hx r1 (fun s2 I2=>⟨_,H1,I2,q1⟩) hf
end
section
variable {X:Cx} {pos:Pos}
noncomputable def ZJ (c:TT) (tb:TS):TS:=fun D σ H=>∃W:Nat->St->Hp->Prop,(∃m,W m σ H)/\∀m σ H,W m σ H->
 c σ H fun b H1=>if b=true then ∃N:St->Hp->Prop,(∀σ' H',N σ' H'->∃m',m'<m/\W m' σ' H')/\tb {D with nx:=N,ct:=N,bk:=D.nx} σ H1 else D.nx σ H1
theorem O_ {c:Expr} {body:List Stmt} {tc:TT} {tb:TS} (hp:PassesOwn (model X.prog X.w) X.A X.env X.xe) (hc:PT X c tc) (hb:PSs X body tb):PS X (.While c body [] pos) (ZJ tc tb):=by
 intro pins s σ H D I h;obtain ⟨W,⟨m0,w0⟩,turn⟩:=h;refine wpAny_While (codeAny_whileLoop (fun n s'=>∃σ' H',Inv X pins σ' H' s'/\W n σ' H') ?_ m0 ⟨σ,H,I,w0⟩);rintro n s1 ⟨σ1,H1,I1,w1⟩;refine wpAny_passesOwn hp (thn (hc pins s1 σ1 H1 _ I1 (turn n σ1 H1 w1)) fun b s2 ⟨H2,I2,q2⟩=>?_);cases b with
 | true=>
  obtain ⟨N,hN,q2⟩:=q2;rw [if_pos rfl];refine wpAny_passesOwn hp (thn (hb pins s2 σ1 H2 _ I2 q2) fun f s3 q3=>?_);cases f with
  | next=>
   obtain ⟨σ3,H3,I3,n3⟩:=q3;obtain ⟨m',hm,w3⟩:=hN σ3 H3 n3;exact ⟨m',hm,σ3,H3,I3,w3⟩
  | cont=>
   obtain ⟨σ3,H3,I3,n3⟩:=q3;obtain ⟨m',hm,w3⟩:=hN σ3 H3 n3;exact ⟨m',hm,σ3,H3,I3,w3⟩
  | brk=>exact q3
  | ret v=>exact q3
 | false=>
  rw [if_neg Bool.false_ne_true];exact wpAny_execs_nil ⟨σ1,H2,I2,q2⟩
end
structure It where
 go:Nat->Hp->Prop
 yld:Nat->Hp->V->Hp->Prop
 stop:Nat->Hp->Prop
noncomputable def O1 (X:Cx) (pins:List (Addr×Obj)) (H:Hp) (b:Addr):Prop:=
 H b=none/\b≠X.env.locals/\b∉X.fs/\(b∈X.ex\/X.s₀.heap.objs.size<=b)/\(∀x c,X.env.cells.lookup x=some c->c≠b)/\∀p∈X.pn++pins,p.1≠b
theorem Inv.YK {X:Cx} {pins:List (Addr×Obj)} {σ:St} {H H':Hp} {s:Shared} {b:Addr} (I:Inv X pins σ H s) (hb:s.heap.objs.size<=b) (hn:H' b=none):O1 X pins H' b:=by
 refine ⟨hn,Nat.ne_of_gt (Nat.lt_of_lt_of_le I.lt hb),I.aDn hb,.inr (Nat.le_trans I.sz hb),fun x c e z=>?_,fun p hp z=>?_⟩
 ·obtain ⟨v,q⟩:=I.cell x c e;exact absurd (Nat.lt_of_lt_of_le q.lt (by rw [z];exact hb)) (Nat.lt_irrefl _)
 ·exact absurd (Nat.lt_of_lt_of_le (Heap.lt_size (I.pin p hp).1) (by rw [z];exact hb)) (Nat.lt_irrefl _)
structure Turn (P:Program) (w:World) (K:PySem.W.Frag) (tg:Expr) (J:It) (fp:List Addr) (it:Addr) (tn:Nat->Heap->Prop):Prop where
 mem:it∈fp
 obj:∀i h,tn i h->∀b∈fp,∃o,h.get? b=some o/\∀v,o.data≠.cell v
 keep:∀i h h',tn i h->(∀b∈fp,∀o,h.get? b=some o->h'.get? b=some o)->tn i h'
 item:∀(X:Cx),X.prog=P->X.w=w->X.K=K->X.calm=true->∀(i:Nat) (pins:List (Addr×Obj)) (s:Shared) (σ:St) (H:Hp) (E:Value->Shared->Prop),Inv X pins σ H s->(∀b∈fp,O1 X pins H b)->tn i s.heap->J.go i H->
  wpAny (model P w) X.A (pyNext (.ref it)) (fun r s1=>∃u,r=some u/\
   wpAny (model P w) X.A (letOwnedTupleGo tg (.ref it) u) (fun _ s2=>∃x H',Inv X pins σ H' s2/\RelV x u/\J.yld i H x H'/\tn (i+1) s2.heap/\∀b∈fp,H' b=none) E s1) E s
 done:∀(X:Cx),X.prog=P->X.w=w->X.K=K->X.calm=true->∀(i:Nat) (pins:List (Addr×Obj)) (s:Shared) (σ:St) (H:Hp) (E:Value->Shared->Prop),Inv X pins σ H s->(∀b∈fp,O1 X pins H b)->tn i s.heap->J.stop i H->
  wpAny (model P w) X.A (pyNext (.ref it)) (fun r s1=>r=none/\Inv X pins σ H s1) E s
 self:∀(A:Around) (i:Nat) (s:Shared) (Q:Value->Shared->Prop) (E:Value->Shared->Prop),tn i s.heap->Q (.ref it) s->wpAny (model P w) A (pyIter (.ref it)) Q E s
noncomputable abbrev TI:=St->Hp->(It->Hp->Prop)->Prop
noncomputable def PIE (X:Cx) (pins:List (Addr×Obj)) (σ:St) (tg:Expr) (R:It->Hp->Prop) (itv:Value) (s2:Shared):Prop:=
 ∃(it:Addr) (fp:List Addr) (tn:Nat->Heap->Prop) (J:It) (H':Hp),itv=.ref it/\Inv X pins σ H' s2/\Turn X.prog X.w X.K tg J fp it tn/\tn 0 s2.heap/\(∀b∈fp,O1 X pins H' b)/\R J H'
noncomputable def PI (X:Cx) (tg iter:Expr) (wi:TI):Prop:=
 ∀(pins:List (Addr×Obj)) (s:Shared) (σ:St) (H:Hp) (R:It->Hp->Prop),Inv X pins σ H s->wi σ H R->
  wpAny (model X.prog X.w) X.A (eval iter X.env) (fun v s1=>wpAny (model X.prog X.w) X.A (pyIter v) (PIE X pins σ tg R) X.xe s1) X.xe s
theorem PB {M:Model} {A:Around} {E:Value -> Shared -> Prop} {s:Shared} {tg:Expr} {it:Addr} {u:Value} {o:Obj} {n:String} {vs:Array Value} {Q:Unit -> Shared -> Prop} (ho:s.heap.get? it=some o) (hc:o.cls=.type n) (hd:o.data=.fields vs)
    (hn:["enumerate", "zip", "dict_itemiterator", "dict_reverseitemiterator", "odict_iterator", "itertools.zip_longest", "itertools.pairwise"].contains n=false) (hQ:Q () s):wpAny M A (letOwnedTupleGo tg (.ref it) u) Q E s := by
  unfold letOwnedTupleGo;cases tg <;> first
    | exact wpAny_pure hQ
    | (cases u <;> first
        | exact wpAny_pure hQ
        | (refine wpAny_bind (wpAny_load ho ?_)
           rw [hc, hd];show wpAny M A (if (["enumerate", "zip", "dict_itemiterator", "dict_reverseitemiterator", "odict_iterator", "itertools.zip_longest", "itertools.pairwise"].contains n&&vs[0]?==some (rawInt _))=true then _ else _) Q E s;rw [if_neg (by intro h; rw [hn, Bool.false_and] at h; cases h)];exact wpAny_pure hQ))
noncomputable def Itl (K:PySem.W.Frag) (a:Addr):It:=
 ⟨fun i H=>∃xs x,SqL K H a xs/\xs[i]?=some x,fun i H x H'=>H'=H/\∀xs,SqL K H a xs->xs[i]?=some x,fun i H=>∃xs,SqL K H a xs/\xs.length<=i⟩
noncomputable def Itt (K:PySem.W.Frag) (a:Addr):It:=
 ⟨fun i H=>∃xs x,SqT K H a xs/\xs[i]?=some x,fun i H x H'=>H'=H/\∀xs,SqT K H a xs->xs[i]?=some x,fun i H=>∃xs,SqT K H a xs/\xs.length<=i⟩
noncomputable def Itr (lo:Int) (n:Nat):It:=⟨fun i _=>i<n,fun i H x H'=>H'=H/\x=.int (lo+i),fun i _=>n<=i⟩
theorem nR {P:Program} {w:World} {K:PySem.W.Frag} {tg:Expr} (a it:Addr):Turn P w K tg (Itl K a) [it] it (fun i h=>h.IsListIter it a i) where
 mem:=by simp
 obj:=fun i h st b hb=>by
  have e:b=it:=by simpa using hb
  subst e;obtain ⟨o,e,c,d⟩:=st;exact ⟨o,e,fun v z=>by rw [d] at z;cases z⟩
 keep:=fun i h h' st k=>st.at fun o e=>k it (by simp) o e
 item:=by
  intro X hP hw hK hc i pins s σ H E I hf st hg;subst hP hw hK;obtain ⟨xs,x,hq,hx⟩:=hg;obtain ⟨its,rv,p,hz⟩:=I.list hq;obtain ⟨u,hu,ru⟩:=rv.get hx;obtain ⟨f0,f1,f2,f3,f4,f5⟩:=hf it (by simp);refine wpAny_pyNext_list_item st p.isList (x:=u) (by simpa using hu) fun h' st' sb=>?_
  have I1:Inv X pins σ H {s with heap:=h'}:=I.turned (t':=s.toks) (fun b o hb e=>(sb.2 b hb).trans e) f0 f1 f3 f4 f5;obtain ⟨o,e,c,d⟩:=id st';exact ⟨u,rfl,PB (s:={s with heap:=h'}) e c d (by decide) ⟨x,H,I1,ru,⟨rfl,fun ys hy=>by rw [I.O8 hy hq];exact hx⟩,st',fun b hb=>(hf b hb).1⟩⟩
 done:=by
  intro X hP hw hK hc i pins s σ H E I hf st hg;subst hP hw hK;obtain ⟨xs,hq,hx⟩:=hg;obtain ⟨its,rv,p,hz⟩:=I.list hq;obtain ⟨f0,f1,f2,f3,f4,f5⟩:=hf it (by simp);have hl:=rv.length;exact wpAny_pyNext_list_end (I.ok.hd hc) st p.isList (by simp;lia) fun h' eb=>⟨rfl,I.turned (t':=s.toks) (fun b o hb e=>eb b o hb e) f0 f1 f3 f4 f5⟩
 self:=fun _ _ _ _ _ st h=>wpAny_pyIter_listiter st h
theorem z7 {P:Program} {w:World} {K:PySem.W.Frag} {tg:Expr} (a it:Addr):Turn P w K tg (Itt K a) [it] it (fun i h=>h.IsTupleIter it a i) where
 mem:=by simp
 obj:=fun i h st b hb=>by
  have e:b=it:=by simpa using hb
  subst e;obtain ⟨o,e,c,d⟩:=st;exact ⟨o,e,fun v z=>by rw [d] at z;cases z⟩
 keep:=fun i h h' st k=>st.at fun o e=>k it (by simp) o e
 item:=by
  intro X hP hw hK hc i pins s σ H E I hf st hg;subst hP hw hK;obtain ⟨xs,x,hq,hx⟩:=hg;obtain ⟨its,rv,p,hz⟩:=I.tuple hq;obtain ⟨u,hu,ru⟩:=rv.get hx;obtain ⟨f0,f1,f2,f3,f4,f5⟩:=hf it (by simp);refine wpAny_pyNext_tuple_item st (show s.heap.IsTuple a its.toArray from p) (x:=u) (by simpa using hu) fun h' st' sb=>?_
  have I1:Inv X pins σ H {s with heap:=h'}:=I.turned (t':=s.toks) (fun b o hb e=>(sb.2 b hb).trans e) f0 f1 f3 f4 f5;obtain ⟨o,e,c,d⟩:=id st';exact ⟨u,rfl,PB (s:={s with heap:=h'}) e c d (by decide) ⟨x,H,I1,ru,⟨rfl,fun ys hy=>by rw [I.GX hy hq];exact hx⟩,st',fun b hb=>(hf b hb).1⟩⟩
 done:=by
  intro X hP hw hK hc i pins s σ H E I hf st hg;subst hP hw hK;obtain ⟨xs,hq,hx⟩:=hg;obtain ⟨its,rv,p,hz⟩:=I.tuple hq;obtain ⟨f0,f1,f2,f3,f4,f5⟩:=hf it (by simp);have hl:=rv.length;exact wpAny_pyNext_tuple_end (I.ok.hd hc) st (show s.heap.IsTuple a its.toArray from p) (by simp;lia) fun h' eb=>⟨rfl,I.turned (t':=s.toks) (fun b o hb e=>eb b o hb e) f0 f1 f3 f4 f5⟩
 self:=fun _ _ _ _ _ st h=>wpAny_pyIter_tupleiter st h
theorem z8 {P:Program} {w:World} {K:PySem.W.Frag} {tg:Expr} (it:Addr) (lo:Int) (n:Nat):Turn P w K tg (Itr lo n) [it] it (fun i h=>IsRangeIter h it (lo+(i:Nat)*1) ((n:Int)-(i:Nat)) 1) where
 mem:=by simp
 obj:=fun i h st b hb=>by
  have e:b=it:=by simpa using hb
  subst e;exact ⟨_,st,fun v z=>by
   have z':Data.fields _=Data.cell v:=z;cases z'⟩
 keep:=fun i h h' st k=>k it (by simp) _ st
 item:=by
  intro X hP hw hK hc i pins s σ H E I hf st hg;subst hP hw hK;obtain ⟨f0,f1,f2,f3,f4,f5⟩:=hf it (by simp);have W:=Walks.range (prog:=X.prog) (w:=X.w) (I.ok.hd hc) it lo 1 n;refine W.item i s _ _ hg st fun v h' tk hv st' kk=>?_
  obtain ⟨t,rfl⟩:=hv;have I1:Inv X pins σ H {s with heap:=h',toks:=tk}:=I.turned (fun b o hb e=>kk b o (by simpa using hb) e) f0 f1 f3 f4 f5;refine ⟨_,rfl,PB (s:={s with heap:=h',toks:=tk}) (n := "range_iterator") st' rfl rfl (by decide) ⟨.int (lo+i),H,I1,⟨t,?_⟩,⟨rfl,rfl⟩,st',fun b hb=>(hf b hb).1⟩⟩;rw [Int.mul_one]
 done:=by
  intro X hP hw hK hc i pins s σ H E I hf st hg;subst hP hw hK;obtain ⟨f0,f1,f2,f3,f4,f5⟩:=hf it (by simp);exact wpAny_pyNext_range_end (I.ok.hd hc) st (by have:n<=i:=hg;lia) fun h' eb=>⟨rfl,I.turned (t':=s.toks) (fun b o hb e=>eb b o hb e) f0 f1 f3 f4 f5⟩
 self:=fun _ _ _ _ _ st h=>wpAny_pyIter_rangeiter st h
end L2
namespace L2
open PySem PySem.Spec PyProof.Rows
section
variable {X:Cx} {tg:Expr}
theorem yE {pins:List (Addr×Obj)} {σ:St} {H:Hp} {s:Shared} {R:It->Hp->Prop} {E:Value->Shared->Prop} {lo hi:Int} {t u v:Tok} {tk:Nat} (I:Inv X pins σ H s) (h1:-(2 ^ 62)<=lo) (h2:lo<2 ^ 62) (h3:-(2 ^ 62)<=hi) (h4:hi<2 ^ 62)
  (q:R (Itr lo (hi-lo).toNat) H):wpAny (model X.prog X.w) X.A (pyIter (.ref s.heap.objs.size)) (PIE X pins σ tg R) E {s with heap:=s.heap.push {cls:=.type "range",data:=.fields #[.int lo t,.int hi u,.int 1 v]},toks:=tk}:=by
 refine wpAny_pyIter_range (IsRange.new ..) (small_one h1 h2 h3 h4) ?_;have I1:Inv X pins σ H {s with heap:=s.heap.push {cls:=.type "range",data:=.fields #[.int lo t,.int hi u,.int 1 v]},toks:=tk}:=I.kept fun b o e=>Heap.get?_push_of_some _ e
 refine ⟨(s.heap.push {cls:=.type "range",data:=.fields #[.int lo t,.int hi u,.int 1 v]}).objs.size,[(s.heap.push {cls:=.type "range",data:=.fields #[.int lo t,.int hi u,.int 1 v]}).objs.size],_,_,H,rfl,
  I1.kept (t':=tk) fun b o e=>Heap.get?_push_of_some _ e,z8 _ lo (hi-lo).toNat,?_,fun b hb=>?_,q⟩
 ·have e1:lo+((0:Nat):Int)*1=lo:=by simp
  have e2:(((hi-lo).toNat:Nat):Int)-((0:Nat):Int)=Builtin.Range.rangeSize lo hi 1:=by rw [rangeSize_one];split <;> lia
  show IsRangeIter _ _ (lo+((0:Nat):Int)*1) ((((hi-lo).toNat:Nat):Int)-((0:Nat):Int)) 1;rw [e1,e2];exact Heap.get?_push_size _ rfl
 ·have e:b=(s.heap.push {cls:=.type "range",data:=.fields #[.int lo t,.int hi u,.int 1 v]}).objs.size:=by simpa using hb
  subst e;exact I1.YK (Nat.le_refl _) (I1.hok.fresh (Nat.le_refl _))
noncomputable def aCj (ta:TA):TI:=fun σ H R=>ta σ H fun vs H1=>∃j:Int,vs=[.int j]/\-(2 ^ 62)<=j/\j<2 ^ 62/\R (Itr 0 j.toNat) H1
noncomputable def aCk (ta:TA):TI:=fun σ H R=>ta σ H fun vs H1=>∃i j:Int,vs=[.int i,.int j]/\(-(2 ^ 62)<=i/\i<2 ^ 62/\-(2 ^ 62)<=j/\j<2 ^ 62)/\R (Itr i (j-i).toNat) H1
theorem G3 {a:Expr} {ta:TA} {p pos:Pos} (hg:Gl X "range") (hm:X.mg "range" = none) (ha:PA X [a] ta) (hs:starEach [a] X.env=[(false,eval a X.env)]:=by rfl):PI X tg (.Call (.Name "range" p) [a] [] pos) (aCj ta):=by
 intro pins s σ H R I h;refine Call_ (tV I hg hm boot_range (PyProof.Rows.callWith_type1 (thn (ha pos pins s σ H _ I h) fun us s1 ⟨vs,H1,I1,r1,q1⟩=>?_) hs rfl));obtain ⟨j,e,q1,q2,q⟩:=q1;subst e;cases r1 with
 | cons r rr=>
  cases rr;obtain ⟨t,rfl⟩:=r;exact call_range_1 (yE I1 (by lia) (by lia) q1 q2 (by simpa using q))
theorem G4 {a b:Expr} {ta:TA} {p pos:Pos} (hg:Gl X "range") (hm:X.mg "range" = none) (ha:PA X [a,b] ta) (hs:starEach [a,b] X.env=[(false,eval a X.env),(false,eval b X.env)]:=by rfl) (hs2:starEach [b] X.env=[(false,eval b X.env)]:=by rfl) :
  PI X tg (.Call (.Name "range" p) [a,b] [] pos) (aCk ta):=by
 intro pins s σ H R I h;refine Call_ (tV I hg hm boot_range (PyProof.Rows.callWith_type1 (thn (ha pos pins s σ H _ I h) fun us s1 ⟨vs,H1,I1,r1,q1⟩=>?_) (by rw [hs,hs2]) (by rw [hs2];rfl)));obtain ⟨i,j,e,⟨q1,q2,q3,q4⟩,q⟩:=q1;subst e;cases r1 with
 | cons r rr=>
  cases rr with
  | cons r' rr=>
   cases rr;obtain ⟨t,rfl⟩:=r;obtain ⟨t',rfl⟩:=r';exact call_range_2 (yE I1 q1 q2 q3 q4 q)
noncomputable def aE9 (wi:TI) (g:TG) (tb:TS):TS:=fun D σ H=>wi σ H fun J H1=>∃W:Nat->Nat->St->Hp->Prop,(∃m,W 0 m σ H1)/\∀i m σ H,W i m σ H->
 (J.stop i H/\D.nx σ H)\/(J.go i H/\∃N:St->Hp->Prop,(∀σ' H',N σ' H'->∃m',m'<m/\W (i+1) m' σ' H')/\∀x H',J.yld i H x H'->g x σ H' fun σ2 H2=>tb {D with nx:=N,ct:=N,bk:=D.nx} σ2 H2)
noncomputable def nT (fp:List Addr) (h:Heap):List (Addr×Obj):=fp.filterMap fun b=>(h.get? b).map fun o=>(b,o)
theorem dC {fp:List Addr} {h:Heap} {b:Addr} {o:Obj} (hb:b∈fp) (e:h.get? b=some o):(b,o)∈nT fp h:=List.mem_filterMap.mpr ⟨b,hb,by rw [e];rfl⟩
theorem G5 {fp:List Addr} {h:Heap} {p:Addr×Obj} (hp:p∈nT fp h):p.1∈fp/\h.get? p.1=some p.2:=by
 obtain ⟨b,hb,e⟩:=List.mem_filterMap.mp hp;cases q:h.get? b with
 | none=>rw [q] at e;cases e
 | some o=>
  rw [q] at e;have e':(b,o)=p:=Option.some.inj e;subst e';exact ⟨hb,q⟩
theorem Inv.pinned {pins:List (Addr×Obj)} {σ:St} {H:Hp} {s:Shared} {fp:List Addr} (I:Inv X pins σ H s) (hf:∀b∈fp,O1 X pins H b) (ho:∀b∈fp,∃o,s.heap.get? b=some o/\∀v,o.data≠.cell v):Inv X (pins++nT fp s.heap) σ H s:=
 I.vX fun p hp=>(List.mem_append.mp hp).elim (fun z=>I.pin p (List.mem_append_right _ z)) fun z=>by
  obtain ⟨hb,e⟩:=G5 z;obtain ⟨f0,f1,f2,_⟩:=hf p.1 hb;obtain ⟨o,e',d⟩:=ho p.1 hb;rw [e] at e';cases e';exact ⟨e,f0,f1,f2,d⟩
theorem Inv.gW {pins pl:List (Addr×Obj)} {σ:St} {H:Hp} {s:Shared} (I:Inv X (pins++pl) σ H s):Inv X pins σ H s:=I.vX fun p hp=>I.pin p (List.mem_append_right _ (List.mem_append_left _ hp))
theorem yF {iter:Expr} {body:List Stmt} {wi:TI} {g:TG} {tb:TS} {pos:Pos} (hp:PassesOwn (model X.prog X.w) X.A X.env X.xe) (hc:X.calm=true) (hi:PI X tg iter wi) (hg:PG X tg g) (hb:PSs X body tb)
  (hs:∀x,foldedSetIterable iter X.env x=pure x:=by intro _;rfl):PS X (.For tg iter body [] pos) (aE9 wi g tb):=by
 intro pins s σ H D I h;refine wpAny_For (thn (hi pins s σ H _ I h) fun v s1 h1=>thn h1 fun itv s2 h2=>?_) hs;obtain ⟨it,fp,tn,J,H2,e,I2,T,st2,f2,W,⟨m0,w0⟩,turn⟩:=h2;subst e
 -- what stays true of the iterator's objects through the loop
 have stat:∀{H':Hp},(∀b∈fp,H' b=none)->∀b∈fp,O1 X pins H' b:=fun hn b hb=>⟨hn b hb,(f2 b hb).2⟩
 refine codeAny_forLoop_any (fun n s'=>∃i σ' H',Inv X pins σ' H' s'/\tn i s'.heap/\(∀b∈fp,H' b=none)/\W i n σ' H') ?_ m0 ⟨0,σ,H2,I2,st2,fun b hb=>(f2 b hb).1,w0⟩;rintro n s3 ⟨i,σ3,H3,I3,st3,fr3,w3⟩;rcases turn i n σ3 H3 w3 with ⟨stop,qn⟩|⟨go,N,hN,step⟩
 ·refine wpAny_passesOwn hp (thn (T.done X rfl rfl rfl hc i pins s3 σ3 H3 X.xe I3 (stat fr3) st3 stop) fun r s4 ⟨hr,I4⟩=>?_);subst hr;exact wpAny_execs_nil ⟨σ3,H3,I4,qn⟩
 ·refine wpAny_passesOwn hp (thn (T.item X rfl rfl rfl hc i pins s3 σ3 H3 X.xe I3 (stat fr3) st3 go) fun r s4 ⟨u,hr,h4⟩=>?_);subst hr;refine wpAny_passesOwn hp (thn h4 fun _ s5 ⟨x,H5,I5,r5,y5,st5,fr5⟩=>?_);have I5':=I5.pinned (stat fr5) (T.obj _ _ st5);refine wpAny_passesOwn hp (thn (hg _ s5 σ3 H5 x u _ I5' r5 (step x H5 y5)) fun _ s6 ⟨σ6,H6,I6,q6⟩=>?_);refine wpAny_passesOwn hp (thn (hb _ s6 σ6 H6 _ I6 q6) fun f s7 q7=>?_);have again:∀{σ7:St} {H7:Hp},Inv X (pins++nT fp s5.heap) σ7 H7 s7->N σ7 H7->∃m,m<n/\∃i σ' H',Inv X pins σ' H' s7/\tn i s7.heap/\(∀b∈fp,H' b=none)/\W i m σ' H':=fun {σ7 H7} I7 n7=>by
   obtain ⟨m',hm,w7⟩:=hN σ7 H7 n7;refine ⟨m',hm,i+1,σ7,H7,I7.gW,T.keep _ _ _ st5 fun b hb o e=>(I7.pin (b,o) (List.mem_append_right _ (List.mem_append_right _ (dC hb e)))).1,fun b hb=>?_,w7⟩;obtain ⟨o,e,d⟩:=T.obj _ _ st5 b hb;exact (I7.pin (b,o) (List.mem_append_right _ (List.mem_append_right _ (dC hb e)))).2.1
  cases f with
  | next=>obtain ⟨σ7,H7,I7,n7⟩:=q7;exact again I7 n7
  | cont=>obtain ⟨σ7,H7,I7,n7⟩:=q7;exact again I7 n7
  | brk=>obtain ⟨σ7,H7,I7,q7⟩:=q7;exact ⟨σ7,H7,I7.gW,q7⟩
  | ret v=>obtain ⟨x7,σ7,H7,I7,r7,q7⟩:=q7;exact ⟨x7,σ7,H7,I7.gW,r7,q7⟩
end
end L2
namespace L2
open PySem PySem.Spec PyProof.Rows
noncomputable abbrev R2:=V->V->Hp->VK->Prop
noncomputable def OpR (X:Cx) (f:Value->Value->Sem Value) (r:R2):Prop:=
 ∀(pins:List (Addr×Obj)) (s:Shared) (σ:St) (H:Hp) (x y:V) (v u:Value) (Q:VK),Inv X pins σ H s->RelV x v->RelV y u->r x y H Q->
  wpAny (model X.prog X.w) X.A (f v u) (EP X pins σ Q) X.xe s
noncomputable def gY (X:Cx) (f:Value) (r:List V->Hp->VK->Prop):Prop:=
 ∀(pins:List (Addr×Obj)) (s:Shared) (σ:St) (H:Hp) (xs:List V) (us:List Value) (Q:VK),Inv X pins σ H s->Vals xs us->r xs H Q->
  wpAny (model X.prog X.w) X.A (call f us) (EP X pins σ Q) X.xe s
noncomputable def aEa (X:Cx) (r:V->Hp->(Bool->Hp->Prop)->Prop):Prop:=
 ∀(pins:List (Addr×Obj)) (s:Shared) (σ:St) (H:Hp) (x:V) (v:Value) (Q:Bool->Hp->Prop),Inv X pins σ H s->RelV x v->r x H Q->
  wpAny (model X.prog X.w) X.A (truthy v) (TP X pins σ Q) X.xe s
noncomputable def tOp (r:R2) (ta tb:TE):TE:=fun σ H Q=>ta σ H fun x H1=>tb σ H1 fun y H2=>r x y H2 Q
noncomputable def rI (C:Int->Int->Prop) (g:Int->Int->V):R2:=fun x y H Q=>∃i j,x=.int i/\y=.int j/\C i j/\Q (g i j) H
noncomputable def rI0 (g:Int->Int->V):R2:=fun x y H Q=>∃i j,x=.int i/\y=.int j/\Q (g i j) H
section
variable {X:Cx} {a b c:Expr} {ta tb tc:TE} {pos:Pos}
theorem aCl (ha:PE X a ta) (hb:PE X b tb) {pins:List (Addr×Obj)} {s:Shared} {σ:St} {H:Hp} {R:V->V->Hp->Prop} (I:Inv X pins σ H s)
  (h:ta σ H fun x H1=>tb σ H1 fun y H2=>R x y H2) {Q:Value->Shared->Prop} {f:Value->Value->Sem Value}
  (hf:∀v u s2 x y H2,Inv X pins σ H2 s2->RelV x v->RelV y u->R x y H2->wpAny (model X.prog X.w) X.A (f v u) Q X.xe s2) :
  wpAny (model X.prog X.w) X.A (eval a X.env) (fun v s₁=>wpAny (model X.prog X.w) X.A (eval b X.env) (fun u s₂=>wpAny (model X.prog X.w) X.A (f v u) Q X.xe s₂) X.xe s₁) X.xe s:=by
 refine thn (ha pins s σ H _ I h) fun v s1 ⟨x,H1,I1,r1,q1⟩=>?_
 refine thn (hb pins s1 σ H1 _ I1 q1) fun u s2 ⟨y,H2,I2,r2,q2⟩=>?_
 exact hf v u s2 x y H2 I2 r1 r2 q2
theorem ZK {op:Operator} {r:R2} (ho:OpR X (binaryOp op) r) (ha:PE X a ta) (hb:PE X b tb):PE X (.BinOp a op b pos) (tOp r ta tb):=by
 intro pins s σ H Q I h;exact wpAny_BinOp (aCl ha hb I h fun v u s2 x y H2 I2 rx ry q=>ho pins s2 σ H2 x y v u Q I2 rx ry q)
theorem opI {f:Value->Value->Sem Value} {C:Int->Int->Prop} {g:Int->Int->Int}
  (rule:∀(i j:Int) (t u:Tok) (s:Shared) (Q:Value->Shared->Prop) (E:Value->Shared->Prop),C i j->Q (.int (g i j) s.toks) {s with toks:=s.toks+1}->wpAny (model X.prog X.w) X.A (f (.int i t) (.int j u)) Q E s) :
  OpR X f (rI C fun i j=>.int (g i j)):=by
 intro pins s σ H x y v u Q I rx ry h;obtain ⟨i,j,rfl,rfl,hc,q⟩:=h;obtain ⟨t,rfl⟩:=rx;obtain ⟨t',rfl⟩:=ry;exact rule i j t t' s _ _ hc ⟨.int (g i j),H,I.tok _,⟨_,rfl⟩,q⟩
theorem aDr {f:Value->Value->Sem Value} {g:Int->Int->Int}
  (rule:∀(i j:Int) (t u:Tok) (s:Shared) (Q:Value->Shared->Prop) (E:Value->Shared->Prop),Q (.int (g i j) s.toks) {s with toks:=s.toks+1}->wpAny (model X.prog X.w) X.A (f (.int i t) (.int j u)) Q E s) :
  OpR X f (rI0 fun i j=>.int (g i j)):=by
 intro pins s σ H x y v u Q I rx ry h;obtain ⟨i,j,rfl,rfl,q⟩:=h;obtain ⟨t,rfl⟩:=rx;obtain ⟨t',rfl⟩:=ry;exact rule i j t t' s _ _ ⟨.int (g i j),H,I.tok _,⟨_,rfl⟩,q⟩
noncomputable def aEb (i j:Int):Prop:=0<j/\j<1073741824
noncomputable def aEc (i j:Int):Prop:=0<=j/\j<=1000000/\i.natAbs<2 ^ 64
noncomputable def aCm (i j:Int):Prop:=(-(2 ^ 64)<i/\i<2 ^ 64)\/(-(2 ^ 64)<j/\j<2 ^ 64)
theorem aCm.ok {i j:Int} (h:aCm i j):IntMulOk i j:=by
 rcases h with ⟨h1,h2⟩|⟨h1,h2⟩
 ·exact .of_left (intBits_le_64 h1 h2)
 ·exact .of_right (intBits_le_64 h1 h2)
theorem ZL:OpR X (binaryOp .Add) (rI0 fun i j=>.int (i+j)):=aDr fun _ _ _ _ _ _ _ q=>add_int q
theorem ZM:OpR X (binaryOp .Sub) (rI0 fun i j=>.int (i-j)):=aDr fun _ _ _ _ _ _ _ q=>sub_int q
theorem ZP:OpR X (binaryOp .Mult) (rI aCm fun i j=>.int (i*j)):=opI fun _ _ _ _ _ _ _ hc q=>mul_int q hc.ok
theorem U3:OpR X (binaryOp .FloorDiv) (rI aEb fun i j=>.int (i / j)):=opI fun i j _ _ _ _ _ hc q=>by
 have h1:(0:Int)<j:=hc.1;have h2:j<1073741824:=hc.2;exact floordiv_int (by lia) (by rw [Int.fdiv_eq_ediv_of_nonneg i (by lia)];exact q) (.inl (PyProof.noPylong_small (by lia)))
theorem ZQ:OpR X (binaryOp .Mod) (rI (fun _ j=>0<j) fun i j=>.int (i % j)):=opI fun i j _ _ _ _ _ hc q=>by
 have h1:(0:Int)<j:=hc;exact mod_int' (by lia) (by rw [Int.fmod_eq_emod_of_nonneg i (by lia)];exact q)
theorem ZR:OpR X (binaryOp .Pow) (rI aEc fun i j=>.int (i ^ j.toNat)):=opI fun _ _ _ _ _ _ _ hc q=>pow_int_small hc.1 hc.2.1 hc.2.2 q
end
section
variable {X:Cx} {a b c:Expr} {ta tb tc:TE} {pos:Pos}
theorem ZS {pins:List (Addr×Obj)} {σ:St} {H:Hp} {s:Shared} {Q:VK} {k k':Bool} (I:Inv X pins σ H s) (q:Q (.bl k) H) (e:k=k'):EP X pins σ Q (.bool k') s:=by
 subst e;exact ⟨.bl k,H,I,rfl,q⟩
theorem ZV:OpR X (compareOp .Is) (fun x y H Q=>y=.non/\Q (.bl (decide (x=.non))) H):=by
 intro pins s σ H x y v u Q I rx ry h;obtain ⟨rfl,q⟩:=h;cases ry;refine is_none_gen (ZS I q ?_);cases x <;> first
  | (cases rx;rfl)
  | (obtain ⟨t,rfl⟩:=rx;rfl)
theorem cW (b:Expr) {op:CmpOp} (h:op≠.In:=by decide) (h2:op≠.NotIn:=by decide):behindInMarks op b=false:=by
 have e1:(op==CmpOp.In)=false:=by cases op <;> first|rfl|exact absurd rfl h
 have e2:(op==CmpOp.NotIn)=false:=by cases op <;> first|rfl|exact absurd rfl h2
 cases b <;> simp [behindInMarks,e1,e2]
theorem U4 {op:CmpOp} {r:R2} (ho:OpR X (compareOp op) r) (ha:PE X a ta) (hb:PE X b tb) (hm:behindInMarks op b=false):PE X (.Compare a [op] [b] pos) (tOp r ta tb):=by
 intro pins s σ H Q I h;exact wpAny_Compare1 (aCl ha hb I h fun v u s2 x y H2 I2 rx ry q=>ho pins s2 σ H2 x y v u Q I2 rx ry q) hm
noncomputable def aCn (t:TE):TT:=fun σ H Q=>t σ H fun x H'=>∃k,x=.bl k/\Q k H'
theorem G6 {op:CmpOp} {r:R2} (ho:OpR X (compareOp op) r) (ha:PE X a ta) (hb:PE X b tb) (hm:behindInMarks op b=false):PT X (.Compare a [op] [b] pos) (aCn (tOp r ta tb)):=by
 intro pins s σ H Q I h;refine wpAny_isTrue_Compare1 (thn (ha pins s σ H _ I h) fun v s1 ⟨x,H1,I1,r1,q1⟩=>thn (hb pins s1 σ H1 _ I1 q1) fun u s2 ⟨y,H2,I2,r2,q2⟩=>
  thn (ho pins s2 σ H2 x y v u _ I2 r1 r2 q2) fun c s3 ⟨z,H3,I3,r3,k,e,q3⟩=>?_) hm
 subst e;cases r3;exact wpAny_truthy_bool ⟨H3,I3,q3⟩
noncomputable def aCo (K:PySem.W.Frag) (x:V) (H:Hp) (k:Bool):Prop:=
 match x with
 | .non=>k=false
 | .bl b=>k=b
 | .int i=>k=(i != 0)
 | .str y=>y.length<=sizeLine/\k=((y.length:Int) != 0)
 | .byt y=>y.size<=sizeLine/\k=((y.size:Int) != 0)
 | .ref p=>(∃xs,SqL K H p xs/\k=!xs.isEmpty)\/(∃xs,SqT K H p xs/\k=!xs.isEmpty)\/∃kvs,H p=some (.dK kvs)/\k=!kvs.isEmpty
 | _=>False
theorem z9 {κ:Type} {kvs:List (κ×V)} {vs:List (κ×Value)} (r:KV kvs vs):(!vs.isEmpty)=!kvs.isEmpty:=by
 cases r <;> rfl
theorem qF {xs:List V} {its:List Value} (r:Vals xs its):(!its.toArray.isEmpty)=!xs.isEmpty:=by
 cases r <;> simp
theorem nU:(sizeLine:Nat)<2 ^ 63:=by rw [sizeLine_eq];decide
theorem ZW:aEa X (fun x H Q=>∃k,aCo X.K x H k/\Q k H):=by
 intro pins s σ H x v Q I rx h;obtain ⟨k,e,q⟩:=h;have hl:=nU;have hs:sizeLine=16777216:=sizeLine_eq;cases x with
 | non=>
  cases rx;have e':k=false:=e;subst e';exact truthy_none ⟨H,I,q⟩
 | bl b=>
  cases rx;have e':k=b:=e;subst e';exact wpAny_truthy_bool ⟨H,I,q⟩
 | int i=>
  obtain ⟨t,rfl⟩:=rx;have e':k=(i != 0):=e;subst e';exact PySem.P.truthy_int ⟨H,I,q⟩
 | str y=>
  obtain ⟨t,rfl⟩:=rx;obtain ⟨hy,e'⟩:y.length<=sizeLine/\k=((y.length:Int) != 0):=e;subst e';exact PySem.P.truthy_str (by lia) ⟨H,I.tok _,q⟩
 | byt y=>
  obtain ⟨t,rfl⟩:=rx;obtain ⟨hy,e'⟩:y.size<=sizeLine/\k=((y.size:Int) != 0):=e;subst e';exact PySem.W.truthy_bytes (by lia) ⟨H,I.tok _,q⟩
 | ref p=>
  cases rx;have e':(∃xs,SqL X.K H p xs/\k=!xs.isEmpty)\/(∃xs,SqT X.K H p xs/\k=!xs.isEmpty)\/∃kvs,H p=some (.dK kvs)/\k=!kvs.isEmpty:=e;rcases e' with ⟨xs,hx,e'⟩|⟨xs,hx,e'⟩|⟨kvs,hx,e'⟩
  ·subst e';obtain ⟨its,r,pl,hz⟩:=I.list hx;have hlen:=r.length;exact wpAny_truthy_list pl.isList (by simp only [List.size_toArray];lia) ⟨H,I.tok _,by rw [qF r];exact q⟩
  ·subst e';obtain ⟨its,r,pl,hz⟩:=I.tuple hx;have hlen:=r.length;exact truthy_tuple pl (by simp only [List.size_toArray];lia) ⟨H,I.tok _,by rw [qF r];exact q⟩
  ·subst e';obtain ⟨hz,hS,vs,r,m⟩:kvs.length<=sizeLine/\(p==sysModules)=false/\∃vs,KV kvs vs/\s.heap.DictOf (cN X.prog X.w) p vs:=I.hok p _ hx;have hlen:kvs.length=vs.length:=Paired.length r;exact wpAny_truthy_dict hS m (by lia) ⟨H,I.tok _,by rw [z9 r];exact q⟩
 | _=>exact (show False from e).elim
theorem PJ (ha:PE X a ta) (he:∀whole,isTrue a X.env whole=(do let v <- whole;standAt a.pos;holding [v] (truthy v))) :
  PT X a (fun σ H Q=>ta σ H fun x H'=>∃k,aCo X.K x H' k/\Q k H'):=by
 intro pins s σ H Q I h;exact isTrue_plain (thn (ha pins s σ H _ I h) fun v s1 ⟨x,H1,I1,r1,q1⟩=>ZW pins s1 σ H1 x v Q I1 r1 q1) (he _)
theorem z_:OpR X (binaryOp .Add) (fun x y H Q=>∃i j,x=.str i/\y=.str j/\i.length+j.length<=sizeLine/\Q (.str (i++j)) H):=by
 intro pins s σ H x y v u Q I rx ry h;obtain ⟨i,j,rfl,rfl,hz,q⟩:=h;obtain ⟨t,rfl⟩:=rx;obtain ⟨t',rfl⟩:=ry;exact add_str (fun t' tk=>⟨.str (i++j),H,I.tok _,⟨_,rfl⟩,q⟩) hz
theorem vals1 {x:V} {us:List Value} (r:Vals [x] us):∃u,us=[u]/\RelV x u:=by
 cases r with
 | cons r1 r2=>cases r2;exact ⟨_,rfl,r1⟩
end
end L2
namespace L2
open PySem PySem.Spec PyProof.Rows
section
variable {prog:Program} {w:World} {A:Around} {E:Value->Shared->Prop} {s:Shared} {K:PySem.W.Frag} {x dx C f:Addr} {mA:Str->Option Value} {name:Str} {v:Value}
end
theorem OJ.some_of {v:V} {o:Option Value} (r:OJ (some v) o):∃u,o=some u/\RelV v u:=by
 cases o with
 | none=>exact (show False from r).elim
 | some u=>exact ⟨u,rfl,r⟩
section
variable {P:Program} {w:World} {H H':Hp} {h h':Heap} {a C dx:Addr} {fs fs':List (Str×V)}
end
section
variable {X:Cx} {pins:List (Addr×Obj)} {σ:St} {H:Hp} {s:Shared} {a C dx:Addr} {fs:List (Str×V)} {f:Str} {v:V} {A:Around} {E:Value->Shared->Prop}
end
section
variable {X:Cx} {o e value:Expr} {f:Str} {pos pos' tpos:Pos} {ta tv:TE}
end
section
variable {X:Cx} {pins:List (Addr×Obj)} {σ:St} {H:Hp} {s:Shared} {A:Around} {E:Value->Shared->Prop} {Q:Value->Shared->Prop} {c:Value} {b:Bool}
end
end L2
namespace L2
open PySem PySem.Spec PyProof.Rows
structure lR (k:Nat) (A:Around):Prop where
 hd:A.handled=none
 dp:A.depth+3*k+5<recursionLimit
 un:A.units+16*k+200<cLine
theorem lR.mono {j k:Nat} {A:Around} (r:lR k A) (h:j<=k):lR j A:=⟨r.hd,by have:=r.dp;lia,by have:=r.un;lia⟩
theorem lR.deeper {k:Nat} {A:Around} (r:lR (k+1) A) (env:Env):lR k (A.deeper env):=
 ⟨r.hd,by have:=r.dp;show A.depth+1+3*k+5<_;lia,by have:=r.un;show A.units+3+16*k+200<_;lia⟩
theorem lR.depth {k:Nat} {A:Around} (r:lR k A):A.depth<recursionLimit:=by have:=r.dp;lia
theorem lR.units {k:Nat} {A:Around} (r:lR k A):A.units+64<cLine:=by have:=r.un;lia
noncomputable def aEd:TA:=fun _ H Q=>Q [] H
noncomputable def aCp (ta:TE) (tr:TA):TA:=fun σ H Q=>ta σ H fun x H1=>tr σ H1 fun xs H2=>Q (x::xs) H2
section
variable {X:Cx} {e:Expr} {es:List Expr} {te:TE} {t:TA} {pos:Pos}
theorem jV:PA X [] aEd:=fun _ _ _ _ H Q I h=>Calls.spliced_nil ⟨[],H,I,.nil,h⟩
theorem cJ (ha:PE X e te) (hr:PA X es t) (hs:starEach (e::es) X.env=(false,eval e X.env)::starEach es X.env:=by rfl):PA X (e::es) (aCp te t):=by
 intro pos pins s σ H Q I h;rw [hs];show wpAny _ _ (spliced ((false,eval e X.env)::backTo pos (starEach es X.env))) _ _ s;refine Calls.spliced_cons (thn (ha pins s σ H _ I h) fun u s1 ⟨x,H1,I1,r1,q1⟩=>?_);exact thn (hr pos pins s1 σ H1 _ I1 q1) fun us s2 ⟨xs,H2,I2,r2,q2⟩=>⟨x::xs,H2,I2,.cons r1 r2,q2⟩
noncomputable def aEe (t:TA):TE:=fun σ H Q=>t σ H fun xs H1=>xs.length<=sizeLine/\∀p,H1 p=none->Q (.ref p) (upd H1 p (.tup xs))
noncomputable def aEf (t:TA):TE:=fun σ H Q=>t σ H fun xs H1=>xs.length<=sizeLine/\∀p,H1 p=none->Q (.ref p) (upd H1 p (.lst xs))
theorem G7 {x1} (h:PA X es t):PE X (.Tuple es x1 pos) (aEe t):=by
 intro pins s σ H Q I hq;refine wpAny_Tuple_spliced (thn (h pos pins s σ H _ I hq) fun us s1 ⟨xs,H1,I1,r,z,q⟩=>⟨by rw [<-r.length];exact z,?_⟩);have hf:H1 s1.heap.objs.size=none:=I1.hok.fresh (Nat.le_refl _);refine ⟨.ref s1.heap.objs.size,upd H1 s1.heap.objs.size (.tup xs),I1.laid (t':=s1.toks) (fun b u e=>Heap.get?_push_of_some _ e) (Nat.le_refl _) ?_,rfl,q _ hf⟩;exact ⟨z,us,r,⟨_,Heap.get?_push_size _ rfl,rfl,_,rfl⟩⟩
theorem R3 (h:PA X es t):PE X (.List es pos) (aEf t):=by
 intro pins s σ H Q I hq;refine wpAny_List_spliced (thn (h pos pins s σ H _ I hq) fun us s1 ⟨xs,H1,I1,r,z,q⟩=>⟨by rw [<-r.length];exact z,?_⟩);have hf:H1 s1.heap.objs.size=none:=I1.hok.fresh (Nat.le_refl _);refine ⟨.ref s1.heap.objs.size,upd H1 s1.heap.objs.size (.lst xs),I1.laid (t':=s1.toks) (fun b u e=>Heap.get?_push_of_some _ e) (Nat.le_refl _) ?_,rfl,q _ hf⟩;exact ⟨z,us,0,r,Heap.get?_push_size _ rfl⟩
end
noncomputable abbrev Sp:=List V->Hp->VK->XK->Prop
noncomputable abbrev CXT:=List Env->Hp->Shared->XK->Value->Shared->Prop
structure aBx (P:Program) (w:World) (K:PySem.W.Frag) (mg:Str->Option Value) (base:Heap) (A:Around) (outer:List Env) (s:Shared) (H:Hp):Prop where
 frames:A.frames=some outer
 mod:Mod K mg base
 bs:∀b o,base.get? b=some o->s.heap.get? b=some o/\H b=none
 bsz:base.objs.size<=s.heap.objs.size
 GP:s.heap.FunFrames base outer
 frf:∀b∈frs outer,H b=none
 hok:HOk P w H s.heap
 bare:AllBare s.gens
noncomputable def CE (outer:List Env) (P:Program) (w:World) (H:Hp) (s:Shared) (Q:VK) (u:Value) (s':Shared):Prop:=
 ∃v H',s'.os=s.os/\AllBare s'.gens/\Un (frs outer) [] H H' s.heap s'.heap/\HOk P w H' s'.heap/\RelV v u/\Q v H'
noncomputable def CR (CX:CXT) (outer:List Env) (P:Program) (w:World) (H:Hp) (s:Shared) (Q:VK) (E:XK) (r:Result) (s':Shared):Prop:=
 match r with
 | .ok (.ret u)=>CE outer P w H s Q u s'
 | .ok _=>False
 | .error e=>CX outer H s E e s'
structure yG (P:Program) (w:World) (K:PySem.W.Frag) (mg:Str->Option Value) (base:Heap) (CX:CXT) (k:Nat) (f:Addr) (fd:FuncData) (ps:List Str) (sp:Sp):Prop where
 len:∀vs H Q E,sp vs H Q E->vs.length=ps.length
 run:∀(A:Around) (outer:List Env) (s:Shared) (H:Hp) (args:Args) (us:List Value) (vs:List V) (Q:VK) (E:XK),lR k A->aBx P w K mg base A outer s H->BindsTo s fd args (ps.zip us)->Vals vs us->sp vs H Q E->
  codeAny (model P w) A (.call (.ref f) args) (CR CX outer P w H s Q E) s
section
variable {X:Cx} {pins:List (Addr×Obj)} {σ:St} {H:Hp} {s s':Shared}
theorem Inv.env0 (I:Inv X pins σ H s):aBx X.prog X.w X.K X.mg X.base X.A X.stack s H:=
 ⟨I.ok.frames,I.ok.mod,I.bs,Nat.le_trans I.ok.bsz I.sz,I.stack,I.GQ,I.hok,I.bare⟩
theorem Inv.after {Q:VK} {u:Value} (I:Inv X pins σ H s) (h:CE X.stack X.prog X.w H s Q u s'):EP X pins σ Q u s':=by
 obtain ⟨v,H',os,bare,un,hok,r,q⟩:=h;obtain ⟨hh,g,d,t,os'⟩:=s';obtain rfl:os'=s.os:=os;exact ⟨v,H',I.call (h':=hh) (g':=g) (d':=d) (t':=t) (ch:=[]) un hok bare (fun b z=>absurd z (by simp)),r,q⟩
end
noncomputable def aCq (sp:Sp) (dvs:List V) (E:XK) (t:TA):TE:=fun σ H Q=>t σ H fun vs H1=>sp (vs++dvs) H1 Q E
noncomputable def Binds (K:PySem.W.Frag) (fd:FuncData) (ps:List Str) (ds:List Value):Prop:=
 ∀(s:Shared) (us:List Value),K.In s.heap->(us++ds).length=ps.length->BindsTo s fd ⟨us,[]⟩ (ps.zip (us++ds))
theorem Binds.all {K:PySem.W.Frag} {fd:FuncData} {ps:List Str} (h:∀us:List Value,us.length=ps.length->bindArgs fd ⟨us,[]⟩=pure (ps.zip us)):Binds K fd ps []:=fun s us _ hl=>by
 rw [List.append_nil] at hl ⊢;exact .of_eq (h us hl)
noncomputable def G8 (CX:CXT) (X:Cx) (E:XK):Prop:=∀(pins:List (Addr×Obj)) (σ:St) (H:Hp) (s:Shared) (e:Value) (s':Shared),Inv X pins σ H s->CX X.stack H s E e s'->X.xe e s'
section
variable {X:Cx} {CX:CXT} {k:Nat} {f C:Addr} {fd:FuncData} {ps:List Str} {sp:Sp} {dvs:List V} {ds:List Value} {E:XK} {x m:Str} {p pos apos:Pos} {e o:Expr} {es:List Expr} {ta:TE} {t:TA}
theorem ZX {pins:List (Addr×Obj)} {σ:St} {H:Hp} {s:Shared} {Q:VK} {us:List Value} {vs:List V} (F:yG X.prog X.w X.K X.mg X.base CX k f fd ps sp) (hr:lR k X.A) (hb:Binds X.K fd ps ds) (hd:Vals dvs ds) (hx:G8 CX X E)
  (I:Inv X pins σ H s) (r:Vals vs us) (h:sp (vs++dvs) H Q E):wpAny (model X.prog X.w) X.A (call (.ref f) us) (EP X pins σ Q) X.xe s:=by
 have r2:Vals (vs++dvs) (us++ds):=r.append hd;have hl:(us++ds).length=ps.length:=by rw [<-r2.length];exact F.len _ _ _ _ h
 refine wpAny_call (codeAny_mono (F.run X.A X.stack s H ⟨us,[]⟩ (us++ds) (vs++dvs) Q E hr I.env0 (hb s us I.kIn hl) r2 h) fun r s' hq=>?_);cases r with
 | error e=>exact hx pins σ H s e s' I hq
 | ok fl=>
  cases fl with
  | ret u=>exact I.after hq
  | next=>exact False.elim hq
  | brk=>exact False.elim hq
  | cont=>exact False.elim hq
theorem qY (F:yG X.prog X.w X.K X.mg X.base CX k f fd ps sp) (hr:lR k X.A) (hg:Gl X x) (hm:X.mg x=some (.ref f)) (hk:PySem.W.keepIn X.K (.ref f)=true) (hb:Binds X.K fd ps ds) (hd:Vals dvs ds) (hx:G8 CX X E)
  (ha:PA X (e::es) t) (hdb:(x==("__debug__" : Str))=false:=by decide) (he:starEach (e::es) X.env=(false,eval e X.env)::starEach es X.env:=by rfl) (hpl:(backTo pos (starEach es X.env)).any (·.1)=false:=by rfl) :
  PE X (.Call (.Name x p) (e::es) [] pos) (aCq sp dvs E t):=by
 intro pins s σ H Q I h;refine wpAny_Call_Name_kw (UL I hg hm ?_ hdb);refine PySem.W.callWith_K (h₀:=X.base) I.ok.mod.kin hk (thn (ha pos pins s σ H _ I h) fun us s1 ⟨vs,H1,I1,r,q⟩=>⟨I1.kIn,?_⟩) he hpl;exact ZX F hr hb hd hx I1 r q
end
section
variable {X:Cx} {CX:CXT} {k:Nat} {f C:Addr} {fd:FuncData} {ps ks:List Str} {sp:Sp} {E:XK} {x m:Str} {p pos apos kpos:Pos} {e o:Expr} {es:List Expr} {kws:List Keyword} {te ta:TE} {t tk:TA} {nm:Option Str}
variable {g:List Value->List Value->List Value} {gV:List V->List V->List V}
end
structure bT (N P:List Str) (sc:Scope):Prop where
 kind:sc.kind=.function
 co:sc.isCoroutine=false
 gen:sc.isGenerator=false
 nd:N.Nodup
 pre:N.take P.length=P
 par:∀x∈P,sc.names.lookup x=some .local\/sc.names.lookup x=some .cell
 nofree:∀y∈sc.names,y.2≠.free
theorem tW {kindOf:Str->Option NameKind} {x:Str}:∀{binds:List (Str×Value)} {m:Str->Option Value},(∀v,(x,v)∉binds)->bindL kindOf binds m x=m x
 | [],_,_=>rfl
 | (n,v)::r,m,h=>by
  unfold bindL;rw [tW fun w hw=>h w (List.mem_cons_of_mem _ hw)];split
  ·have:x≠n:=by rintro rfl;exact h v List.mem_cons_self
   simp [this]
  ·rfl
theorem tX {kindOf:Str->Option NameKind} {x:Str}:∀{binds:List (Str×Value)} {m:Str->Option Value},(∀v,(x,v)∉binds)->bindC kindOf binds m x=m x
 | [],_,_=>rfl
 | (n,v)::r,m,h=>by
  unfold bindC;rw [tX fun w hw=>h w (List.mem_cons_of_mem _ hw)];split
  ·rfl
  ·have:x≠n:=by rintro rfl;exact h v List.mem_cons_self
   simp [this]
theorem tY {kindOf:Str->Option NameKind} {x:Str} {v:Value}:∀{P:List Str} {vs:List Value} {i:Nat} {m:Str->Option Value},P.Nodup->P[i]?=some x->vs[i]?=some v->kindOf x=some .local->
  bindL kindOf (P.zip vs) m x=some v
 | [],_,_,_,_,h,_,_=>by simp at h
 | _::_,[],_,_,_,_,h,_=>by simp at h
 | p::P,w::vs,0,m,nd,h1,h2,hk=>by
  simp at h1 h2;subst h1;subst h2;show bindL kindOf ((p,w)::P.zip vs) m p=_;unfold bindL;rw [tW fun v hv=>(List.nodup_cons.mp nd).1 (List.of_mem_zip hv).1,if_pos hk];simp
 | p::P,w::vs,i+1,m,nd,h1,h2,hk=>by
  show bindL kindOf ((p,w)::P.zip vs) m x=_;unfold bindL;exact tY (i:=i) (List.nodup_cons.mp nd).2 (by simpa using h1) (by simpa using h2) hk
theorem tZ {kindOf:Str->Option NameKind} {x:Str} {v:Value}:∀{P:List Str} {vs:List Value} {i:Nat} {m:Str->Option Value},P.Nodup->P[i]?=some x->vs[i]?=some v->kindOf x≠some .local->
  bindC kindOf (P.zip vs) m x=some v
 | [],_,_,_,_,h,_,_=>by simp at h
 | _::_,[],_,_,_,_,h,_=>by simp at h
 | p::P,w::vs,0,m,nd,h1,h2,hk=>by
  simp at h1 h2;subst h1;subst h2;show bindC kindOf ((p,w)::P.zip vs) m p=_;unfold bindC;rw [tX fun v hv=>(List.nodup_cons.mp nd).1 (List.of_mem_zip hv).1,if_neg hk];simp
 | p::P,w::vs,i+1,m,nd,h1,h2,hk=>by
  show bindC kindOf ((p,w)::P.zip vs) m x=_;unfold bindC;exact tZ (i:=i) (List.nodup_cons.mp nd).2 (by simpa using h1) (by simpa using h2) hk
noncomputable def start (N:List Str) (vs:List V):St:=vs.map some++List.replicate (N.length-vs.length) none
noncomputable def O2 (CX:CXT) (P:Program) (w:World) (K:PySem.W.Frag) (mg:Str->Option Value) (base:Heap) (N:List Str) (qual:Str) (scope:Scope) (f:Addr) (cd:Value) (A:Around) (outer:List Env) (s:Shared) (H:Hp) (E:XK):Cx where
 prog:=P
 w:=w
 K:=K
 mg:=mg
 base:=base
 A:=A.deeper (envOfC qual scope s.heap.objs.size f cd)
 N:=N
 s₀:=s
 H₀:=H
 env:=envOfC qual scope s.heap.objs.size f cd
 outer:=outer
 stack:=envOfC qual scope s.heap.objs.size f cd::outer
 ex:=[]
 calm:=true
 fn:=fun _=>true
 pn:=[]
 xe:=fun e s'=>wpAny (model P w) (A.deeper (envOfC qual scope s.heap.objs.size f cd)) (leaving (envOfC qual scope s.heap.objs.size f cd) e) (fun _ s''=>CX outer H s E e s'') (fun e' s''=>CX outer H s E e' s'') s'
theorem yH {sc:Scope} {n:Nat} {x:Str} (h:sc.names.lookup x=some .cell):∃c,(cellsFrom n sc.names []).lookup x=some c:=by
 have q:=PySem.W.cellsFrom_some sc.names n [] (.inl h);exact Option.isSome_iff_exists.mp q
theorem G9 {CX:CXT} {P:Program} {w:World} {K:PySem.W.Frag} {mg:Str->Option Value} {base:Heap} {N ps:List Str} {qual:Str} {scope:Scope} {f:Addr} {cd:Value} {A:Around} {outer:List Env} {s s1:Shared} {H:Hp} {E:XK} {us:List Value} {vs:List V}
  (S:bT N ps scope) (hd:A.handled=none) (e0:aBx P w K mg base A outer s H) (hl:vs.length=ps.length) (r:Vals vs us)
  (x:InCallC s s.heap.objs.size (bindL (envOfC qual scope s.heap.objs.size f cd).kindOf (ps.zip us) fun _=>none) (cellsFrom (s.heap.objs.size+1) scope.names []) (bindC (envOfC qual scope s.heap.objs.size f cd).kindOf (ps.zip us) fun _=>none) s1) :
  Inv (O2 CX P w K mg base N qual scope f cd A outer s H E) [] (start N vs) H s1:=by
 have hpl:ps.length<=N.length:=by have:=congrArg List.length S.pre;rw [List.length_take] at this;lia
 obtain ⟨h1,tk,rfl,hk⟩:=x.done;have noA:∀b:Addr,b∉(O2 CX P w K mg base N qual scope f cd A outer s H E).ex:=fun b z=>absurd (show b∈([]:List Addr) from z) (by simp)
 refine ⟨⟨e0.mod,S.kind,rfl,rfl,Nat.le_refl _,fun y z c h1 h2=>?_,fun y hy=>?_,fun y c _ h=>?_,fun _=>hd,Around.frames_deeper e0.frames,.inr ⟨rfl,rfl⟩,fun b z=>absurd z (noA b),e0.bs,e0.bsz,fun b _ _=>noA b,fun b z=>absurd z (noA b),e0.GP,e0.frf⟩,
  rfl,e0.bare,Un.kept hk,⟨_,x.toInCall.ns,fun i y v h1 h2 h3=>?_⟩,fun y c h=>⟨_,x.cell y c h⟩,e0.hok.fresh (Nat.le_refl _),fun y c h=>?_,fun p hp=>absurd (show p∈([]:List (Addr×Obj)) from hp) (by simp),e0.hok.kept hk,?_⟩
 ·exact name_of_addr x.apart (PySem.mem_of_lookup h1) (PySem.mem_of_lookup h2)
 ·have hy:scope.names.lookup y=some .cell\/scope.names.lookup y=some .free:=hy;rcases hy with hy|hy
  ·exact yH hy
  ·exact absurd rfl (S.nofree _ (PySem.mem_of_lookup hy))
 ·exact Nat.le_of_lt (x.above y c (PySem.mem_of_lookup h))
 ·have hi:i<vs.length:=by
   unfold start at h2;by_cases hi:i<vs.length
   ·exact hi
   ·rw [List.getElem?_append_right (by simpa using hi)] at h2;rw [List.getElem?_replicate] at h2;split at h2 <;> cases h2
  have ha:vs[i]?=some v:=by
   unfold start at h2;rw [List.getElem?_append_left (by simpa using hi),List.getElem?_map] at h2;cases e:vs[i]? with
   | none=>rw [e] at h2;cases h2
   | some a=>rw [e] at h2;cases h2;rfl
  obtain ⟨u,hu,rv⟩:=r.get ha;have hp:ps[i]?=some y:=by
   rw [<-S.pre,List.getElem?_take_of_lt (by lia)];exact h1
  have ndP:ps.Nodup:=by rw [<-S.pre];exact S.nd.sublist (List.take_sublist _ _)
  refine ⟨u,rv,?_⟩;rcases S.par y (List.mem_of_getElem? hp) with k|k
  ·exact .inl ⟨k,tY ndP hp hu k⟩
  ·obtain ⟨c,e⟩:=yH (n:=s.heap.objs.size+1) k;refine .inr ⟨.inl k,c,e,?_⟩;have q:=x.cell y c e;rw [tZ ndP hp hu (by show scope.names.lookup y≠_;rw [k];decide)] at q;exact q
 ·exact e0.hok.fresh (Nat.le_of_lt (x.above y c (PySem.mem_of_lookup h)))
 ·unfold start;show _=N.length;rw [List.length_append,List.length_map,List.length_replicate];lia
theorem aCr {CX:CXT} {P:Program} {w:World} {K:PySem.W.Frag} {mg:Str->Option Value} {base:Heap} {k:Nat} {f:Addr} {name qual:Str} {params:Arguments} {body:List Stmt} {scope:Scope} {dV kV doc pm cdv ct oc:Value} {an od:Option Addr}
  {osl:Array (Option Value)} {N ps:List Str} {sp:Sp} (lk:K.lookup f=some ⟨oc,od,.func (PySem.W.fnOf name qual params body scope dV kV doc pm an cdv ct),osl⟩) (hcd:PySem.W.codeIn K cdv qual=true) (S:bT N ps scope)
  (len:∀vs H Q E,sp vs H Q E->vs.length=ps.length)
  (hbody:∀(A:Around) (outer:List Env) (s:Shared) (H:Hp) (vs:List V) (Q:VK) (E:XK),lR k (A.deeper (envOfC qual scope s.heap.objs.size f cdv))->sp vs H Q E->
   ∃t,PSs (O2 CX P w K mg base N qual scope f cdv A outer s H E) body t/\t {nx:=fun _ H'=>Q .non H',rt:=Q} (start N vs) H) :
  yG P w K mg base CX (k+1) f (PySem.W.fnOf name qual params body scope dV kV doc pm an cdv ct) ps sp:=by
 refine ⟨len,fun A outer s H args us vs Q E hr e0 hb r hsp=>?_⟩;have hl:=len _ _ _ _ hsp;have KX:K.In s.heap:=e0.mod.kin.keeps fun b o e=>(e0.bs b o e).1
 have lim:s.heap.NoLimit:=e0.mod.nolimit.keeps fun b o e=>(e0.bs b o e).1
 have hkind:∀y∈ps.zip us,scope.names.lookup y.1=some .local\/(scope.names.lookup y.1=some .cell/\((cellsFrom (s.heap.objs.size+1) scope.names []).lookup y.1).isSome=true):=fun ⟨n,v⟩ hy=>by
  rcases S.par n (List.of_mem_zip hy).1 with q|q
  ·exact .inl q
  ·exact .inr ⟨q,PySem.W.cellsFrom_some _ _ _ (.inl q)⟩
 refine codeAny_call_function hr.depth (KX _ _ lk) rfl S.co S.gen rfl (PySem.W.codeRec_of KX hcd) (hb _ _ _ _ ?_);refine wpAny_newFunctionEnv_cells S.kind hkind fun env he s1 x=>?_
 subst he;refine ⟨lim.keeps x.toInCall.keep,codeAny_func ?_⟩;obtain ⟨t,ht,hq⟩:=hbody A outer s H vs Q E (hr.deeper _) hsp;have I:Inv (O2 CX P w K mg base N qual scope f cdv A outer s H E) [] (start N vs) H s1:=G9 S hr.hd e0 hl r x;refine wpAny_mono (ht [] s1 (start N vs) H _ I hq) (fun fl s' hs=>?_) fun e s' hs=>hs
 have fin:∀{σ':St} {H':Hp} {v:V} {u:Value},Inv (O2 CX P w K mg base N qual scope f cdv A outer s H E) [] σ' H' s'->RelV v u->Q v H'->CE outer P w H s Q u s':=
  fun {σ' H' v u} J rv q=>⟨v,H',J.os,J.bare,J.base,J.hok,rv,q⟩
 cases fl with
 | ret u=>
  obtain ⟨v,σ',H',J,rv,q⟩:=hs;exact fin J rv q
 | next=>
  obtain ⟨σ',H',J,q⟩:=hs;exact fin (v:=V.non) (u:=Value.none) J rfl q
 | brk=>
  obtain ⟨_,_,_,q⟩:=hs;exact False.elim q
 | cont=>
  obtain ⟨_,_,_,q⟩:=hs;exact False.elim q
end L2
namespace L2
open PySem PySem.Spec PyProof.Rows
section
variable {X:Cx} {x:Str} {p pos:Pos} {e:Expr} {es:List Expr} {t:TA} {id T:String} {r:List V->Hp->VK->Prop}
noncomputable def tCB (r:List V->Hp->VK->Prop) (t:TA):TE:=fun σ H Q=>t σ H fun vs H1=>r vs H1 Q
theorem qZ (hc:gY X (.builtin id) r) (hg:Gl X x) (hm:X.mg x=none) (hv:bootBuiltins x=some (.builtin id)) (ha:PA X (e::es) t) (hn:x ≠ "__name__":=by decide) (hdb:(x==("__debug__" : Str))=false:=by decide)
  (he:starEach (e::es) X.env=(false,eval e X.env)::starEach es X.env:=by rfl) (hpl:(backTo pos (starEach es X.env)).any (·.1)=false:=by rfl):PE X (.Call (.Name x p) (e::es) [] pos) (tCB r t):=by
 intro pins s σ H Q I h;refine wpAny_Call_Name_kw (tV I hg hm hv ?_ hn hdb);exact PyProof.Rows.callWith_builtin1 (thn (ha pos pins s σ H _ I h) fun us s1 ⟨vs,H1,I1,r1,q1⟩=>hc pins s1 σ H1 vs us Q I1 r1 q1) he hpl
theorem G_ (hc:gY X (.type T) r) (hg:Gl X x) (hm:X.mg x=none) (hv:bootBuiltins x=some (.type T)) (ha:PA X (e::es) t) (hn:x ≠ "__name__":=by decide) (hdb:(x==("__debug__" : Str))=false:=by decide)
  (he:starEach (e::es) X.env=(false,eval e X.env)::starEach es X.env:=by rfl) (hpl:(backTo pos (starEach es X.env)).any (·.1)=false:=by rfl):PE X (.Call (.Name x p) (e::es) [] pos) (tCB r t):=by
 intro pins s σ H Q I h;refine wpAny_Call_Name_kw (tV I hg hm hv ?_ hn hdb);exact PyProof.Rows.callWith_type1 (thn (ha pos pins s σ H _ I h) fun us s1 ⟨vs,H1,I1,r1,q1⟩=>hc pins s1 σ H1 vs us Q I1 r1 q1) he hpl
end
end L2
namespace HT
open PySem PyProof.Rows
section
open PySem.SeqAt
open PySem.AutoSeq1 (wpAny_loadPart')
open PySem.MeetsSeq PySem.MeetsSeq2 PySem.MeetsSeq3
end
section
variable {prog:Program} {w:World} {A:Around} {E:Value->Shared->Prop} {s:Shared}
noncomputable def sIx (n d:Nat):Option Int->Nat
 | none=>d
 | some v=>if v<0 then (v+(n:Int)).toNat else min v.toNat n
theorem ZZ (n d:Nat) (hd:d<=n) (o:Option Int):sIx n d o<=n:=by
 cases o with
 | none=>exact hd
 | some v=>
  show (if v<0 then (v+(n:Int)).toNat else min v.toNat n)<=n;by_cases hv:v<0
  ·rw [if_pos hv];lia
  ·rw [if_neg hv];exact Nat.min_le_right _ _
theorem HB (v:Int) (n d:Nat):(if v<0 then max (v+(n:Int)) 0 else min v (n:Int))=((sIx n d (some v):Nat):Int):=by
 show (if v<0 then max (v+(n:Int)) 0 else min v (n:Int))=(((if v<0 then (v+(n:Int)).toNat else min v.toNat n):Nat):Int);by_cases hv:v<0
 ·simp only [if_pos hv];lia
 ·simp only [if_neg hv];lia
theorem A_ (lo hi:Option Int) (n:Nat):Builtin.Slice.sliceAdjust lo hi 1 (n:Int)=(((sIx n 0 lo:Nat):Int),((sIx n n hi:Nat):Int)):=by
 have h1:¬((1:Int)<0):=by lia
 unfold Builtin.Slice.sliceAdjust;simp only [h1,if_false];refine Prod.ext ?_ ?_
 ·cases lo with
  | none=>rfl
  | some v=>exact HB v n 0
 ·cases hi with
  | none=>rfl
  | some v=>exact HB v n n
theorem BJ (i j:Nat):Builtin.Slice.slicePlaces (i:Int) (j:Int) 1=j-i:=by
 unfold Builtin.Slice.slicePlaces;have h1:(1:Int) > 0:=by lia
 simp only [h1,if_true,Int.ediv_one];split <;> lia
theorem qG {v:Value} {o:Option Int} {Q:Option Int->Shared->Prop} (p:IsPart v o) (h:Q o s):wpAny (model prog w) A (Builtin.Slice.slicePartIndex v) Q E s:=by
 cases p with
 | none=>exact slicePart_none h
 | int i t=>exact slicePart_int h
theorem m7 {sl:Addr} {vl vu:Value} {lo hi:Option Int} {n:Nat} {Q:Int×Int×Nat->Shared->Prop} (hs:s.heap.IsSliceOf sl vl vu .none) (pl:IsPart vl lo) (pu:IsPart vu hi)
  (h:Q (((sIx n 0 lo:Nat):Int),1,sIx n n hi-sIx n 0 lo) s):wpAny (model prog w) A (Builtin.Slice.sliceApplied (.ref sl) (pure (n:Int))) Q E s:=by
 obtain ⟨os,hos,hcs,hds⟩:=id hs;unfold Builtin.Slice.sliceApplied Builtin.Slice.sliceFields;refine wpAny_bind (wpAny_bind (wpAny_field hos hds (x:=vl) rfl (wpAny_bind (wpAny_field hos hds (x:=vu) rfl (wpAny_bind (wpAny_field hos hds (x:=.none) rfl (wpAny_pure ?_)))))));refine wpAny_bind (slicePart_none ?_);show wpAny _ _ (if ((1:Int)==0)=true then _ else _) _ _ s;rw [if_neg (by decide)];refine wpAny_bind (qG pl (wpAny_bind (qG pu (wpAny_bind (wpAny_pure ?_)))));show wpAny _ _ (match Builtin.Slice.sliceAdjust lo hi 1 (n:Int) with|(lo,hi)=>pure (lo,(1:Int),Builtin.Slice.slicePlaces lo hi 1)) _ _ s;rw [A_ lo hi n];show wpAny _ _ (pure (((sIx n 0 lo:Nat):Int),(1:Int),Builtin.Slice.slicePlaces ((sIx n 0 lo:Nat):Int) ((sIx n n hi:Nat):Int) 1)) _ _ s;rw [BJ];exact wpAny_pure h
theorem PK (xs:Array Value) (i k:Nat):((List.range k).filterMap fun (m:Nat)=>xs[((i:Int)+(m:Int)*1).toNat]?).toArray=((xs.toList.drop i).take k).toArray:=by
 have e:(fun (m:Nat)=>xs[((i:Int)+(m:Int)*1).toNat]?)=fun m=>xs[i+m]?:=by
  funext m
  have:((i:Int)+(m:Int)*1).toNat=i+m:=by lia
  rw [this]
 rw [e];have:=pick_run xs i k;rw [List.filterMap_map] at this;have e2:((fun x=>xs[x]?) ∘ fun x=>i+x)=fun m=>xs[i+m]?:=rfl
 rw [e2] at this;rw [this]
theorem lU {t sl:Addr} {items:Array Value} {vl vu:Value} {lo hi:Option Int} {Q:Value->Shared->Prop} (ht:IsTup s.heap t items) (hs:s.heap.IsSliceOf sl vl vu .none) (pl:IsPart vl lo) (pu:IsPart vu hi)
  (hw:¬(sIx items.size 0 lo=0/\sIx items.size items.size hi=items.size))
  (h:Q (.ref s.heap.objs.size) {s with heap:=s.heap.push {cls:=.type "tuple",data:=.seq ((items.toList.drop (sIx items.size 0 lo)).take (sIx items.size items.size hi-sIx items.size 0 lo)).toArray}})
  (hsz:items.size<=sizeLine):wpAny (model prog w) A (getItem (.ref t) (.ref sl)) Q E s:=by
 have htake:sizeOk (.seq ((items.toList.drop (sIx items.size 0 lo)).take (sIx items.size items.size hi-sIx items.size 0 lo)).toArray):=by
  show ((items.toList.drop (sIx items.size 0 lo)).take (sIx items.size items.size hi-sIx items.size 0 lo)).toArray.size<=sizeLine;rw [List.size_toArray,List.length_take,List.length_drop,Array.length_toList];lia
 have hj:sIx items.size items.size hi<=items.size:=ZZ _ _ (Nat.le_refl _) hi;obtain ⟨os,hos,hcs,hds⟩:=id hs;have hTs:s.TypeIs (.ref sl) "slice":=⟨os,hos,hcs⟩
 unfold getItem
 try with_reducible refine wpAny_holding ?_
 first|refine wpAny_bind (wpAny_pure ?_)|skip
 refine wpAny_bind (wpAny_sequenceKey ht.typeIs (by decide) ?_);refine wpAny_bind (wpAny_callSpecial?_slot (name:=Str.ofString "__getitem__") ht.typeIs PyProof.Rows.slot_tuple_getitem
  (wpAny_call_entry PyProof.Rows.slot_tuple_getitem ht.typeIs entry_tuple_getitem ?_ (args_tuple_getitem _ _)))
 show wpAny _ _ (Builtin.Tuple.tupleItemsOf (.ref t) >>= _) _ _ s;refine wpAny_bind (tupleItemsOf_ ht ?_);refine wpAny_bind (wpAny_typeOf hTs ?_);rw [if_pos (by decide)];refine wpAny_bind (m7 hs pl pu ?_);have hno:¬((((sIx items.size 0 lo:Nat):Int)==0&&(1:Int)==1&&(sIx items.size items.size hi-sIx items.size 0 lo)==items.size)=true):=by
  intro q;rw [Bool.and_eq_true,Bool.and_eq_true] at q;have q1:((sIx items.size 0 lo:Nat):Int)=0:=eq_of_beq q.1.1;have q2:sIx items.size items.size hi-sIx items.size 0 lo=items.size:=eq_of_beq q.2;exact hw ⟨by lia,by lia⟩
 show wpAny _ _ (if (((sIx items.size 0 lo:Nat):Int)==0&&(1:Int)==1&&(sIx items.size items.size hi-sIx items.size 0 lo)==items.size)=true then _ else _) _ _ s;rw [if_neg hno,PK]
 first
  | exact wpAny_bind (m:=Builtin.Tuple.tupleExact _) (wpAny_newObj_type (wpAny_pure ⟨_,rfl,wpAny_pure h⟩) htake)
  | exact wpAny_bind (m:=Builtin.Tuple.tupleExact _) (wpAny_newObj_type (wpAny_bind (wpAny_pure (wpAny_pure ⟨_,rfl,wpAny_pure h⟩))) htake)
  | exact wpAny_bind (wpAny_bind (m:=Builtin.Tuple.tupleExact _) (wpAny_newObj_type (wpAny_pure (wpAny_pure ⟨_,rfl,wpAny_pure h⟩)) htake))
  | exact wpAny_bind (wpAny_bind (m:=Builtin.Tuple.tupleExact _) (wpAny_newObj_type (wpAny_pure ⟨_,rfl,wpAny_pure h⟩) htake))
end
end HT
namespace L2
open PySem PySem.Spec PyProof.Rows
noncomputable abbrev TO:=St->Hp->(Option Int->Hp->Prop)->Prop
noncomputable def PO (X:Cx) (e:Option Expr) (t:TO):Prop:=
 ∀(pins:List (Addr×Obj)) (s:Shared) (σ:St) (H:Hp) (Q:Option Int->Hp->Prop),Inv X pins σ H s->t σ H Q->
  wpAny (model X.prog X.w) X.A (evalPart e X.env) (fun u s'=>∃o H',Inv X pins σ H' s'/\IsPart u o/\Q o H') X.xe s
noncomputable def U5:TO:=fun _ H Q=>Q none H
noncomputable def aCs (t:TE):TO:=fun σ H Q=>t σ H fun x H1=>∃i,x=.int i/\Q (some i) H1
section
variable {X:Cx} {e:Expr} {te:TE} {lo hi:Option Expr} {tl th:TO} {pos p2:Pos}
theorem U6:PO X none U5:=by
 intro pins s σ H Q I h;rw [evalPart_none];exact wpAny_pure ⟨none,H,I,.none,h⟩
theorem U7 (h:PE X e te):PO X (some e) (aCs te):=by
 intro pins s σ H Q I hw;rw [evalPart_some];refine thn (h pins s σ H _ I hw) fun u s1 ⟨x,H1,I1,r1,q1⟩=>?_
 obtain ⟨i,rfl,q⟩:=q1;obtain ⟨t,rfl⟩:=r1;exact ⟨some i,H1,I1,.int i t,q⟩
noncomputable def SlR (X:Cx) (r:V->Option Int->Option Int->Hp->VK->Prop):Prop:=
 ∀(pins:List (Addr×Obj)) (s:Shared) (σ:St) (H:Hp) (x:V) (v vl vu:Value) (lo hi:Option Int) (sl:Addr) (Q:VK),Inv X pins σ H s->RelV x v->s.heap.IsSliceOf sl vl vu .none->IsPart vl lo->IsPart vu hi->r x lo hi H Q->
  ∃T id,typeLookup (.type T) "__getitem__" = pure (some (.builtin id))/\s.TypeIs v T/\wpAny (model X.prog X.w) X.A (getItem v (.ref sl)) (EP X pins σ Q) X.xe s
noncomputable def tSl (r:V->Option Int->Option Int->Hp->VK->Prop) (te:TE) (tl th:TO):TE:=fun σ H Q=>te σ H fun x H1=>tl σ H1 fun l H2=>th σ H2 fun u H3=>r x l u H3 Q
theorem PL {r:V->Option Int->Option Int->Hp->VK->Prop} (hr:SlR X r) (he:PE X e te) (hl:PO X lo tl) (hu:PO X hi th):PE X (.Subscript e (.Slice lo hi none p2) pos) (tSl r te tl th):=by
 intro pins s σ H Q I h;refine Subscript_ (thn (he pins s σ H _ I h) fun v s1 ⟨x,H1,I1,r1,q1⟩=>?_);refine wpAny_Slice (thn (hl pins s1 σ H1 _ I1 q1) fun vl s2 ⟨l,H2,I2,pl,q2⟩=>thn (hu pins s2 σ H2 _ I2 q2) fun vu s3 ⟨u,H3,I3,pu,q3⟩=>?_);rw [evalPart_none];refine wpAny_pure ?_;have I4:Inv X pins σ H3 {s3 with heap:=s3.heap.push {cls:=.type "slice",data:=.fields #[vl,vu,.none]}}:=I3.kept (t':=s3.toks) fun b ob q=>Heap.get?_push_of_some _ q
 obtain ⟨T,id,hT,ht,hg⟩:=hr pins {s3 with heap:=s3.heap.push {cls:=.type "slice",data:=.fields #[vl,vu,.none]}} σ H3 x v vl vu l u s3.heap.objs.size Q I4 r1 (Heap.IsSliceOf.new ..) pl pu q3;show wpAny (model X.prog X.w) X.A (subscriptTail e (.Slice lo hi none p2) v (.ref s3.heap.objs.size)) (EP X pins σ Q) X.xe {s3 with heap:=s3.heap.push {cls:=.type "slice",data:=.fields #[vl,vu,.none]}};exact tail_any (ops:=[.ref s3.heap.objs.size,v]) ht hT hg (by with_unfolding_all rfl)
noncomputable def HD (xs:List V) (lo hi:Option Int):List V:=(xs.drop (HT.sIx xs.length 0 lo)).take (HT.sIx xs.length xs.length hi-HT.sIx xs.length 0 lo)
theorem nW (xs:List V) (lo hi:Option Int):(HD xs lo hi).length<=xs.length:=by
 unfold HD;rw [List.length_take,List.length_drop];lia
noncomputable def aEg (K:PySem.W.Frag):V->Option Int->Option Int->Hp->VK->Prop:=fun x lo hi H Q=>∃a xs,x=.ref a/\SqT K H a xs/\
 ¬(HT.sIx xs.length 0 lo=0/\HT.sIx xs.length xs.length hi=xs.length)/\∀p,H p=none->Q (.ref p) (upd H p (.tup (HD xs lo hi)))
theorem Z0:SlR X (aEg X.K):=by
 intro pins s σ H x v vl vu lo hi sl Q I rx hs pl pu h;obtain ⟨a,xs,rfl,hx,hw,q⟩:=h;cases rx;obtain ⟨its,r,ht,hz⟩:=I.tuple hx;have hlen:its.toArray.size=xs.length:=by rw [List.size_toArray];exact r.length.symm
 refine ⟨"tuple",_,PyProof.Rows.slot_tuple_getitem.lookup,ht.typeIs,?_⟩;refine HT.lU ht hs pl pu (by rw [hlen];exact hw) ?_ (by rw [hlen];exact hz);rw [hlen];refine ⟨.ref s.heap.objs.size,_,I.laid (t':=s.toks) (o:=.tup (HD xs lo hi)) (fun b ob q=>Heap.get?_push_of_some _ q) (Nat.le_refl _) ?_,rfl,q _ (I.hok.fresh (Nat.le_refl _))⟩;exact ⟨Nat.le_trans (nW xs lo hi) hz,_,(r.drop (HT.sIx xs.length 0 lo)).take (HT.sIx xs.length xs.length hi-HT.sIx xs.length 0 lo),iI.new _ _⟩
end
end L2
namespace L2
open PySem PySem.Spec PyProof.Rows
noncomputable def ixN (n:Nat) (i:Int):Option Nat:=if 0<=i then (if i<n then some i.toNat else none) else if -(n:Int)<=i then some (i+n).toNat else none
noncomputable def atI {α:Type} (xs:List α) (i:Int):Option α:=(ixN xs.length i).bind fun j=>xs[j]?
theorem HF {n:Nat} {i:Int} {j:Nat} (h:ixN n i=some j):seqIndex? i n=some j/\j<n/\-(n:Int)<=i/\i<n:=by
 unfold ixN at h;by_cases h0:0<=i
 ·rw [if_pos h0] at h;by_cases h1:i<n
  ·rw [if_pos h1] at h;have e:i.toNat=j:=Option.some.inj h;exact ⟨by rw [seqIndex_of h0 h1,e],by lia,by lia,h1⟩
  ·rw [if_neg h1] at h;cases h
 ·rw [if_neg h0] at h;by_cases h1:-(n:Int)<=i
  ·rw [if_pos h1] at h;have e:(i+n).toNat=j:=Option.some.inj h;exact ⟨by rw [seqIndex_neg (by lia) h1,e],by lia,h1,by lia⟩
  ·rw [if_neg h1] at h;cases h
theorem vZ {α:Type} {xs:List α} {i:Int} {v:α} (h:atI xs i=some v):∃j,seqIndex? i xs.length=some j/\xs[j]?=some v/\j<xs.length/\-(xs.length:Int)<=i/\i<xs.length:=by
 unfold atI at h;cases e:ixN xs.length i with
 | none=>rw [e] at h;cases h
 | some j=>
  rw [e] at h;obtain ⟨h1,h2,h3,h4⟩:=HF e;exact ⟨j,h1,h,h2,h3,h4⟩
noncomputable def q_ (b:Expr):Prop:=∀o i,subscripted b false o i=operate [o,i] (getItem o i)
noncomputable def IxR (X:Cx) (r:R2):Prop:=
 ∀(value slice:Expr) (pins:List (Addr×Obj)) (s:Shared) (σ:St) (H:Hp) (x y:V) (v u:Value) (Q:VK),Inv X pins σ H s->RelV x v->RelV y u->r x y H Q->
  subscripted slice false v u=operate [v,u] (getItem v u)->wpAny (model X.prog X.w) X.A (subscriptTail value slice v u) (EP X pins σ Q) X.xe s
noncomputable def MtR (X:Cx) (id:String) (r:V->List V->Hp->VK->Prop):Prop:=
 ∀(pins:List (Addr×Obj)) (s:Shared) (σ:St) (H:Hp) (x:V) (xs:List V) (v:Value) (us:List Value) (Q:VK),Inv X pins σ H s->RelV x v->Vals xs us->r x xs H Q->
  wpAny (model X.prog X.w) X.A (call (.builtin id) (v::us)) (EP X pins σ Q) X.xe s
section
variable {X:Cx} {a b:Expr} {ta tb:TE} {pos:Pos}
theorem U8 {r:R2} (hr:IxR X r) (ha:PE X a ta) (hb:PE X b tb) (hs:q_ b):PE X (.Subscript a b pos) (tOp r ta tb):=by
 intro pins s σ H Q I h;exact Subscript_ (aCl ha hb I h fun v u s2 x y H2 I2 rx ry q=>hr a b pins s2 σ H2 x y v u Q I2 rx ry q (hs _ _))
noncomputable def aEh (K:PySem.W.Frag):R2:=fun x y H Q=>∃p xs i v,x=.ref p/\y=.int i/\SqL K H p xs/\atI xs i=some v/\Q v H
noncomputable def aEi (K:PySem.W.Frag):R2:=fun x y H Q=>∃p xs i v,x=.ref p/\y=.int i/\SqT K H p xs/\atI xs i=some v/\Q v H
noncomputable def aEj:R2:=fun x y H Q=>∃z i c,x=.str z/\y=.int i/\z.length<=sizeLine/\atI z.cps.toList i=some c/\Q (.str ⟨#[c]⟩) H
theorem v4:IxR X (aEh X.K):=by
 intro value slice pins s σ H x y v u Q I rx ry h hs;obtain ⟨p,xs,i,z,rfl,rfl,hq,he,q⟩:=h;cases rx;obtain ⟨t,rfl⟩:=ry;obtain ⟨its,r,pl,hz⟩:=I.list hq;obtain ⟨j,h1,h2,h3,h4,h5⟩:=vZ he;obtain ⟨w,ew,rw'⟩:=r.get h2;have hl:=r.length;have hn:=nU;have fin:EP X pins σ Q w s:=⟨z,H,I,rw',q⟩
 by_cases h0:0<=i
 ·have hj:i.toNat=j:=by
   rw [seqIndex_of h0 h5] at h1;exact Option.some.inj h1
  exact item_listR pl.isList h0 (by lia) (by rw [hj];simpa using ew) fin hs
 ·have hj:(i+(its.toArray.size:Int)).toNat=j:=by
   rw [seqIndex_neg (by lia) h4] at h1;rw [List.size_toArray,<-hl];exact Option.some.inj h1
  exact subscriptTail_builtinR (x:=w) pl.isList.typeIs slot_list_getitem.lookup
   (wpAny_getItem_list_neg (Q:=fun r s'=>r=w/\EP X pins σ Q r s') pl.isList (by lia) (by rw [List.size_toArray] <;> lia) (by lia) (by rw [hj];simpa using ew) ⟨rfl,fin⟩) hs
theorem Z1:IxR X (aEi X.K):=by
 intro value slice pins s σ H x y v u Q I rx ry h hs;obtain ⟨p,xs,i,z,rfl,rfl,hq,he,q⟩:=h;cases rx;obtain ⟨t,rfl⟩:=ry;obtain ⟨its,r,pl,hz⟩:=I.tuple hq;obtain ⟨j,h1,h2,h3,h4,h5⟩:=vZ he;obtain ⟨w,ew,rw'⟩:=r.get h2;have hl:=r.length;have hn:=nU;have fin:EP X pins σ Q w s:=⟨z,H,I,rw',q⟩
 exact subscriptTail_builtinR (x:=w) pl.typeIs slot_tuple_getitem.lookup
  (getItem_tuple (j:=j) (Q:=fun r s'=>r=w/\EP X pins σ Q r s') pl (by lia) (by lia) (by rw [List.size_toArray,<-hl];exact h1) (by simpa using ew) ⟨rfl,fin⟩) hs
theorem Z4:IxR X aEj:=by
 intro value slice pins s σ H x y v u Q I rx ry h hs;obtain ⟨z,i,c,rfl,rfl,hz,he,q⟩:=h;obtain ⟨t,rfl⟩:=rx;obtain ⟨t',rfl⟩:=ry;obtain ⟨j,h1,h2,h3,h4,h5⟩:=vZ he;have hl:z.cps.toList.length=z.length:=by simp [Str.length]
 rw [hl] at h1 h4 h5;have hn:=nU;exact tail_any (typeIs_str s z t) slot_str_getitem.lookup (getItem_str (c:=c) (by
  have e1:decide (i < -(2 ^ 63:Int))=false:=decide_eq_false (by lia);have e2:decide (i >= 2 ^ 63)=false:=decide_eq_false (by lia);rw [e1,e2,Bool.or_false]) (by rw [h1];simpa using h2) ⟨.str ⟨#[c]⟩,H,I.tok _,⟨_,rfl⟩,q⟩) hs
theorem BK (its:List Value) (n j:Nat) (u:Value):Obj.mapSeq (·.setIfInBounds j u) {cls:=.type "list",data:=.seq its.toArray n}={cls:=.type "list",data:=.seq (its.set j u).toArray n}:=by
 simp [Obj.mapSeq]
theorem Inv.lst {pins:List (Addr×Obj)} {σ:St} {H:Hp} {s:Shared} {p:Addr} {xs:List V} (I:Inv X pins σ H s) (h:H p=some (.lst xs)) :
  ∃(its:List Value) (n:Nat),Vals xs its/\s.heap.get? p=some {cls:=.type "list",data:=.seq its.toArray n}/\xs.length<=sizeLine:=by
 obtain ⟨z,its,n,r,e⟩:=I.hok p _ h;exact ⟨its,n,r,e,z⟩
theorem Inv.Z5 {pins:List (Addr×Obj)} {σ:St} {H:Hp} {s:Shared} {p:Addr} {xs ys:List V} {its its':List Value} {n n':Nat} {f:Obj->Obj} (I:Inv X pins σ H s) (h:H p=some (.lst xs))
  (ho:s.heap.get? p=some {cls:=.type "list",data:=.seq its.toArray n}) (hf:f {cls:=.type "list",data:=.seq its.toArray n}={cls:=.type "list",data:=.seq its'.toArray n'}) (r:Vals ys its') (hz:ys.length<=sizeLine) (t:Nat) :
  Inv X pins σ (upd H p (.lst ys)) {s with heap:=s.heap.update p f,toks:=t}:=by
 have e:(s.heap.update p f).get? p=some {cls:=.type "list",data:=.seq its'.toArray n'}:=by
  rw [Heap.get?_update_self f ho (by rw [hf] <;> rfl),hf]
 refine I.write (x:=p) (e:=p) (by rw [h];trivial) (.inl rfl) (fun b u hb q=>(Heap.get?_update_other _ _ (Ne.symm hb)).trans q) ⟨_,e⟩ ?_;exact ⟨hz,its',n',r,e⟩
noncomputable def aCt:V->V->V->Hp->(Hp->Prop)->Prop:=fun o i v H Q=>∃p xs k j,o=.ref p/\i=.int k/\H p=some (.lst xs)/\ixN xs.length k=some j/\Q (upd H p (.lst (xs.set j v)))
theorem set_list:aE8 X aCt:=by
 intro pins s σ H o i v ov iv u Q I ro ri rv h;obtain ⟨p,xs,k,j,rfl,rfl,hp,hj,q⟩:=h;cases ro;obtain ⟨t,rfl⟩:=ri;obtain ⟨its,n,r,ho,hz⟩:=I.lst hp;obtain ⟨h1,h2,h3,h4⟩:=HF hj;have hl:=r.length;have hn:=nU;have I':Inv X pins σ (upd H p (.lst (xs.set j v))) {s with heap:=s.heap.update p (Obj.mapSeq (·.setIfInBounds j u))}:=
  I.Z5 hp ho (BK its n j u) (r.set rv j) (by rw [List.length_set];exact hz) s.toks
 by_cases h0:0<=k
 ·have hk:k.toNat=j:=by
   rw [seqIndex_of h0 h4] at h1;exact Option.some.inj h1
  exact PySem.W.ki_setAt ho h0 (by lia) (by rw [List.size_toArray,<-hl];exact h4) (by rw [hk];exact ⟨_,I',q⟩)
 ·have hk:(k+(its.toArray.size:Int)).toNat=j:=by
   rw [seqIndex_neg (by lia) h3] at h1;rw [List.size_toArray,<-hl];exact Option.some.inj h1
  exact PySem.W.ki_setBack ho (by lia) (by rw [List.size_toArray,<-hl];exact h3) (by lia) (by rw [hk];exact ⟨_,I',q⟩)
theorem t6 (lo hi:Option Int) (n:Nat):(sliceBounds lo hi none n).1=((HT.sIx n 0 lo:Nat):Int)/\(sliceBounds lo hi none n).2.1=((HT.sIx n n hi:Nat):Int)/\(sliceBounds lo hi none n).2.2=1:=by
 refine ⟨?_,?_,rfl⟩
 ·cases lo with
  | none=>simp [sliceBounds,HT.sIx]
  | some i=>
   simp only [sliceBounds,HT.sIx,Option.getD_none,show (1:Int) > 0 by decide,if_true];by_cases h:i<0
   ·simp only [h,if_true] <;> lia
   ·simp only [h,if_false] <;> lia
 ·cases hi with
  | none=>simp [sliceBounds,HT.sIx]
  | some i=>
   simp only [sliceBounds,HT.sIx,Option.getD_none,show (1:Int) > 0 by decide,if_true];by_cases h:i<0
   ·simp only [h,if_true] <;> lia
   ·simp only [h,if_false] <;> lia
theorem rA (its:List Value) (lo hi:Option Int):slicePick its.toArray lo hi none=((its.drop (HT.sIx its.length 0 lo)).take (HT.sIx its.length its.length hi-HT.sIx its.length 0 lo)).toArray:=by
 obtain ⟨h1,h2,h3⟩:=t6 lo hi its.toArray.size;unfold slicePick;rw [h1,h2,h3];simp only [sliceRange_one,pick_run,List.size_toArray] <;> rfl
noncomputable def aEk (K:PySem.W.Frag):V->Option Int->Option Int->Hp->VK->Prop:=fun x lo hi H Q=>∃a xs,x=.ref a/\SqL K H a xs/\∀p,H p=none->Q (.ref p) (upd H p (.lst (HD xs lo hi)))
theorem HH:SlR X (aEk X.K):=by
 intro pins s σ H x v vl vu lo hi sl Q I rx hs pl pu h;obtain ⟨a,xs,rfl,hx,q⟩:=h;cases rx;obtain ⟨its,r,ht,hz⟩:=I.list hx;have hlen:=r.length;refine ⟨"list",_,slot_list_getitem.lookup,ht.isList.typeIs,?_⟩;refine wpAny_getItem_list_slice ht.isList hs pl pu .none (by simp) ?_ (by rw [List.size_toArray] <;> lia);rw [rA,<-hlen];refine ⟨.ref s.heap.objs.size,_,I.laid (t':=s.toks) (o:=.lst (HD xs lo hi)) (fun b ob q=>Heap.get?_push_of_some _ q) (Nat.le_refl _) ?_,rfl,q _ (I.hok.fresh (Nat.le_refl _))⟩;exact ⟨Nat.le_trans (nW xs lo hi) hz,_,0,(r.drop (HT.sIx xs.length 0 lo)).take (HT.sIx xs.length xs.length hi-HT.sIx xs.length 0 lo),Heap.get?_push_size _ rfl⟩
theorem fW:gY X (.builtin "len") (fun xs H Q=>∃p ys,xs=[.ref p]/\(SqL X.K H p ys\/SqT X.K H p ys)/\Q (.int ys.length) H):=by
 intro pins s σ H xs us Q I r h;obtain ⟨p,ys,rfl,hq,q⟩:=h;obtain ⟨u,rfl,rx⟩:=vals1 r;cases rx;have hn:=nU;rcases hq with hq|hq
 ·obtain ⟨its,r',pl,hz⟩:=I.list hq;have hlen:=r'.length;exact Calls.call_len_list pl.isList (by simp only [List.size_toArray] <;> lia) ⟨.int ys.length,H,I.tok _,⟨s.toks+1,by rw [List.size_toArray,hlen]⟩,q⟩
 ·obtain ⟨its,r',pl,hz⟩:=I.tuple hq;have hlen:=r'.length;exact len_tuple pl (by simp only [List.size_toArray] <;> lia) ⟨.int ys.length,H,I.tok _,⟨s.toks+1,by rw [List.size_toArray,hlen]⟩,q⟩
theorem t7:gY X (.builtin "len") (fun xs H Q=>∃z,xs=[.str z]/\z.length<=sizeLine/\Q (.int z.length) H):=by
 intro pins s σ H xs us Q I r h;obtain ⟨z,rfl,hz,q⟩:=h;obtain ⟨u,rfl,t,rfl⟩:=vals1 r;have hn:=nU;exact len_str (by lia) ⟨.int z.length,H,I.tok _,⟨_,rfl⟩,q⟩
theorem t8:gY X (.type "list") (fun xs H Q=>∃p ys,xs=[.ref p]/\(SqL X.K H p ys\/SqT X.K H p ys)/\∀l,H l=none->Q (.ref l) (upd H l (.lst ys))):=by
 intro pins s σ H xs us Q I r h;obtain ⟨p,ys,rfl,hq,q⟩:=h;obtain ⟨u,rfl,rx⟩:=vals1 r;cases rx;have fin:∀(its:List Value),Vals ys its->ys.length<=sizeLine->∀(h':Heap) (c':Nat),(∀b o',s.heap.get? b=some o'->h'.get? b=some o')->
   h'.get? s.heap.objs.size=some {cls:=.type "list",dict:=none,data:=.seq its.toArray c',slots:=#[]}->EP X pins σ Q (.ref s.heap.objs.size) {s with heap:=h'}:=fun its r' hz h' c' kp e=>
  ⟨.ref s.heap.objs.size,_,I.laid (t':=s.toks) kp (Nat.le_refl _) (show gF X.prog X.w _ h' _ (.lst ys) from ⟨hz,its,c',r',e⟩),rfl,q _ (I.hok.fresh (Nat.le_refl _))⟩
 rcases hq with hq|hq
 ·obtain ⟨its,r',pl,hz⟩:=I.list hq;have hlen:=r'.length;obtain ⟨o,ho,hc,n,hd⟩:=pl.isList;exact call_list_seq p (.inl rfl) ho hc hd (fun h' c' kp e=>fin its r' hz h' c' kp e) (by simp only [List.size_toArray] <;> lia)
 ·obtain ⟨its,r',pl,hz⟩:=I.tuple hq;have hlen:=r'.length;obtain ⟨o,ho,hc,n,hd⟩:=pl;exact call_list_seq p (.inr rfl) ho hc hd (fun h' c' kp e=>fin its r' hz h' c' kp e) (by simp only [List.size_toArray] <;> lia)
theorem kI:gY X (.type "tuple") (fun xs H Q=>∃p ys,xs=[.ref p]/\((SqL X.K H p ys/\∀l,H l=none->Q (.ref l) (upd H l (.tup ys)))\/(SqT X.K H p ys/\Q (.ref p) H))):=by
 intro pins s σ H xs us Q I r h;obtain ⟨p,ys,rfl,h⟩:=h;obtain ⟨u,rfl,rx⟩:=vals1 r;cases rx;rcases h with ⟨hq,q⟩|⟨hq,q⟩
 ·obtain ⟨its,r',pl,hz⟩:=I.list hq;have hlen:=r'.length;refine call_tuple_list pl.isList (fun h' kp=>?_) (by simp only [List.size_toArray] <;> lia);have I1:Inv X pins σ H {s with heap:=h'}:=I.kept (t':=s.toks) kp;have I2:Inv X pins σ (upd H h'.objs.size (.tup ys)) {s with heap:=h'.push {cls:=.type "tuple",data:=.seq its.toArray}}:=
   I1.laid (t':=s.toks) (fun b o e=>Heap.get?_push_of_some _ e) (Nat.le_refl _) (show gF X.prog X.w _ _ _ (.tup ys) from ⟨hz,its,r',iI.new _ _⟩)
  exact ⟨.ref h'.objs.size,_,I2,rfl,q _ (I1.hok.fresh (Nat.le_refl _))⟩
 ·obtain ⟨its,r',pl,hz⟩:=I.tuple hq;exact call_tuple_same pl ⟨.ref p,H,I,rfl,q⟩
noncomputable def tyV (K:PySem.W.Frag) (T:String) (x:V) (H:Hp):Prop:=match x with
 | .str _=>T = "str"
 | .int _=>T = "int"
 | .ref p=>(T = "list"/\∃xs,SqL K H p xs)\/(T = "tuple"/\((∃o,K.lookup p=some o/\o.cls=.type "tuple"/\o.dict=none)\/∃xs,H p=some (.tup xs)))\/
   (T = "dict"/\((∃kvs,H p=some (.dK kvs))\/∃kvs,H p=some (.dT kvs)))\/(T = "set"/\∃S n,H p=some (.set S n))
 | _=>False
theorem Z6 {pins:List (Addr×Obj)} {σ:St} {H:Hp} {s:Shared} {T:String} {x:V} {v:Value} (I:Inv X pins σ H s) (r:RelV x v) (ty:tyV X.K T x H) :
  s.TypeIs v T/\∀a,v=.ref a->∃ob,s.heap.get? a=some ob/\ob.dict=none:=by
 cases x with
 | str z=>
  obtain ⟨t,rfl⟩:=r;cases (show T = "str" from ty);exact ⟨typeIs_str s z t,fun _ e=>nomatch e⟩
 | int i=>
  obtain ⟨t,rfl⟩:=r;cases (show T = "int" from ty);exact ⟨typeIs_int s i t,fun _ e=>nomatch e⟩
 | ref p=>
  cases r;rcases ty with ⟨rfl,xs,hq⟩|⟨rfl,⟨o,hk,hc,hd⟩|⟨xs,hk⟩⟩|⟨rfl,hk⟩|⟨rfl,S,n,hk⟩
  ·obtain ⟨its,_,pl,_⟩:=I.list hq;refine ⟨pl.isList.typeIs,fun a e=>?_⟩;cases e;obtain ⟨o,n,e,c,hd,_⟩:=pl;exact ⟨o,e,hd⟩
  ·refine ⟨⟨o,I.kIn p o hk,hc⟩,fun a e=>?_⟩;cases e;exact ⟨o,I.kIn _ o hk,hd⟩
  ·obtain ⟨_,its,_,pl⟩:=I.hok p _ hk;refine ⟨(iI.tup pl).typeIs,fun a e=>?_⟩;cases e;exact iI.bare pl
  ·have z:∃o,s.heap.get? p=some o/\o.ExactDict:=by
    rcases hk with ⟨kvs,hk⟩|⟨kvs,hk⟩
    ·obtain ⟨_,_,_,_,o,_,_,e,ex,_⟩:=I.hok p _ hk;exact ⟨o,e,ex⟩
    ·obtain ⟨_,_,_,_,o,_,_,e,ex,_⟩:=I.hok p _ hk;exact ⟨o,e,ex⟩
   obtain ⟨o,e,ex⟩:=z;refine ⟨⟨o,e,ex.1⟩,fun a e2=>?_⟩;cases e2;exact ⟨o,e,ex.2.1⟩
  ·obtain ⟨o,_,_,_,e,ex,_⟩:=I.hok p _ hk;refine ⟨⟨o,e,ex.1⟩,fun a e2=>?_⟩;cases e2;exact ⟨o,e,ex.2.1⟩
 | _=>exact False.elim ty
noncomputable def tBM (K:PySem.W.Frag) (T:String) (r:V->List V->Hp->VK->Prop) (to:TE) (t:TA):TE:=fun σ H Q=>to σ H fun x H1=>tyV K T x H1/\t σ H1 fun xs H2=>r x xs H2 Q
variable {o e:Expr} {es:List Expr} {to:TE} {t:TA} {name:Str} {apos cpos:Pos} {T id:String} {r:V->List V->Hp->VK->Prop}
theorem Z7 (pa:PlainAttrs T) (slot:Slot T name id) (hty:typeOf (.builtin id)=pure (.type "method_descriptor")) (hm:MtR X id r) (ho:PE X o to) (ha:PA X (e::es) t)
  (hbase:attributeBase o name X.env (eval o X.env)=eval o X.env:=by rfl)
  (hfew:((backTo cpos (starEach (e::es) X.env)).all (fun x=>!x.1)&&(backToKw cpos (keywordEach [] X.env)).all (fun x=>x.1.isSome)
   && decide ((e::es).length+([]:List Keyword).length+(if ([]:List Keyword).isEmpty then 0 else 1)<30))=true:=by rfl)
  (hline:(apos.endLine==cpos.line)=true:=by rfl) (hs:starEach (e::es) X.env=(false,eval e X.env)::starEach es X.env:=by rfl) (hplain:(backTo cpos (starEach es X.env)).any (·.1)=false:=by rfl) :
  PE X (.Call (.Attribute o name apos) (e::es) [] cpos) (tBM X.K T r to t):=by
 intro pins s σ H Q I h;refine wpAny_Call_method_late hbase hfew hline rfl (thn (ho pins s σ H _ I h) fun v s1 ⟨x,H1,I1,r1,ty,q1⟩=>?_);obtain ⟨h1,h2⟩:=Z6 I1 r1 ty;refine ⟨T,id,pa,slot,hty,h1,h2,?_⟩;have hA:=ha cpos pins s1 σ H1 _ I1 q1;rw [hs] at hA ⊢;refine Calls.callWith_builtin (by show (false||(backTo cpos (starEach es X.env)).any (·.1))=false;rw [hplain] <;> rfl) (Calls.evalArgs_plain ?_);exact thn hA fun us s2 ⟨vs,H2,I2,r2,q2⟩=>hm pins s2 σ H2 x vs v us Q I2 r1 r2 q2
end
end L2
namespace L2
open PySem PySem.Spec PyProof.Rows
noncomputable def MtM (X:Cx) (id:String) (r:V->List V->Hp->VK->Prop):Prop:=
 ∀(pins:List (Addr×Obj)) (s:Shared) (σ:St) (H:Hp) (x:V) (xs:List V) (v:Value) (us:List Value) (Q:VK),Inv X pins σ H s->RelV x v->Vals xs us->r x xs H Q->
  wpAny (model X.prog X.w) X.A (call (.builtin id) (v::us)) (EP X pins σ Q) X.xe s
theorem Vals.one:∀{x:V} {us:List Value},Vals [x] us->∃u,us=[u]/\RelV x u
 | _,_,.cons r .nil=>⟨_,rfl,r⟩
theorem Vals.eraseIdx:∀{xs:List V} {us:List Value} (i:Nat),Vals xs us->Vals (xs.eraseIdx i) (us.eraseIdx i)
 | _,_,_,.nil=>.nil
 | _,_,0,.cons _ t=>t
 | _,_,i+1,.cons r t=>.cons r (Vals.eraseIdx i t)
theorem t_ {α:Type}:∀(l:List α) (i:Nat),(l.eraseIdx i).length<=l.length
 | [],_=>Nat.le_refl _
 | _::_,0=>Nat.le_succ _
 | _::r,i+1=>Nat.succ_le_succ (t_ r i)
section
variable {X:Cx} {pins:List (Addr×Obj)} {σ:St} {H:Hp} {s:Shared} {l b:Addr} {xs ys zs:List V}
theorem Inv.aDs {its its':List Value} {n:Nat} {f:Array Value->Array Value} {t':Nat} (I:Inv X pins σ H s) (hH:H l=some (.lst xs))
  (e:s.heap.get? l=some {cls:=.type "list",data:=.seq its.toArray n}) (hf:f its.toArray=its'.toArray) (hv:Vals ys its') (hz:ys.length<=sizeLine) :
  Inv X pins σ (upd H l (.lst ys)) {s with heap:=s.heap.update l (Obj.mapSeq f),toks:=t'}:=by
 have q:=PySem.IsL.update e f;rw [hf] at q;refine I.write (x:=l) (e:=l) (by rw [hH];exact trivial) (.inl rfl) (fun b' u hb hu=>(Heap.get?_update_other s.heap (Obj.mapSeq f) (Ne.symm hb)).trans hu) ⟨_,q⟩ ?_;exact ⟨hz,its',_,hv,q⟩
theorem Inv.aEm {its:List Value} {t':Nat} (I:Inv X pins σ H s) (hv:Vals ys its) (hz:ys.length<=sizeLine) :
  Inv X pins σ (upd H s.heap.objs.size (.lst ys)) {s with heap:=s.heap.push {cls:=.type "list",data:=.seq its.toArray},toks:=t'}:=
 I.laid (fun _ _ q=>Heap.get?_push_of_some _ q) (Nat.le_refl _) ⟨hz,its,0,hv,Heap.get?_push_size _ rfl⟩
theorem Inv.fresh (I:Inv X pins σ H s):H s.heap.objs.size=none:=I.hok.fresh (Nat.le_refl _)
theorem Inv.aDt (I:Inv X pins σ H s) (hH:H l=some (.lst xs)):xs.length<=sizeLine/\∃(its:List Value) (n:Nat),Vals xs its/\xs.length=its.length/\s.heap.get? l=some {cls:=.type "list",data:=.seq its.toArray n}:=by
 obtain ⟨z,its,n,r,e⟩:=I.hok l _ hH;exact ⟨z,its,n,r,r.length,e⟩
end
section
variable {X:Cx}
noncomputable def U9:V->List V->Hp->VK->Prop:=fun x vs H Q=>∃l xs y,x=.ref l/\vs=[y]/\H l=some (.lst xs)/\xs.length<sizeLine/\Q .non (upd H l (.lst (xs++[y])))
theorem kJ:MtM X "list.append" U9:=by
 intro pins s σ H x vs v us Q I rx rv h;obtain ⟨l,xs,y,rfl,rfl,hH,hz,q⟩:=h;cases rx;obtain ⟨u,rfl,ru⟩:=rv.one;obtain ⟨z,its,n,r,hl,e⟩:=I.aDt hH;refine call_meets F.slot_list_append ⟨_,e,rfl⟩ F.entry_list_append (F.args_list_append_2 _ _) (PySem.list_append l its.toArray n u (by rw [List.size_toArray];lia)) ⟨e,?_⟩;refine ⟨.non,_,I.aDs (its':=its++[u]) hH e (by simp) (r.append (.cons ru .nil)) ?_,rfl,q⟩;rw [List.length_append,List.length_singleton];lia
noncomputable def Z8:V->List V->Hp->VK->Prop:=fun x vs H Q=>∃l xs i k y,x=.ref l/\vs=[.int i]/\H l=some (.lst xs)/\-(2 ^ 63)<=i/\i<2 ^ 63/\seqIndex? i xs.length=some k/\xs[k]?=some y/\Q y (upd H l (.lst (xs.eraseIdx k)))
theorem PN:MtM X "list.pop" Z8:=by
 intro pins s σ H x vs v us Q I rx rv h;obtain ⟨l,xs,i,k,y,rfl,rfl,hH,h1,h2,hk,hy,q⟩:=h;cases rx;obtain ⟨u,rfl,ru⟩:=rv.one;obtain ⟨t,rfl⟩:=ru;obtain ⟨z,its,n,r,hl,e⟩:=I.aDt hH;obtain ⟨w,hw,rw'⟩:=r.get hy;refine call_meets F.slot_list_pop ⟨_,e,rfl⟩ F.entry_list_pop (F.args_list_pop_2 _ _)
  (MeetsSeq.list_pop_at l its.toArray n i t k w (fitsIndex_both h1 h2) (by rw [List.size_toArray,<-hl];exact hk) (by rw [<-Array.getElem?_toList];exact hw) (by rw [List.size_toArray];lia)) ⟨e,?_⟩
 refine ⟨y,_,I.aDs (its':=its.eraseIdx k) hH e ?_ (r.eraseIdx k) ?_,rw',q⟩
 ·show its.toArray.eraseIdxIfInBounds k=(its.eraseIdx k).toArray;rw [List.eraseIdxIfInBounds_toArray]
 ·have:=t_ xs k;lia
end
section
variable {prog:Program} {w:World} {A:Around} {E:Value->Shared->Prop} {s:Shared}
end
section
variable {X:Cx}
end
end L2
namespace L2
open PySem PySem.Spec PyProof.Rows
section
variable {κ:Type} [DecidableEq κ]
noncomputable def qH (kvs:List (κ×V)) (k:κ):Option V:=(kvs.find? fun kv=>decide (kv.1=k)).map (·.2)
noncomputable def putK (kvs:List (κ×V)) (k:κ) (v:V):List (κ×V):=
 if (kvs.any fun kv=>decide (kv.1=k))=true then kvs.map (fun kv=>if kv.1=k then (kv.1,v) else kv) else kvs++[(k,v)]
theorem kO {p:κ×V} {r:List (κ×V)} {k:κ} (e:p.1=k):qH (p::r) k=some p.2:=by simp [qH,List.find?_cons,e]
theorem kW {p:κ×V} {r:List (κ×V)} {k:κ} (e:¬p.1=k):qH (p::r) k=qH r k:=by simp [qH,List.find?_cons,e]
theorem kY (k:κ):∀kvs:List (κ×V),(kvs.any fun kv=>decide (kv.1=k))=(qH kvs k).isSome
 | []=>rfl
 | p::r=>by
  rw [List.any_cons];by_cases e:p.1=k
  ·simp only [kO e,decide_eq_true e,Bool.true_or,Option.isSome_some]
  ·rw [kW e,decide_eq_false e,Bool.false_or];exact kY k r
theorem jZ (kvs:List (κ×V)) (k:κ) (v:V):(putK kvs k v).length<=kvs.length+1:=by
 unfold putK;split
 ·rw [List.length_map];lia
 ·rw [List.length_append,List.length_cons,List.length_nil];lia
theorem PP {kvs:List (κ×V)} {k:κ} (v:V) (h:qH kvs k=none):putK kvs k v=kvs++[(k,v)]:=by
 unfold putK;rw [kY,h];exact if_neg (by decide)
theorem OJ.HJ {o:Option V} {u:Option Value} (r:OJ o u):o.isSome=u.isSome:=by
 cases o with
 | none=>cases u with
  | none=>rfl
  | some _=>exact (show False from r).elim
 | some _=>cases u with
  | none=>exact (show False from r).elim
  | some _=>rfl
theorem KV.val {kvs:List (κ×V)} {vs:List (κ×Value)} (r:KV kvs vs) (k:κ):OJ (qH kvs k) (valueAt vs k):=by
 unfold KV at r;induction r with
 | nil=>exact True.intro
 | @cons p q ps qs h t ih=>
  obtain ⟨h1,h2⟩:=h;by_cases e:p.1=k
  ·have e':q.1=k:=h1.symm.trans e;have b:valueAt (q::qs) k=some q.2:=by simp [valueAt,List.find?_cons,e']
   rw [kO e,b];exact h2
  ·have e':¬q.1=k:=fun z=>e (h1.trans z)
   have b:valueAt (q::qs) k=valueAt qs k:=by simp [valueAt,List.find?_cons,e']
   rw [kW e,b];exact ih
theorem KV.any {kvs:List (κ×V)} {vs:List (κ×Value)} (r:KV kvs vs) (k:κ):(kvs.any fun kv=>decide (kv.1=k))=vs.any fun kv=>decide (kv.1=k):=by
 unfold KV at r;induction r with
 | nil=>rfl
 | cons h t ih=>rw [List.any_cons,List.any_cons,ih,h.1]
theorem KV.repl {kvs:List (κ×V)} {vs:List (κ×Value)} (r:KV kvs vs) (k:κ) {y:V} {u:Value} (ry:RelV y u) :
  KV (kvs.map fun kv=>if kv.1=k then (kv.1,y) else kv) (vs.map fun kv=>if kv.1=k then (kv.1,u) else kv):=by
 unfold KV at r ⊢;induction r with
 | nil=>exact .nil
 | @cons p q ps qs h t ih=>
  rw [List.map_cons,List.map_cons];refine .cons ?_ ih;obtain ⟨h1,h2⟩:=h;by_cases e:p.1=k
  ·rw [if_pos e,if_pos (h1.symm.trans e)];exact ⟨h1,ry⟩
  ·rw [if_neg e,if_neg (fun z=>e (h1.trans z))];exact ⟨h1,h2⟩
theorem KV.put {kvs:List (κ×V)} {vs:List (κ×Value)} (r:KV kvs vs) (k:κ) {y:V} {u:Value} (ry:RelV y u):KV (putK kvs k y) (stored vs k u):=by
 unfold putK stored;rw [r.any k];by_cases e:(vs.any fun kv=>decide (kv.1=k))=true
 ·rw [if_pos e,if_pos e];exact r.repl k ry
 ·rw [if_neg e,if_neg e];exact Paired.snoc r ⟨rfl,ry⟩
theorem KV.length {kvs:List (κ×V)} {vs:List (κ×Value)} (r:KV kvs vs):kvs.length=vs.length:=Paired.length r
end
theorem PQ {P:Program} {w:World} {k:Key} {u:Value} (r:RelV (kV k) u):(cN P w).is k u=true:=by
 cases k with
 | inl i=>obtain ⟨t,e⟩:=(show ∃t,u=Value.int i t from r);subst e;exact vU P w i t
 | inr x=>obtain ⟨t,e⟩:=(show ∃t,u=Value.str x t from r);subst e;exact vV P w x t
theorem uA {P:Program} {w:World}:∀{ks:List Key} {us:List Value},Vals (ks.map kV) us->ItemsAre (cN P w) ks us
 | [],_,r=>by rw [List.map_nil] at r;cases r;exact .nil
 | k::ks,_,r=>by
  rw [List.map_cons] at r;cases r with
  | cons h t=>exact .cons (PQ h) (uA t)
noncomputable abbrev KT (H:Hp):List (List Key×V)->List (List Key×Addr×Value)->Prop:=Paired fun p q=>p.1=q.1/\H q.2.1=some (.tup (p.1.map kV))/\RelV p.2 q.2.2
theorem KT.val {H:Hp} {kvs:List (List Key×V)} {xs:List (List Key×Addr×Value)} (r:KT H kvs xs) (k:List Key):OJ (qH kvs k) ((atKey xs k).map (·.2)):=by
 induction r with
 | nil=>exact True.intro
 | @cons p q ps qs h t ih=>
  obtain ⟨h1,_,h2⟩:=h;by_cases e:p.1=k
  ·have e':q.1=k:=h1.symm.trans e;have b:atKey (q::qs) k=some q.2:=by simp [atKey,List.find?_cons,e']
   rw [kO e,b];exact h2
  ·have e':¬q.1=k:=fun z=>e (h1.trans z)
   have b:atKey (q::qs) k=atKey qs k:=by simp [atKey,List.find?_cons,e']
   rw [kW e,b];exact ih
theorem KT.repl {H:Hp} {kvs:List (List Key×V)} {xs:List (List Key×Addr×Value)} (r:KT H kvs xs) (k:List Key) {y:V} {u:Value} (ry:RelV y u) :
  KT H (kvs.map fun kv=>if kv.1=k then (kv.1,y) else kv) (xs.map (putAt k u)):=by
 induction r with
 | nil=>exact .nil
 | @cons p q ps qs h t ih=>
  rw [List.map_cons,List.map_cons];refine .cons ?_ ih;obtain ⟨h1,h2,h3⟩:=h;unfold putAt;by_cases e:p.1=k
  ·rw [if_pos e,if_pos (h1.symm.trans e)];exact ⟨h1,h2,ry⟩
  ·rw [if_neg e,if_neg (fun z=>e (h1.trans z))];exact ⟨h1,h2,h3⟩
theorem KT.put {H:Hp} {kvs:List (List Key×V)} {xs:List (List Key×Addr×Value)} (r:KT H kvs xs) (k:List Key) {b:Addr} {y:V} {u:Value} (hb:H b=some (.tup (k.map kV))) (ry:RelV y u) :
  KT H (putK kvs k y) (storedH xs k b u):=by
 have e:(kvs.any fun kv=>decide (kv.1=k))=(atKey xs k).isSome:=by
  rw [kY,(r.val k).HJ,Option.isSome_map]
 unfold putK storedH;rw [e];by_cases q:(atKey xs k).isSome=true
 ·rw [if_pos q,if_pos q];exact r.repl k ry
 ·rw [if_neg q,if_neg q];exact Paired.snoc r ⟨rfl,hb,ry⟩
theorem KT.keeps {H H':Hp} {kvs:List (List Key×V)} {xs:List (List Key×Addr×Value)} (r:KT H kvs xs) (ht:∀b ys,H b=some (.tup ys)->H' b=some (.tup ys)):KT H' kvs xs:=
 Paired.aCb r fun _ _ z=>⟨z.1,ht _ _ z.2.1,z.2.2⟩
section
variable {P:Program} {w:World} {H:Hp} {h:Heap} {a:Addr}
theorem Z9 {u:HO} (ok:HOk P w H h) (e:Rd H a u):gF P w H h a u:=e.ok ok
theorem U_ {kvs:List (Key×V)} (ok:HOk P w H h) (e:Rd H a (.dK kvs)):kvs.length<=sizeLine/\(a==sysModules)=false/\∃vs,KV kvs vs/\h.DictOf (cN P w) a vs:=
 show gF P w H h a (.dK kvs) from Z9 ok e
theorem BL {kvs:List (Key×V)} (ok:HOk P w H h) (e:H a=some (.dK kvs)):kvs.length<=sizeLine/\(a==sysModules)=false/\∃vs,KV kvs vs/\h.DictOf (cN P w) a vs:=U_ ok (.inl e)
theorem HN {ks:List Key} (ok:HOk P w H h) (e:H a=some (.tup (ks.map kV))):(tupleKind (cN P w)).is h ks a:=by
 obtain ⟨_,its,r,o,h1,h2,n,h3⟩:=(show gF P w H h a (.tup (ks.map kV)) from ok a _ e)
 exact ⟨o,its.toArray,n,h1,h2,congrArg (·.1) h3,by simpa using uA r⟩
theorem VB {kvs:List (List Key×V)} (ok:HOk P w H h) (e:Rd H a (.dT kvs)):kvs.length<=sizeLine/\(a==sysModules)=false/\
  ∃xs,KT H kvs xs/\h.DictOfH (tupleKind (cN P w)) a xs:=by
 obtain ⟨z,y,xs,r,o,es,ep,h1,h2,h3,h4,h5⟩:=(show gF P w H h a (.dT kvs) from Z9 ok e)
 refine ⟨z,y,xs,r,o,es,ep,h1,h2,h3,h4,fun x hx=>?_,h5⟩;have all:∀{l:List (List Key×V)} {m:List (List Key×Addr×Value)},KT H l m->∀x∈m,(tupleKind (cN P w)).is h x.1 x.2.1:=by
  intro l m q;induction q with
  | nil=>intro x hx;exact nomatch hx
  | @cons p q ps qs hq t ih=>
   intro x hx;rcases List.mem_cons.mp hx with e|hx
   ·subst e;exact HN ok (by rw [<-hq.1];exact hq.2.1)
   ·exact ih x hx
 exact all r x hx
theorem HQ {kvs:List (List Key×V)} (ok:HOk P w H h) (e:H a=some (.dT kvs)):kvs.length<=sizeLine/\(a==sysModules)=false/\
  ∃xs,KT H kvs xs/\h.DictOfH (tupleKind (cN P w)) a xs:=VB ok (.inl e)
end
noncomputable def PX (H:Hp) (a:Addr) (y:V) (r:Option V):Prop:=
 (∃kvs k,Rd H a (.dK kvs)/\y=kV k/\r=qH kvs k)\/∃kvs k b,Rd H a (.dT kvs)/\y=.ref b/\H b=some (.tup (k.map kV))/\r=qH kvs k
noncomputable def R4 (H:Hp) (a:Addr) (y v:V) (H':Hp):Prop:=
 (∃kvs k,H a=some (.dK kvs)/\y=kV k/\kvs.length<sizeLine/\H'=upd H a (.dK (putK kvs k v)))\/
 ∃kvs k b,H a=some (.dT kvs)/\y=.ref b/\H b=some (.tup (k.map kV))/\kvs.length<sizeLine/\H'=upd H a (.dT (putK kvs k v))
theorem PX.k {H:Hp} {a:Addr} {kvs:List (Key×V)} {k:Key} (e:H a=some (.dK kvs)):PX H a (kV k) (qH kvs k):=.inl ⟨kvs,k,.inl e,rfl,rfl⟩
theorem PX.t {H:Hp} {a b:Addr} {kvs:List (List Key×V)} {k:List Key} (e:H a=some (.dT kvs)) (eb:H b=some (.tup (k.map kV))):PX H a (.ref b) (qH kvs k):=.inr ⟨kvs,k,b,.inl e,rfl,eb,rfl⟩
theorem R4.k {H:Hp} {a:Addr} {kvs:List (Key×V)} {k:Key} {v:V} (e:H a=some (.dK kvs)) (hl:kvs.length<sizeLine):R4 H a (kV k) v (upd H a (.dK (putK kvs k v))):=.inl ⟨kvs,k,e,rfl,hl,rfl⟩
theorem R4.t {H:Hp} {a b:Addr} {kvs:List (List Key×V)} {k:List Key} {v:V} (e:H a=some (.dT kvs)) (eb:H b=some (.tup (k.map kV))) (hl:kvs.length<sizeLine) :
  R4 H a (.ref b) v (upd H a (.dT (putK kvs k v))):=.inr ⟨kvs,k,b,e,rfl,eb,hl,rfl⟩
section
variable {X:Cx} {pins:List (Addr×Obj)} {σ:St} {H:Hp} {s:Shared} {a:Addr} {y v:V} {u r:Value} {o:Option V} {A:Around} {E:Value->Shared->Prop}
theorem Inv.big (I:Inv X pins σ H s):sysModules<s.heap.objs.size:=by
 have h:mainGlobals<s.heap.objs.size:=(I.mod.glob.keeps I.bk).lt;exact Nat.lt_trans (by decide) h
theorem HR {Q:Value->Shared->Prop} (hu:A.units+1<cLine) (I:Inv X pins σ H s) (g:PX H a y (some v)) (ry:RelV y u) (h:∀w' s',Inv X pins σ H s'->RelV v w'->Q w' s') :
  wpAny (model X.prog X.w) A (getItem (.ref a) u) Q E s:=by
 rcases g with ⟨kvs,k,e,ey,l⟩|⟨kvs,k,b,e,ey,eb,l⟩
 ·subst ey;obtain ⟨z,hd,vs,rel,dd⟩:=U_ I.hok e;obtain ⟨w',hw,rw'⟩:=OJ.some_of (v:=v) (o:=valueAt vs k) (by rw [l];exact rel.val k);exact wpAny_getItem_of (PQ ry) dd.mapOf hw (h w' _ (I.tok _) rw')
 ·subst ey;cases (show u=Value.ref b from ry);obtain ⟨z,hd,xs,rel,dd⟩:=VB I.hok e;obtain ⟨w',hw,rw'⟩:=OJ.some_of (v:=v) (o:=(atKey xs k).map (·.2)) (by rw [l];exact rel.val k);obtain ⟨p,hp,hp2⟩:=Option.map_eq_some_iff.mp hw;refine wpAny_getItem_heap (tupleKind_room_in1 hu) (HN I.hok eb) dd hp ?_;rw [hp2];exact h w' _ (I.tok _) rw'
theorem v5 {h':Heap} {t':Nat} {ob:HO} (I:Inv X pins σ H s) (mu:Mut (H a)) (hs:Heap.SameBut a s.heap h') (he:∃q,h'.get? a=some q) (new:gF X.prog X.w (upd H a ob) h' a ob) :
  Inv X pins σ (upd H a ob) {s with heap:=h',toks:=t'}:=
 I.write (x:=a) (e:=a) mu (.inl rfl) (fun b q hb z=>(hs.2 b hb).trans z) he new
theorem R5 {P:Program} {w:World} {H':Hp} {h':Heap} {kvs:List (Key×V)} {vs:List (Key×Value)} (z:kvs.length<=sizeLine) (hd:(a==sysModules)=false) (rel:KV kvs vs) (dd:h'.DictOf (cN P w) a vs) :
  gF P w H' h' a (.dK kvs):=⟨z,hd,vs,rel,dd⟩
theorem HS {H':Hp} {Q:Unit->Shared->Prop} (hu:A.units+1<cLine) (I:Inv X pins σ H s) (g:R4 H a y v H') (ry:RelV y u) (rv:RelV v r) (h:∀s',Inv X pins σ H' s'->Q () s') :
  wpAny (model X.prog X.w) A (setItem (.ref a) u r) Q E s:=by
 rcases g with ⟨kvs,k,e,ey,l,eH⟩|⟨kvs,k,b,e,ey,eb,l,eH⟩
 ·subst ey eH;obtain ⟨z,hd,vs,rel,dd⟩:=BL I.hok e;have hz:vs.length<=sizeLine:=by rw [<-rel.length];exact z
  have hl:(putK kvs k v).length<=sizeLine:=by have:=jZ kvs k v;lia
  refine wpAny_setItem_pairs (hsz:=hz) (PQ ry) dd fun h' dd' hs=>h _ ?_
  have he:∃q,h'.get? a=some q:=let ⟨q,_,_,hq,_⟩:=dd';⟨q,hq⟩
  exact v5 I (by rw [e];exact True.intro) hs he (R5 hl hd (rel.put k rv) dd')
 ·subst ey eH;cases (show u=Value.ref b from ry);obtain ⟨z,hd,xs,rel,dd⟩:=HQ I.hok e;have hz:xs.length<=sizeLine:=by rw [<-Paired.length rel];exact z
  have hl:(putK kvs k v).length<=sizeLine:=by have:=jZ kvs k v;lia
  refine wpAny_setItem_heap (hsz:=hz) (tupleKind_room_in1 hu) (HN I.hok eb) dd fun h' dd' hs=>h _ ?_
  obtain ⟨q,es,ep,hq,h2,h3,h4,_,h5⟩:=dd';refine v5 I (by rw [e];exact True.intro) hs ⟨q,hq⟩ ⟨hl,hd,_,(rel.put k eb rv).keeps fun c ys ec=>?_,q,es,ep,hq,h2,h3,h4,h5⟩;rw [bI (UG ec e (fun z=>nomatch z))];exact ec
end
section
variable {X:Cx} {pins:List (Addr×Obj)} {σ:St} {H:Hp} {s:Shared} {a:Addr} {kvs:List (Key×V)} {k:Key} {u:Value} {A:Around} {E:Value->Shared->Prop}
end
theorem v6 {X:Cx} {pins:List (Addr×Obj)} {σ:St} {H:Hp} {s:Shared} {a:Addr} {y:V} {o:Option V} (I:Inv X pins σ H s) (g:PX H a y o):s.TypeIs (.ref a) "dict":=by
 rcases g with ⟨kvs,k,e,_,_⟩|⟨kvs,k,b,e,_,_,_⟩
 ·obtain ⟨_,_,vs,_,dd⟩:=U_ I.hok e;exact dd.typeIs
 ·obtain ⟨_,_,xs,_,dd⟩:=VB I.hok e;exact dd.typeIs
section
variable {X:Cx} {o i e value:Expr} {pos pos' tpos:Pos} {td ty tv:TE}
end
theorem P0 {P:Program} {w:World} {H:Hp} (h:Heap) (hb:sysModules<h.objs.size):gF P w H (h.push {cls:=.type "dict",data:=.dict #[]}) h.objs.size (.dK []):=
 ⟨Nat.zero_le _,beq_eq_false_iff_ne.mpr (Ne.symm (Nat.ne_of_lt hb)),[],.nil,Heap.DictOf.new h⟩
section
variable {X:Cx} {pos:Pos}
end
noncomputable def HW:List (TE×TE)->St->Hp->(List (V×V)->Hp->Prop)->Prop
 | [],_,H,Q=>Q [] H
 | (tk,tv)::r,σ,H,Q=>tk σ H fun x H1=>tv σ H1 fun y H2=>HW r σ H2 fun ps H3=>Q ((x,y)::ps) H3
noncomputable abbrev VV:List (V×V)->List (Value×Value)->Prop:=Paired fun p q=>RelV p.1 q.1/\RelV p.2 q.2
noncomputable def PPs (X:Cx) (pos:Pos) (keys:List (Option Expr)) (values:List Expr) (trs:List (TE×TE)):Prop:=
 ∀(pins:List (Addr×Obj)) (s:Shared) (σ:St) (H:Hp) (Q:List (V×V)->Hp->Prop),Inv X pins σ H s->HW trs σ H Q->
  wpAny (model X.prog X.w) X.A (evalPairs (pairTrees keys values X.env pos)) (fun vs s'=>∃ps H',Inv X pins σ H' s'/\VV ps vs/\Q ps H') X.xe s
theorem VD {X:Cx} {pos:Pos}:PPs X pos [] [] []:=fun pins s σ H Q I h=>pairTrees_nil_walk ⟨[],H,I,.nil,h⟩
theorem yI {X:Cx} {pos:Pos} {k v:Expr} {ks:List (Option Expr)} {vs:List Expr} {tk tv:TE} {trs:List (TE×TE)} (hk:PE X k tk) (hv:PE X v tv) (hr:PPs X pos ks vs trs) :
  PPs X pos (some k::ks) (v::vs) ((tk,tv)::trs):=fun pins s σ H Q I h=>
 pairTrees_cons_walk (thn (hk pins s σ H _ I h) fun u s1 ⟨x,H1,I1,rx,q1⟩=>thn (hv pins s1 σ H1 _ I1 q1) fun w2 s2 ⟨y,H2,I2,ry,q2⟩=>
  thn (hr pins s2 σ H2 _ I2 q2) fun ws s3 ⟨ps,H3,I3,rel,q3⟩=>⟨(x,y)::ps,H3,I3,.cons ⟨rx,ry⟩ rel,q3⟩)
noncomputable def nY (kvs more:List (Key×V)):List (Key×V):=more.foldl (fun acc kv=>putK acc kv.1 kv.2) kvs
theorem KV.merge:∀{more:List (Key×V)} {rs:List (Key×Value)} {kvs:List (Key×V)} {vs:List (Key×Value)},KV more rs->KV kvs vs->KV (nY kvs more) (merged vs rs):=by
 intro more rs kvs vs r;unfold KV at r;induction r generalizing kvs vs with
 | nil=>intro q;exact q
 | @cons p q ps qs h t ih=>
  intro r0;have e:KV (putK kvs p.1 p.2) (stored vs q.1 q.2):=by
   have:=r0.put p.1 h.2;rw [<-h.1];exact this
  exact ih e
theorem kZ:∀(more kvs:List (Key×V)),(nY kvs more).length<=kvs.length+more.length
 | [],kvs=>by show kvs.length<=kvs.length+0;lia
 | p::r,kvs=>by
  have h1:=kZ r (putK kvs p.1 p.2);have h2:=jZ kvs p.1 p.2;show (nY (putK kvs p.1 p.2) r).length<=_;rw [List.length_cons];lia
theorem qI {P:Program} {w:World}:∀{kvs:List (Key×V)} {ws:List (Value×Value)},VV (kvs.map fun kv=>(kV kv.1,kv.2)) ws->∃rs,Carries (cN P w) ws rs/\KV kvs rs
 | [],_,r=>by rw [List.map_nil] at r;cases r;exact ⟨[],True.intro,.nil⟩
 | p::kvs,_,r=>by
  rw [List.map_cons] at r;cases r with
  | @cons a b as bs h t=>
   obtain ⟨rs,c,q⟩:=qI (P:=P) (w:=w) t;obtain ⟨b1,b2⟩:=b;exact ⟨(p.1,b2)::rs,⟨PQ h.1,rfl,c⟩,.cons ⟨rfl,h.2⟩ q⟩
noncomputable def aCu (trs:List (TE×TE)):TE:=fun σ H Q=>∀p,H p=none->HW trs σ (upd H p (.dK [])) fun ps H2=>H2 p=some (.dK [])/\∃kvs:List (Key×V),ps=kvs.map (fun kv=>(kV kv.1,kv.2))/\kvs.length<=15/\Q (.ref p) (upd H2 p (.dK (nY [] kvs)))
theorem VF {X:Cx} {pos:Pos} {keys:List (Option Expr)} {values:List Expr} {trs:List (TE×TE)} (h:PPs X pos keys values trs) (hall:keys.all (·.isSome)=true) (hl:keys.length=values.length) (h0:keys≠[])
  (h15:keys.length<=15):PE X (.Dict keys values pos) (aCu trs):=by
 intro pins s σ H Q I q;have hn:=I.hok.fresh (Nat.le_refl s.heap.objs.size);have I1:=I.laid (a:=s.heap.objs.size) (o:=.dK []) (h':=s.heap.push {cls:=.type "dict",data:=.dict #[]}) (t':=s.toks) (fun _ _ q=>Heap.get?_push_of_some _ q) (Nat.le_refl _) (P0 s.heap I.big);refine wpAny_Dict_walk (knd:=cN X.prog X.w) hall hl h0 h15 (thn (h pins _ σ _ _ I1 (q _ hn)) fun ws s2 ⟨ps,H2,I2,rel,e,kvs,ep,lk,q2⟩=>?_);subst ep;obtain ⟨rs,c,rk⟩:=qI (P:=X.prog) (w:=X.w) rel;obtain ⟨z,hd,vs0,r0,dd⟩:=BL I2.hok e;cases r0;refine ⟨rs,c,dd,fun h' dd' hs=>⟨.ref s.heap.objs.size,_,?_,rfl,q2⟩⟩;have hz:(nY [] kvs).length<=sizeLine:=by
  have h1:=kZ kvs [];rw [List.length_nil] at h1;rw [sizeLine_eq];lia
 have he:∃q,h'.get? s.heap.objs.size=some q:=let ⟨q,_,_,hq,_⟩:=dd';⟨q,hq⟩
 exact v5 I2 (by rw [e];exact True.intro) hs he (R5 hz hd (rk.merge .nil) dd')
section
variable {X:Cx} {pins:List (Addr×Obj)} {σ:St} {H:Hp} {s:Shared} {a:Addr} {y d:V} {u r:Value} {o:Option V} {A:Around} {E:Value->Shared->Prop}
end
section
variable {X:Cx} {o e f:Expr} {apos cpos:Pos} {td ty tx:TE}
end
section
variable {X:Cx} {pins:List (Addr×Obj)} {σ:St} {H:Hp} {s:Shared} {a:Addr} {kvs:List (Key×V)} {A:Around} {E:Value->Shared->Prop}
end
section
variable {X:Cx} {pins:List (Addr×Obj)} {σ:St} {H:Hp} {s:Shared} {a:Addr} {y:V} {u:Value} {A:Around} {E:Value->Shared->Prop}
end
end L2
namespace Att
open PySem PySem.W PySem.Calls PyProof.Rows
theorem nZ {P:Params} {h:Heap}:∀(ns:List Int) (vs:List Value),WellAll P h vs (ns.map WData.int)->IntsAre vs ns:=by
 intro ns;induction ns with
 | nil=>
  intro vs w;rw [List.map_nil] at w;cases w;exact .nil
 | cons n ns ih=>
  intro vs w;rw [List.map_cons] at w;cases w with
  | cons a b=>
   cases a;exact .cons _ _ (ih _ b)
theorem HX {l:OpenLaw} {n:Nat} (hn:l.most=some n) {P:Params} {h:Heap} {args:List WData} {vals:List Value}
  (hpre:l.row.toRowW.claim.pre args=true) (hwl:WellAll P h vals args) :
  ∃a vs ns,vals=[Value.ref a]/\args=[WData.list (ns.map WData.int)]/\h.get? a=some {cls:=.type "list",data:=.seq vs.toArray}/\IntsAre vs ns/\ns.length<=n:=by
 have hsh:WShape.hasAll [] args [.list .int]=true:=(pre_splitW hpre).1;have hc:l.pre.holds [] {args:=args}=true:=(pre_splitW hpre).2;obtain ⟨d,r,rfl,h1,h2⟩:=hasAllW_cons hsh;obtain rfl:=hasAllW_nil h2;obtain ⟨xs,rfl,h3⟩:=hasW_list h1;obtain ⟨ns,rfl⟩:=items_int h3;have hlen:ns.length<=n:=by
  unfold OpenLaw.pre at hc;have h4:(WTm.not (.lt (.lit (.int (n:Int))) (.len (.arg 0)))).holds [] {args:=[.list (ns.map .int)]}=true:=by
   have h4:=(holds_andW hc).1;rw [hn] at h4;exact h4
  have h5:=condW_of h4 (w_not (w_lt w_lit (w_len_list (w_arg rfl))));rw [List.length_map] at h5;refine Nat.le_of_not_lt fun q=>?_
  have q':(n:Int)<((ns.length:Nat):Int):=by lia
  first
   | (rw [decide_eq_true q'] at h5;exact absurd h5 (by decide))
   | (simp at h5;lia)
 cases hwl with
 | cons w1 w2=>
  cases w2;cases w1 with
  | list ho hall=>exact ⟨_,_,ns,rfl,rfl,ho,nZ ns _ hall,hlen⟩
theorem HY (l:OpenLaw) (args:List WData):l.row.toRowW.claim.post args (.bool true) args=true:=
 postW_of (r:=l.row.toRowW) (X:=(true==true))
  (show WShape.has [] (.bool true) .bool=true by first|rfl|decide|simp [WShape.has,WShape.arms,WShape.armsAll])
  (show (WTm.eq .res (.lit (.bool true))).value [] {args:=args,res:=some (.bool true),after:=args}=some (.bool (true==true)) from w_eq_bool (w_res rfl) w_lit) rfl
theorem v7 {l:OpenLaw} {n:Nat} {q:Program} {loose:List Str} {XP:(Str->Option Value)->Heap->Prop} {YP:World->Heap->Prop} {d:DefRec}
  (hn:l.most=some n) (hdf:d.params.defaults=[])
  (call:∀(w:World) (s₀ s₁:Shared) (mg mb:Str->Option Value) (fa:Addr) (o:Obj) (pm cd doc:Value) (a:Addr) (vs:List Value) (ns:List Int),
   Ground q loose [] XP w s₀ mg mb s₁.heap->YP w s₁.heap->
   s₁.heap.get? fa=some o->o.data=.func (docDef d.name d.params d.body d.scope pm cd doc)->s₁.heap.CodeRec cd d.name->mg d.name=some (.ref fa)->
   s₁.heap.get? a=some {cls:=.type "list",data:=.seq vs.toArray}->IntsAre vs ns->ns.length<=n->s₁.gens=#[]->
   codeAny (model l.prog w) callerA (.call (.ref fa) ⟨[.ref a],[]⟩) (fun r s'=>r=.ok (.ret (.bool true))/\OldK s₁.heap s'.heap/\s'.os=s₁.os/\AllBare s'.gens) s₁) :
  WalkO q loose XP YP l.row.toRowW d [] (fun f vs=>PySem.call f vs):=by
 intro w s₀ s₁ mg mb G Y fa o pm cd doc dV kV ho hd hcd hD hmg hg args vals as hpre hlay hrd hwl hlo;obtain rfl:dV=.none:=Dflts.none hD hdf;obtain rfl:kV=.none:=Dflts.noKw hD;obtain ⟨a,vs,ns,rfl,rfl,hobj,hints,hlen⟩:=HX hn hpre hwl;refine enter_call (codeAny_mono (call w s₀ s₁ mg mb fa o pm cd doc a vs ns G Y ho (fd_plain hd) hcd hmg hobj hints hlen hg) fun r s' hq=>?_);obtain ⟨rfl,h2,h3,h4⟩:=hq;exact ⟨.inl ⟨.bool true,.bool true,[],rfl,fun _=>rfl,.bool true,HY l _,fun _=>⟨List.Pairwise.nil,fun _ hm=>(nomatch hm)⟩⟩,h2,h3,h4⟩
section
variable {prog:Program} {w:World} {A:Around} {E:Value->Shared->Prop} {s:Shared} {K:Frag}
end
end Att
namespace L2
open PySem PySem.Spec PyProof.Rows
theorem uB:∀{vs:List Value} {ns:List Int},IntsAre vs ns->Vals (ns.map V.int) vs
 | _,_,.nil=>.nil
 | _,_,.cons n t h=>.cons ⟨t,rfl⟩ (uB h)
noncomputable def Only (H:Hp):Prop:=∀b,H b=none\/∃o xs,H b=some (.frz o (.lst xs))
theorem P_ {P:Program} {w:World} {K:PySem.W.Frag} {mg mb:Str->Option Value} {CX:CXT} {k:Nat} {fa a:Addr} {fd:FuncData} {x:Str} {sp:Sp} {s₁:Shared} {vs:List Value} {ns:List Int}
  (KX:K.In s₁.heap) (hns:s₁.heap.Ns mainGlobals mg) (hb:s₁.heap.Ns builtinsNs mb) (hbb:∀x:Str,x ≠ "__name__"->mb x=bootBuiltins x) (hlim:s₁.heap.NoLimit) (hg:s₁.gens=#[])
  (ha:s₁.heap.get? a=some {cls:=.type "list",data:=.seq vs.toArray}) (hi:IntsAre vs ns) (hl:ns.length<=sizeLine) (hr:lR k callerA)
  (F:∀base:Heap,K.In base->base.Ns mainGlobals mg->yG P w K mg base CX k fa fd [x] sp) (hbind:∀(s:Shared) (u:Value),BindsTo s fd ⟨[u],[]⟩ [(x,u)])
  (hsp:∀H:Hp,Only H->SqL K H a (ns.map V.int)->sp [.ref a] H (fun v _=>v=.bl true) fun _ _ _=>False)
  (hCX:∀H e s',CX [] H s₁ (fun _ _ _=>False) e s'->False) :
  codeAny (model P w) callerA (.call (.ref fa) ⟨[.ref a],[]⟩) (fun r s'=>r=.ok (.ret (.bool true))/\OldK s₁.heap s'.heap/\s'.os=s₁.os/\AllBare s'.gens) s₁:=by
 have rv:=uB hi;have lenV:=hi.length
 -- from an abstract heap in which nothing but the script may be tracked
 have core:∀H:Hp,Only H->SqL K H a (ns.map V.int)->HOk P w H s₁.heap->(∀b,H b≠none->b=a)->(H a≠none->K.lookup a=none)->
   codeAny (model P w) callerA (.call (.ref fa) ⟨[.ref a],[]⟩) (fun r s'=>r=.ok (.ret (.bool true))/\OldK s₁.heap s'.heap/\s'.os=s₁.os/\AllBare s'.gens) s₁:=by
  intro H hO hS hok hA hK;have base_of:∀{b:Addr} {o:Obj},s₁.heap.get? b=some o->H b=none->(O6 s₁.heap H).get? b=some o:=fun e n=>O7 e n
  have noA:∀{b:Addr} {o:Obj} {es:Array DictEntry} {ep:Nat},s₁.heap.get? b=some o->o.data=.dict es ep->H b=none:=fun {b o es ep} e d=>by
   cases q:H b with
   | none=>rfl
   | some u=>
    have e':b=a:=hA b (by rw [q];simp);subst e';rw [ha] at e;cases e;have d':Data.seq vs.toArray _=Data.dict es ep:=d;cases d'
  have nsK:∀{b:Addr} {m:Str->Option Value},s₁.heap.Ns b m->(O6 s₁.heap H).Ns b m:=fun {b m} ⟨o,es,ep,e,d,r⟩=>⟨o,es,ep,base_of e (noA e d),d,r⟩
  have hKb:K.In (O6 s₁.heap H):=fun b o e=>base_of (KX b o e) (by
   cases q:H b with
   | none=>rfl
   | some u=>
    have e':b=a:=hA b (by rw [q];simp);subst e';rw [hK (by rw [q];simp)] at e;cases e)
  have hM:Mod K mg (O6 s₁.heap H):=⟨hKb,nsK hns,⟨mb,nsK hb,hbb⟩,let ⟨mc,h1,h2⟩:=hlim;⟨mc,nsK h1,h2⟩⟩
  have e0:aBx P w K mg (O6 s₁.heap H) callerA [] s₁ H:=⟨rfl,hM,fun b o e=>UJ e,Nat.le_of_eq (GK _ _),trivial,fun b hb=>absurd (show b∈([]:List Addr) from hb) (by simp),hok,.of_eq hg⟩
  refine codeAny_mono ((F _ hKb (nsK hns)).run callerA [] s₁ H ⟨[.ref a],[]⟩ [.ref a] [.ref a] _ _ hr e0 (hbind s₁ (.ref a)) (.cons rfl .nil) (hsp H hO hS)) fun r s' h=>?_
  cases r with
  | error e=>exact (hCX H e s' h).elim
  | ok fl=>
   cases fl with
   | next=>exact False.elim h
   | brk=>exact False.elim h
   | cont=>exact False.elim h
   | ret u=>
    obtain ⟨v,H',os,bare,un,hok',r',q⟩:=h;have q':v=.bl true:=q;subst q';obtain rfl:u=Value.bool true:=r';refine ⟨rfl,OldK.of_keep fun b o e=>?_,os,bare⟩;cases q:H b with
    | none=>exact un.keep b o e q (by intro z;exact absurd (show b∈([]:List Addr) from z) (by simp)) (by simp)
    | some u=>
     rcases hO b with z|⟨ob,xs,z⟩
     ·rw [q] at z;cases z
     ·have z2:=un.frzs b ob _ z;obtain ⟨e1,_⟩:=hok b _ z;obtain ⟨e2,_⟩:=hok' b _ z2;rw [e] at e1;cases e1;exact e2
 cases hk:K.lookup a with
 | some o=>
  -- the script is one of the module's own objects
  have e:=KX a o hk;rw [ha] at e;cases e;refine core (fun _=>none) (fun _=>.inl rfl) (.inr ⟨_,vs.toArray,_,hk,rfl,rfl,rfl,by rw [List.size_toArray,lenV];exact hl,by simpa using rv⟩) (fun b u z=>by have z':(none:Option HO)=some u:=z;cases z') (fun b z=>absurd rfl z) fun z=>absurd rfl z
 | none=>
  refine core (fun b=>if b=a then some (.frz {cls:=.type "list",data:=.seq vs.toArray} (.lst (ns.map V.int))) else none) (fun b=>?_) (.inl (.inr ⟨{cls:=.type "list",data:=.seq vs.toArray},if_pos rfl⟩)) (fun b u z=>?_) (fun b z=>?_) fun _=>hk
  ·by_cases hb:b=a
   ·exact .inr ⟨_,_,if_pos hb⟩
   ·exact .inl (if_neg hb)
  ·by_cases hb:b=a
   ·have z':=(if_pos hb).symm.trans z;cases z';subst hb;exact ⟨ha,by rw [List.length_map];exact hl,vs,_,rv,ha⟩
   ·have z':=(if_neg hb).symm.trans z;cases z'
  ·by_cases hb:b=a
   ·exact hb
   ·exact absurd (if_neg hb) z
end L2
namespace L2
open PySem PySem.Spec PyProof.Rows
theorem VG {l:PySem.W.OpenLaw} {n k:Nat} {q:Program} {loose:List Str} {XP:(Str->Option Value)->Heap->Prop} {YP:World->Heap->Prop} {d:DefRec} {K:Params->PySem.W.Frag} {CX:World->CXT} {sp:World->Sp} {x:Str}
  (hn:l.most=some n) (hn2:n<=sizeLine) (hdf:d.params.defaults=[]) (hr:lR k callerA)
  (hY:∀(w:World) (h:Heap),YP w h->(K w.params).In h)
  (F:∀(w:World) (mg:Str->Option Value) (fa:Addr) (h:Heap),(K w.params).In h->h.Ns mainGlobals mg->mg d.name=some (.ref fa)->
   ∃fd:FuncData,(∀(s:Shared) (u:Value),BindsTo s fd ⟨[u],[]⟩ [(x,u)])/\
    ∀base:Heap,(K w.params).In base->base.Ns mainGlobals mg->yG l.prog w (K w.params) mg base (CX w) k fa fd [x] (sp w))
  (hsp:∀(w:World) (H:Hp) (a:Addr) (ns:List Int),ns.length<=n->Only H->SqL (K w.params) H a (ns.map V.int)->sp w [.ref a] H (fun v _=>v=.bl true) fun _ _ _=>False)
  (hCX:∀(w:World) (H:Hp) (s:Shared) (e:Value) (s':Shared),CX w [] H s (fun _ _ _=>False) e s'->False) :
  PySem.W.WalkO q loose XP YP l.row.toRowW d [] (fun f vs=>PySem.call f vs):=by
 refine Att.v7 hn hdf fun w s₀ s₁ mg mb fa o pm cd doc a vs ns G Y ho hd hcd hmg hobj hints hlen hg=>?_
 have KX:=hY w _ Y;obtain ⟨fd,hb,hF⟩:=F w mg fa _ KX G.T.g hmg;exact P_ KX G.T.g G.T.b G.T.builtins G.T.nolimit hg hobj hints (Nat.le_trans hlen hn2) hr hF hb (fun H hO hS=>hsp w H a ns hlen hO hS) fun H e s'=>hCX w H s₁ e s'
end L2
namespace L2
open PySem PySem.Spec PyProof.Rows
noncomputable def b8 (s:Stmt):Arguments:=match s with
 | .FunctionDef _ a _ _ _ _ _ _ _ _=>a
 | _=>{posonlyargs:=[],args:=[],vararg:=none,kwonlyargs:=[],kw_defaults:=[],kwarg:=none,defaults:=[]}
noncomputable def bK (s:Stmt):List Stmt:=match s with
 | .FunctionDef _ _ b _ _ _ _ _ _ _=>b
 | _=>[]
noncomputable def aJ (s:Stmt):Scope:=match s with
 | .FunctionDef _ _ _ _ _ _ sc _ _ _=>sc
 | _=>{kind:=.function,names:=[],isGenerator:=false,isCoroutine:=false}
noncomputable abbrev CX0:CXT:=fun _ _ _ _ _ _=>False
noncomputable abbrev E0:XK:=fun _ _ _=>False
theorem QB {X:Cx}:G8 CX0 X E0:=fun _ _ _ _ _ _ _ h=>h.elim
structure Fun (K:PySem.W.Frag) (x qual:Str) (st:Stmt) (f:Addr) (fd:FuncData):Prop where
 ex:∃(oc:Value) (od:Option Addr) (kV doc pm:Value) (an:Option Addr) (cdv ct:Value) (osl:Array (Option Value)),
  fd=PySem.W.fnOf x qual (b8 st) (bK st) (aJ st) .none kV doc pm an cdv ct/\K.lookup f=some ⟨oc,od,.func fd,osl⟩/\PySem.W.codeIn K cdv qual=true
 kp:PySem.W.keepIn K (.ref f)=true
section
variable {P:Program} {w:World} {K:PySem.W.Frag} {mg:Str->Option Value} {base:Heap}
theorem Fun.ok {x qual:Str} {st:Stmt} {f:Addr} {fd:FuncData} {N ps:List Str} {k:Nat} {sp:Sp} (F:Fun K x qual st f fd) (S:bT N ps (aJ st)) (len:∀vs H Q E,sp vs H Q E->vs.length=ps.length)
  (hbody:∀(cdv:Value) (A:Around) (outer:List Env) (s:Shared) (H:Hp) (vs:List V) (Q:VK) (E:XK),lR k (A.deeper (envOfC qual (aJ st) s.heap.objs.size f cdv))->sp vs H Q E->
   ∃t,PSs (O2 CX0 P w K mg base N qual (aJ st) f cdv A outer s H E).nox (bK st) t/\t {nx:=fun _ H'=>Q .non H',rt:=Q} (start N vs) H):yG P w K mg base CX0 (k+1) f fd ps sp:=by
 obtain ⟨oc,od,kV,doc,pm,an,cdv,ct,osl,rfl,lk,hcd⟩:=F.ex;refine aCr lk hcd S len fun A outer s H vs Q E hr hsp=>?_
 obtain ⟨t,h,q⟩:=hbody cdv A outer s H vs Q E hr hsp;exact ⟨t,h.nox,q⟩
theorem Fun.binds {x qual:Str} {st:Stmt} {f:Addr} {fd:FuncData} {ps:List Str} (F:Fun K x qual st f fd)
  (h:∀(kV doc pm:Value) (an:Option Addr) (cdv ct:Value) (us:List Value),us.length=ps.length->bindArgs (PySem.W.fnOf x qual (b8 st) (bK st) (aJ st) .none kV doc pm an cdv ct) ⟨us,[]⟩=pure (ps.zip us)):Binds K fd ps []:=by
 obtain ⟨oc,od,kV,doc,pm,an,cdv,ct,osl,rfl,lk,hcd⟩:=F.ex;exact .all (h kV doc pm an cdv ct)
theorem eZ {x qual:Str} {st:Stmt} {f:Addr} {oc:Value} {od an:Option Addr} {osl:Array (Option Value)} {kV doc pm cdv ct:Value} (l:K.lookup f=some ⟨oc,od,.func (PySem.W.fnOf x qual (b8 st) (bK st) (aJ st) .none kV doc pm an cdv ct),osl⟩)
  (c:PySem.W.codeIn K cdv qual=true) (k:PySem.W.keepIn K (.ref f)=true):Fun K x qual st f (PySem.W.fnOf x qual (b8 st) (bK st) (aJ st) .none kV doc pm an cdv ct):=⟨⟨oc,od,kV,doc,pm,an,cdv,ct,osl,rfl,l,c⟩,k⟩
end
section
variable {X:Cx}
end
noncomputable def bZ (H H':Hp):Prop:=∀b o,H b=some o->H' b=some o
theorem bZ.refl (H:Hp):bZ H H:=fun _ _ h=>h
theorem bZ.trans {H H1 H2:Hp} (a:bZ H H1) (b:bZ H1 H2):bZ H H2:=fun c o h=>b c o (a c o h)
theorem bZ.free {H H':Hp} (e:bZ H H') {l:Addr} (h:H' l=Option.none):H l=Option.none:=by
 cases q:H l with
 | none=>rfl
 | some o=>
  rw [e l o q] at h;cases h
section
variable {X:Cx}
end
section
variable {κ:Type} [DecidableEq κ]
theorem QC {kvs:List (κ×V)} {k:κ} (h:qH kvs k=none):¬k∈kvs.map (·.1):=by
 intro m;obtain ⟨p,hp,e⟩:=List.mem_map.mp m;have q:(kvs.any fun kv=>decide (kv.1=k))=true:=List.any_eq_true.mpr ⟨p,hp,decide_eq_true e⟩;rw [kY,h] at q;exact absurd q (by simp)
theorem H_:∀{l:List κ} {k:κ},l.Nodup->¬k∈l->(l++[k]).Nodup
 | [],k,_,_=>by simp
 | a::r,k,h,hk=>by
  obtain ⟨h1,h2⟩:=List.nodup_cons.mp h;show (a::(r++[k])).Nodup;refine List.nodup_cons.mpr ⟨fun m=>?_,H_ h2 fun m=>hk (List.mem_cons.mpr (Or.inr m))⟩;rcases List.mem_append.mp m with q|q
  ·exact h1 q
  ·exact hk (List.mem_cons.mpr (Or.inl (List.mem_singleton.mp q).symm))
theorem VH {kvs:List (κ×V)} {k:κ} (v:V) (hn:(kvs.map (·.1)).Nodup) (h:qH kvs k=none):((putK kvs k v).map (·.1)).Nodup:=by
 rw [PP v h,List.map_append];exact H_ hn (QC h)
end
end L2
end
section
namespace TS
open PySem PyProof.Rows
noncomputable def IK:Bool->Keyed->Array Keyed->Nat->Nat->Nat->StateT SortSt Sem (Option Nat):=sortPriv% PySem.Builtin.gallop
noncomputable def rB:Nat->StateT SortSt Sem Unit:=sortPriv% PySem.Builtin.setMinGallop
noncomputable def QD:Array Keyed->Array Keyed->StateT SortSt Sem (Array Keyed):=sortPriv% PySem.Builtin.mergeLo
noncomputable def QF:Array Keyed->Array Keyed->StateT SortSt Sem (Array Keyed):=sortPriv% PySem.Builtin.mergeHi
noncomputable def v8 (left:Bool) (key:Keyed) (arr:Array Keyed) (base i:Nat):StateT SortSt Sem (Option Bool):=
 elem' arr (base+i) >>= fun x=>if left=true then lt' x key else lt' key x >>= fun r=>pure (Option.map (fun b=>!b) r)
theorem fC {prog:Program} {w:World} {A:Around} {E:Value->Shared->Prop} {s:Shared} {g:Nat} {st:SortSt} {Q:Unit->SortSt->Prop}
  (h:Q () (SortSt.mk' (kindOf st) (arrOf st) (pendingOf st) g (failedOf st))):wpS (model prog w) A E s (rB g) Q st:=wpS_modify h
end TS
end
section
namespace TS
open PySem PyProof.Rows
section
variable {prog:Program} {w:World} {A:Around} {E:Value->Shared->Prop} {s:Shared}
theorem BP {left:Bool} {key:Keyed} {arr:Array Keyed} {base n hint:Nat} {st:SortSt} {Q:Option Nat->SortSt->Prop} (p:Nat->Bool)
  (hp:∀i (R:Option Bool->SortSt->Prop),i<n->R (some (p i)) st->wpS (model prog w) A E s (v8 left key arr base i) R st)
  (hm:∀i j,i<=j->j<n->p j=true->p i=true) (hh:hint<n)
  (h:∀k,k<=n->(∀i,i<k->p i=true)->(∀i,k<=i->i<n->p i=false)->Q (some k) st) :
  wpS (model prog w) A E s (IK left key arr base n hint) Q st:=by
 with_unfolding_all refine wpS_bind (hp _ _ hh ?_)
 dsimp only;cases hr:p hint with
 | true=>
  simp only [if_true];refine wpS_bind (wpS_mono (wpS_forRange
   (I:=fun x c st'=>st'=st/\∃l o,c=(none,l,o)/\l<o/\x+1<=o/\hint+l<n/\p (hint+l)=true)
   (Q:=fun c st'=>st'=st/\∃l o,c=(none,l,o)/\l<o/\hint+l<n/\p (hint+l)=true/\(n-hint<=o\/(hint+o<n/\p (hint+o)=false))) ?step ?fin ?init) ?post)
  case init=>exact ⟨rfl,0,1,rfl,by lia,by lia,hh,hr⟩
  case fin=>
   rintro c st' ⟨rfl,l,o,rfl,a1,a2,a3,a4⟩;exact ⟨rfl,l,o,rfl,a1,a3,a4,.inl (by lia)⟩
  case step=>
   rintro x c st' _ hx ⟨rfl,l,o,rfl,a1,a2,a3,a4⟩;dsimp only;by_cases hge:o >= n-hint
   ·rw [if_pos hge];exact wpS_pure ⟨rfl,l,o,rfl,a1,a3,a4,.inl hge⟩
   ·rw [if_neg hge];refine wpS_bind (hp _ _ (by lia) ?_);dsimp only;cases hb:p (hint+o) with
    | true=>
     simp only [Bool.not_true,Bool.false_eq_true,if_false];exact wpS_pure ⟨rfl,_,_,rfl,by lia,by lia,by lia,hb⟩
    | false=>
     simp only [Bool.not_false,if_true];exact wpS_pure ⟨rfl,_,_,rfl,a1,a3,a4,.inr ⟨by lia,hb⟩⟩
  case post=>
   rintro c st₀ ⟨rfl,l,o,rfl,a1,a3,a4,a5⟩;dsimp only;have H1:∀i,i<hint+l+1->p i=true:=fun i hi=>hm i (hint+l) (by lia) a3 a4
   have H2:∀i,hint+min o (n-hint)<=i->i<n->p i=false:=by
    intro i i1 i2;rcases a5 with a5|⟨a5,a6⟩
    ·lia
    ·cases hq:p i with
     | false=>rfl
     | true=>rw [hm (hint+o) i (by lia) i2 hq] at a6;cases a6
   refine wpS_bind (wpS_mono (wpS_forRange
    (I:=fun x c st'=>st'=st₀/\∃l r,c=(none,l,r)/\l<=r/\r<=n/\r-l<=n-x/\(∀i,i<l->p i=true)/\(∀i,r<=i->i<n->p i=false))
    (Q:=fun c st'=>st'=st₀/\∃l r,c=(none,l,r)/\l=r/\r<=n/\(∀i,i<l->p i=true)/\(∀i,r<=i->i<n->p i=false)) ?step2 ?fin2 ?init2) ?post2)
   case init2=>exact ⟨rfl,_,_,rfl,by lia,by lia,by lia,H1,H2⟩
   case fin2=>
    rintro c st' ⟨rfl,l,r,rfl,a1,a2,a3,a4,a5⟩;exact ⟨rfl,l,r,rfl,by lia,a2,a4,a5⟩
   case step2=>
    rintro x c st' _ hx ⟨rfl,l,r,rfl,a1,a2,a3,a4,a5⟩;dsimp only;by_cases hge:l >= r
    ·rw [if_pos hge];exact wpS_pure ⟨rfl,l,r,rfl,by lia,a2,a4,a5⟩
    ·rw [if_neg hge];refine wpS_bind (hp _ _ (by lia) ?_);dsimp only;cases hb:p (l+(r-l) / 2) with
     | true=>
      simp only [if_true];exact wpS_pure ⟨rfl,_,_,rfl,by lia,a2,by lia,fun i hi=>hm i _ (by lia) (by lia) hb,a5⟩
     | false=>
      simp only [Bool.false_eq_true,if_false];refine wpS_pure ⟨rfl,_,_,rfl,by lia,by lia,by lia,a4,fun i i1 i2=>?_⟩;cases hq:p i with
      | false=>rfl
      | true=>rw [hm _ i i1 i2 hq] at hb;cases hb
   case post2=>
    rintro c st' ⟨rfl,l,r,rfl,rfl,a2,a4,a5⟩;exact wpS_pure (h l a2 a4 a5)
 | false=>
  simp only [Bool.false_eq_true,if_false];refine wpS_bind (wpS_mono (wpS_forRange
   (I:=fun x c st'=>st'=st/\∃l o,c=(none,l,o)/\l<o/\x+1<=o/\l<=hint/\p (hint-l)=false)
   (Q:=fun c st'=>st'=st/\∃l o,c=(none,l,o)/\l<o/\l<=hint/\p (hint-l)=false/\(hint+1<=o\/(o<=hint/\p (hint-o)=true))) ?step ?fin ?init) ?post)
  case init=>exact ⟨rfl,0,1,rfl,by lia,by lia,by lia,hr⟩
  case fin=>
   rintro c st' ⟨rfl,l,o,rfl,a1,a2,a3,a4⟩;exact ⟨rfl,l,o,rfl,a1,a3,a4,.inl (by lia)⟩
  case step=>
   rintro x c st' _ hx ⟨rfl,l,o,rfl,a1,a2,a3,a4⟩;dsimp only;by_cases hge:o >= hint+1
   ·rw [if_pos hge];exact wpS_pure ⟨rfl,l,o,rfl,a1,a3,a4,.inl hge⟩
   ·rw [if_neg hge];refine wpS_bind (hp _ _ (by lia) ?_);dsimp only;cases hb:p (hint-o) with
    | false=>
     simp only [Bool.false_eq_true,if_false];exact wpS_pure ⟨rfl,_,_,rfl,by lia,by lia,by lia,hb⟩
    | true=>
     simp only [if_true];exact wpS_pure ⟨rfl,_,_,rfl,a1,a3,a4,.inr ⟨by lia,hb⟩⟩
  case post=>
   rintro c st₀ ⟨rfl,l,o,rfl,a1,a3,a4,a5⟩;dsimp only;have H1:∀i,i<hint+1-min o (hint+1)->p i=true:=by
    intro i hi;rcases a5 with a5|⟨a5,a6⟩
    ·lia
    ·exact hm i (hint-o) (by lia) (by lia) a6
   have H2:∀i,hint-l<=i->i<n->p i=false:=by
    intro i i1 i2;cases hq:p i with
    | false=>rfl
    | true=>rw [hm (hint-l) i (by lia) i2 hq] at a4;cases a4
   refine wpS_bind (wpS_mono (wpS_forRange
    (I:=fun x c st'=>st'=st₀/\∃l r,c=(none,l,r)/\l<=r/\r<=n/\r-l<=n-x/\(∀i,i<l->p i=true)/\(∀i,r<=i->i<n->p i=false))
    (Q:=fun c st'=>st'=st₀/\∃l r,c=(none,l,r)/\l=r/\r<=n/\(∀i,i<l->p i=true)/\(∀i,r<=i->i<n->p i=false)) ?step2 ?fin2 ?init2) ?post2)
   case init2=>exact ⟨rfl,_,_,rfl,by lia,by lia,by lia,H1,H2⟩
   case fin2=>
    rintro c st' ⟨rfl,l,r,rfl,a1,a2,a3,a4,a5⟩;exact ⟨rfl,l,r,rfl,by lia,a2,a4,a5⟩
   case step2=>
    rintro x c st' _ hx ⟨rfl,l,r,rfl,a1,a2,a3,a4,a5⟩;dsimp only;by_cases hge:l >= r
    ·rw [if_pos hge];exact wpS_pure ⟨rfl,l,r,rfl,by lia,a2,a4,a5⟩
    ·rw [if_neg hge];refine wpS_bind (hp _ _ (by lia) ?_);dsimp only;cases hb:p (l+(r-l) / 2) with
     | true=>
      simp only [if_true];exact wpS_pure ⟨rfl,_,_,rfl,by lia,a2,by lia,fun i hi=>hm i _ (by lia) (by lia) hb,a5⟩
     | false=>
      simp only [Bool.false_eq_true,if_false];refine wpS_pure ⟨rfl,_,_,rfl,by lia,by lia,by lia,a4,fun i i1 i2=>?_⟩;cases hq:p i with
      | false=>rfl
      | true=>rw [hm _ i i1 i2 hq] at hb;cases hb
   case post2=>
    rintro c st' ⟨rfl,l,r,rfl,rfl,a2,a4,a5⟩;exact wpS_pure (h l a2 a4 a5)
end
end TS
end
section
namespace TS
open PySem PyProof.Rows
structure Ord (U:Keyed->Prop) (blt:Keyed->Keyed->Bool):Prop where
 irr:∀x,U x->blt x x=false
 tr:∀x y z,U x->U y->U z->blt x y=true->blt y z=true->blt x z=true
 ntr:∀x y z,U x->U y->U z->blt x z=true->blt x y=true\/blt y z=true
noncomputable abbrev dk:Keyed:=(.none,.none)
noncomputable def gt (a:Array Keyed) (i:Nat):Keyed:=a.getD i dk
theorem iQ {a:Array Keyed} {i:Nat} (h:i<a.size):a[i]?=some (gt a i):=by
 unfold gt;simp [Array.getD,h]
noncomputable def k_ (U:Keyed->Prop) (a:Array Keyed):Prop:=∀i,i<a.size->U (gt a i)
noncomputable def Srt (blt:Keyed->Keyed->Bool) (a:Array Keyed) (lo hi:Nat):Prop:=∀i j,lo<=i->i<=j->j<hi->blt (gt a j) (gt a i)=false
noncomputable def BR (prog:Program) (w:World) (A:Around) (E:Value->Shared->Prop) (s:Shared) (kd:SortKind) (U:Keyed->Prop) (blt:Keyed->Keyed->Bool):Prop:=
 ∀(x y:Keyed) (st:SortSt) (Q:Option Bool->SortSt->Prop),U x->U y->kindOf st=kd->Q (some (blt x y)) st->wpS (model prog w) A E s (lt' x y) Q st
section
variable {prog:Program} {w:World} {A:Around} {E:Value->Shared->Prop} {s:Shared} {kd:SortKind} {U:Keyed->Prop} {blt:Keyed->Keyed->Bool}
theorem aM {arr:Array Keyed} {i:Nat} {st:SortSt} {Q:Keyed->SortSt->Prop} (hi:i<arr.size) (h:Q (gt arr i) st):wpS (model prog w) A E s (elem' arr i) Q st:=by
 rw [elem'_eq,iQ hi];exact wpS_pure h
noncomputable def gp (blt:Keyed->Keyed->Bool) (left:Bool) (key:Keyed) (arr:Array Keyed) (base i:Nat):Bool:=if left then blt (gt arr (base+i)) key else !blt key (gt arr (base+i))
theorem BV (hL:BR prog w A E s kd U blt) {left:Bool} {key:Keyed} {arr:Array Keyed} {base i:Nat} {st:SortSt} {R:Option Bool->SortSt->Prop} (hk:kindOf st=kd) (hi:base+i<arr.size) (hU:k_ U arr) (hK:U key)
  (h:R (some (gp blt left key arr base i)) st):wpS (model prog w) A E s (v8 left key arr base i) R st:=by
 unfold v8;refine wpS_bind (aM hi ?_);unfold gp at h;cases left with
 | true=>
  simp only [if_true] at h ⊢;exact hL _ _ _ _ (hU _ hi) hK hk h
 | false=>
  simp only [Bool.false_eq_true,if_false] at h ⊢;refine wpS_bind (hL _ _ _ _ hK (hU _ hi) hk (wpS_pure ?_));exact h
theorem VJ (O:Ord U blt) {left:Bool} {key:Keyed} {arr:Array Keyed} {base n:Nat} (hn:base+n<=arr.size) (hU:k_ U arr) (hK:U key) (hs:Srt blt arr base (base+n)) :
  ∀i j,i<=j->j<n->gp blt left key arr base j=true->gp blt left key arr base i=true:=by
 intro i j hij hj h;have h0:=hs (base+i) (base+j) (by lia) (by lia) (by lia);have ui:=hU (base+i) (by lia);have uj:=hU (base+j) (by lia);unfold gp at h ⊢;cases left with
 | true=>
  simp only [if_true] at h ⊢;rcases O.ntr _ (gt arr (base+i)) _ uj ui hK h with q|q
  ·rw [h0] at q;cases q
  ·exact q
 | false=>
  simp only [Bool.false_eq_true,if_false] at h ⊢;cases q:blt key (gt arr (base+i)) with
  | false=>rfl
  | true=>
   rcases O.ntr _ (gt arr (base+j)) _ hK uj ui q with z|z
   ·rw [z] at h;cases h
   ·rw [h0] at z;cases z
theorem dM (O:Ord U blt) (hL:BR prog w A E s kd U blt) {left:Bool} {key:Keyed} {arr:Array Keyed} {base n hint:Nat} {st:SortSt} {Q:Option Nat->SortSt->Prop} (hk:kindOf st=kd) (hn:base+n<=arr.size) (hU:k_ U arr) (hK:U key)
  (hs:Srt blt arr base (base+n)) (hh:hint<n)
  (h:∀k,k<=n->(∀i,i<k->gp blt left key arr base i=true)->(∀i,k<=i->i<n->gp blt left key arr base i=false)->Q (some k) st):wpS (model prog w) A E s (IK left key arr base n hint) Q st:=
 BP (gp blt left key arr base) (fun i R hi r=>BV hL hk (by lia) hU hK r) (VJ O hn hU hK hs) hh h
end
section
variable (blt:Keyed->Keyed->Bool)
noncomputable abbrev le (x y:Keyed):Bool:=!blt y x
noncomputable def mrg (xs ys:List Keyed):List Keyed:=xs.merge ys (le blt)
variable {blt}
theorem iR {a:Array Keyed} {i:Nat} (h:i<a.size):a.toList.drop i=gt a i::a.toList.drop (i+1):=by
 rw [List.drop_eq_getElem_cons (by simpa using h)]
 congr 1
 unfold gt;simp [Array.getD,h]
theorem rC {a:Array Keyed} {i:Nat} (h:a.size<=i):a.toList.drop i=[]:=List.drop_of_length_le (by simpa using h)
theorem iT (xs:List Keyed):mrg blt xs []=xs:=List.merge_right xs
theorem j0 (ys:List Keyed):mrg blt [] ys=ys:=List.nil_merge ys
theorem eO (x y:Keyed) (xs ys:List Keyed):mrg blt (x::xs) (y::ys)=if blt y x then y::mrg blt (x::xs) ys else x::mrg blt xs (y::ys):=by
 unfold mrg;rw [List.cons_merge_cons];cases h:blt y x <;> simp [le,h]
noncomputable def J (blt:Keyed->Keyed->Bool) (a b:Array Keyed) (out:Array Keyed) (ia ib:Nat):Prop:=
 out.toList++mrg blt (a.toList.drop ia) (b.toList.drop ib)=mrg blt a.toList b.toList
variable {a b out:Array Keyed} {ia ib:Nat}
theorem J.pb (h:J blt a b out ia ib) (ha:ia<a.size) (hb:ib<b.size) (q:blt (gt b ib) (gt a ia)=true):J blt a b (out.push (gt b ib)) ia (ib+1):=by
 unfold J at h ⊢;rw [<-h,iR ha,iR hb,eO,if_pos q,<-iR ha];simp
theorem J.pa (h:J blt a b out ia ib) (ha:ia<a.size) (hb:ib<b.size) (q:blt (gt b ib) (gt a ia)=false):J blt a b (out.push (gt a ia)) (ia+1) ib:=by
 unfold J at h ⊢;rw [<-h,iR ha,iR hb,eO,if_neg (by simp [q]),<-iR hb];simp
theorem yJ {a:Array Keyed} {i k:Nat} (h:i+k<a.size) (out:Array Keyed):out++a.extract i (i+(k+1))=(out++a.extract i (i+k)).push (gt a (i+k)):=by
 apply Array.toList_inj.mp;simp only [Array.toList_append,Array.toList_extract,List.extract_eq_take_drop,Array.toList_push];rw [show i+(k+1)-i=k+1 by lia,show i+k-i=k by lia,List.take_add_one,List.append_assoc]
 congr 2
 rw [List.getElem?_drop];have:a.toList[i+k]?=some (gt a (i+k)):=by rw [Array.getElem?_toList];exact iQ h
 rw [this];rfl
theorem yK (a:Array Keyed) (i:Nat) (out:Array Keyed):out++a.extract i (i+0)=out:=by
 apply Array.toList_inj.mp;simp
theorem J.ga (h:J blt a b out ia ib) (hb:ib<b.size):∀k,ia+k<=a.size->(∀i,i<k->blt (gt b ib) (gt a (ia+i))=false)->J blt a b (out++a.extract ia (ia+k)) (ia+k) ib
 | 0,_,_=>by rw [yK];exact h
 | k+1,hk,q=>by
  have ih:=J.ga h hb k (by lia) fun i hi=>q i (by lia)
  rw [yJ (by lia)];exact J.pa ih (by lia) hb (q k (by lia))
theorem J.gb (h:J blt a b out ia ib) (ha:ia<a.size):∀k,ib+k<=b.size->(∀i,i<k->blt (gt b (ib+i)) (gt a ia)=true)->J blt a b (out++b.extract ib (ib+k)) ia (ib+k)
 | 0,_,_=>by rw [yK];exact h
 | k+1,hk,q=>by
  have ih:=J.gb h ha k (by lia) fun i hi=>q i (by lia)
  rw [yJ (by lia)];exact J.pb ih ha (by lia) (q k (by lia))
theorem jM (a:Array Keyed) (i:Nat):(a.extract i a.size).toList=a.toList.drop i:=by
 simp [Array.toList_extract,List.extract_eq_take_drop,List.take_of_length_le]
theorem J.j4 (h:J blt a b out ia ib) (hb:ib=b.size):(out++a.extract ia a.size++b.extract ib b.size).toList=mrg blt a.toList b.toList:=by
 rw [<-h,Array.toList_append,Array.toList_append,jM,jM,rC (Nat.le_of_eq hb.symm),iT];simp
theorem J.j5 (h:J blt a b out ia ib) (ha:ia=a.size):(out++a.extract ia a.size++b.extract ib b.size).toList=mrg blt a.toList b.toList:=by
 rw [<-h,Array.toList_append,Array.toList_append,jM,jM,rC (Nat.le_of_eq ha.symm),j0];simp
theorem rE (x:Keyed):∀ys:List Keyed,(∀y∈ys,blt y x=true)->mrg blt [x] ys=ys++[x]
 | [],_=>iT _
 | y::ys,h=>by
  rw [eO,if_pos (h y (List.mem_cons_self ..)),rE x ys fun z hz=>h z (List.mem_cons_of_mem _ hz)];rfl
theorem R6 {a:Array Keyed} {x:Keyed} (h:x∈a.toList):∃i,i<a.size/\x=gt a i:=by
 obtain ⟨i,hi,e⟩:=List.getElem_of_mem h;refine ⟨i,by simpa using hi,?_⟩;unfold gt;rw [<-e];have hi':i<a.size:=by simpa using hi
 simp [Array.getD,hi']
theorem J.last (h:J blt a b out ia ib) (ha:ia+1=a.size) (q:∀i,i<b.size->blt (gt b i) (gt a ia)=true):(out++b.extract ib b.size++a.extract ia a.size).toList=mrg blt a.toList b.toList:=by
 rw [<-h,Array.toList_append,Array.toList_append,jM,jM,iR (by lia:ia<a.size),rC (a:=a) (i:=ia+1) (by lia),rE,List.append_assoc];intro y hy;obtain ⟨i,hi,e⟩:=R6 (List.mem_of_mem_drop hy);rw [e];exact q i hi
end
end TS
end
section
namespace TS
open PySem PyProof.Rows
structure Sim (st st':SortSt):Prop where
 kd:kindOf st'=kindOf st
 ar:arrOf st'=arrOf st
 pd:pendingOf st'=pendingOf st
 fl:failedOf st'=failedOf st
section
variable {prog:Program} {w:World} {A:Around} {E:Value->Shared->Prop} {s:Shared} {kd:SortKind} {U:Keyed->Prop} {blt:Keyed->Keyed->Bool}
theorem v9 (O:Ord U blt) (hL:BR prog w A E s kd U blt) {a b:Array Keyed} {st:SortSt} {Q:Array Keyed->SortSt->Prop} (hk:kindOf st=kd) (hUa:k_ U a) (hUb:k_ U b) (hsa:Srt blt a 0 a.size) (hsb:Srt blt b 0 b.size)
  (ha:0<a.size) (hb:0<b.size) (hf:blt (gt b 0) (gt a 0)=true) (hl:∀i,i<b.size->blt (gt b i) (gt a (a.size-1))=true)
  (h:∀r st',Sim st st'->r.toList=mrg blt a.toList b.toList->Q r st'):wpS (model prog w) A E s (QD a b) Q st:=by
 have lastAt:∀{j:Nat},j+1=a.size->∀i,i<b.size->blt (gt b i) (gt a j)=true:=fun {j} hj i hi=>by
  have:=hl i hi;rwa [show a.size-1=j by lia] at this
 with_unfolding_all refine wpS_bind (wpS_lift (wpAny_rule ⟨rfl,?_⟩))
 dsimp only;refine wpS_bind (aM hb ?_)
 try dsimp only
 have J0:J blt a b #[gt b 0] 0 1:=J.pb (out:=#[]) (by unfold J;simp) ha hb hf;have sim0:Sim st st:=⟨rfl,rfl,rfl,rfl⟩
 by_cases e1:1=b.size
 ·rw [if_pos (by simpa using e1)];exact wpS_pure (h _ _ sim0 (J0.j4 e1))
 rw [if_neg (by simpa using e1)];by_cases e2:0+1=a.size
 ·rw [if_pos (by simpa using e2)];exact wpS_pure (h _ _ sim0 (J0.last e2 (lastAt e2)))
 rw [if_neg (by simpa using e2)];refine wpS_bind (wpS_get ?_);refine wpS_bind (wpS_mono (wpS_forRange
  (I:=fun x c st'=>Sim st st'/\∃out ia ib mg,c=(none,out,ia,ib,mg)/\J blt a b out ia ib/\ia+1<a.size/\ib<b.size/\x<=ia+ib)
  (Q:=fun c st'=>Sim st st'/\∃r,c.1=some r/\r.toList=mrg blt a.toList b.toList) ?step ?fin ?init) ?post)
 case init=>exact ⟨sim0,_,_,_,_,rfl,J0,by lia,by lia,by lia⟩
 case fin=>
  rintro c st' ⟨_,out,ia,ib,mg,rfl,_,h1,h2,h3⟩;lia
 case post=>
  rintro ⟨c1,c2⟩ st' ⟨sim,r,e,hr⟩;dsimp only at e;subst e;exact wpS_pure (h r st' sim hr)
 case step=>
  rintro x₀ c st1 _ hx0 ⟨sim,out,ia,ib,mg,rfl,j1,h1,h2,h3⟩;dsimp only;refine wpS_bind (wpS_mono (wpS_forRange
   (I:=fun x c st'=>Sim st st'/\∃out ia ib ac bc,c=(none,out,ia,ib,ac,bc)/\J blt a b out ia ib/\ia+1<a.size/\ib<b.size/\x₀<=ia+ib/\x<=ia+ib)
   (Q:=fun c st'=>Sim st st'/\((∃r,c.1=some r/\r.toList=mrg blt a.toList b.toList)\/∃out ia ib ac bc,c=(none,out,ia,ib,ac,bc)/\J blt a b out ia ib/\ia+1<a.size/\ib<b.size/\x₀+1<=ia+ib)) ?step2 ?fin2 ?init2) ?post2)
  case init2=>exact ⟨sim,_,_,_,_,_,rfl,j1,h1,h2,h3,by lia⟩
  case fin2=>
   rintro c st' ⟨_,out,ia,ib,ac,bc,rfl,_,h1,h2,_,h3⟩;lia
  case step2=>
   rintro x c st2 _ hx ⟨sim,out,ia,ib,ac,bc,rfl,j2,h1,h2,h3,h4⟩;dsimp only;refine wpS_bind (aM h2 (wpS_bind (aM (by lia) (wpS_bind (hL _ _ _ _ (hUb _ h2) (hUa _ (by lia)) (sim.1.trans hk) ?_)))));dsimp only;cases q:blt (gt b ib) (gt a ia) with
   | true=>
    simp only [if_true];refine wpS_bind (aM h2 ?_);have j3:=J.pb j2 (by lia) h2 q;by_cases e3:ib+1=b.size
    ·rw [if_pos (by simpa using e3)];exact wpS_pure ⟨sim,.inl ⟨_,rfl,j3.j4 e3⟩⟩
    ·rw [if_neg (by simpa using e3)];split
     ·exact wpS_pure ⟨sim,.inr ⟨_,_,_,_,_,rfl,j3,by lia,by lia,by lia⟩⟩
     ·exact wpS_pure ⟨sim,_,_,_,_,_,rfl,j3,by lia,by lia,by lia,by lia⟩
   | false=>
    simp only [Bool.false_eq_true,if_false];refine wpS_bind (aM (by lia) ?_);have j3:=J.pa j2 (by lia) h2 q;by_cases e3:ia+1+1=a.size
    ·rw [if_pos (by simpa using e3)];exact wpS_pure ⟨sim,.inl ⟨_,rfl,j3.last e3 (lastAt e3)⟩⟩
    ·rw [if_neg (by simpa using e3)];split
     ·exact wpS_pure ⟨sim,.inr ⟨_,_,_,_,_,rfl,j3,by lia,by lia,by lia⟩⟩
     ·exact wpS_pure ⟨sim,_,_,_,_,_,rfl,j3,by lia,by lia,by lia,by lia⟩
  case post2=>
   rintro ⟨c1,c2⟩ st2 ⟨sim,⟨r,e,hr⟩|⟨out,ia,ib,ac,bc,e,j2,h1,h2,h3⟩⟩
   ·dsimp only at e;subst e;exact wpS_pure ⟨sim,r,rfl,hr⟩
   ·cases e;dsimp only;refine wpS_bind (wpS_lift (wpAny_rule ⟨rfl,?_⟩));refine wpS_bind (wpS_mono (wpS_forRange
     (I:=fun x c st'=>Sim st st'/\∃out ia ib mg ac bc,c=(none,out,ia,ib,mg,ac,bc)/\J blt a b out ia ib/\ia+1<a.size/\ib<b.size/\x₀+1<=ia+ib/\x<=ia+ib)
     (Q:=fun c st'=>Sim st st'/\((∃r,c.1=some r/\r.toList=mrg blt a.toList b.toList)\/∃out ia ib mg ac bc,c=(none,out,ia,ib,mg,ac,bc)/\J blt a b out ia ib/\ia+1<a.size/\ib<b.size/\x₀+1<=ia+ib)) ?step3 ?fin3 ?init3) ?post3)
    case init3=>exact ⟨sim,_,_,_,_,_,_,rfl,j2,h1,h2,h3,by lia⟩
    case fin3=>
     rintro c st' ⟨_,out,ia,ib,mg,ac,bc,rfl,_,h1,h2,_,h3⟩;lia
    case post3=>
     rintro ⟨c1,c2⟩ st3 ⟨sim,⟨r,e,hr⟩|⟨out,ia,ib,mg,ac,bc,e,j3,h1,h2,h3⟩⟩
     ·dsimp only at e;subst e;exact wpS_pure ⟨sim,r,rfl,hr⟩
     ·cases e;dsimp only;refine wpS_bind (fC (wpS_pure ⟨⟨sim.1,sim.2,sim.3,sim.4⟩,_,_,_,_,rfl,j3,h1,h2,by lia⟩))
    case step3=>
     rintro x c st3 _ hx ⟨sim,out,ia,ib,mg,ac,bc,rfl,j3,h1,h2,h3,h4⟩;dsimp only;by_cases hg:mg > 1
     ·rw [if_pos hg];refine wpS_bind (fC ?_);have sim':Sim st (SortSt.mk' (kindOf st3) (arrOf st3) (pendingOf st3) (mg-1) (failedOf st3)):=⟨sim.1,sim.2,sim.3,sim.4⟩
      have hk':kindOf (SortSt.mk' (kindOf st3) (arrOf st3) (pendingOf st3) (mg-1) (failedOf st3))=kd:=sim.1.trans hk;refine wpS_bind (aM (by lia) ?_);refine wpS_bind (dM O hL hk' (by lia) hUa (hUb _ (by lia)) (fun i j i1 i2 i3=>hsa i j (by lia) i2 (by lia)) (by lia) fun k hk1 y1 y2=>?_)
      try dsimp only
      by_cases kp:k > 0
      ·rw [if_pos kp];have J1:=J.ga j3 (by lia) k (by lia) (fun i hi=>by have:=y1 i hi;simpa [gp] using this);by_cases e1:ia+k+1=a.size
       ·rw [if_pos (by simpa using e1)];exact wpS_pure ⟨sim',.inl ⟨_,rfl,J1.last e1 (lastAt (by lia))⟩⟩
       ·rw [if_neg (by simpa using e1)];by_cases e1':ia+k=a.size
        ·rw [if_pos (by simpa using e1')];exact wpS_pure ⟨sim',.inl ⟨_,rfl,J1.j5 e1'⟩⟩
        ·rw [if_neg (by simpa using e1')];have hz1:blt (gt b ib) (gt a (ia+k))=true:=(by have:=y2 k (Nat.le_refl _) (by lia);simpa [gp] using this)
         refine wpS_bind (aM (by lia) ?_)
         try dsimp only
         have J2:=J.pb J1 (by lia) (by lia) hz1;by_cases e2:ib+1=b.size
         ·rw [if_pos (by simpa using e2)];exact wpS_pure ⟨sim',.inl ⟨_,rfl,J2.j4 e2⟩⟩
         ·rw [if_neg (by simpa using e2)];refine wpS_bind (aM (by lia) ?_);refine wpS_bind (dM O hL hk' (by lia) hUb (hUa _ (by lia)) (fun i j i1 i2 i3=>hsb i j (by lia) i2 (by lia)) (by lia) fun k1 hk1 y1 y2=>?_)
          try dsimp only
          by_cases k1p:k1 > 0
          ·rw [if_pos k1p];have J3:=J.gb J2 (by lia) k1 (by lia) (fun i hi=>by have:=y1 i hi;simpa [gp] using this);by_cases e3:ib+1+k1=b.size
           ·rw [if_pos (by simpa using e3)];exact wpS_pure ⟨sim',.inl ⟨_,rfl,J3.j4 e3⟩⟩
           ·rw [if_neg (by simpa using e3)];have hz2:blt (gt b (ib+1+k1)) (gt a (ia+k))=false:=(by have:=y2 k1 (Nat.le_refl _) (by lia);simpa [gp] using this)
            refine wpS_bind (aM (by lia) ?_)
            try dsimp only
            have J4:=J.pa J3 (by lia) (by lia) hz2;by_cases e4:(ia+k)+1+1=a.size
            ·rw [if_pos (by simpa using e4)];exact wpS_pure ⟨sim',.inl ⟨_,rfl,J4.last e4 (lastAt (by lia))⟩⟩
            ·rw [if_neg (by simpa using e4)];split
             ·exact wpS_pure ⟨sim',.inr ⟨_,_,_,_,_,_,rfl,J4,by lia,by lia,by lia⟩⟩
             ·exact wpS_pure ⟨sim',_,_,_,_,_,_,rfl,J4,by lia,by lia,by lia,by lia⟩
          ·rw [if_neg k1p];obtain rfl:k1=0:=by lia
           have J3:=J2;have hz2:blt (gt b (ib+1)) (gt a (ia+k))=false:=(by have:=y2 0 (Nat.le_refl _) (by lia);simpa [gp] using this)
           refine wpS_bind (aM (by lia) ?_)
           try dsimp only
           have J4:=J.pa J3 (by lia) (by lia) hz2;by_cases e4:(ia+k)+1+1=a.size
           ·rw [if_pos (by simpa using e4)];exact wpS_pure ⟨sim',.inl ⟨_,rfl,J4.last e4 (lastAt (by lia))⟩⟩
           ·rw [if_neg (by simpa using e4)];split
            ·exact wpS_pure ⟨sim',.inr ⟨_,_,_,_,_,_,rfl,J4,by lia,by lia,by lia⟩⟩
            ·exact wpS_pure ⟨sim',_,_,_,_,_,_,rfl,J4,by lia,by lia,by lia,by lia⟩
      ·rw [if_neg kp];obtain rfl:k=0:=by lia
       have J1:=j3;have hz1:blt (gt b ib) (gt a ia)=true:=(by have:=y2 0 (Nat.le_refl _) (by lia);simpa [gp] using this)
       refine wpS_bind (aM (by lia) ?_)
       try dsimp only
       have J2:=J.pb J1 (by lia) (by lia) hz1;by_cases e2:ib+1=b.size
       ·rw [if_pos (by simpa using e2)];exact wpS_pure ⟨sim',.inl ⟨_,rfl,J2.j4 e2⟩⟩
       ·rw [if_neg (by simpa using e2)];refine wpS_bind (aM (by lia) ?_);refine wpS_bind (dM O hL hk' (by lia) hUb (hUa _ (by lia)) (fun i j i1 i2 i3=>hsb i j (by lia) i2 (by lia)) (by lia) fun k1 hk1 y1 y2=>?_)
        try dsimp only
        by_cases k1p:k1 > 0
        ·rw [if_pos k1p];have J3:=J.gb J2 (by lia) k1 (by lia) (fun i hi=>by have:=y1 i hi;simpa [gp] using this);by_cases e3:ib+1+k1=b.size
         ·rw [if_pos (by simpa using e3)];exact wpS_pure ⟨sim',.inl ⟨_,rfl,J3.j4 e3⟩⟩
         ·rw [if_neg (by simpa using e3)];have hz2:blt (gt b (ib+1+k1)) (gt a ia)=false:=(by have:=y2 k1 (Nat.le_refl _) (by lia);simpa [gp] using this)
          refine wpS_bind (aM (by lia) ?_)
          try dsimp only
          have J4:=J.pa J3 (by lia) (by lia) hz2;by_cases e4:ia+1+1=a.size
          ·rw [if_pos (by simpa using e4)];exact wpS_pure ⟨sim',.inl ⟨_,rfl,J4.last e4 (lastAt (by lia))⟩⟩
          ·rw [if_neg (by simpa using e4)];split
           ·exact wpS_pure ⟨sim',.inr ⟨_,_,_,_,_,_,rfl,J4,by lia,by lia,by lia⟩⟩
           ·exact wpS_pure ⟨sim',_,_,_,_,_,_,rfl,J4,by lia,by lia,by lia,by lia⟩
        ·rw [if_neg k1p];obtain rfl:k1=0:=by lia
         have J3:=J2;have hz2:blt (gt b (ib+1)) (gt a ia)=false:=(by have:=y2 0 (Nat.le_refl _) (by lia);simpa [gp] using this)
         refine wpS_bind (aM (by lia) ?_)
         try dsimp only
         have J4:=J.pa J3 (by lia) (by lia) hz2;by_cases e4:ia+1+1=a.size
         ·rw [if_pos (by simpa using e4)];exact wpS_pure ⟨sim',.inl ⟨_,rfl,J4.last e4 (lastAt (by lia))⟩⟩
         ·rw [if_neg (by simpa using e4)];split
          ·exact wpS_pure ⟨sim',.inr ⟨_,_,_,_,_,_,rfl,J4,by lia,by lia,by lia⟩⟩
          ·exact wpS_pure ⟨sim',_,_,_,_,_,_,rfl,J4,by lia,by lia,by lia,by lia⟩
     ·rw [if_neg hg];refine wpS_bind (fC ?_);have sim':Sim st (SortSt.mk' (kindOf st3) (arrOf st3) (pendingOf st3) mg (failedOf st3)):=⟨sim.1,sim.2,sim.3,sim.4⟩
      have hk':kindOf (SortSt.mk' (kindOf st3) (arrOf st3) (pendingOf st3) mg (failedOf st3))=kd:=sim.1.trans hk;refine wpS_bind (aM (by lia) ?_);refine wpS_bind (dM O hL hk' (by lia) hUa (hUb _ (by lia)) (fun i j i1 i2 i3=>hsa i j (by lia) i2 (by lia)) (by lia) fun k hk1 y1 y2=>?_)
      try dsimp only
      by_cases kp:k > 0
      ·rw [if_pos kp];have J1:=J.ga j3 (by lia) k (by lia) (fun i hi=>by have:=y1 i hi;simpa [gp] using this);by_cases e1:ia+k+1=a.size
       ·rw [if_pos (by simpa using e1)];exact wpS_pure ⟨sim',.inl ⟨_,rfl,J1.last e1 (lastAt (by lia))⟩⟩
       ·rw [if_neg (by simpa using e1)];by_cases e1':ia+k=a.size
        ·rw [if_pos (by simpa using e1')];exact wpS_pure ⟨sim',.inl ⟨_,rfl,J1.j5 e1'⟩⟩
        ·rw [if_neg (by simpa using e1')];have hz1:blt (gt b ib) (gt a (ia+k))=true:=(by have:=y2 k (Nat.le_refl _) (by lia);simpa [gp] using this)
         refine wpS_bind (aM (by lia) ?_)
         try dsimp only
         have J2:=J.pb J1 (by lia) (by lia) hz1;by_cases e2:ib+1=b.size
         ·rw [if_pos (by simpa using e2)];exact wpS_pure ⟨sim',.inl ⟨_,rfl,J2.j4 e2⟩⟩
         ·rw [if_neg (by simpa using e2)];refine wpS_bind (aM (by lia) ?_);refine wpS_bind (dM O hL hk' (by lia) hUb (hUa _ (by lia)) (fun i j i1 i2 i3=>hsb i j (by lia) i2 (by lia)) (by lia) fun k1 hk1 y1 y2=>?_)
          try dsimp only
          by_cases k1p:k1 > 0
          ·rw [if_pos k1p];have J3:=J.gb J2 (by lia) k1 (by lia) (fun i hi=>by have:=y1 i hi;simpa [gp] using this);by_cases e3:ib+1+k1=b.size
           ·rw [if_pos (by simpa using e3)];exact wpS_pure ⟨sim',.inl ⟨_,rfl,J3.j4 e3⟩⟩
           ·rw [if_neg (by simpa using e3)];have hz2:blt (gt b (ib+1+k1)) (gt a (ia+k))=false:=(by have:=y2 k1 (Nat.le_refl _) (by lia);simpa [gp] using this)
            refine wpS_bind (aM (by lia) ?_)
            try dsimp only
            have J4:=J.pa J3 (by lia) (by lia) hz2;by_cases e4:(ia+k)+1+1=a.size
            ·rw [if_pos (by simpa using e4)];exact wpS_pure ⟨sim',.inl ⟨_,rfl,J4.last e4 (lastAt (by lia))⟩⟩
            ·rw [if_neg (by simpa using e4)];split
             ·exact wpS_pure ⟨sim',.inr ⟨_,_,_,_,_,_,rfl,J4,by lia,by lia,by lia⟩⟩
             ·exact wpS_pure ⟨sim',_,_,_,_,_,_,rfl,J4,by lia,by lia,by lia,by lia⟩
          ·rw [if_neg k1p];obtain rfl:k1=0:=by lia
           have J3:=J2;have hz2:blt (gt b (ib+1)) (gt a (ia+k))=false:=(by have:=y2 0 (Nat.le_refl _) (by lia);simpa [gp] using this)
           refine wpS_bind (aM (by lia) ?_)
           try dsimp only
           have J4:=J.pa J3 (by lia) (by lia) hz2;by_cases e4:(ia+k)+1+1=a.size
           ·rw [if_pos (by simpa using e4)];exact wpS_pure ⟨sim',.inl ⟨_,rfl,J4.last e4 (lastAt (by lia))⟩⟩
           ·rw [if_neg (by simpa using e4)];split
            ·exact wpS_pure ⟨sim',.inr ⟨_,_,_,_,_,_,rfl,J4,by lia,by lia,by lia⟩⟩
            ·exact wpS_pure ⟨sim',_,_,_,_,_,_,rfl,J4,by lia,by lia,by lia,by lia⟩
      ·rw [if_neg kp];obtain rfl:k=0:=by lia
       have J1:=j3;have hz1:blt (gt b ib) (gt a ia)=true:=(by have:=y2 0 (Nat.le_refl _) (by lia);simpa [gp] using this)
       refine wpS_bind (aM (by lia) ?_)
       try dsimp only
       have J2:=J.pb J1 (by lia) (by lia) hz1;by_cases e2:ib+1=b.size
       ·rw [if_pos (by simpa using e2)];exact wpS_pure ⟨sim',.inl ⟨_,rfl,J2.j4 e2⟩⟩
       ·rw [if_neg (by simpa using e2)];refine wpS_bind (aM (by lia) ?_);refine wpS_bind (dM O hL hk' (by lia) hUb (hUa _ (by lia)) (fun i j i1 i2 i3=>hsb i j (by lia) i2 (by lia)) (by lia) fun k1 hk1 y1 y2=>?_)
        try dsimp only
        by_cases k1p:k1 > 0
        ·rw [if_pos k1p];have J3:=J.gb J2 (by lia) k1 (by lia) (fun i hi=>by have:=y1 i hi;simpa [gp] using this);by_cases e3:ib+1+k1=b.size
         ·rw [if_pos (by simpa using e3)];exact wpS_pure ⟨sim',.inl ⟨_,rfl,J3.j4 e3⟩⟩
         ·rw [if_neg (by simpa using e3)];have hz2:blt (gt b (ib+1+k1)) (gt a ia)=false:=(by have:=y2 k1 (Nat.le_refl _) (by lia);simpa [gp] using this)
          refine wpS_bind (aM (by lia) ?_)
          try dsimp only
          have J4:=J.pa J3 (by lia) (by lia) hz2;by_cases e4:ia+1+1=a.size
          ·rw [if_pos (by simpa using e4)];exact wpS_pure ⟨sim',.inl ⟨_,rfl,J4.last e4 (lastAt (by lia))⟩⟩
          ·rw [if_neg (by simpa using e4)];split
           ·exact wpS_pure ⟨sim',.inr ⟨_,_,_,_,_,_,rfl,J4,by lia,by lia,by lia⟩⟩
           ·exact wpS_pure ⟨sim',_,_,_,_,_,_,rfl,J4,by lia,by lia,by lia,by lia⟩
        ·rw [if_neg k1p];obtain rfl:k1=0:=by lia
         have J3:=J2;have hz2:blt (gt b (ib+1)) (gt a ia)=false:=(by have:=y2 0 (Nat.le_refl _) (by lia);simpa [gp] using this)
         refine wpS_bind (aM (by lia) ?_)
         try dsimp only
         have J4:=J.pa J3 (by lia) (by lia) hz2;by_cases e4:ia+1+1=a.size
         ·rw [if_pos (by simpa using e4)];exact wpS_pure ⟨sim',.inl ⟨_,rfl,J4.last e4 (lastAt (by lia))⟩⟩
         ·rw [if_neg (by simpa using e4)];split
          ·exact wpS_pure ⟨sim',.inr ⟨_,_,_,_,_,_,rfl,J4,by lia,by lia,by lia⟩⟩
          ·exact wpS_pure ⟨sim',_,_,_,_,_,_,rfl,J4,by lia,by lia,by lia,by lia⟩
end
end TS
end
section
namespace TS
open PySem PyProof.Rows
section
variable {blt:Keyed->Keyed->Bool}
theorem v_ {a:Array Keyed} {n:Nat} (h:n<a.size):a.toList.take (n+1)=a.toList.take n++[gt a n]:=by
 rw [List.take_add_one];have:a.toList[n]?=some (gt a n):=by rw [Array.getElem?_toList];exact iQ h
 rw [this];rfl
theorem n6 {a:Array Keyed} {n:Nat} {z:Keyed} (h:z∈a.toList.take n):∃i, i<n /\ i<a.size /\ z=gt a i := by
  obtain ⟨i, hi, e⟩ := List.getElem_of_mem h;rw [List.length_take] at hi;have h2:i<a.size := by simpa using (show i<a.toList.length by lia)
  refine ⟨i, by lia, h2, ?_⟩;rw [<-e, List.getElem_take];unfold gt;simp [Array.getD, h2]
theorem n8 (x:Keyed):∀(xs zs:List Keyed),(∀z∈zs,blt z x=true)->mrg blt (xs++[x]) zs=mrg blt xs zs++[x]
 | [],zs,h=>by rw [List.nil_append,rE x zs h,j0]
 | x0::xs,[],_=>by rw [iT,iT]
 | x0::xs,z::zs,h=>by
  rw [List.cons_append,eO,eO];by_cases q:blt z x0=true
  ·rw [if_pos q,if_pos q,<-List.cons_append,n8 x (x0::xs) zs fun y hy=>h y (List.mem_cons_of_mem _ hy)];rfl
  ·rw [if_neg q,if_neg q,n8 x xs (z::zs) h];rfl
 termination_by xs zs=>xs.length+zs.length
theorem uC (y:Keyed):∀zs:List Keyed,(∀z∈zs,blt y z=false)->mrg blt zs [y]=zs++[y]
 | [],_=>j0 _
 | z::zs,h=>by
  rw [eO,if_neg (by simp [h z (List.mem_cons_self ..)]),uC y zs fun u hu=>h u (List.mem_cons_of_mem _ hu)];rfl
theorem n_ (y:Keyed):∀(zs ys:List Keyed),(∀z∈zs,blt y z=false)->mrg blt zs (ys++[y])=mrg blt zs ys++[y]
 | zs,[],h=>by rw [List.nil_append,uC y zs h,iT]
 | [],y0::ys,_=>by rw [j0,j0]
 | z::zs,y0::ys,h=>by
  rw [List.cons_append,eO,eO];by_cases q:blt y0 z=true
  ·rw [if_pos q,if_pos q,n_ y (z::zs) ys h];rfl
  ·rw [if_neg q,if_neg q,<-List.cons_append,n_ y zs (y0::ys) fun u hu=>h u (List.mem_cons_of_mem _ hu)];rfl
 termination_by zs ys=>zs.length+ys.length
noncomputable def JH (blt:Keyed->Keyed->Bool) (a b:Array Keyed) (out:Array Keyed) (na nb:Nat):Prop:=
 mrg blt (a.toList.take na) (b.toList.take nb)++out.toList.reverse=mrg blt a.toList b.toList
variable {a b out:Array Keyed} {na nb:Nat}
theorem JH.pa (h:JH blt a b out na nb) (ha:0<na) (h1:na<=a.size) (h2:nb<=b.size) (q:∀i,i<nb->blt (gt b i) (gt a (na-1))=true):JH blt a b (out.push (gt a (na-1))) (na-1) nb:=by
 unfold JH at h ⊢;obtain ⟨n,rfl⟩:∃n,na=n+1:=⟨na-1,by lia⟩
 rw [v_ (by lia),n8 _ _ _ (fun z hz=>by obtain ⟨i,i1,i2,rfl⟩:=n6 hz;exact q i i1)] at h;rw [<-h];simp
theorem JH.pb (h:JH blt a b out na nb) (hb:0<nb) (h1:na<=a.size) (h2:nb<=b.size) (q:∀i,i<na->blt (gt b (nb-1)) (gt a i)=false):JH blt a b (out.push (gt b (nb-1))) na (nb-1):=by
 unfold JH at h ⊢;obtain ⟨n,rfl⟩:∃n,nb=n+1:=⟨nb-1,by lia⟩
 rw [v_ (by lia),n_ _ _ _ (fun z hz=>by obtain ⟨i,i1,i2,rfl⟩:=n6 hz;exact q i i1)] at h;rw [<-h];simp
theorem IV {a:Array Keyed} {i n:Nat} (h:i<n) (hn:n<=a.size) (out:Array Keyed):out++(a.extract i n).reverse=(out.push (gt a (n-1)))++(a.extract i (n-1)).reverse:=by
 apply Array.toList_inj.mp;simp only [Array.toList_append,Array.toList_reverse,Array.toList_extract,List.extract_eq_take_drop,Array.toList_push];obtain ⟨m,rfl⟩:∃m,n=m+1:=⟨n-1,by lia⟩
 rw [show m+1-i=(m-i)+1 by lia,List.take_add_one,List.getElem?_drop,show i+(m-i)=m by lia];have:a.toList[m]?=some (gt a m):=by rw [Array.getElem?_toList];exact iQ (by lia)
 rw [this];simp
theorem m_ {a:Array Keyed} {i:Nat} (out:Array Keyed):out++(a.extract i i).reverse=out:=by
 apply Array.toList_inj.mp;simp
theorem JH.ga:∀{na:Nat} {out:Array Keyed},JH blt a b out na nb->na<=a.size->nb<=b.size->∀at_,at_<=na->(∀i,at_<=i->i<na->∀z,z<nb->blt (gt b z) (gt a i)=true)->JH blt a b (out++(a.extract at_ na).reverse) at_ nb
 | 0,out,h,_,_,at_,h0,_=>by
  obtain rfl:at_=0:=by lia
  rw [m_];exact h
 | n+1,out,h,h1,h2,at_,h0,q=>by
  by_cases e:at_=n+1
  ·subst e;rw [m_];exact h
  ·rw [IV (by lia) h1];exact JH.ga (na:=n) (JH.pa h (by lia) h1 h2 (q n (by lia) (by lia))) (by lia) h2 at_ (by lia) fun i i1 i2=>q i i1 (by lia)
theorem JH.gb:∀{nb:Nat} {out:Array Keyed},JH blt a b out na nb->na<=a.size->nb<=b.size->∀at_,at_<=nb->(∀i,at_<=i->i<nb->∀z,z<na->blt (gt b i) (gt a z)=false)->JH blt a b (out++(b.extract at_ nb).reverse) na at_
 | 0,out,h,_,_,at_,h0,_=>by
  obtain rfl:at_=0:=by lia
  rw [m_];exact h
 | n+1,out,h,h1,h2,at_,h0,q=>by
  by_cases e:at_=n+1
  ·subst e;rw [m_];exact h
  ·rw [IV (by lia) h2];exact JH.gb (nb:=n) (JH.pb h (by lia) h1 h2 (q n (by lia) (by lia))) h1 (by lia) at_ (by lia) fun i i1 i2=>q i i1 (by lia)
theorem jN (a:Array Keyed) (n:Nat):(a.extract 0 n).toList=a.toList.take n:=by
 simp [Array.toList_extract,List.extract_eq_take_drop]
theorem JH.j5 (h:JH blt a b out na nb) (e:na=0):(a.extract 0 na++b.extract 0 nb++out.reverse).toList=mrg blt a.toList b.toList:=by
 subst e;rw [<-h,Array.toList_append,Array.toList_append,jN,jN,Array.toList_reverse,List.take_zero,j0];rfl
theorem JH.j4 (h:JH blt a b out na nb) (e:nb=0):(a.extract 0 na++b.extract 0 nb++out.reverse).toList=mrg blt a.toList b.toList:=by
 subst e;rw [<-h,Array.toList_append,Array.toList_append,jN,jN,Array.toList_reverse,List.take_zero,iT,List.append_nil]
theorem JH.first (h:JH blt a b out na nb) (e:nb=1) (ha:0<a.size) (hb:0<b.size) (hf:blt (gt b 0) (gt a 0)=true) (hn:0<na):(b.extract 0 nb++a.extract 0 na++out.reverse).toList=mrg blt a.toList b.toList:=by
 subst e;rw [<-h,Array.toList_append,Array.toList_append,jN,jN,Array.toList_reverse];have e1:b.toList.take 1=[gt b 0]:=by rw [v_ (a:=b) (n:=0) hb];rfl
 obtain ⟨m,rfl⟩:∃m,na=m+1:=⟨na-1,by lia⟩
 have e2:a.toList.take (m+1)=gt a 0::(a.toList.drop 1).take m:=by
  have:=iR (a:=a) (i:=0) ha;rw [List.drop_zero] at this;rw [this];rfl
 rw [e1,e2,eO,if_pos hf,iT];rfl
variable {U:Keyed->Prop}
theorem leA (O:Ord U blt) (hUa:k_ U a) (hUb:k_ U b) (hsa:Srt blt a 0 a.size) {n i z:Nat} (hn:n<=a.size) (hi:i<b.size) (hz:z<n) (q:blt (gt b i) (gt a (n-1))=false):blt (gt b i) (gt a z)=false:=by
 cases e:blt (gt b i) (gt a z) with
 | false=>rfl
 | true=>
  rcases O.ntr _ (gt a (n-1)) _ (hUb i hi) (hUa _ (by lia)) (hUa z (by lia)) e with p|p
  ·rw [q] at p;cases p
  ·rw [hsa z (n-1) (by lia) (by lia) (by lia)] at p;cases p
theorem aCv (O:Ord U blt) (hUa:k_ U a) (hUb:k_ U b) (hsb:Srt blt b 0 b.size) {n i z:Nat} (hn:n<=b.size) (hi:i<a.size) (hz:z<n) (q:blt (gt b (n-1)) (gt a i)=true):blt (gt b z) (gt a i)=true:=by
 rcases O.ntr _ (gt b z) _ (hUb (n-1) (by lia)) (hUb z (by lia)) (hUa i hi) q with p|p
 ·rw [hsb z (n-1) (by lia) (by lia) (by lia)] at p;cases p
 ·exact p
end
section
variable {prog:Program} {w:World} {A:Around} {E:Value->Shared->Prop} {s:Shared} {kd:SortKind} {U:Keyed->Prop} {blt:Keyed->Keyed->Bool}
theorem wA (O:Ord U blt) (hL:BR prog w A E s kd U blt) {a b:Array Keyed} {st:SortSt} {Q:Array Keyed->SortSt->Prop} (hk:kindOf st=kd) (hUa:k_ U a) (hUb:k_ U b) (hsa:Srt blt a 0 a.size) (hsb:Srt blt b 0 b.size)
  (ha:0<a.size) (hb:0<b.size) (hf:blt (gt b 0) (gt a 0)=true) (hl:∀i,i<b.size->blt (gt b i) (gt a (a.size-1))=true)
  (h:∀r st',Sim st st'->r.toList=mrg blt a.toList b.toList->Q r st'):wpS (model prog w) A E s (QF a b) Q st:=by
 with_unfolding_all refine wpS_bind (wpS_lift (wpAny_rule ⟨rfl,?_⟩))
 dsimp only;refine wpS_bind (aM (by lia) ?_)
 try dsimp only
 have J0:JH blt a b #[gt a (a.size-1)] (a.size-1) b.size:=JH.pa (out:=#[]) (na:=a.size) (by unfold JH;simp [List.take_of_length_le]) ha (Nat.le_refl _) (Nat.le_refl _) hl;have sim0:Sim st st:=⟨rfl,rfl,rfl,rfl⟩
 by_cases e1:a.size-1=0
 ·rw [if_pos (by simpa using e1)];exact wpS_pure (h _ _ sim0 (J0.j5 e1))
 rw [if_neg (by simpa using e1)];by_cases e2:b.size=1
 ·rw [if_pos (by simpa using e2)];exact wpS_pure (h _ _ sim0 (J0.first e2 ha hb hf (by lia)))
 rw [if_neg (by simpa using e2)];refine wpS_bind (wpS_get ?_);refine wpS_bind (wpS_mono (wpS_forRange
  (I:=fun x c st'=>Sim st st'/\∃out na nb mg,c=(none,na,nb,out,mg)/\JH blt a b out na nb/\0<na/\1<nb/\na<a.size/\nb<=b.size/\x+na+nb<=a.size+b.size)
  (Q:=fun c st'=>Sim st st'/\∃r,c.1=some r/\r.toList=mrg blt a.toList b.toList) ?step ?fin ?init) ?post)
 case init=>exact ⟨sim0,_,_,_,_,rfl,J0,by lia,by lia,by lia,by lia,by lia⟩
 case fin=>
  rintro c st' ⟨_,out,na,nb,mg,rfl,_,h1,h2,h3,h4,h5⟩;lia
 case post=>
  rintro ⟨c1,c2⟩ st' ⟨sim,r,e,hr⟩;dsimp only at e;subst e;exact wpS_pure (h r st' sim hr)
 case step=>
  rintro x₀ c st1 _ hx0 ⟨sim,out,na,nb,mg,rfl,j1,h1,h2,h3,h4,h5⟩;dsimp only;refine wpS_bind (wpS_mono (wpS_forRange
   (I:=fun x c st'=>Sim st st'/\∃out na nb ac bc,c=(none,na,nb,out,ac,bc)/\JH blt a b out na nb/\0<na/\1<nb/\na<a.size/\nb<=b.size/\x₀+na+nb<=a.size+b.size/\x+na+nb<=a.size+b.size)
   (Q:=fun c st'=>Sim st st'/\((∃r,c.1=some r/\r.toList=mrg blt a.toList b.toList)\/∃out na nb ac bc,c=(none,na,nb,out,ac,bc)/\JH blt a b out na nb/\0<na/\1<nb/\na<a.size/\nb<=b.size/\x₀+1+na+nb<=a.size+b.size)) ?step2 ?fin2 ?init2) ?post2)
  case init2=>exact ⟨sim,_,_,_,_,_,rfl,j1,h1,h2,h3,h4,h5,by lia⟩
  case fin2=>
   rintro c st' ⟨_,out,na,nb,ac,bc,rfl,_,h1,h2,h3,h4,_,h5⟩;lia
  case step2=>
   rintro x c st2 _ hx ⟨sim,out,na,nb,ac,bc,rfl,j2,h1,h2,h3,h4,h5,h6⟩;dsimp only;refine wpS_bind (aM (by lia) (wpS_bind (aM (by lia) (wpS_bind (hL _ _ _ _ (hUb _ (by lia)) (hUa _ (by lia)) (sim.1.trans hk) ?_)))));dsimp only;cases q:blt (gt b (nb-1)) (gt a (na-1)) with
   | true=>
    simp only [if_true];refine wpS_bind (aM (by lia) ?_);have j3:=JH.pa j2 (by lia) (by lia) h4 (fun i hi=>aCv O hUa hUb hsb h4 (by lia) hi q);by_cases e3:na-1=0
    ·rw [if_pos (by simpa using e3)];exact wpS_pure ⟨sim,.inl ⟨_,rfl,j3.j5 e3⟩⟩
    ·rw [if_neg (by simpa using e3)];split
     ·exact wpS_pure ⟨sim,.inr ⟨_,_,_,_,_,rfl,j3,by lia,by lia,by lia,by lia,by lia⟩⟩
     ·exact wpS_pure ⟨sim,_,_,_,_,_,rfl,j3,by lia,by lia,by lia,by lia,by lia,by lia⟩
   | false=>
    simp only [Bool.false_eq_true,if_false];refine wpS_bind (aM (by lia) ?_);have j3:=JH.pb j2 (by lia) (by lia) h4 (fun i hi=>leA O hUa hUb hsa (by lia) (by lia) hi q);by_cases e3:nb-1=1
    ·rw [if_pos (by simpa using e3)];exact wpS_pure ⟨sim,.inl ⟨_,rfl,j3.first e3 ha hb hf (by lia)⟩⟩
    ·rw [if_neg (by simpa using e3)];split
     ·exact wpS_pure ⟨sim,.inr ⟨_,_,_,_,_,rfl,j3,by lia,by lia,by lia,by lia,by lia⟩⟩
     ·exact wpS_pure ⟨sim,_,_,_,_,_,rfl,j3,by lia,by lia,by lia,by lia,by lia,by lia⟩
  case post2=>
   rintro ⟨c1,c2⟩ st2 ⟨sim,⟨r,e,hr⟩|⟨out,na,nb,ac,bc,e,j2,h1,h2,h3,h4,h5⟩⟩
   ·dsimp only at e;subst e;exact wpS_pure ⟨sim,r,rfl,hr⟩
   ·cases e;dsimp only;refine wpS_bind (wpS_lift (wpAny_rule ⟨rfl,?_⟩));refine wpS_bind (wpS_mono (wpS_forRange
     (I:=fun x c st'=>Sim st st'/\∃out na nb mg ac bc,c=(none,na,nb,out,mg,ac,bc)/\JH blt a b out na nb/\0<na/\1<nb/\na<a.size/\nb<=b.size/\x₀+1+na+nb<=a.size+b.size/\x+na+nb<=a.size+b.size)
     (Q:=fun c st'=>Sim st st'/\((∃r,c.1=some r/\r.toList=mrg blt a.toList b.toList)\/∃out na nb mg ac bc,c=(none,na,nb,out,mg,ac,bc)/\JH blt a b out na nb/\0<na/\1<nb/\na<a.size/\nb<=b.size/\x₀+1+na+nb<=a.size+b.size)) ?step3 ?fin3 ?init3) ?post3)
    case init3=>exact ⟨sim,_,_,_,_,_,_,rfl,j2,h1,h2,h3,h4,h5,by lia⟩
    case fin3=>
     rintro c st' ⟨_,out,na,nb,mg,ac,bc,rfl,_,h1,h2,h3,h4,_,h5⟩;lia
    case post3=>
     rintro ⟨c1,c2⟩ st3 ⟨sim,⟨r,e,hr⟩|⟨out,na,nb,mg,ac,bc,e,j3,h1,h2,h3,h4,h5⟩⟩
     ·dsimp only at e;subst e;exact wpS_pure ⟨sim,r,rfl,hr⟩
     ·cases e;dsimp only;refine wpS_bind (fC (wpS_pure ⟨⟨sim.1,sim.2,sim.3,sim.4⟩,_,_,_,_,rfl,j3,h1,h2,h3,h4,by lia⟩))
    case step3=>
     rintro x c st3 _ hx ⟨sim,out,na,nb,mg,ac,bc,rfl,j3,h1,h2,h3,h4,h5,h6⟩;dsimp only;by_cases hg:mg > 1
     ·rw [if_pos hg];refine wpS_bind (fC ?_);have sim':Sim st (SortSt.mk' (kindOf st3) (arrOf st3) (pendingOf st3) (mg-1) (failedOf st3)):=⟨sim.1,sim.2,sim.3,sim.4⟩
      have hk':kindOf (SortSt.mk' (kindOf st3) (arrOf st3) (pendingOf st3) (mg-1) (failedOf st3))=kd:=sim.1.trans hk;refine wpS_bind (aM (by lia) ?_);refine wpS_bind (dM O hL hk' (by lia) hUa (hUb _ (by lia)) (fun i j i1 i2 i3=>hsa i j (by lia) i2 (by lia)) (by lia) fun at_ hk1 y1 y2=>?_)
      try dsimp only
      have y1':∀i,i<at_->blt (gt b (nb-1)) (gt a i)=false:=fun i hi=>by have:=y1 i hi;simpa [gp] using this
      have y2':∀i,at_<=i->i<na->blt (gt b (nb-1)) (gt a i)=true:=fun i i1 i2=>by have:=y2 i i1 i2;simpa [gp] using this
      by_cases kp:na-at_ > 0
      ·rw [if_pos kp];have J1:=JH.ga j3 (by lia) (by lia) at_ (by lia) (fun i i1 i2 z hz=>aCv O hUa hUb hsb (by lia) (by lia) hz (y2' i i1 i2));by_cases e1:at_=0
       ·rw [if_pos (by simpa using e1)];exact wpS_pure ⟨sim',.inl ⟨_,rfl,J1.j5 e1⟩⟩
       ·rw [if_neg (by simpa using e1)];have J2:=JH.pb J1 (by lia) (by lia) (by lia) (fun z hz=>y1' z hz);refine wpS_bind (aM (by lia) ?_)
        try dsimp only
        by_cases e2:nb-1=1
        ·rw [if_pos (by simpa using e2)];exact wpS_pure ⟨sim',.inl ⟨_,rfl,J2.first e2 ha hb hf (by lia)⟩⟩
        ·rw [if_neg (by simpa using e2)];refine wpS_bind (aM (by lia) ?_);refine wpS_bind (dM O hL hk' (by lia) hUb (hUa _ (by lia)) (fun i j i1 i2 i3=>hsb i j (by lia) i2 (by lia)) (by lia) fun k1 hk1 y1 y2=>?_)
         try dsimp only
         have y1':∀i,i<k1->blt (gt b i) (gt a (at_-1))=true:=fun i hi=>by have:=y1 i hi;simpa [gp] using this
         have y2':∀i,k1<=i->i<nb-1->blt (gt b i) (gt a (at_-1))=false:=fun i i1 i2=>by have:=y2 i i1 i2;simpa [gp] using this
         by_cases k1p:nb-1-k1 > 0
         ·rw [if_pos k1p];have J3:=JH.gb J2 (by lia) (by lia) k1 (by lia) (fun i i1 i2 z hz=>leA O hUa hUb hsa (by lia) (by lia) hz (y2' i i1 i2));by_cases e3:k1=1
          ·rw [if_pos (by simpa using e3)];exact wpS_pure ⟨sim',.inl ⟨_,rfl,J3.first e3 ha hb hf (by lia)⟩⟩
          ·rw [if_neg (by simpa using e3)];by_cases e3':k1=0
           ·rw [if_pos (by simpa using e3')];exact wpS_pure ⟨sim',.inl ⟨_,rfl,J3.j4 e3'⟩⟩
           ·rw [if_neg (by simpa using e3')];have J4:=JH.pa J3 (by lia) (by lia) (by lia) (fun z hz=>y1' z hz);refine wpS_bind (aM (by lia) ?_)
            try dsimp only
            by_cases e4:at_-1=0
            ·rw [if_pos (by simpa using e4)];exact wpS_pure ⟨sim',.inl ⟨_,rfl,J4.j5 e4⟩⟩
            ·rw [if_neg (by simpa using e4)];split
             ·exact wpS_pure ⟨sim',.inr ⟨_,_,_,_,_,_,rfl,J4,by lia,by lia,by lia,by lia,by lia⟩⟩
             ·exact wpS_pure ⟨sim',_,_,_,_,_,_,rfl,J4,by lia,by lia,by lia,by lia,by lia,by lia⟩
         ·rw [if_neg k1p];obtain rfl:k1=nb-1:=by lia
          have J3:=J2;have J4:=JH.pa J3 (by lia) (by lia) (by lia) (fun z hz=>y1' z hz);refine wpS_bind (aM (by lia) ?_)
          try dsimp only
          by_cases e4:at_-1=0
          ·rw [if_pos (by simpa using e4)];exact wpS_pure ⟨sim',.inl ⟨_,rfl,J4.j5 e4⟩⟩
          ·rw [if_neg (by simpa using e4)];split
           ·exact wpS_pure ⟨sim',.inr ⟨_,_,_,_,_,_,rfl,J4,by lia,by lia,by lia,by lia,by lia⟩⟩
           ·exact wpS_pure ⟨sim',_,_,_,_,_,_,rfl,J4,by lia,by lia,by lia,by lia,by lia,by lia⟩
      ·rw [if_neg kp];obtain rfl:at_=na:=by lia
       have J1:=j3;have J2:=JH.pb J1 (by lia) (by lia) (by lia) (fun z hz=>y1' z hz);refine wpS_bind (aM (by lia) ?_)
       try dsimp only
       by_cases e2:nb-1=1
       ·rw [if_pos (by simpa using e2)];exact wpS_pure ⟨sim',.inl ⟨_,rfl,J2.first e2 ha hb hf (by lia)⟩⟩
       ·rw [if_neg (by simpa using e2)];refine wpS_bind (aM (by lia) ?_);refine wpS_bind (dM O hL hk' (by lia) hUb (hUa _ (by lia)) (fun i j i1 i2 i3=>hsb i j (by lia) i2 (by lia)) (by lia) fun k1 hk1 y1 y2=>?_)
        try dsimp only
        have y1':∀i,i<k1->blt (gt b i) (gt a (at_-1))=true:=fun i hi=>by have:=y1 i hi;simpa [gp] using this
        have y2':∀i,k1<=i->i<nb-1->blt (gt b i) (gt a (at_-1))=false:=fun i i1 i2=>by have:=y2 i i1 i2;simpa [gp] using this
        by_cases k1p:nb-1-k1 > 0
        ·rw [if_pos k1p];have J3:=JH.gb J2 (by lia) (by lia) k1 (by lia) (fun i i1 i2 z hz=>leA O hUa hUb hsa (by lia) (by lia) hz (y2' i i1 i2));by_cases e3:k1=1
         ·rw [if_pos (by simpa using e3)];exact wpS_pure ⟨sim',.inl ⟨_,rfl,J3.first e3 ha hb hf (by lia)⟩⟩
         ·rw [if_neg (by simpa using e3)];by_cases e3':k1=0
          ·rw [if_pos (by simpa using e3')];exact wpS_pure ⟨sim',.inl ⟨_,rfl,J3.j4 e3'⟩⟩
          ·rw [if_neg (by simpa using e3')];have J4:=JH.pa J3 (by lia) (by lia) (by lia) (fun z hz=>y1' z hz);refine wpS_bind (aM (by lia) ?_)
           try dsimp only
           by_cases e4:at_-1=0
           ·rw [if_pos (by simpa using e4)];exact wpS_pure ⟨sim',.inl ⟨_,rfl,J4.j5 e4⟩⟩
           ·rw [if_neg (by simpa using e4)];split
            ·exact wpS_pure ⟨sim',.inr ⟨_,_,_,_,_,_,rfl,J4,by lia,by lia,by lia,by lia,by lia⟩⟩
            ·exact wpS_pure ⟨sim',_,_,_,_,_,_,rfl,J4,by lia,by lia,by lia,by lia,by lia,by lia⟩
        ·rw [if_neg k1p];obtain rfl:k1=nb-1:=by lia
         have J3:=J2;have J4:=JH.pa J3 (by lia) (by lia) (by lia) (fun z hz=>y1' z hz);refine wpS_bind (aM (by lia) ?_)
         try dsimp only
         by_cases e4:at_-1=0
         ·rw [if_pos (by simpa using e4)];exact wpS_pure ⟨sim',.inl ⟨_,rfl,J4.j5 e4⟩⟩
         ·rw [if_neg (by simpa using e4)];split
          ·exact wpS_pure ⟨sim',.inr ⟨_,_,_,_,_,_,rfl,J4,by lia,by lia,by lia,by lia,by lia⟩⟩
          ·exact wpS_pure ⟨sim',_,_,_,_,_,_,rfl,J4,by lia,by lia,by lia,by lia,by lia,by lia⟩
     ·rw [if_neg hg];refine wpS_bind (fC ?_);have sim':Sim st (SortSt.mk' (kindOf st3) (arrOf st3) (pendingOf st3) mg (failedOf st3)):=⟨sim.1,sim.2,sim.3,sim.4⟩
      have hk':kindOf (SortSt.mk' (kindOf st3) (arrOf st3) (pendingOf st3) mg (failedOf st3))=kd:=sim.1.trans hk;refine wpS_bind (aM (by lia) ?_);refine wpS_bind (dM O hL hk' (by lia) hUa (hUb _ (by lia)) (fun i j i1 i2 i3=>hsa i j (by lia) i2 (by lia)) (by lia) fun at_ hk1 y1 y2=>?_)
      try dsimp only
      have y1':∀i,i<at_->blt (gt b (nb-1)) (gt a i)=false:=fun i hi=>by have:=y1 i hi;simpa [gp] using this
      have y2':∀i,at_<=i->i<na->blt (gt b (nb-1)) (gt a i)=true:=fun i i1 i2=>by have:=y2 i i1 i2;simpa [gp] using this
      by_cases kp:na-at_ > 0
      ·rw [if_pos kp];have J1:=JH.ga j3 (by lia) (by lia) at_ (by lia) (fun i i1 i2 z hz=>aCv O hUa hUb hsb (by lia) (by lia) hz (y2' i i1 i2));by_cases e1:at_=0
       ·rw [if_pos (by simpa using e1)];exact wpS_pure ⟨sim',.inl ⟨_,rfl,J1.j5 e1⟩⟩
       ·rw [if_neg (by simpa using e1)];have J2:=JH.pb J1 (by lia) (by lia) (by lia) (fun z hz=>y1' z hz);refine wpS_bind (aM (by lia) ?_)
        try dsimp only
        by_cases e2:nb-1=1
        ·rw [if_pos (by simpa using e2)];exact wpS_pure ⟨sim',.inl ⟨_,rfl,J2.first e2 ha hb hf (by lia)⟩⟩
        ·rw [if_neg (by simpa using e2)];refine wpS_bind (aM (by lia) ?_);refine wpS_bind (dM O hL hk' (by lia) hUb (hUa _ (by lia)) (fun i j i1 i2 i3=>hsb i j (by lia) i2 (by lia)) (by lia) fun k1 hk1 y1 y2=>?_)
         try dsimp only
         have y1':∀i,i<k1->blt (gt b i) (gt a (at_-1))=true:=fun i hi=>by have:=y1 i hi;simpa [gp] using this
         have y2':∀i,k1<=i->i<nb-1->blt (gt b i) (gt a (at_-1))=false:=fun i i1 i2=>by have:=y2 i i1 i2;simpa [gp] using this
         by_cases k1p:nb-1-k1 > 0
         ·rw [if_pos k1p];have J3:=JH.gb J2 (by lia) (by lia) k1 (by lia) (fun i i1 i2 z hz=>leA O hUa hUb hsa (by lia) (by lia) hz (y2' i i1 i2));by_cases e3:k1=1
          ·rw [if_pos (by simpa using e3)];exact wpS_pure ⟨sim',.inl ⟨_,rfl,J3.first e3 ha hb hf (by lia)⟩⟩
          ·rw [if_neg (by simpa using e3)];by_cases e3':k1=0
           ·rw [if_pos (by simpa using e3')];exact wpS_pure ⟨sim',.inl ⟨_,rfl,J3.j4 e3'⟩⟩
           ·rw [if_neg (by simpa using e3')];have J4:=JH.pa J3 (by lia) (by lia) (by lia) (fun z hz=>y1' z hz);refine wpS_bind (aM (by lia) ?_)
            try dsimp only
            by_cases e4:at_-1=0
            ·rw [if_pos (by simpa using e4)];exact wpS_pure ⟨sim',.inl ⟨_,rfl,J4.j5 e4⟩⟩
            ·rw [if_neg (by simpa using e4)];split
             ·exact wpS_pure ⟨sim',.inr ⟨_,_,_,_,_,_,rfl,J4,by lia,by lia,by lia,by lia,by lia⟩⟩
             ·exact wpS_pure ⟨sim',_,_,_,_,_,_,rfl,J4,by lia,by lia,by lia,by lia,by lia,by lia⟩
         ·rw [if_neg k1p];obtain rfl:k1=nb-1:=by lia
          have J3:=J2;have J4:=JH.pa J3 (by lia) (by lia) (by lia) (fun z hz=>y1' z hz);refine wpS_bind (aM (by lia) ?_)
          try dsimp only
          by_cases e4:at_-1=0
          ·rw [if_pos (by simpa using e4)];exact wpS_pure ⟨sim',.inl ⟨_,rfl,J4.j5 e4⟩⟩
          ·rw [if_neg (by simpa using e4)];split
           ·exact wpS_pure ⟨sim',.inr ⟨_,_,_,_,_,_,rfl,J4,by lia,by lia,by lia,by lia,by lia⟩⟩
           ·exact wpS_pure ⟨sim',_,_,_,_,_,_,rfl,J4,by lia,by lia,by lia,by lia,by lia,by lia⟩
      ·rw [if_neg kp];obtain rfl:at_=na:=by lia
       have J1:=j3;have J2:=JH.pb J1 (by lia) (by lia) (by lia) (fun z hz=>y1' z hz);refine wpS_bind (aM (by lia) ?_)
       try dsimp only
       by_cases e2:nb-1=1
       ·rw [if_pos (by simpa using e2)];exact wpS_pure ⟨sim',.inl ⟨_,rfl,J2.first e2 ha hb hf (by lia)⟩⟩
       ·rw [if_neg (by simpa using e2)];refine wpS_bind (aM (by lia) ?_);refine wpS_bind (dM O hL hk' (by lia) hUb (hUa _ (by lia)) (fun i j i1 i2 i3=>hsb i j (by lia) i2 (by lia)) (by lia) fun k1 hk1 y1 y2=>?_)
        try dsimp only
        have y1':∀i,i<k1->blt (gt b i) (gt a (at_-1))=true:=fun i hi=>by have:=y1 i hi;simpa [gp] using this
        have y2':∀i,k1<=i->i<nb-1->blt (gt b i) (gt a (at_-1))=false:=fun i i1 i2=>by have:=y2 i i1 i2;simpa [gp] using this
        by_cases k1p:nb-1-k1 > 0
        ·rw [if_pos k1p];have J3:=JH.gb J2 (by lia) (by lia) k1 (by lia) (fun i i1 i2 z hz=>leA O hUa hUb hsa (by lia) (by lia) hz (y2' i i1 i2));by_cases e3:k1=1
         ·rw [if_pos (by simpa using e3)];exact wpS_pure ⟨sim',.inl ⟨_,rfl,J3.first e3 ha hb hf (by lia)⟩⟩
         ·rw [if_neg (by simpa using e3)];by_cases e3':k1=0
          ·rw [if_pos (by simpa using e3')];exact wpS_pure ⟨sim',.inl ⟨_,rfl,J3.j4 e3'⟩⟩
          ·rw [if_neg (by simpa using e3')];have J4:=JH.pa J3 (by lia) (by lia) (by lia) (fun z hz=>y1' z hz);refine wpS_bind (aM (by lia) ?_)
           try dsimp only
           by_cases e4:at_-1=0
           ·rw [if_pos (by simpa using e4)];exact wpS_pure ⟨sim',.inl ⟨_,rfl,J4.j5 e4⟩⟩
           ·rw [if_neg (by simpa using e4)];split
            ·exact wpS_pure ⟨sim',.inr ⟨_,_,_,_,_,_,rfl,J4,by lia,by lia,by lia,by lia,by lia⟩⟩
            ·exact wpS_pure ⟨sim',_,_,_,_,_,_,rfl,J4,by lia,by lia,by lia,by lia,by lia,by lia⟩
        ·rw [if_neg k1p];obtain rfl:k1=nb-1:=by lia
         have J3:=J2;have J4:=JH.pa J3 (by lia) (by lia) (by lia) (fun z hz=>y1' z hz);refine wpS_bind (aM (by lia) ?_)
         try dsimp only
         by_cases e4:at_-1=0
         ·rw [if_pos (by simpa using e4)];exact wpS_pure ⟨sim',.inl ⟨_,rfl,J4.j5 e4⟩⟩
         ·rw [if_neg (by simpa using e4)];split
          ·exact wpS_pure ⟨sim',.inr ⟨_,_,_,_,_,_,rfl,J4,by lia,by lia,by lia,by lia,by lia⟩⟩
          ·exact wpS_pure ⟨sim',_,_,_,_,_,_,rfl,J4,by lia,by lia,by lia,by lia,by lia,by lia⟩
end
end TS
end
section
namespace TS
open PySem PyProof.Rows
section
variable {blt:Keyed->Keyed->Bool} {U:Keyed->Prop}
noncomputable def SL (blt:Keyed->Keyed->Bool) (l:List Keyed):Prop:=l.Pairwise fun u v=>blt v u=false
theorem rF (xs ys:List Keyed):(mrg blt xs ys).Perm (xs++ys):=List.merge_perm_append _
theorem wB {xs ys:List Keyed} {z:Keyed}:z∈mrg blt xs ys↔z∈xs\/z∈ys:=by
 rw [(rF xs ys).mem_iff,List.mem_append]
theorem Ord.le_trans (O:Ord U blt) {x y z:Keyed} (hx:U x) (hy:U y) (hz:U z) (h1:blt y x=false) (h2:blt z y=false):blt z x=false:=by
 cases e:blt z x with
 | false=>rfl
 | true=>
  rcases O.ntr _ y _ hz hy hx e with p|p
  ·rw [h2] at p;cases p
  ·rw [h1] at p;cases p
theorem Ord.VL (O:Ord U blt) {x y:Keyed} (hx:U x) (hy:U y) (h:blt x y=true):blt y x=false:=by
 cases e:blt y x with
 | false=>rfl
 | true=>
  have:=O.tr _ _ _ hx hy hx h e;rw [O.irr x hx] at this;cases this
theorem IW (O:Ord U blt):∀(xs ys:List Keyed),(∀z∈xs,U z)->(∀z∈ys,U z)->SL blt xs->SL blt ys->SL blt (mrg blt xs ys)
 | [],ys,_,_,_,h=>by rw [j0];exact h
 | x::xs,[],_,_,h,_=>by rw [iT];exact h
 | x::xs,y::ys,ux,uy,sx,sy=>by
  rw [eO];have ux0:=ux x (List.mem_cons_self ..);have uy0:=uy y (List.mem_cons_self ..);have sx':=List.pairwise_cons.mp sx;have sy':=List.pairwise_cons.mp sy;by_cases q:blt y x=true
  ·rw [if_pos q];refine List.pairwise_cons.mpr ⟨fun z hz=>?_,IW O (x::xs) ys ux (fun z hz=>uy z (List.mem_cons_of_mem _ hz)) sx sy'.2⟩;rcases wB.mp hz with hz|hz
   ·rcases List.mem_cons.mp hz with rfl|hz
    ·exact O.VL uy0 ux0 q
    ·exact O.le_trans uy0 ux0 (ux z (List.mem_cons_of_mem _ hz)) (O.VL uy0 ux0 q) (sx'.1 z hz)
   ·exact sy'.1 z hz
  ·rw [if_neg q];have q':blt y x=false:=by simpa using q
   refine List.pairwise_cons.mpr ⟨fun z hz=>?_,IW O xs (y::ys) (fun z hz=>ux z (List.mem_cons_of_mem _ hz)) uy sx'.2 sy⟩;rcases wB.mp hz with hz|hz
   ·exact sx'.1 z hz
   ·rcases List.mem_cons.mp hz with rfl|hz
    ·exact q'
    ·exact O.le_trans ux0 uy0 (uy z (List.mem_cons_of_mem _ hz)) q' (sy'.1 z hz)
 termination_by xs ys=>xs.length+ys.length
noncomputable def str (a:Array Keyed) (lo n:Nat):List Keyed:=(a.toList.drop lo).take n
theorem gG {a:Array Keyed} {lo n i:Nat} (hi:i<n) (h:lo+n<=a.size):(str a lo n)[i]?=some (gt a (lo+i)):=by
 unfold str;rw [List.getElem?_take_of_lt hi,List.getElem?_drop,Array.getElem?_toList];exact iQ (by lia)
theorem str_len {a:Array Keyed} {lo n:Nat} (h:lo+n<=a.size):(str a lo n).length=n:=by
 unfold str;rw [List.length_take,List.length_drop,Array.length_toList];lia
theorem Srt.sl {a:Array Keyed} {lo n:Nat} (h:Srt blt a lo (lo+n)) (hn:lo+n<=a.size):SL blt (str a lo n):=by
 unfold SL;rw [List.pairwise_iff_getElem];intro i j hi hj hij;rw [str_len hn] at hi hj;have e1:=gG (a:=a) (lo:=lo) hi hn;have e2:=gG (a:=a) (lo:=lo) hj hn;rw [List.getElem?_eq_getElem (by rw [str_len hn];exact hi)] at e1;rw [List.getElem?_eq_getElem (by rw [str_len hn];exact hj)] at e2;rw [Option.some.inj e1,Option.some.inj e2];exact h _ _ (by lia) (by lia) (by lia)
theorem SL.srt {a:Array Keyed} {lo n:Nat} (O:Ord U blt) (hU:k_ U a) (h:SL blt (str a lo n)) (hn:lo+n<=a.size):Srt blt a lo (lo+n):=by
 intro i j h1 h2 h3;by_cases e:i=j
 ·subst e;exact O.irr _ (hU _ (by lia))
 ·unfold SL at h;rw [List.pairwise_iff_getElem] at h;have q:=h (i-lo) (j-lo) (by rw [str_len hn];lia) (by rw [str_len hn];lia) (by lia);have e1:=gG (a:=a) (lo:=lo) (i:=i-lo) (n:=n) (by lia) hn;have e2:=gG (a:=a) (lo:=lo) (i:=j-lo) (n:=n) (by lia) hn;rw [List.getElem?_eq_getElem (by rw [str_len hn];lia)] at e1 e2;rw [Option.some.inj e1,Option.some.inj e2,show lo+(i-lo)=i by lia,show lo+(j-lo)=j by lia] at q;exact q
theorem wC (a:Array Keyed) (lo m n:Nat):str a lo (m+n)=str a lo m++str a (lo+m) n:=by
 unfold str;rw [List.take_add,List.drop_drop]
theorem rG {a:Array Keyed} {lo n:Nat} {z:Keyed} (h:z∈str a lo n):∃i,lo<=i/\i<lo+n/\i<a.size/\z=gt a i:=by
 obtain ⟨i,hi,e⟩:=List.getElem_of_mem h;unfold str at hi;rw [List.length_take,List.length_drop,Array.length_toList] at hi;refine ⟨lo+i,by lia,by lia,by lia,?_⟩;have h2:(str a lo n)[i]?=some z:=by rw [<-e];exact List.getElem?_eq_getElem _
 unfold str at h2;rw [List.getElem?_take_of_lt (by lia),List.getElem?_drop,Array.getElem?_toList,iQ (by lia)] at h2;exact (Option.some.inj h2).symm
theorem I_ (a:Array Keyed) (i j:Nat):(a.extract i j).toList=str a i (j-i):=by
 unfold str;rw [Array.toList_extract,List.extract_eq_take_drop]
noncomputable def put (a:Array Keyed) (off:Nat) (l:List Keyed):Array Keyed:=l.zipIdx.foldl (fun a (p,j)=>a.setIfInBounds (off+j) p) a
theorem R7 (off:Nat):∀(l:List Keyed) (k:Nat) (a:Array Keyed),off+k+l.length<=a.size->
  ((l.zipIdx k).foldl (fun a (p,j)=>a.setIfInBounds (off+j) p) a).toList=a.toList.take (off+k)++l++a.toList.drop (off+k+l.length)
 | [],k,a,_=>by simp
 | x::l,k,a,h=>by
  rw [List.zipIdx_cons,List.foldl_cons];rw [List.length_cons] at h;rw [R7 off l (k+1) _ (by rw [Array.size_setIfInBounds];lia)];rw [Array.toList_setIfInBounds];have e1:(a.toList.set (off+k) x).take (off+(k+1))=a.toList.take (off+k)++[x]:=by
   rw [show off+(k+1)=(off+k)+1 by lia,List.take_add_one,List.take_set_of_le (Nat.le_refl _),List.getElem?_set_self (by rw [Array.length_toList];lia)];rfl
  have e2:(a.toList.set (off+k) x).drop (off+(k+1)+l.length)=a.toList.drop (off+k+(x::l).length):=by
   rw [List.drop_set_of_lt (by lia),List.length_cons]
   congr 1
   lia
  rw [e1,e2];simp
theorem rH {a:Array Keyed} {off:Nat} {l:List Keyed} (h:off+l.length<=a.size):(put a off l).toList=a.toList.take off++l++a.toList.drop (off+l.length):=by
 have:=R7 off l 0 a (by lia);rw [Nat.add_zero] at this;exact this
theorem wD {a:Array Keyed} {i:Nat}:gt a i=a.toList.getD i dk:=by
 unfold gt;by_cases h:i<a.size
 ·simp [Array.getD,h]
 ·simp [Array.getD,h]
structure Stp (lo hi:Nat) (st st':SortSt):Prop where
 kd:kindOf st'=kindOf st
 fl:failedOf st'=failedOf st
 pm:(arrOf st').Perm (arrOf st)
 out:∀j,j<lo\/hi<=j->gt (arrOf st') j=gt (arrOf st) j
theorem Stp.sz {lo hi:Nat} {st st':SortSt} (h:Stp lo hi st st'):(arrOf st').size=(arrOf st).size:=h.pm.size_eq
theorem aX {a b:Array Keyed} (hU:k_ U a) (p:b.Perm a):k_ U b:=fun i hi=>by
 have:gt b i∈b.toList:=by
  rw [wD,List.getD_eq_getElem?_getD,List.getElem?_eq_getElem (by simpa using hi)];exact List.getElem_mem _
 obtain ⟨j,hj,e⟩:=R6 ((Array.perm_iff_toList_perm.mp p).mem_iff.mp this);rw [e];exact hU j hj
theorem Srt.mono {a:Array Keyed} {lo hi lo' hi':Nat} (h:Srt blt a lo hi) (h1:lo<=lo') (h2:hi'<=hi):Srt blt a lo' hi':=fun i j a1 a2 a3=>h i j (by lia) a2 (by lia)
theorem Srt.out {a b:Array Keyed} {lo hi:Nat} (h:Srt blt a lo hi) (e:∀j,lo<=j->j<hi->gt b j=gt a j):Srt blt b lo hi:=fun i j a1 a2 a3=>by
 rw [e i (by lia) (by lia),e j (by lia) a3];exact h i j a1 a2 a3
theorem BW (a:Array Keyed) (i m n:Nat):a.toList=a.toList.take i++(str a i m++str a (i+m) n)++a.toList.drop (i+(m+n)):=by
 rw [<-wC];unfold str;rw [List.append_assoc,<-List.drop_drop,List.take_append_drop,List.take_append_drop]
theorem VM {a:Array Keyed} {off:Nat} {l:List Keyed} (h:off+l.length<=a.size):str (put a off l) off l.length=l:=by
 unfold str;rw [rH h,List.append_assoc,List.drop_left' (by rw [List.length_take,Array.length_toList];lia),List.take_left' rfl]
theorem oA {a:Array Keyed} {off:Nat} {l:List Keyed} (h:off+l.length<=a.size) {j:Nat} (hj:j<off\/off+l.length<=j):gt (put a off l) j=gt a j:=by
 rw [wD,wD,rH h,List.getD_eq_getElem?_getD,List.getD_eq_getElem?_getD]
 congr 1
 have hl:(a.toList.take off).length=off:=by rw [List.length_take,Array.length_toList];lia
 rcases hj with hj|hj
 ·rw [List.append_assoc,List.getElem?_append_left (by lia),List.getElem?_take_of_lt hj]
 ·rw [List.getElem?_append_right (by rw [List.length_append];lia),List.length_append,hl,List.getElem?_drop]
  congr 1
  lia
end
section
variable {prog:Program} {w:World} {A:Around} {E:Value->Shared->Prop} {s:Shared} {kd:SortKind} {U:Keyed->Prop} {blt:Keyed->Keyed->Bool}
theorem VN {σ:Type} {M:Model} {st st':σ} {Q:PUnit->σ->Prop} (h:Q ⟨⟩ st'):wpS M A E s (set st':StateT σ Sem PUnit) Q st:=by
 unfold wpS;rw [StateT.run_set];exact wpAny_pure ⟨rfl,h⟩
theorem wF (O:Ord U blt) (hL:BR prog w A E s kd U blt) {i:Nat} {st:SortSt} {Q:Bool->SortSt->Prop} (hk:kindOf st=kd) (hU:k_ U (arrOf st)) (hF:failedOf st=none) {sa na pw sb nb pw2:Nat}
  (p1:(pendingOf st)[i]?=some (sa,na,pw)) (p2:(pendingOf st)[i+1]?=some (sb,nb,pw2)) (hsb:sb=sa+na) (hsz:sb+nb<=(arrOf st).size) (hna:0<na) (hnb:0<nb)
  (s1:Srt blt (arrOf st) sa (sa+na)) (s2:Srt blt (arrOf st) sb (sb+nb))
  (h:∀st',Stp sa (sb+nb) st st'->Srt blt (arrOf st') sa (sb+nb)->pendingOf st'=((pendingOf st).setIfInBounds i (sa,na+nb,pw)).eraseIdxIfInBounds (i+1)->Q true st') :
  wpS (model prog w) A E s (mergeAt' i) Q st:=by
 subst hsb
 with_unfolding_all refine wpS_bind (wpS_get ?_)
 dsimp only;rw [p1,p2];dsimp only;refine wpS_bind (VN ?_);have hk':kindOf (setPending st (((pendingOf st).setIfInBounds i (sa,na+nb,pw)).eraseIdxIfInBounds (i+1)))=kd:=hk;refine wpS_bind (aM (arr:=arrOf st) (by lia) ?_);refine wpS_bind (dM (arr:=arrOf st) O hL hk' (by lia) hU (hU _ (by lia)) (s1.mono (Nat.le_refl _) (by lia)) (by lia) fun k hk1 y1 y2=>?_);dsimp only;have y1':∀i,i<k->blt (gt (arrOf st) (sa+na)) (gt (arrOf st) (sa+i))=false:=fun i hi=>by have:=y1 i hi;simpa [gp] using this
 have y2':∀i,k<=i->i<na->blt (gt (arrOf st) (sa+na)) (gt (arrOf st) (sa+i))=true:=fun i i1 i2=>by have:=y2 i i1 i2;simpa [gp] using this
 -- the whole stretch is sorted as soon as the first part's last is no more than the second's first
 have whole:(∀i j,sa<=i->i<sa+na->sa+na<=j->j<sa+na+nb->blt (gt (arrOf st) j) (gt (arrOf st) i)=false)->Srt blt (arrOf st) sa (sa+na+nb):=fun q i j a1 a2 a3=>by
  by_cases c1:j<sa+na
  ·exact s1 i j a1 a2 c1
  ·by_cases c2:sa+na<=i
   ·exact s2 i j c2 a2 a3
   ·exact q i j a1 (by lia) (by lia) a3
 have stp0:Stp sa (sa+na+nb) st (setPending st (((pendingOf st).setIfInBounds i (sa,na+nb,pw)).eraseIdxIfInBounds (i+1))):=⟨rfl,rfl,Array.Perm.refl _,fun _ _=>rfl⟩
 by_cases e1:na-k=0
 ·rw [if_pos (by simpa using e1)];refine wpS_pure (h _ stp0 (whole fun i j i1 i2 j1 j2=>?_) rfl);have q:=y1' (i-sa) (by lia);rw [show sa+(i-sa)=i by lia] at q;exact O.le_trans (hU _ (by lia)) (hU _ (by lia)) (hU _ (by lia)) q (s2 _ _ (Nat.le_refl _) j1 j2)
 rw [if_neg (by simpa using e1)];refine wpS_bind (aM (arr:=arrOf st) (by lia) ?_);refine wpS_bind (dM (arr:=arrOf st) O hL hk' (by lia) hU (hU _ (by lia)) (s2.mono (Nat.le_refl _) (by lia)) (by lia) fun nb' hnb1 z1 z2=>?_);dsimp only;have ez:sa+k+(na-k)-1=sa+na-1:=by lia
 have z1':∀i,i<nb'->blt (gt (arrOf st) (sa+na+i)) (gt (arrOf st) (sa+na-1))=true:=fun i hi=>by have:=z1 i hi;rw [ez] at this;simpa [gp] using this
 have z2':∀i,nb'<=i->i<nb->blt (gt (arrOf st) (sa+na+i)) (gt (arrOf st) (sa+na-1))=false:=fun i i1 i2=>by have:=z2 i i1 i2;rw [ez] at this;simpa [gp] using this
 by_cases e2:nb'=0
 ·rw [if_pos (by simpa using e2)];refine wpS_pure (h _ stp0 (whole fun i j i1 i2 j1 j2=>?_) rfl);have q:=z2' (j-(sa+na)) (by lia) (by lia);rw [show sa+na+(j-(sa+na))=j by lia] at q;exact O.le_trans (hU _ (by lia)) (hU (sa+na-1) (by lia)) (hU _ (by lia)) (s1 i (sa+na-1) i1 (by lia) (by lia)) q
 rw [if_neg (by simpa using e2)];have ex:((arrOf st).extract (sa+k) (sa+na)).toList=str (arrOf st) (sa+k) (na-k):=by rw [I_];congr 1;lia
 have ey:((arrOf st).extract (sa+na) (sa+na+nb')).toList=str (arrOf st) (sa+na) nb':=by rw [I_];congr 1;lia
 have zx:((arrOf st).extract (sa+k) (sa+na)).size=na-k:=by rw [Array.size_extract];lia
 have zy:((arrOf st).extract (sa+na) (sa+na+nb')).size=nb':=by rw [Array.size_extract];lia
 have gx:∀i,i<na-k->gt ((arrOf st).extract (sa+k) (sa+na)) i=gt (arrOf st) (sa+k+i):=fun i hi=>by
  have e:=gG (a:=arrOf st) (lo:=sa+k) (i:=i) (n:=na-k) hi (by lia);rw [<-ex,Array.getElem?_toList,iQ (by lia)] at e;exact Option.some.inj e
 have gy:∀i,i<nb'->gt ((arrOf st).extract (sa+na) (sa+na+nb')) i=gt (arrOf st) (sa+na+i):=fun i hi=>by
  have e:=gG (a:=arrOf st) (lo:=sa+na) (i:=i) (n:=nb') hi (by lia);rw [<-ey,Array.getElem?_toList,iQ (by lia)] at e;exact Option.some.inj e
 have fin:∀(r:Array Keyed) (st2:SortSt),Sim (setPending st (((pendingOf st).setIfInBounds i (sa,na+nb,pw)).eraseIdxIfInBounds (i+1))) st2->
   r.toList=mrg blt ((arrOf st).extract (sa+k) (sa+na)).toList ((arrOf st).extract (sa+na) (sa+na+nb')).toList->
   wpS (model prog w) A E s (do
    modify fun s=>setArr s (r.toList.zipIdx.foldl (fun a (p,j)=>a.setIfInBounds (sa+k+j) p) (arrOf s))
    return (failedOf (<- get)).isNone) Q st2:=by
  intro r st2 sim hr;rw [ex,ey] at hr;have hlen:r.toList.length=(na-k)+nb':=by
   rw [hr,(rF _ _).length_eq,List.length_append,str_len (by lia),str_len (by lia)]
  have hfit:sa+k+r.toList.length<=(arrOf st).size:=by lia
  have ear:arrOf st2=arrOf st:=sim.ar;refine wpS_bind (wpS_modify (wpS_bind (wpS_get (wpS_pure ?_))));show Q (failedOf st2).isNone (setArr st2 (put (arrOf st2) (sa+k) r.toList));rw [sim.fl,show failedOf (setPending st _)=none from hF,ear];have hp:(put (arrOf st) (sa+k) r.toList).Perm (arrOf st):=by
   rw [Array.perm_iff_toList_perm,rH hfit,hlen];have sp:=BW (arrOf st) (sa+k) (na-k) nb';rw [show sa+k+(na-k)=sa+na by lia] at sp
   conv=>rhs;rw [sp]
   rw [hr];exact (((rF _ _).append_left _).append_right _)
  have hU':=aX hU hp;refine h _ ⟨sim.kd,sim.fl,hp,fun j hj=>?_⟩ ?_ ?_
  ·show gt (put (arrOf st) (sa+k) r.toList) j=gt (arrOf st) j;exact oA hfit (by lia)
  ·show Srt blt (put (arrOf st) (sa+k) r.toList) sa (sa+na+nb);have hsz':(put (arrOf st) (sa+k) r.toList).size=(arrOf st).size:=hp.size_eq;have e0:str (put (arrOf st) (sa+k) r.toList) (sa+k) ((na-k)+nb')=mrg blt (str (arrOf st) (sa+k) (na-k)) (str (arrOf st) (sa+na) nb'):=by
    rw [<-hlen,VM hfit,hr]
   have ux:∀z∈str (arrOf st) (sa+k) (na-k),U z:=fun z hz=>by obtain ⟨i,_,_,i3,rfl⟩:=rG hz;exact hU i i3
   have uy:∀z∈str (arrOf st) (sa+na) nb',U z:=fun z hz=>by obtain ⟨i,_,_,i3,rfl⟩:=rG hz;exact hU i i3
   have sm:SL blt (mrg blt (str (arrOf st) (sa+k) (na-k)) (str (arrOf st) (sa+na) nb')):=
    IW O _ _ ux uy (Srt.sl (s1.mono (by lia) (by lia)) (by lia)) (Srt.sl (s2.mono (Nat.le_refl _) (by lia)) (by lia))
   have mid:Srt blt (put (arrOf st) (sa+k) r.toList) (sa+k) (sa+k+((na-k)+nb')):=SL.srt O hU' (by rw [e0];exact sm) (by lia);have inmid:∀j,sa+k<=j->j<sa+na+nb'->∃q,gt (put (arrOf st) (sa+k) r.toList) j=gt (arrOf st) q/\((sa+k<=q/\q<sa+na)\/(sa+na<=q/\q<sa+na+nb')):=by
    intro j j1 j2;have e:=gG (a:=put (arrOf st) (sa+k) r.toList) (lo:=sa+k) (i:=j-(sa+k)) (n:=(na-k)+nb') (by lia) (by lia);rw [e0,show sa+k+(j-(sa+k))=j by lia] at e;have hm:=List.mem_of_getElem? e;rcases wB.mp hm with hm|hm
    ·obtain ⟨q,q1,q2,q3,q4⟩:=rG hm;exact ⟨q,q4,.inl ⟨q1,by lia⟩⟩
    ·obtain ⟨q,q1,q2,q3,q4⟩:=rG hm;exact ⟨q,q4,.inr ⟨q1,q2⟩⟩
   intro i j a1 a2 a3
   -- three zones
   by_cases ci:i<sa+k
   ·have ei:gt (put (arrOf st) (sa+k) r.toList) i=gt (arrOf st) i:=oA hfit (by lia);by_cases cj:j<sa+k
    ·have ej:gt (put (arrOf st) (sa+k) r.toList) j=gt (arrOf st) j:=oA hfit (by lia);rw [ei,ej];exact s1 i j a1 a2 (by lia)
    ·have yi:=y1' (i-sa) (by lia);rw [show sa+(i-sa)=i by lia] at yi;have leB:∀q,sa+na<=q->q<sa+na+nb->blt (gt (arrOf st) q) (gt (arrOf st) i)=false:=fun q q1 q2=>
      O.le_trans (hU _ (by lia)) (hU _ (by lia)) (hU _ (by lia)) yi (s2 _ _ (Nat.le_refl _) q1 q2)
     by_cases cj2:j<sa+na+nb'
     ·obtain ⟨q,eq,hq⟩:=inmid j (by lia) cj2;rw [ei,eq];rcases hq with ⟨q1,q2⟩|⟨q1,q2⟩
      ·exact s1 i q a1 (by lia) q2
      ·exact leB q q1 (by lia)
     ·have ej:gt (put (arrOf st) (sa+k) r.toList) j=gt (arrOf st) j:=oA hfit (by lia);rw [ei,ej];exact leB j (by lia) a3
   ·by_cases ci2:i<sa+na+nb'
    ·by_cases cj2:j<sa+na+nb'
     ·exact mid i j (by lia) a2 (by lia)
     ·have ej:gt (put (arrOf st) (sa+k) r.toList) j=gt (arrOf st) j:=oA hfit (by lia);obtain ⟨q,eq,hq⟩:=inmid i (by lia) ci2;rw [eq,ej];rcases hq with ⟨q1,q2⟩|⟨q1,q2⟩
      ·have zj:=z2' (j-(sa+na)) (by lia) (by lia);rw [show sa+na+(j-(sa+na))=j by lia] at zj;exact O.le_trans (hU _ (by lia)) (hU (sa+na-1) (by lia)) (hU _ (by lia)) (s1 q (sa+na-1) (by lia) (by lia) (by lia)) zj
      ·exact s2 q j q1 (by lia) a3
    ·have ei:gt (put (arrOf st) (sa+k) r.toList) i=gt (arrOf st) i:=oA hfit (by lia);have ej:gt (put (arrOf st) (sa+k) r.toList) j=gt (arrOf st) j:=oA hfit (by lia);rw [ei,ej];exact s2 i j (by lia) a2 a3
  ·show pendingOf st2=_;exact sim.pd
 have hUx:k_ U ((arrOf st).extract (sa+k) (sa+na)):=fun i hi=>by rw [zx] at hi;rw [gx i hi];exact hU _ (by lia)
 have hUy:k_ U ((arrOf st).extract (sa+na) (sa+na+nb')):=fun i hi=>by rw [zy] at hi;rw [gy i hi];exact hU _ (by lia)
 have hsx:Srt blt ((arrOf st).extract (sa+k) (sa+na)) 0 ((arrOf st).extract (sa+k) (sa+na)).size:=fun i j a1 a2 a3=>by
  rw [zx] at a3;rw [gx i (by lia),gx j a3];exact s1 _ _ (by lia) (by lia) (by lia)
 have hsy:Srt blt ((arrOf st).extract (sa+na) (sa+na+nb')) 0 ((arrOf st).extract (sa+na) (sa+na+nb')).size:=fun i j a1 a2 a3=>by
  rw [zy] at a3;rw [gy i (by lia),gy j a3];exact s2 _ _ (by lia) (by lia) (by lia)
 have hfst:blt (gt ((arrOf st).extract (sa+na) (sa+na+nb')) 0) (gt ((arrOf st).extract (sa+k) (sa+na)) 0)=true:=by
  rw [gx 0 (by lia),gy 0 (by lia)];exact y2' k (Nat.le_refl _) (by lia)
 have hlst:∀i,i<((arrOf st).extract (sa+na) (sa+na+nb')).size->blt (gt ((arrOf st).extract (sa+na) (sa+na+nb')) i) (gt ((arrOf st).extract (sa+k) (sa+na)) (((arrOf st).extract (sa+k) (sa+na)).size-1))=true:=fun i hi=>by
  rw [zy] at hi;rw [zx,gx (na-k-1) (by lia),gy i hi,show sa+k+(na-k-1)=sa+na-1 by lia];exact z1' i hi
 by_cases ce:na-k<=nb'
 ·rw [if_pos ce];exact wpS_bind (v9 (a:=(arrOf st).extract (sa+k) (sa+na)) (b:=(arrOf st).extract (sa+na) (sa+na+nb')) O hL hk' hUx hUy hsx hsy (by lia) (by lia) hfst hlst fin)
 ·rw [if_neg ce];exact wpS_bind (wA (a:=(arrOf st).extract (sa+k) (sa+na)) (b:=(arrOf st).extract (sa+na) (sa+na+nb')) O hL hk' hUx hUy hsx hsy (by lia) (by lia) hfst hlst fin)
end
end TS
end
section
namespace TS
open PySem PyProof.Rows
section
variable {blt:Keyed->Keyed->Bool} {U:Keyed->Prop}
noncomputable def Eqv (blt:Keyed->Keyed->Bool) (x y:Keyed):Prop:=blt x y=false/\blt y x=false
theorem Eqv.O3 (O:Ord U blt) {x:Keyed} (h:U x):Eqv blt x x:=⟨O.irr x h,O.irr x h⟩
theorem Eqv.symm {x y:Keyed} (h:Eqv blt x y):Eqv blt y x:=⟨h.2,h.1⟩
theorem Eqv.trans (O:Ord U blt) {x y z:Keyed} (hx:U x) (hy:U y) (hz:U z) (h:Eqv blt x y) (g:Eqv blt y z):Eqv blt x z:=⟨O.le_trans hz hy hx g.1 h.1,O.le_trans hx hy hz h.2 g.2⟩
noncomputable def NonInc (blt:Keyed->Keyed->Bool) (a:Array Keyed) (lo n:Nat):Prop:=∀i j,lo<=i->i<=j->j<lo+n->blt (gt a i) (gt a j)=false
theorem aBy (a:Array Keyed) (i:Nat):gt a i=(a[i]?).getD dk:=by
 unfold gt;by_cases h:i<a.size
 ·simp [Array.getD,h]
 ·simp [Array.getD,h]
theorem iU {a:Array Keyed} {i j:Nat} (hj:j<=a.size) (k:Nat):gt (mirror a i j ((j-i) / 2)) k=if i<=k/\k<j then gt a (i+j-1-k) else gt a k:=by
 rw [aBy,getElem?_mirror_all hj];split <;> rw [aBy]
theorem Stp.mir {lo hi:Nat} {st st':SortSt} (h:Stp lo hi st st') {i j:Nat} (hi':lo<=i) (hj:j<=hi) (hs:j<=(arrOf st').size):Stp lo hi st (setArr st' (mirror (arrOf st') i j ((j-i) / 2))):=
 ⟨h.kd,h.fl,(mirror_perm _ _ _ _).trans h.pm,fun k hk=>by
  show gt (mirror (arrOf st') i j ((j-i) / 2)) k=_;rw [iU hs,if_neg (by lia)];exact h.out k hk⟩
theorem lA (O:Ord U blt) {a:Array Keyed} {lo x:Nat} (hU:k_ U a) (hx:lo+x<a.size) (h0:1<=x) (h:Srt blt a lo (lo+x)) (e:blt (gt a (lo+x)) (gt a (lo+x-1))=false):Srt blt a lo (lo+(x+1)):=fun i j a1 a2 a3=>by
 by_cases c:j<lo+x
 ·exact h i j a1 a2 c
 ·obtain rfl:j=lo+x:=by lia
  by_cases d:i=lo+x
  ·rw [d];exact O.irr _ (hU _ hx)
  ·exact O.le_trans (hU _ (by lia)) (hU _ (by lia)) (hU _ hx) (h i (lo+x-1) a1 (by lia) (by lia)) e
theorem lV (O:Ord U blt) {a:Array Keyed} {lo x:Nat} (hU:k_ U a) (hx:lo+x<a.size) (h0:1<=x) (h:NonInc blt a lo x) (e:blt (gt a (lo+x-1)) (gt a (lo+x))=false):NonInc blt a lo (x+1):=fun i j a1 a2 a3=>by
 by_cases c:j<lo+x
 ·exact h i j a1 a2 c
 ·obtain rfl:j=lo+x:=by lia
  by_cases d:i=lo+x
  ·rw [d];exact O.irr _ (hU _ hx)
  ·exact O.le_trans (hU _ hx) (hU _ (by lia)) (hU _ (by lia)) e (h i (lo+x-1) a1 (by lia) (by lia))
theorem rJ {a:Array Keyed} {lo m:Nat} (hs:lo+m<=a.size) (h:NonInc blt a lo m):Srt blt (mirror a lo (lo+m) ((lo+m-lo) / 2)) lo (lo+m):=fun i j a1 a2 a3=>by
 rw [iU hs,iU hs,if_pos (by lia),if_pos (by lia)];exact h _ _ (by lia) (by lia) (by lia)
theorem rK (O:Ord U blt) {a:Array Keyed} {lo m neq:Nat} (hU:k_ U a) (hs:lo+m<=a.size) (hq:neq+1<=m) (h:∀i,lo+m-(neq+1)<=i->i<lo+m->Eqv blt (gt a i) (gt a (lo+m-1))) :
  ∀k,k<a.size->Eqv blt (gt (mirror a (lo+m-(neq+1)) (lo+m) ((lo+m-(lo+m-(neq+1))) / 2)) k) (gt a k):=fun k hk=>by
 rw [iU hs];by_cases c:lo+m-(neq+1)<=k/\k<lo+m
 ·rw [if_pos c];exact (h _ (by lia) (by lia)).trans O (hU _ (by lia)) (hU _ (by lia)) (hU _ (by lia)) (h k c.1 c.2).symm
 ·rw [if_neg c];exact Eqv.O3 O (hU _ hk)
theorem uD (O:Ord U blt) {a b:Array Keyed} {lo n:Nat} (hU:k_ U a) (hV:k_ U b) (hs:lo+n<=a.size) (ht:lo+n<=b.size) (h:NonInc blt a lo n) (e:∀k,k<a.size->Eqv blt (gt b k) (gt a k)):NonInc blt b lo n:=fun i j a1 a2 a3=>
 O.le_trans (hV j (by lia)) (hU j (by lia)) (hV i (by lia)) (e j (by lia)).2 (O.le_trans (hU j (by lia)) (hU i (by lia)) (hV i (by lia)) (h i j a1 a2 a3) (e i (by lia)).1)
end
section
variable {prog:Program} {w:World} {A:Around} {E:Value->Shared->Prop} {s:Shared} {kd:SortKind} {U:Keyed->Prop} {blt:Keyed->Keyed->Bool}
theorem wpS_ltAt (hL:BR prog w A E s kd U blt) {i j:Nat} {st:SortSt} {Q:Option Bool->SortSt->Prop} (hk:kindOf st=kd) (hU:k_ U (arrOf st)) (hi:i<(arrOf st).size) (hj:j<(arrOf st).size)
  (h:Q (some (blt (gt (arrOf st) i) (gt (arrOf st) j))) st):wpS (model prog w) A E s (ltAt' i j) Q st:=by
 rw [ltAt'_eq];exact wpS_bind (wpS_get (wpS_bind (aM hi (wpS_bind (aM hj (hL _ _ _ _ (hU _ hi) (hU _ hj) hk h))))))
theorem wpS_countRun (O:Ord U blt) (hL:BR prog w A E s kd U blt) {lo nrem:Nat} {st:SortSt} {Q:Option Nat->SortSt->Prop} (hk:kindOf st=kd) (hU:k_ U (arrOf st)) (hn:lo+nrem<=(arrOf st).size) (h1:1<=nrem)
  (h:∀m st',Stp lo (lo+nrem) st st'->pendingOf st'=pendingOf st->1<=m->m<=nrem->Srt blt (arrOf st') lo (lo+m)->Q (some m) st'):wpS (model prog w) A E s (countRun' lo nrem) Q st:=by
 rw [countRun'_eq];have stp0:Stp lo (lo+nrem) st st:=⟨rfl,rfl,Array.Perm.refl _,fun _ _=>rfl⟩
 refine wpS_bind (wpS_mono (wpS_forRange
  (I:=fun x c st'=>st'=st/\c=(none,x)/\Srt blt (arrOf st) lo (lo+x))
  (Q:=fun c st'=>st'=st/\∃m,c=(none,m)/\1<=m/\m<=nrem/\Srt blt (arrOf st) lo (lo+m)/\(m=nrem\/(m<nrem/\blt (gt (arrOf st) (lo+m)) (gt (arrOf st) (lo+m-1))=true))) ?step ?fin ?init) ?post)
 case init=>exact ⟨rfl,rfl,fun i j a1 a2 a3=>by rw [show i=lo by lia,show j=lo by lia];exact O.irr _ (hU _ (by lia))⟩
 case fin=>
  rintro c st' ⟨rfl,rfl,q⟩;rw [show max 1 nrem=nrem by lia] at q ⊢;exact ⟨rfl,nrem,rfl,h1,Nat.le_refl _,q,.inl rfl⟩
 case step=>
  rintro x c st' x1 x2 ⟨rfl,rfl,q⟩;dsimp only;refine wpS_bind (wpS_ltAt hL hk hU (by lia) (by lia) ?_);dsimp only;cases e:blt (gt (arrOf st') (lo+x)) (gt (arrOf st') (lo+x-1)) with
  | true=>
   simp only [if_true];exact wpS_pure ⟨rfl,x,rfl,x1,by lia,q,.inr ⟨x2,e⟩⟩
  | false=>
   simp only [Bool.false_eq_true,if_false];exact wpS_pure ⟨rfl,rfl,lA O hU (by lia) x1 q e⟩
 case post=>
  rintro c st ⟨hst,n,rfl,n1,n2,q,hor⟩;have hst:=hst.symm;subst hst;dsimp only;by_cases hnn:n=nrem
  ·rw [if_pos (by simpa using hnn)];exact wpS_pure (h n _ stp0 rfl n1 n2 q)
  rw [if_neg (by simpa using hnn)];obtain ⟨n3,hlt⟩:=hor.resolve_left hnn;by_cases hgt:n > 1
  ·rw [if_pos hgt];refine wpS_bind (wpS_ltAt hL hk hU (by lia) (by lia) ?_);dsimp only;cases e:blt (gt (arrOf st) lo) (gt (arrOf st) (lo+n-1)) with
   | true=>
    simp only [if_true];exact wpS_pure (h n _ stp0 rfl n1 n2 q)
   | false=>
    simp only [Bool.false_eq_true,if_false];refine wpS_bind (wpS_reverse ?_);have stp2:Stp lo (lo+nrem) st (setArr st (mirror (arrOf st) lo (lo+n) ((lo+n-lo) / 2))):=stp0.mir (Nat.le_refl _) (by lia) (by lia);have pd2:pendingOf (setArr st (mirror (arrOf st) lo (lo+n) ((lo+n-lo) / 2)))=pendingOf st:=rfl;have ev:∀i,lo<=i->i<lo+n->Eqv blt (gt (arrOf st) i) (gt (arrOf st) (lo+n-1)):=fun i i1 i2=>by
     refine ⟨?_,q i (lo+n-1) i1 (by lia) (by lia)⟩
     ·cases z:blt (gt (arrOf st) i) (gt (arrOf st) (lo+n-1)) with
      | false=>rfl
      | true=>
       rcases O.ntr _ (gt (arrOf st) lo) _ (hU i (by lia)) (hU lo (by lia)) (hU (lo+n-1) (by lia)) z with p|p
       ·rw [q lo i (Nat.le_refl _) i1 i2] at p;cases p
       ·rw [e] at p;cases p
    have hm:∀k,k<(arrOf st).size->Eqv blt (gt (mirror (arrOf st) lo (lo+n) ((lo+n-lo) / 2)) k) (gt (arrOf st) k):=fun k hk'=>by
     rw [iU (by lia)];by_cases c:lo<=k/\k<lo+n
     ·rw [if_pos c];exact (ev _ (by lia) (by lia)).trans O (hU _ (by lia)) (hU _ (by lia)) (hU _ (by lia)) (ev k c.1 c.2).symm
     ·rw [if_neg c];exact Eqv.O3 O (hU _ hk')
    have ni1:NonInc blt (arrOf st) lo n:=fun i j a1 a2 a3=>((ev i a1 (by lia)).trans O (hU _ (by lia)) (hU _ (by lia)) (hU _ (by lia)) (ev j (by lia) a3).symm).1
    have ni2:NonInc blt (arrOf (setArr st (mirror (arrOf st) lo (lo+n) ((lo+n-lo) / 2)))) lo (n+1):=
     uD O hU (aX hU (mirror_perm _ _ _ _)) (by lia) (by show lo+(n+1)<=(mirror _ _ _ _).size;rw [mirror_size];lia) (lV O hU (by lia) n1 ni1 (O.VL (hU _ (by lia)) (hU _ (by lia)) hlt)) hm
    refine wpS_bind (wpS_lift (wpAny_rule ⟨rfl,?_⟩));refine wpS_bind (wpS_mono (wpS_forRange
     (I:=fun x c st'=>∃neq,c=(none,x,neq)/\Stp lo (lo+nrem) st st'/\pendingOf st'=pendingOf st/\NonInc blt (arrOf st') lo x/\neq+1<=x/\∀i,lo+x-(neq+1)<=i->i<lo+x->Eqv blt (gt (arrOf st') i) (gt (arrOf st') (lo+x-1)))
     (Q:=fun c st'=>∃m neq,c=(none,m,neq)/\n+1<=m/\m<=nrem/\Stp lo (lo+nrem) st st'/\pendingOf st'=pendingOf st/\NonInc blt (arrOf st') lo m/\neq+1<=m/\∀i,lo+m-(neq+1)<=i->i<lo+m->Eqv blt (gt (arrOf st') i) (gt (arrOf st') (lo+m-1))) ?dstep ?dfin ?dinit) ?dpost)
    case dinit=>exact ⟨0,rfl,stp2,pd2,ni2,by lia,fun i i1 i2=>by rw [show i=lo+(n+1)-1 by lia];exact Eqv.O3 O (aX hU stp2.pm _ (by rw [stp2.sz];lia))⟩
    case dfin=>
     rintro c st' ⟨neq,rfl,q1,q2,q3,q4,q5⟩;rw [show max (n+1) nrem=nrem by lia] at q3 q4 q5 ⊢;exact ⟨nrem,neq,rfl,by lia,Nat.le_refl _,q1,q2,q3,q4,q5⟩
    case dstep=>
     rintro x c st' x1 x2 ⟨neq,rfl,q1,q2,q3,q4,q5⟩;dsimp only;have hUx:=aX hU q1.pm;have hzx:lo+nrem<=(arrOf st').size:=by rw [q1.sz];lia
     refine wpS_bind (wpS_ltAt hL (q1.kd.trans hk) hUx (by lia) (by lia) ?_);dsimp only;cases e:blt (gt (arrOf st') (lo+x)) (gt (arrOf st') (lo+x-1)) with
     | true=>
      simp only [if_true];have ni':NonInc blt (arrOf st') lo (x+1):=lV O hUx (by lia) (by lia) q3 (O.VL (hUx _ (by lia)) (hUx _ (by lia)) e);by_cases hq:neq > 0
      ·rw [if_pos hq];refine wpS_bind (wpS_reverse (wpS_pure ⟨0,rfl,q1.mir (by lia) (by lia) (by lia),q2,?_,by lia,fun i i1 i2=>?_⟩))
       ·exact uD O hUx (aX hUx (mirror_perm _ _ _ _)) (by lia) (by rw [mirror_size];lia) ni' (rK O hUx (by lia) (by lia) q5)
       ·rw [show i=lo+(x+1)-1 by lia];exact Eqv.O3 O (aX hUx (mirror_perm _ _ _ _) _ (by rw [mirror_size];lia))
      ·rw [if_neg hq];exact wpS_pure ⟨0,rfl,q1,q2,ni',by lia,fun i i1 i2=>by rw [show i=lo+(x+1)-1 by lia];exact Eqv.O3 O (hUx _ (by lia))⟩
     | false=>
      simp only [Bool.false_eq_true,if_false];refine wpS_bind (wpS_ltAt hL (q1.kd.trans hk) hUx (by lia) (by lia) ?_);dsimp only;cases e2:blt (gt (arrOf st') (lo+x-1)) (gt (arrOf st') (lo+x)) with
      | true=>
       simp only [if_true];exact wpS_pure ⟨x,neq,rfl,x1,by lia,q1,q2,q3,q4,q5⟩
      | false=>
       simp only [Bool.false_eq_true,if_false];refine wpS_pure ⟨neq+1,rfl,q1,q2,lV O hUx (by lia) (by lia) q3 e2,by lia,fun i i1 i2=>?_⟩;rw [show lo+(x+1)-1=lo+x by lia];by_cases c:i=lo+x
       ·rw [c];exact Eqv.O3 O (hUx _ (by lia))
       ·exact (q5 i (by lia) (by lia)).trans O (hUx _ (by lia)) (hUx _ (by lia)) (hUx _ (by lia)) ⟨e2,e⟩
    case dpost=>
     rintro c st3 ⟨m,neq,rfl,m1,m2,q1,q2,q3,q4,q5⟩;dsimp only;have hU3:=aX hU q1.pm;have hz3:lo+nrem<=(arrOf st3).size:=by rw [q1.sz];lia
     by_cases hq:neq > 0
     ·rw [if_pos hq];refine wpS_bind (wpS_reverse ?_);have stp4:=q1.mir (i:=lo+m-(neq+1)) (j:=lo+m) (by lia) (by lia) (by lia);have ni4:NonInc blt (mirror (arrOf st3) (lo+m-(neq+1)) (lo+m) ((lo+m-(lo+m-(neq+1))) / 2)) lo m:=
       uD O hU3 (aX hU3 (mirror_perm _ _ _ _)) (by lia) (by rw [mirror_size];lia) q3 (rK O hU3 (by lia) (by lia) q5)
      refine wpS_bind (wpS_reverse ?_);have stpA:Stp lo (lo+nrem) st (setArr (setArr st3 (mirror (arrOf st3) (lo+m-(neq+1)) (lo+m) ((lo+m-(lo+m-(neq+1))) / 2))) (mirror (arrOf (setArr st3 (mirror (arrOf st3) (lo+m-(neq+1)) (lo+m) ((lo+m-(lo+m-(neq+1))) / 2)))) lo (lo+m) ((lo+m-lo) / 2))):=stp4.mir (Nat.le_refl _) (by lia) (by rw [stp4.sz];lia);have pdA:pendingOf (setArr (setArr st3 (mirror (arrOf st3) (lo+m-(neq+1)) (lo+m) ((lo+m-(lo+m-(neq+1))) / 2))) (mirror (arrOf (setArr st3 (mirror (arrOf st3) (lo+m-(neq+1)) (lo+m) ((lo+m-(lo+m-(neq+1))) / 2)))) lo (lo+m) ((lo+m-lo) / 2)))=pendingOf st:=q2;have hsA:Srt blt (arrOf (setArr (setArr st3 (mirror (arrOf st3) (lo+m-(neq+1)) (lo+m) ((lo+m-(lo+m-(neq+1))) / 2))) (mirror (arrOf (setArr st3 (mirror (arrOf st3) (lo+m-(neq+1)) (lo+m) ((lo+m-(lo+m-(neq+1))) / 2)))) lo (lo+m) ((lo+m-lo) / 2)))) lo (lo+m):=rJ (by rw [stp4.sz];lia) ni4;refine wpS_bind (wpS_mono (wpS_forRange
       (I:=fun x c st'=>st'=(setArr (setArr st3 (mirror (arrOf st3) (lo+m-(neq+1)) (lo+m) ((lo+m-(lo+m-(neq+1))) / 2))) (mirror (arrOf (setArr st3 (mirror (arrOf st3) (lo+m-(neq+1)) (lo+m) ((lo+m-(lo+m-(neq+1))) / 2)))) lo (lo+m) ((lo+m-lo) / 2)))/\c=(none,x)/\Srt blt (arrOf (setArr (setArr st3 (mirror (arrOf st3) (lo+m-(neq+1)) (lo+m) ((lo+m-(lo+m-(neq+1))) / 2))) (mirror (arrOf (setArr st3 (mirror (arrOf st3) (lo+m-(neq+1)) (lo+m) ((lo+m-(lo+m-(neq+1))) / 2)))) lo (lo+m) ((lo+m-lo) / 2)))) lo (lo+x))
       (Q:=fun c st'=>st'=(setArr (setArr st3 (mirror (arrOf st3) (lo+m-(neq+1)) (lo+m) ((lo+m-(lo+m-(neq+1))) / 2))) (mirror (arrOf (setArr st3 (mirror (arrOf st3) (lo+m-(neq+1)) (lo+m) ((lo+m-(lo+m-(neq+1))) / 2)))) lo (lo+m) ((lo+m-lo) / 2)))/\∃mm,c=(none,mm)/\m<=mm/\mm<=nrem/\Srt blt (arrOf (setArr (setArr st3 (mirror (arrOf st3) (lo+m-(neq+1)) (lo+m) ((lo+m-(lo+m-(neq+1))) / 2))) (mirror (arrOf (setArr st3 (mirror (arrOf st3) (lo+m-(neq+1)) (lo+m) ((lo+m-(lo+m-(neq+1))) / 2)))) lo (lo+m) ((lo+m-lo) / 2)))) lo (lo+mm)) ?stepA ?finA ?initA) ?postA)
      case initA=>exact ⟨rfl,rfl,hsA⟩
      case finA=>
       rintro c st' ⟨rfl,rfl,q⟩;rw [show max m nrem=nrem by lia] at q ⊢;exact ⟨rfl,nrem,rfl,by lia,Nat.le_refl _,q⟩
      case postA=>
       rintro c st' ⟨rfl,mm,rfl,mm1,mm2,q⟩;exact wpS_pure (h mm _ stpA pdA (by lia) mm2 q)
      case stepA=>
       rintro x c st' x1 x2 ⟨rfl,rfl,q⟩;dsimp only;refine wpS_bind (wpS_ltAt hL (stpA.kd.trans hk) (aX hU stpA.pm) (by rw [stpA.sz];lia) (by rw [stpA.sz];lia) ?_);dsimp only;cases e:blt (gt (arrOf (setArr (setArr st3 (mirror (arrOf st3) (lo+m-(neq+1)) (lo+m) ((lo+m-(lo+m-(neq+1))) / 2))) (mirror (arrOf (setArr st3 (mirror (arrOf st3) (lo+m-(neq+1)) (lo+m) ((lo+m-(lo+m-(neq+1))) / 2)))) lo (lo+m) ((lo+m-lo) / 2)))) (lo+x)) (gt (arrOf (setArr (setArr st3 (mirror (arrOf st3) (lo+m-(neq+1)) (lo+m) ((lo+m-(lo+m-(neq+1))) / 2))) (mirror (arrOf (setArr st3 (mirror (arrOf st3) (lo+m-(neq+1)) (lo+m) ((lo+m-(lo+m-(neq+1))) / 2)))) lo (lo+m) ((lo+m-lo) / 2)))) (lo+x-1)) with
       | true=>
        simp only [if_true];exact wpS_pure ⟨rfl,x,rfl,x1,by lia,q⟩
       | false=>
        simp only [Bool.false_eq_true,if_false];exact wpS_pure ⟨rfl,rfl,lA O (aX hU stpA.pm) (by rw [stpA.sz];lia) (by lia) q e⟩
     ·rw [if_neg hq];refine wpS_bind (wpS_reverse ?_);have stpB:Stp lo (lo+nrem) st (setArr st3 (mirror (arrOf st3) lo (lo+m) ((lo+m-lo) / 2))):=q1.mir (Nat.le_refl _) (by lia) (by rw [q1.sz];lia);have pdB:pendingOf (setArr st3 (mirror (arrOf st3) lo (lo+m) ((lo+m-lo) / 2)))=pendingOf st:=q2;have hsB:Srt blt (arrOf (setArr st3 (mirror (arrOf st3) lo (lo+m) ((lo+m-lo) / 2)))) lo (lo+m):=rJ (by rw [q1.sz];lia) q3;refine wpS_bind (wpS_mono (wpS_forRange
       (I:=fun x c st'=>st'=(setArr st3 (mirror (arrOf st3) lo (lo+m) ((lo+m-lo) / 2)))/\c=(none,x)/\Srt blt (arrOf (setArr st3 (mirror (arrOf st3) lo (lo+m) ((lo+m-lo) / 2)))) lo (lo+x))
       (Q:=fun c st'=>st'=(setArr st3 (mirror (arrOf st3) lo (lo+m) ((lo+m-lo) / 2)))/\∃mm,c=(none,mm)/\m<=mm/\mm<=nrem/\Srt blt (arrOf (setArr st3 (mirror (arrOf st3) lo (lo+m) ((lo+m-lo) / 2)))) lo (lo+mm)) ?stepB ?finB ?initB) ?postB)
      case initB=>exact ⟨rfl,rfl,hsB⟩
      case finB=>
       rintro c st' ⟨rfl,rfl,q⟩;rw [show max m nrem=nrem by lia] at q ⊢;exact ⟨rfl,nrem,rfl,by lia,Nat.le_refl _,q⟩
      case postB=>
       rintro c st' ⟨rfl,mm,rfl,mm1,mm2,q⟩;exact wpS_pure (h mm _ stpB pdB (by lia) mm2 q)
      case stepB=>
       rintro x c st' x1 x2 ⟨rfl,rfl,q⟩;dsimp only;refine wpS_bind (wpS_ltAt hL (stpB.kd.trans hk) (aX hU stpB.pm) (by rw [stpB.sz];lia) (by rw [stpB.sz];lia) ?_);dsimp only;cases e:blt (gt (arrOf (setArr st3 (mirror (arrOf st3) lo (lo+m) ((lo+m-lo) / 2)))) (lo+x)) (gt (arrOf (setArr st3 (mirror (arrOf st3) lo (lo+m) ((lo+m-lo) / 2)))) (lo+x-1)) with
       | true=>
        simp only [if_true];exact wpS_pure ⟨rfl,x,rfl,x1,by lia,q⟩
       | false=>
        simp only [Bool.false_eq_true,if_false];exact wpS_pure ⟨rfl,rfl,lA O (aX hU stpB.pm) (by rw [stpB.sz];lia) (by lia) q e⟩
  ·rw [if_neg hgt];obtain rfl:n=1:=by lia
   have stp2:=stp0;have pd2:pendingOf st=pendingOf st:=rfl;have ni2:NonInc blt (arrOf st) lo (1+1):=lV O hU (by lia) (Nat.le_refl _) (fun i j a1 a2 a3=>by rw [show i=lo by lia,show j=lo by lia];exact O.irr _ (hU _ (by lia))) (O.VL (hU _ (by lia)) (hU _ (by lia)) hlt);refine wpS_bind (wpS_lift (wpAny_rule ⟨rfl,?_⟩));refine wpS_bind (wpS_mono (wpS_forRange
    (I:=fun x c st'=>∃neq,c=(none,x,neq)/\Stp lo (lo+nrem) st st'/\pendingOf st'=pendingOf st/\NonInc blt (arrOf st') lo x/\neq+1<=x/\∀i,lo+x-(neq+1)<=i->i<lo+x->Eqv blt (gt (arrOf st') i) (gt (arrOf st') (lo+x-1)))
    (Q:=fun c st'=>∃m neq,c=(none,m,neq)/\1+1<=m/\m<=nrem/\Stp lo (lo+nrem) st st'/\pendingOf st'=pendingOf st/\NonInc blt (arrOf st') lo m/\neq+1<=m/\∀i,lo+m-(neq+1)<=i->i<lo+m->Eqv blt (gt (arrOf st') i) (gt (arrOf st') (lo+m-1))) ?dstep ?dfin ?dinit) ?dpost)
   case dinit=>exact ⟨0,rfl,stp2,pd2,ni2,by lia,fun i i1 i2=>by rw [show i=lo+(1+1)-1 by lia];exact Eqv.O3 O (aX hU stp2.pm _ (by rw [stp2.sz];lia))⟩
   case dfin=>
    rintro c st' ⟨neq,rfl,q1,q2,q3,q4,q5⟩;rw [show max (1+1) nrem=nrem by lia] at q3 q4 q5 ⊢;exact ⟨nrem,neq,rfl,by lia,Nat.le_refl _,q1,q2,q3,q4,q5⟩
   case dstep=>
    rintro x c st' x1 x2 ⟨neq,rfl,q1,q2,q3,q4,q5⟩;dsimp only;have hUx:=aX hU q1.pm;have hzx:lo+nrem<=(arrOf st').size:=by rw [q1.sz];lia
    refine wpS_bind (wpS_ltAt hL (q1.kd.trans hk) hUx (by lia) (by lia) ?_);dsimp only;cases e:blt (gt (arrOf st') (lo+x)) (gt (arrOf st') (lo+x-1)) with
    | true=>
     simp only [if_true];have ni':NonInc blt (arrOf st') lo (x+1):=lV O hUx (by lia) (by lia) q3 (O.VL (hUx _ (by lia)) (hUx _ (by lia)) e);by_cases hq:neq > 0
     ·rw [if_pos hq];refine wpS_bind (wpS_reverse (wpS_pure ⟨0,rfl,q1.mir (by lia) (by lia) (by lia),q2,?_,by lia,fun i i1 i2=>?_⟩))
      ·exact uD O hUx (aX hUx (mirror_perm _ _ _ _)) (by lia) (by rw [mirror_size];lia) ni' (rK O hUx (by lia) (by lia) q5)
      ·rw [show i=lo+(x+1)-1 by lia];exact Eqv.O3 O (aX hUx (mirror_perm _ _ _ _) _ (by rw [mirror_size];lia))
     ·rw [if_neg hq];exact wpS_pure ⟨0,rfl,q1,q2,ni',by lia,fun i i1 i2=>by rw [show i=lo+(x+1)-1 by lia];exact Eqv.O3 O (hUx _ (by lia))⟩
    | false=>
     simp only [Bool.false_eq_true,if_false];refine wpS_bind (wpS_ltAt hL (q1.kd.trans hk) hUx (by lia) (by lia) ?_);dsimp only;cases e2:blt (gt (arrOf st') (lo+x-1)) (gt (arrOf st') (lo+x)) with
     | true=>
      simp only [if_true];exact wpS_pure ⟨x,neq,rfl,x1,by lia,q1,q2,q3,q4,q5⟩
     | false=>
      simp only [Bool.false_eq_true,if_false];refine wpS_pure ⟨neq+1,rfl,q1,q2,lV O hUx (by lia) (by lia) q3 e2,by lia,fun i i1 i2=>?_⟩;rw [show lo+(x+1)-1=lo+x by lia];by_cases c:i=lo+x
      ·rw [c];exact Eqv.O3 O (hUx _ (by lia))
      ·exact (q5 i (by lia) (by lia)).trans O (hUx _ (by lia)) (hUx _ (by lia)) (hUx _ (by lia)) ⟨e2,e⟩
   case dpost=>
    rintro c st3 ⟨m,neq,rfl,m1,m2,q1,q2,q3,q4,q5⟩;dsimp only;have hU3:=aX hU q1.pm;have hz3:lo+nrem<=(arrOf st3).size:=by rw [q1.sz];lia
    by_cases hq:neq > 0
    ·rw [if_pos hq];refine wpS_bind (wpS_reverse ?_);have stp4:=q1.mir (i:=lo+m-(neq+1)) (j:=lo+m) (by lia) (by lia) (by lia);have ni4:NonInc blt (mirror (arrOf st3) (lo+m-(neq+1)) (lo+m) ((lo+m-(lo+m-(neq+1))) / 2)) lo m:=
      uD O hU3 (aX hU3 (mirror_perm _ _ _ _)) (by lia) (by rw [mirror_size];lia) q3 (rK O hU3 (by lia) (by lia) q5)
     refine wpS_bind (wpS_reverse ?_);have stpA:Stp lo (lo+nrem) st (setArr (setArr st3 (mirror (arrOf st3) (lo+m-(neq+1)) (lo+m) ((lo+m-(lo+m-(neq+1))) / 2))) (mirror (arrOf (setArr st3 (mirror (arrOf st3) (lo+m-(neq+1)) (lo+m) ((lo+m-(lo+m-(neq+1))) / 2)))) lo (lo+m) ((lo+m-lo) / 2))):=stp4.mir (Nat.le_refl _) (by lia) (by rw [stp4.sz];lia);have pdA:pendingOf (setArr (setArr st3 (mirror (arrOf st3) (lo+m-(neq+1)) (lo+m) ((lo+m-(lo+m-(neq+1))) / 2))) (mirror (arrOf (setArr st3 (mirror (arrOf st3) (lo+m-(neq+1)) (lo+m) ((lo+m-(lo+m-(neq+1))) / 2)))) lo (lo+m) ((lo+m-lo) / 2)))=pendingOf st:=q2;have hsA:Srt blt (arrOf (setArr (setArr st3 (mirror (arrOf st3) (lo+m-(neq+1)) (lo+m) ((lo+m-(lo+m-(neq+1))) / 2))) (mirror (arrOf (setArr st3 (mirror (arrOf st3) (lo+m-(neq+1)) (lo+m) ((lo+m-(lo+m-(neq+1))) / 2)))) lo (lo+m) ((lo+m-lo) / 2)))) lo (lo+m):=rJ (by rw [stp4.sz];lia) ni4;refine wpS_bind (wpS_mono (wpS_forRange
      (I:=fun x c st'=>st'=(setArr (setArr st3 (mirror (arrOf st3) (lo+m-(neq+1)) (lo+m) ((lo+m-(lo+m-(neq+1))) / 2))) (mirror (arrOf (setArr st3 (mirror (arrOf st3) (lo+m-(neq+1)) (lo+m) ((lo+m-(lo+m-(neq+1))) / 2)))) lo (lo+m) ((lo+m-lo) / 2)))/\c=(none,x)/\Srt blt (arrOf (setArr (setArr st3 (mirror (arrOf st3) (lo+m-(neq+1)) (lo+m) ((lo+m-(lo+m-(neq+1))) / 2))) (mirror (arrOf (setArr st3 (mirror (arrOf st3) (lo+m-(neq+1)) (lo+m) ((lo+m-(lo+m-(neq+1))) / 2)))) lo (lo+m) ((lo+m-lo) / 2)))) lo (lo+x))
      (Q:=fun c st'=>st'=(setArr (setArr st3 (mirror (arrOf st3) (lo+m-(neq+1)) (lo+m) ((lo+m-(lo+m-(neq+1))) / 2))) (mirror (arrOf (setArr st3 (mirror (arrOf st3) (lo+m-(neq+1)) (lo+m) ((lo+m-(lo+m-(neq+1))) / 2)))) lo (lo+m) ((lo+m-lo) / 2)))/\∃mm,c=(none,mm)/\m<=mm/\mm<=nrem/\Srt blt (arrOf (setArr (setArr st3 (mirror (arrOf st3) (lo+m-(neq+1)) (lo+m) ((lo+m-(lo+m-(neq+1))) / 2))) (mirror (arrOf (setArr st3 (mirror (arrOf st3) (lo+m-(neq+1)) (lo+m) ((lo+m-(lo+m-(neq+1))) / 2)))) lo (lo+m) ((lo+m-lo) / 2)))) lo (lo+mm)) ?stepA ?finA ?initA) ?postA)
     case initA=>exact ⟨rfl,rfl,hsA⟩
     case finA=>
      rintro c st' ⟨rfl,rfl,q⟩;rw [show max m nrem=nrem by lia] at q ⊢;exact ⟨rfl,nrem,rfl,by lia,Nat.le_refl _,q⟩
     case postA=>
      rintro c st' ⟨rfl,mm,rfl,mm1,mm2,q⟩;exact wpS_pure (h mm _ stpA pdA (by lia) mm2 q)
     case stepA=>
      rintro x c st' x1 x2 ⟨rfl,rfl,q⟩;dsimp only;refine wpS_bind (wpS_ltAt hL (stpA.kd.trans hk) (aX hU stpA.pm) (by rw [stpA.sz];lia) (by rw [stpA.sz];lia) ?_);dsimp only;cases e:blt (gt (arrOf (setArr (setArr st3 (mirror (arrOf st3) (lo+m-(neq+1)) (lo+m) ((lo+m-(lo+m-(neq+1))) / 2))) (mirror (arrOf (setArr st3 (mirror (arrOf st3) (lo+m-(neq+1)) (lo+m) ((lo+m-(lo+m-(neq+1))) / 2)))) lo (lo+m) ((lo+m-lo) / 2)))) (lo+x)) (gt (arrOf (setArr (setArr st3 (mirror (arrOf st3) (lo+m-(neq+1)) (lo+m) ((lo+m-(lo+m-(neq+1))) / 2))) (mirror (arrOf (setArr st3 (mirror (arrOf st3) (lo+m-(neq+1)) (lo+m) ((lo+m-(lo+m-(neq+1))) / 2)))) lo (lo+m) ((lo+m-lo) / 2)))) (lo+x-1)) with
      | true=>
       simp only [if_true];exact wpS_pure ⟨rfl,x,rfl,x1,by lia,q⟩
      | false=>
       simp only [Bool.false_eq_true,if_false];exact wpS_pure ⟨rfl,rfl,lA O (aX hU stpA.pm) (by rw [stpA.sz];lia) (by lia) q e⟩
    ·rw [if_neg hq];refine wpS_bind (wpS_reverse ?_);have stpB:Stp lo (lo+nrem) st (setArr st3 (mirror (arrOf st3) lo (lo+m) ((lo+m-lo) / 2))):=q1.mir (Nat.le_refl _) (by lia) (by rw [q1.sz];lia);have pdB:pendingOf (setArr st3 (mirror (arrOf st3) lo (lo+m) ((lo+m-lo) / 2)))=pendingOf st:=q2;have hsB:Srt blt (arrOf (setArr st3 (mirror (arrOf st3) lo (lo+m) ((lo+m-lo) / 2)))) lo (lo+m):=rJ (by rw [q1.sz];lia) q3;refine wpS_bind (wpS_mono (wpS_forRange
      (I:=fun x c st'=>st'=(setArr st3 (mirror (arrOf st3) lo (lo+m) ((lo+m-lo) / 2)))/\c=(none,x)/\Srt blt (arrOf (setArr st3 (mirror (arrOf st3) lo (lo+m) ((lo+m-lo) / 2)))) lo (lo+x))
      (Q:=fun c st'=>st'=(setArr st3 (mirror (arrOf st3) lo (lo+m) ((lo+m-lo) / 2)))/\∃mm,c=(none,mm)/\m<=mm/\mm<=nrem/\Srt blt (arrOf (setArr st3 (mirror (arrOf st3) lo (lo+m) ((lo+m-lo) / 2)))) lo (lo+mm)) ?stepB ?finB ?initB) ?postB)
     case initB=>exact ⟨rfl,rfl,hsB⟩
     case finB=>
      rintro c st' ⟨rfl,rfl,q⟩;rw [show max m nrem=nrem by lia] at q ⊢;exact ⟨rfl,nrem,rfl,by lia,Nat.le_refl _,q⟩
     case postB=>
      rintro c st' ⟨rfl,mm,rfl,mm1,mm2,q⟩;exact wpS_pure (h mm _ stpB pdB (by lia) mm2 q)
     case stepB=>
      rintro x c st' x1 x2 ⟨rfl,rfl,q⟩;dsimp only;refine wpS_bind (wpS_ltAt hL (stpB.kd.trans hk) (aX hU stpB.pm) (by rw [stpB.sz];lia) (by rw [stpB.sz];lia) ?_);dsimp only;cases e:blt (gt (arrOf (setArr st3 (mirror (arrOf st3) lo (lo+m) ((lo+m-lo) / 2)))) (lo+x)) (gt (arrOf (setArr st3 (mirror (arrOf st3) lo (lo+m) ((lo+m-lo) / 2)))) (lo+x-1)) with
      | true=>
       simp only [if_true];exact wpS_pure ⟨rfl,x,rfl,x1,by lia,q⟩
      | false=>
       simp only [Bool.false_eq_true,if_false];exact wpS_pure ⟨rfl,rfl,lA O (aX hU stpB.pm) (by rw [stpB.sz];lia) (by lia) q e⟩
end
end TS
end
section
namespace TS
open PySem PyProof.Rows
section
variable {blt:Keyed->Keyed->Bool} {U:Keyed->Prop}
theorem oE {a:Array Keyed} {src d:Nat} (hs:src<a.size) (hd:d<=src) (k:Nat) :
  gt (bubble a src d) k=if k=src-d then gt a src else if src-d<k/\k<=src then gt a (k-1) else gt a k:=by
 rw [aBy,getElem?_bubble hs d hd]
 repeat' split
 all_goals rw [aBy]
end
section
variable {prog:Program} {w:World} {A:Around} {E:Value->Shared->Prop} {s:Shared} {kd:SortKind} {U:Keyed->Prop} {blt:Keyed->Keyed->Bool}
theorem wpS_binarySort (O:Ord U blt) (hL:BR prog w A E s kd U blt) {lo n ok:Nat} {st:SortSt} {Q:Bool->SortSt->Prop} (hk:kindOf st=kd) (hU:k_ U (arrOf st)) (hn:lo+n<=(arrOf st).size) (hok:ok<=n)
  (hs:Srt blt (arrOf st) lo (lo+ok))
  (h:∀st',Stp lo (lo+n) st st'->pendingOf st'=pendingOf st->Srt blt (arrOf st') lo (lo+n)->Q true st'):wpS (model prog w) A E s (binarySort' lo n ok) Q st:=by
 rw [binarySort'_eq];have stp0:Stp lo (lo+n) st st:=⟨rfl,rfl,Array.Perm.refl _,fun _ _=>rfl⟩
 refine wpS_bind (wpS_mono (wpS_forRange (I:=fun k c st'=>c=(none,())/\Stp lo (lo+n) st st'/\pendingOf st'=pendingOf st/\Srt blt (arrOf st') lo (lo+min k n))
  (Q:=fun c st'=>c=(none,())/\Stp lo (lo+n) st st'/\pendingOf st'=pendingOf st/\Srt blt (arrOf st') lo (lo+n)) ?step ?fin ?init) ?post)
 case post=>
  rintro c st' ⟨rfl,q1,q2,q3⟩;exact wpS_pure (h st' q1 q2 q3)
 case init=>
  refine ⟨rfl,stp0,rfl,fun i j a1 a2 a3=>?_⟩;by_cases h1:ok=0
  ·rw [show i=j by lia];exact O.irr _ (hU _ (by lia))
  ·exact hs i j a1 a2 (by lia)
 case fin=>
  rintro c st' ⟨hc,q1,q2,q3⟩;rw [show min (max (max ok 1) n) n=n by lia] at q3;exact ⟨hc,q1,q2,q3⟩
 case step=>
  rintro k c st' k1 k2 ⟨rfl,q1,q2,q3⟩;rw [show min k n=k by lia] at q3;have hU':=aX hU q1.pm;have hz:lo+n<=(arrOf st').size:=by rw [q1.sz];exact hn
  refine wpS_bind (wpS_mono (wpS_forRange (I:=fun x c st''=>st''=st'/\∃l r,c=(none,l,r)/\l<=r/\r<=k/\r-l<=k-x/\
    (∀i,lo<=i->i<lo+l->blt (gt (arrOf st') (lo+k)) (gt (arrOf st') i)=false)/\(∀i,lo+r<=i->i<lo+k->blt (gt (arrOf st') (lo+k)) (gt (arrOf st') i)=true))
   (Q:=fun c st''=>st''=st'/\∃l r,c=(none,l,r)/\l<=k/\
    (∀i,lo<=i->i<lo+l->blt (gt (arrOf st') (lo+k)) (gt (arrOf st') i)=false)/\(∀i,lo+l<=i->i<lo+k->blt (gt (arrOf st') (lo+k)) (gt (arrOf st') i)=true)) ?istep ?ifin ?iinit) ?ipost)
  case iinit=>exact ⟨rfl,0,k,rfl,by lia,by lia,by lia,fun i i1 i2=>by lia,fun i i1 i2=>by lia⟩
  case ifin=>
   rintro c st'' ⟨rfl,l,r,rfl,b1,b2,b3,b4,b5⟩;obtain rfl:l=r:=by lia
   exact ⟨rfl,l,l,rfl,b2,b4,b5⟩
  case istep=>
   rintro x c st'' _ hx ⟨rfl,l,r,rfl,b1,b2,b3,b4,b5⟩;dsimp only;by_cases hge:l >= r
   ·rw [if_pos hge];obtain rfl:l=r:=by lia
    exact wpS_pure ⟨rfl,l,l,rfl,b2,b4,b5⟩
   ·rw [if_neg hge];refine wpS_bind (wpS_ltAt hL (q1.kd.trans hk) hU' (by lia) (by lia) ?_);dsimp only;cases e:blt (gt (arrOf st'') (lo+k)) (gt (arrOf st'') (lo+(l+r) / 2)) with
    | true=>
     simp only [if_true];refine wpS_pure ⟨rfl,l,(l+r) / 2,rfl,by lia,by lia,by lia,b4,fun i i1 i2=>?_⟩;rcases O.ntr _ (gt (arrOf st'') i) _ (hU' _ (by lia)) (hU' i (by lia)) (hU' _ (by lia)) e with p|p
     ·exact p
     ·rw [q3 _ i (by lia) i1 (by lia)] at p;cases p
    | false=>
     simp only [Bool.false_eq_true,if_false];refine wpS_pure ⟨rfl,(l+r) / 2+1,r,rfl,by lia,by lia,by lia,fun i i1 i2=>?_,b5⟩;exact O.le_trans (hU' _ (by lia)) (hU' (lo+(l+r) / 2) (by lia)) (hU' _ (by lia)) (q3 i (lo+(l+r) / 2) i1 (by lia) (by lia)) e
  case ipost=>
   rintro c st'' ⟨rfl,l,r,rfl,b1,b4,b5⟩;show wpS _ _ _ _ (moveDown' (lo+k) (lo+l) >>= fun _=>pure (ForInStep.yield (none,()))) _ _;rw [moveDown'_eq];refine wpS_bind (wpS_modify (wpS_pure ⟨rfl,⟨q1.kd,q1.fl,(bubble_perm _ _ _).trans q1.pm,fun j hj=>?_⟩,q2,?_⟩))
   ·show gt (bubble (arrOf st'') (lo+k) (lo+k-(lo+l))) j=_;rw [oE (by lia) (by lia),if_neg (by lia),if_neg (by lia)];exact q1.out j hj
   ·rw [show min (k+1) n=k+1 by lia];intro i j a1 a2 a3;show blt (gt (bubble (arrOf st'') (lo+k) (lo+k-(lo+l))) j) (gt (bubble (arrOf st'') (lo+k) (lo+k-(lo+l))) i)=false;rw [oE (by lia) (by lia),oE (by lia) (by lia),show lo+k-(lo+k-(lo+l))=lo+l by lia]
    repeat' split
    all_goals first
     | (exfalso;lia)
     | exact O.irr _ (hU' _ (by lia))
     | exact b4 _ (by lia) (by lia)
     | exact O.VL (hU' _ (by lia)) (hU' _ (by lia)) (b5 _ (by lia) (by lia))
     | exact q3 _ _ (by lia) (by lia) (by lia)
end
section
variable {blt:Keyed->Keyed->Bool} {U:Keyed->Prop}
noncomputable def Runs (blt:Keyed->Keyed->Bool) (a:Array Keyed):List (Nat×Nat×Nat)->Nat->Nat->Prop
 | [],b,e=>b=e
 | (s,n,_)::r,b,e=>s=b/\0<n/\Srt blt a b (b+n)/\Runs blt a r (b+n) e
theorem Runs.le {a:Array Keyed}:∀{l:List (Nat×Nat×Nat)} {b e:Nat},Runs blt a l b e->b+l.length<=e
 | [],b,e,h=>by have:b=e:=h;simp;lia
 | (s,n,p)::r,b,e,h=>by
  obtain ⟨_,h1,_,h2⟩:=h;have:=Runs.le h2;rw [List.length_cons];lia
theorem Runs.app {a:Array Keyed}:∀{l r:List (Nat×Nat×Nat)} {b e:Nat},Runs blt a (l++r) b e↔∃m,Runs blt a l b m/\Runs blt a r m e
 | [],r,b,e=>⟨fun h=>⟨b,rfl,h⟩,fun ⟨m,h1,h2⟩=>by have:b=m:=h1;subst this;exact h2⟩
 | (s,n,p)::l,r,b,e=>by
  constructor
  ·rintro ⟨h1,h2,h3,h4⟩;obtain ⟨m,h5,h6⟩:=Runs.app.mp h4;exact ⟨m,⟨h1,h2,h3,h5⟩,h6⟩
  ·rintro ⟨m,⟨h1,h2,h3,h5⟩,h6⟩;exact ⟨h1,h2,h3,Runs.app.mpr ⟨m,h5,h6⟩⟩
theorem Runs.out {a a':Array Keyed}:∀{l:List (Nat×Nat×Nat)} {b e:Nat},Runs blt a l b e->(∀j,b<=j->j<e->gt a' j=gt a j)->Runs blt a' l b e
 | [],b,e,h,_=>h
 | (s,n,p)::l,b,e,⟨h1,h2,h3,h4⟩,q=>by
  have:=h4.le;exact ⟨h1,h2,h3.out fun j j1 j2=>q j j1 (by lia),Runs.out h4 fun j j1 j2=>q j (by lia) j2⟩
theorem Runs.two {a : Array Keyed} {l1 l2 : List (Nat × Nat × Nat)} {sa na p sb nb q b e : Nat} (h : Runs blt a (l1 ++ (sa,na,p) :: (sb,nb,q) :: l2) b e) :
  b<=sa/\sb=sa+na/\0<na/\0<nb/\sb+nb<=e/\Srt blt a sa (sa+na)/\Srt blt a sb (sb+nb):=by
 obtain ⟨m,h1,h2,h3,h4,h5,h6,h7,h8⟩:=Runs.app.mp h;subst h2 h5;have e1:=h1.le;have e2:=h8.le;exact ⟨by lia,rfl,h3,h6,by lia,h4,h7⟩
theorem Runs.merge {a a':Array Keyed} {l1 l2:List (Nat×Nat×Nat)} {sa na p sb nb q b e:Nat} (h:Runs blt a (l1++(sa,na,p)::(sb,nb,q)::l2) b e)
  (ho:∀j,j<sa\/sb+nb<=j->gt a' j=gt a j) (hs:Srt blt a' sa (sb+nb)):Runs blt a' (l1++(sa,na+nb,p)::l2) b e:=by
 obtain ⟨m,h1,h2,h3,h4,h5,h6,h7,h8⟩:=Runs.app.mp h;subst h2 h5;have e1:=h1.le;have e2:=h8.le;refine Runs.app.mpr ⟨sa,h1.out fun j _ j2=>ho j (by lia),rfl,by lia,?_,?_⟩
 ·rw [<-Nat.add_assoc];exact hs
 ·rw [<-Nat.add_assoc];exact h8.out fun j j1 _=>ho j (by lia)
theorem ers {p:Array (Nat×Nat×Nat)} {i:Nat} {x y v:Nat×Nat×Nat} {l1 l2:List (Nat×Nat×Nat)} (h:p.toList=l1++x::y::l2) (hi:l1.length=i) :
  ((p.setIfInBounds i v).eraseIdxIfInBounds (i+1)).toList=l1++v::l2:=by
 have hz:p.size=l1.length+(l2.length+2):=by
  have:=congrArg List.length h;simpa using this
 have:i+1<(p.setIfInBounds i v).size:=by rw [Array.size_setIfInBounds];lia
 rw [Array.eraseIdxIfInBounds,dif_pos this,Array.toList_eraseIdx,Array.toList_setIfInBounds,h,List.set_append_right _ _ (by lia),show i-l1.length=0 by lia,List.set_cons_zero,
  List.eraseIdx_append_of_length_le (by lia),show i+1-l1.length=1 by lia]
 rfl
theorem Z_ {p:Array (Nat×Nat×Nat)} {i:Nat} (h:i+1<p.size):∃x y l1 l2,p.toList=l1++x::y::l2/\l1.length=i/\p[i]?=some x/\p[i+1]?=some y:=by
 refine ⟨p[i],p[i+1],p.toList.take i,p.toList.drop (i+2),?_,?_,by simp,by simp⟩
 ·conv=>lhs;rw [<-List.take_append_drop i p.toList]
  rw [List.drop_eq_getElem_cons (by simp;lia),List.drop_eq_getElem_cons (i:=i+1) (by simp;lia)];rfl
 ·simp;lia
end
end TS
end
section
namespace TS
open PySem PyProof.Rows
section
variable {prog:Program} {w:World} {A:Around} {E:Value->Shared->Prop} {s:Shared} {kd:SortKind} {U:Keyed->Prop} {blt:Keyed->Keyed->Bool}
structure Bs (U:Keyed->Prop) (kd:SortKind) (a₀:Array Keyed) (st:SortSt):Prop where
 kd:kindOf st=kd
 fl:failedOf st=none
 pm:(arrOf st).Perm a₀
theorem Bs.stp {a₀:Array Keyed} {st st':SortSt} {lo hi:Nat} (b:Bs U kd a₀ st) (h:Stp lo hi st st'):Bs U kd a₀ st':=⟨h.kd.trans b.kd,h.fl.trans b.fl,h.pm.trans b.pm⟩
theorem rM {a:Array Keyed} (pw:Nat):∀(i:Nat) {l:List (Nat×Nat×Nat)} {b e:Nat},Runs blt a l b e->Runs blt a (l.modify i fun x=>(x.1,x.2.1,pw)) b e
 | _,[],_,_,h=>by
  rw [List.modify_nil];exact h
 | 0,(s,n,p)::l,b,e,h=>h
 | i+1,(s,n,p)::l,b,e,⟨h1,h2,h3,h4⟩=>⟨h1,h2,h3,rM pw i h4⟩
theorem oF (O:Ord U blt) (hL:BR prog w A E s kd U blt) {a₀:Array Keyed} (hU:k_ U a₀) {st:SortSt} {e i:Nat} {Q:Bool->SortSt->Prop} (B:Bs U kd a₀ st) (he:e<=a₀.size) (R:Runs blt (arrOf st) (pendingOf st).toList 0 e)
  (hi:i+1<(pendingOf st).size)
  (h:∀st',Bs U kd a₀ st'->Runs blt (arrOf st') (pendingOf st').toList 0 e->(pendingOf st').size+1=(pendingOf st).size->(∀j,e<=j->gt (arrOf st') j=gt (arrOf st) j)->Q true st'):wpS (model prog w) A E s (mergeAt' i) Q st:=by
 obtain ⟨⟨sa,na,p⟩,⟨sb,nb,q⟩,l1,l2,e1,e2,e3,e4⟩:=Z_ hi;rw [e1] at R;obtain ⟨r1,r2,r3,r4,r5,r6,r7⟩:=R.two;have hz:(arrOf st).size=a₀.size:=B.pm.size_eq;refine wF O hL B.kd (aX hU B.pm) B.fl e3 e4 r2 (by lia) r3 r4 r6 r7 fun st' S Z P=>?_
 have P':(pendingOf st').toList=l1++(sa,na+nb,p)::l2:=by rw [P];exact ers e1 e2
 refine h st' (B.stp S) ?_ ?_ fun j hj=>S.out j (by lia)
 ·rw [P'];exact R.merge S.out Z
 ·have h1:=congrArg List.length P';have h2:=congrArg List.length e1;simp at h1 h2;lia
theorem wpS_sortRuns (O:Ord U blt) (hL:BR prog w A E s kd U blt) {a₀:Array Keyed} (hU:k_ U a₀) {st:SortSt} {Q:Unit->SortSt->Prop} (B:Bs U kd a₀ st) (hp:pendingOf st=#[]) (hz:0<a₀.size)
  (h:∀st',Bs U kd a₀ st'->Srt blt (arrOf st') 0 a₀.size->Q () st'):wpS (model prog w) A E s sortRuns' Q st:=by
 have sz:∀{st':SortSt},Bs U kd a₀ st'->(arrOf st').size=a₀.size:=fun b=>b.pm.size_eq
 rw [sortRuns'_eq];refine wpS_bind (wpS_get ?_);dsimp only;rw [sz B];generalize minRun' a₀.size a₀.size 0=minrun;refine wpS_bind (wpS_mono (wpS_forRange
  (I:=fun x c st'=>∃lo,c=(none,lo)/\lo<=a₀.size/\(x<=lo\/lo=a₀.size)/\Bs U kd a₀ st'/\Runs blt (arrOf st') (pendingOf st').toList 0 lo)
  (Q:=fun c st'=>c=(none,a₀.size)/\Bs U kd a₀ st'/\Runs blt (arrOf st') (pendingOf st').toList 0 a₀.size) ?step ?fin ?init) ?post)
 case init=>exact ⟨0,rfl,Nat.zero_le _,.inl (Nat.le_refl _),B,by rw [hp];rfl⟩
 case fin=>
  rintro c st' ⟨lo,rfl,a1,a2,b,r⟩;obtain rfl:lo=a₀.size:=by lia
  exact ⟨rfl,b,r⟩
 case step=>
  rintro x c st1 _ hx ⟨lo,rfl,a1,a2,b,r⟩;dsimp only;by_cases hge:lo >= a₀.size
  ·rw [if_pos hge];obtain rfl:lo=a₀.size:=by lia
   exact wpS_pure ⟨rfl,b,r⟩
  rw [if_neg hge];refine wpS_bind (wpS_countRun O hL b.kd (aX hU b.pm) (by rw [sz b];lia) (by lia) fun m st2 S2 P2 m1 m2 Z2=>?_);dsimp only;have b2:=b.stp S2;have r2:Runs blt (arrOf st2) (pendingOf st2).toList 0 lo:=by rw [P2];exact r.out fun j _ j2=>S2.out j (.inl j2)
  have rest:∀(n:Nat),1<=n->lo+n<=a₀.size->∀(st4:SortSt),Bs U kd a₀ st4->∀l,(pendingOf st4).toList=l++[(lo,n,0)]->Runs blt (arrOf st4) l 0 lo->Srt blt (arrOf st4) lo (lo+n)->
    ∃lo',((none,lo+n):Option Unit×Nat)=(none,lo')/\lo'<=a₀.size/\(x+1<=lo'\/lo'=a₀.size)/\Bs U kd a₀ st4/\Runs blt (arrOf st4) (pendingOf st4).toList 0 lo':=by
   intro n n1 n2 st4 b4 l e r4 z4;refine ⟨lo+n,rfl,n2,?_,b4,?_⟩
   ·rcases a2 with a2|a2
    ·exact .inl (by lia)
    ·lia
   ·rw [e];exact Runs.app.mpr ⟨lo,r4,rfl,by lia,z4,rfl⟩
  by_cases hm:m<minrun
  ·rw [if_pos hm];refine wpS_bind (wpS_lift (wpAny_rule ⟨rfl,?_⟩));refine wpS_bind (wpS_binarySort O hL b2.kd (aX hU b2.pm) (by rw [sz b2];lia) (by lia) Z2 fun st3 S3 P3 Z3=>?_);simp only [Bool.not_true,Bool.false_eq_true,if_false];have b3:=b2.stp S3;have r3:Runs blt (arrOf st3) (pendingOf st3).toList 0 lo:=by rw [P3];exact r2.out fun j _ j2=>S3.out j (.inl j2)
   have hmm:1<=min (a₀.size-lo) minrun/\lo+min (a₀.size-lo) minrun<=a₀.size:=⟨by lia,by lia⟩
   refine wpS_bind (wpS_get ?_);cases hbk:(pendingOf st3).back? with
   | none=>
    dsimp only;refine wpS_bind (wpS_modify (wpS_pure (rest (min (a₀.size-lo) minrun) (by lia) (by lia) _ ⟨b3.kd,b3.fl,b3.pm⟩ _ ?_ r3 Z3)));show ((pendingOf st3).push (lo,(min (a₀.size-lo) minrun),0)).toList=_;rw [Array.toList_push]
   | some t=>
    obtain ⟨s1,n1',pw1⟩:=t;dsimp only;refine wpS_bind (wpS_mono (wpS_forRange
     (I:=fun y c st'=>c=(none,())/\Bs U kd a₀ st'/\Runs blt (arrOf st') (pendingOf st').toList 0 lo/\∀j,lo<=j->gt (arrOf st') j=gt (arrOf st3) j)
     (Q:=fun c st'=>c=(none,())/\Bs U kd a₀ st'/\Runs blt (arrOf st') (pendingOf st').toList 0 lo/\∀j,lo<=j->gt (arrOf st') j=gt (arrOf st3) j) ?mstep (fun c st' q=>q) ⟨rfl,b3,r3,fun _ _=>rfl⟩) ?mpost)
    case mpost=>
     rintro c st4 ⟨rfl,b4,r4,o4⟩;dsimp only;refine wpS_bind (wpS_modify (wpS_bind (wpS_modify (wpS_pure (rest (min (a₀.size-lo) minrun) (by lia) (by lia) _ ⟨b4.kd,b4.fl,b4.pm⟩ _ ?_ (rM (power' a₀.size (2*s1+n1') (2*s1+n1'+n1'+min (a₀.size-lo) minrun) a₀.size) ((pendingOf st4).size-1) r4) (Z3.out fun j j1 j2=>o4 j j1))))));show (((pendingOf st4).modify _ _).push (lo,(min (a₀.size-lo) minrun),0)).toList=_;rw [Array.toList_push,Array.toList_modify]
    case mstep=>
     rintro y c st4 _ hy ⟨rfl,b4,r4,o4⟩;refine wpS_bind (wpS_get ?_);by_cases hp:(pendingOf st4).size > 1
     ·rw [if_pos hp];obtain ⟨t,ht⟩:∃t,(pendingOf st4)[(pendingOf st4).size-2]?=some t:=⟨_,getElem?_pos _ _ (by lia)⟩
      rw [ht];obtain ⟨t1,t2,older⟩:=t;dsimp only;split
      ·exact wpS_pure ⟨rfl,b4,r4,o4⟩
      ·refine wpS_bind (oF O hL hU b4 (by lia) r4 (by lia) fun st5 b5 r5 _ o5=>?_);simp only [Bool.not_true,Bool.false_eq_true,if_false];exact wpS_pure ⟨rfl,b5,r5,fun j hj=>(o5 j hj).trans (o4 j hj)⟩
     ·rw [if_neg hp];exact wpS_pure ⟨rfl,b4,r4,o4⟩
  ·rw [if_neg hm];refine wpS_bind (wpS_get ?_);cases hbk:(pendingOf st2).back? with
   | none=>
    dsimp only;refine wpS_bind (wpS_modify (wpS_pure (rest m (by lia) (by lia) _ ⟨b2.kd,b2.fl,b2.pm⟩ _ ?_ r2 Z2)));show ((pendingOf st2).push (lo,m,0)).toList=_;rw [Array.toList_push]
   | some t=>
    obtain ⟨s1,n1',pw1⟩:=t;dsimp only;refine wpS_bind (wpS_mono (wpS_forRange
     (I:=fun y c st'=>c=(none,())/\Bs U kd a₀ st'/\Runs blt (arrOf st') (pendingOf st').toList 0 lo/\∀j,lo<=j->gt (arrOf st') j=gt (arrOf st2) j)
     (Q:=fun c st'=>c=(none,())/\Bs U kd a₀ st'/\Runs blt (arrOf st') (pendingOf st').toList 0 lo/\∀j,lo<=j->gt (arrOf st') j=gt (arrOf st2) j) ?mstep (fun c st' q=>q) ⟨rfl,b2,r2,fun _ _=>rfl⟩) ?mpost)
    case mpost=>
     rintro c st4 ⟨rfl,b4,r4,o4⟩;dsimp only;refine wpS_bind (wpS_modify (wpS_bind (wpS_modify (wpS_pure (rest m (by lia) (by lia) _ ⟨b4.kd,b4.fl,b4.pm⟩ _ ?_ (rM (power' a₀.size (2*s1+n1') (2*s1+n1'+n1'+m) a₀.size) ((pendingOf st4).size-1) r4) (Z2.out fun j j1 j2=>o4 j j1))))));show (((pendingOf st4).modify _ _).push (lo,m,0)).toList=_;rw [Array.toList_push,Array.toList_modify]
    case mstep=>
     rintro y c st4 _ hy ⟨rfl,b4,r4,o4⟩;refine wpS_bind (wpS_get ?_);by_cases hp:(pendingOf st4).size > 1
     ·rw [if_pos hp];obtain ⟨t,ht⟩:∃t,(pendingOf st4)[(pendingOf st4).size-2]?=some t:=⟨_,getElem?_pos _ _ (by lia)⟩
      rw [ht];obtain ⟨t1,t2,older⟩:=t;dsimp only;split
      ·exact wpS_pure ⟨rfl,b4,r4,o4⟩
      ·refine wpS_bind (oF O hL hU b4 (by lia) r4 (by lia) fun st5 b5 r5 _ o5=>?_);simp only [Bool.not_true,Bool.false_eq_true,if_false];exact wpS_pure ⟨rfl,b5,r5,fun j hj=>(o5 j hj).trans (o4 j hj)⟩
     ·rw [if_neg hp];exact wpS_pure ⟨rfl,b4,r4,o4⟩
 case post=>
  rintro c st1 ⟨rfl,b,r⟩;dsimp only;have hle:=r.le;rw [Array.length_toList] at hle;refine wpS_bind (wpS_mono (wpS_forRange
   (I:=fun x c st'=>c=(none,())/\Bs U kd a₀ st'/\Runs blt (arrOf st') (pendingOf st').toList 0 a₀.size/\((pendingOf st').size+x<=a₀.size\/(pendingOf st').size<=1))
   (Q:=fun c st'=>c=(none,())/\Bs U kd a₀ st'/\Runs blt (arrOf st') (pendingOf st').toList 0 a₀.size/\(pendingOf st').size<=1) ?fstep ?ffin ?finit) ?fpost)
  case finit=>exact ⟨rfl,b,r,.inl (by lia)⟩
  case ffin=>
   rintro c st' ⟨rfl,q1,q2,q3⟩;exact ⟨rfl,q1,q2,by lia⟩
  case fpost=>
   rintro c st' ⟨rfl,q1,q2,q3⟩;refine wpS_pure (h st' q1 ?_)
   match hl:(pendingOf st').toList with
   | []=>rw [hl] at q2;have:0=a₀.size:=q2;lia
   | [(s0,n0,p0)]=>
    rw [hl] at q2;obtain ⟨_,_,z,e⟩:=q2;have e:0+n0=a₀.size:=e;rw [e] at z;exact z
   | _::_::_=>
    have:=congrArg List.length hl;rw [Array.length_toList] at this;simp at this;lia
  case fstep=>
   rintro x c st4 _ hx ⟨rfl,b4,r4,o4⟩;refine wpS_bind (wpS_get ?_);by_cases hp1:(pendingOf st4).size<=1
   ·rw [if_pos hp1];exact wpS_pure ⟨rfl,b4,r4,hp1⟩
   rw [if_neg hp1];refine wpS_bind (oF O hL hU b4 (Nat.le_refl _) r4 ?hi fun st5 b5 r5 e5 _=>?_)
   case hi=>
    repeat' split
    all_goals lia
   simp only [Bool.not_true,Bool.false_eq_true,if_false];exact wpS_pure ⟨rfl,b5,r5,by lia⟩
end
end TS
end
section
namespace Mi
open PySem
inductive D where
 | uDf|non|bl (b:Bool)|int (i:Int)|str (x:Str)
 | tup (xs:List D)|lst (xs:List D)|dct (kvs:List (D×D))|scr (xs:List D)|fdc (kvs:List (D×D))|cel (a:Nat) (xs:List D)
 deriving Inhabited
mutual
noncomputable def D.pure:D->Bool
 | .tup xs=>D.aR xs
 | .lst _=>false
 | .dct _=>false
 | .uDf=>false
 | .scr xs=>D.aR xs
 | .fdc _=>false
 | .cel _ _=>false
 | _=>true
noncomputable def D.aR:List D->Bool
 | []=>true
 | x::xs=>x.pure&&D.aR xs
end
mutual
noncomputable def eqD:D->D->Bool
 | .non,.non=>true
 | .bl a,.bl b=>a==b
 | .int a,.int b=>a==b
 | .bl a,.int b=>(if a then (1:Int) else 0)==b
 | .int a,.bl b=>a==(if b then (1:Int) else 0)
 | .str a,.str b=>a==b
 | .tup xs,.tup ys=>pQ xs ys
 | .lst xs,.lst ys=>pQ xs ys
 | _,_=>false
noncomputable def pQ:List D->List D->Bool
 | [],[]=>true
 | x::xs,y::ys=>eqD x y&&pQ xs ys
 | _,_=>false
end
mutual
noncomputable def D.bM:Nat->D->Bool
 | n+1,.tup xs=>D.gZ n xs
 | n+1,.lst xs=>D.gZ n xs
 | 0,.tup _=>false
 | 0,.lst _=>false
 | _,.dct _=>false
 | _,.uDf=>false
 | _,.scr _=>false
 | _,.fdc _=>false
 | _,.cel _ _=>false
 | _,_=>true
noncomputable def D.gZ:Nat->List D->Bool
 | _,[]=>true
 | n,x::xs=>D.bM n x&&D.gZ n xs
end
inductive fD where|lt|le|gt|ge
 deriving DecidableEq
noncomputable def fD.int:fD->Int->Int->Bool
 | .lt,a,b=>decide (a<b)|.le,a,b=>decide (a<=b)|.gt,a,b=>decide (b<a)|.ge,a,b=>decide (b<=a)
noncomputable def fD.nat:fD->Nat->Nat->Bool
 | .lt,a,b=>decide (a<b)|.le,a,b=>decide (a<=b)|.gt,a,b=>decide (b<a)|.ge,a,b=>decide (b<=a)
noncomputable def JB (a b:Str):Bool:=decide (a.cps.toList<b.cps.toList)
noncomputable def fD.str:fD->Str->Str->Bool
 | .lt,a,b=>JB a b|.le,a,b=>!JB b a|.gt,a,b=>JB b a|.ge,a,b=>!JB a b
mutual
noncomputable def cM (o:fD):D->D->Option Bool
 | .int a,.int b=>some (o.int a b)
 | .str a,.str b=>some (o.str a b)
 | .tup xs,.tup ys=>cC o xs ys
 | _,_=>none
noncomputable def cC (o:fD):List D->List D->Option Bool
 | [],ys=>some (o.nat 0 ys.length)
 | x::xs,[]=>some (o.nat (x::xs).length 0)
 | x::xs,y::ys=>if eqD x y then cC o xs ys else cM o x y
end
inductive Res (α:Type) where
 | ok (a:α)|err (c:Str) (as:List D)|bad
noncomputable def Res.bind {α β:Type}:Res α->(α->Res β)->Res β
 | .ok a,f=>f a
 | .err c as,_=>.err c as
 | .bad,_=>.bad
noncomputable instance:Monad Res where
 pure:=.ok
 bind:=Res.bind
@[simp] theorem Res.aK {α β:Type} (a:α) (f:α->Res β):((Res.ok a) >>= f)=f a:=rfl
@[simp] theorem Res.aBz {α β:Type} (c:Str) (as:List D) (f:α->Res β):((Res.err c as:Res α) >>= f)=.err c as:=rfl
@[simp] theorem Res.aC0 {α β:Type} (f:α->Res β):((Res.bad:Res α) >>= f)=.bad:=rfl
@[simp] theorem Res.pure_eq {α:Type} (a:α):(pure a:Res α)=.ok a:=rfl
theorem Res.VP {α β:Type} {m:Res α} {f:α->Res β} {b:β} (h:(m >>= f)=.ok b):∃a,m=.ok a/\f a=.ok b:=by
 cases m with
 | ok a=>exact ⟨a,rfl,h⟩
 | err c as=>cases h
 | bad=>cases h
noncomputable def Res.ofOpt {α:Type}:Option α->Res α
 | some a=>.ok a
 | none=>.bad
@[simp] theorem Res.YL {α:Type} (a:α):Res.ofOpt (some a)=.ok a:=rfl
theorem Res.g8 {α:Type} {o:Option α} {a:α} (h:Res.ofOpt o=.ok a):o=some a:=by
 cases o with
 | none=>cases h
 | some b=>cases h;rfl
noncomputable def lim:Nat:=1000000
inductive Bop where|add|sub|mul|fdiv|mod|pow
 deriving DecidableEq
inductive Cop where|eq|ne|ord (o:fD)|isin|notin|isN|notN
 deriving DecidableEq
noncomputable def iV (i:Int):Bool:=decide (-(2 ^ 64)<i)&&decide (i<2 ^ 64)
noncomputable def bB:Bop->D->D->Res D
 | .add,.int a,.int b=>.ok (.int (a+b))
 | .sub,.int a,.int b=>.ok (.int (a-b))
 | .mul,.int a,.int b=>if iV a||iV b then .ok (.int (a*b)) else .bad
 | .fdiv,.int a,.int b=>if decide (0<b)&&decide (b<1073741824) then .ok (.int (a / b)) else .bad
 | .mod,.int a,.int b=>if decide (0<b) then .ok (.int (a % b)) else .bad
 | .pow,.int a,.int b=>if decide (0<=b)&&decide (b<=1000000)&&decide (a.natAbs<2 ^ 64) then .ok (.int (a ^ b.toNat)) else .bad
 | .add,.str a,.str b=>if decide (a.length+b.length<=lim) then .ok (.str (a++b)) else .bad
 | .add,.lst a,.lst b=>if decide (a.length+b.length<=lim)&&D.aR a&&D.aR b then .ok (.lst (a++b)) else .bad
 | _,_,_=>.bad
noncomputable def aCw:D->Res Bool
 | .non=>.ok false
 | .bl b=>.ok b
 | .int i=>.ok (i != 0)
 | .str x=>if decide (x.length<=lim) then .ok ((x.length:Int) != 0) else .bad
 | .tup xs=>.ok (!xs.isEmpty)
 | .lst xs=>.ok (!xs.isEmpty)
 | .dct kvs=>.ok (!kvs.isEmpty)
 | .uDf=>.bad
 | .fdc _=>.bad
 | .cel _ _=>.bad
 | .scr xs=>.ok (!xs.isEmpty)
noncomputable def rN:D->Bool
 | .int _=>true
 | .str _=>true
 | _=>false
noncomputable def keyOk:D->Bool
 | .int _=>true
 | .str _=>true
 | .tup xs=>xs.all rN
 | _=>false
noncomputable def isTup:D->Bool
 | .tup _=>true
 | _=>false
noncomputable def cD:List (D×D)->D->Option D
 | [],_=>none
 | (k,v)::r,q=>if eqD k q then some v else cD r q
noncomputable def putD:List (D×D)->D->D->List (D×D)
 | [],q,w=>[(q,w)]
 | (k,v)::r,q,w=>if eqD k q then (k,w)::r else (k,v)::putD r q w
noncomputable def FQ (kvs:List (D×D)) (k:D):Bool:=keyOk k&&kvs.all (fun p=>isTup p.1==isTup k)
noncomputable def bA:Nat:=12
noncomputable def d7:Cop->D->D->Res D
 | .eq,a,b=>if a.bM bA&&b.bM bA then .ok (.bl (eqD a b)) else .bad
 | .ne,a,b=>if a.bM bA&&b.bM bA then .ok (.bl (!eqD a b)) else .bad
 | .ord o,a,b=>if a.bM bA&&b.bM bA then (match cM o a b with|some k=>.ok (.bl k)|none=>.bad) else .bad
 | .isin,a,.tup ys=>if a.bM bA&&D.gZ bA ys then .ok (.bl (ys.any fun y=>eqD y a)) else .bad
 | .isin,a,.lst ys=>if a.bM bA&&D.gZ bA ys then .ok (.bl (ys.any fun y=>eqD y a)) else .bad
 | .isin,a,.dct kvs=>if FQ kvs a then .ok (.bl (cD kvs a).isSome) else .bad
 | .notin,a,.tup ys=>if a.bM bA&&D.gZ bA ys then .ok (.bl (!(ys.any fun y=>eqD y a))) else .bad
 | .notin,a,.lst ys=>if a.bM bA&&D.gZ bA ys then .ok (.bl (!(ys.any fun y=>eqD y a))) else .bad
 | .notin,a,.dct kvs=>if FQ kvs a then .ok (.bl (!(cD kvs a).isSome)) else .bad
 | .isN,.scr _,.non=>.bad
 | .notN,.scr _,.non=>.bad
 | .isN,.fdc _,.non=>.bad
 | .notN,.fdc _,.non=>.bad
 | .isN,.cel _ _,.non=>.bad
 | .notN,.cel _ _,.non=>.bad
 | .isN,.non,.non=>.ok (.bl true)
 | .isN,a,.non=>.ok (.bl false)
 | .notN,.non,.non=>.ok (.bl false)
 | .notN,a,.non=>.ok (.bl true)
 | _,_,_=>.bad
noncomputable def ixD (n:Nat) (i:Int):Option Nat:=if 0<=i then (if i<n then some i.toNat else none) else if -(n:Int)<=i then some (i+n).toNat else none
noncomputable def getD (d i:D):Res D:=
 match d,i with
 | .tup xs,.int i=>Res.ofOpt ((ixD xs.length i).bind fun j=>xs[j]?)
 | .lst xs,.int i=>Res.ofOpt ((ixD xs.length i).bind fun j=>xs[j]?)
 | .scr xs,.int i=>Res.ofOpt ((ixD xs.length i).bind fun j=>xs[j]?)
 | .cel _ xs,.int i=>Res.ofOpt ((ixD xs.length i).bind fun j=>xs[j]?)
 | .str x,.int i=>if decide (x.length<=lim) then Res.ofOpt (((ixD x.cps.toList.length i).bind fun j=>x.cps.toList[j]?).map fun c=>D.str ⟨#[c]⟩) else .bad
 | .dct kvs,k=>if keyOk k then Res.ofOpt (cD kvs k) else .bad
 | .fdc kvs,k=>if keyOk k then Res.ofOpt (cD kvs k) else .bad
 | _,_=>.bad
noncomputable def YM (n d:Nat):Option Int->Nat
 | none=>d
 | some v=>if v<0 then (max (v+(n:Int)) 0).toNat else (min v (n:Int)).toNat
noncomputable def cutD {α:Type} (xs:List α) (lo hi:Option Int):List α:=(xs.drop (YM xs.length 0 lo)).take (YM xs.length xs.length hi-YM xs.length 0 lo)
inductive Ty where|int|str|bool|list|tuple|dict
 deriving DecidableEq
noncomputable def JC:Ty->D->Res Bool
 | _,.uDf=>.bad
 | _,.scr _=>.bad
 | _,.fdc _=>.bad
 | _,.cel _ _=>.bad
 | .int,.int _=>.ok true
 | .int,.bl _=>.ok true
 | .bool,.bl _=>.ok true
 | .str,.str _=>.ok true
 | .tuple,.tup _=>.ok true
 | .list,.lst _=>.ok true
 | .dict,.dct _=>.ok true
 | _,_=>.ok false
mutual
noncomputable def D.plain:D->Bool
 | .int _=>true
 | .str _=>true
 | .tup xs=>D.fG xs
 | _=>false
noncomputable def D.fG:List D->Bool
 | []=>true
 | x::xs=>x.plain&&D.fG xs
end
mutual
noncomputable def enc:D->List Int
 | .int i=>[0,i]
 | .str x=>1::(x.cps.toList.map (fun (c:Nat)=>(c:Int)+1)++[0])
 | .tup xs=>2::vQ xs
 | _=>[]
noncomputable def vQ:List D->List Int
 | []=>[0]
 | x::xs=>1::(enc x++vQ xs)
end
noncomputable def dJ:D->Nat
 | .int _=>1
 | .str _=>2
 | .tup (.int _::_)=>3
 | .tup (.str _::_)=>4
 | .tup (.tup _::_)=>5
 | _=>0
noncomputable def bF (xs:List D):Bool:=xs.all fun a=>a.plain&&a.bM bA&&dJ a != 0&&dJ a==dJ (xs.headD .non)&&xs.all fun b=>(cM .lt a b).isSome
noncomputable def leE (a b:D):Bool:=!decide (enc b<enc a)
noncomputable def iW (xs:List D):List D:=xs.mergeSort leE
noncomputable def fH (i:Int):Bool:=decide (-(2 ^ 62)<=i)&&decide (i<2 ^ 62)
noncomputable def asB:D->Res Bool
 | .bl b=>.ok b
 | _=>.bad
noncomputable def asI:D->Res Int
 | .int i=>.ok i
 | _=>.bad
inductive Fl where
 | nx (ρ:List D)|rt (d:D)|bk (ρ:List D)|ct (ρ:List D)
noncomputable def aEn:Fl->Res D
 | .rt d=>.ok d
 | .nx _=>.ok .non
 | _=>.bad
noncomputable abbrev FE:=List D->Res D
noncomputable abbrev FT:=List D->Res Bool
noncomputable abbrev FA:=List D->Res (List D)
noncomputable def aH (i:Nat):FE:=fun ρ=>match ρ.getD i .uDf with|.uDf=>.bad|d=>.ok d
noncomputable def bC (d:D):FE:=fun _=>.ok d
noncomputable def b2 (f:D->D->Res D) (a b:FE):FE:=fun ρ=>do let x <- a ρ;let y <- b ρ;f x y
noncomputable def b1 (f:D->Res D) (a:FE):FE:=fun ρ=>do let x <- a ρ;f x
noncomputable def bTB (a:FE):FT:=fun ρ=>do let x <- a ρ;asB x
noncomputable def YQ (a:FT):FT:=fun ρ=>do let x <- a ρ;pure (!x)
noncomputable def YS (a b:FT):FT:=fun ρ=>do let x <- a ρ;if x then b ρ else pure false
noncomputable def bOr (a b:FT):FT:=fun ρ=>do let x <- a ρ;if x then pure true else b ρ
noncomputable def rO (a b:FE):FE:=fun ρ=>do let x <- a ρ;let k <- asB x;if k then b ρ else pure (.bl false)
noncomputable def aA0 (a b:FE):FE:=fun ρ=>do let x <- a ρ;let k <- asB x;if k then pure (.bl true) else b ρ
noncomputable def aZ:FA:=fun _=>.ok []
noncomputable def aD (a:FE) (b:FA):FA:=fun ρ=>do let x <- a ρ;let xs <- b ρ;pure (x::xs)
noncomputable def iY (a:FA):FE:=fun ρ=>do let xs <- a ρ;if decide (xs.length<=lim) then pure (.tup xs) else .bad
noncomputable def wG (a:FA):FE:=fun ρ=>do let xs <- a ρ;if decide (xs.length<=lim) then pure (.lst xs) else .bad
noncomputable def aY (f:List D->Res D) (a:FA):FE:=fun ρ=>do let xs <- a ρ;f xs
noncomputable def wH (a:FE):List D->Res (Option Int):=fun ρ=>do let x <- a ρ;let i <- asI x;pure (some i)
noncomputable def JD:List D->Res (Option Int):=fun _=>.ok none
noncomputable def aEo:D->Res Bool
 | .dct _=>.bad
 | .scr _=>.bad
 | .fdc _=>.bad
 | d=>aCw d
noncomputable def bTr (a:FE):FT:=fun ρ=>do let x <- a ρ;aEo x
noncomputable def aC1:D->Option Int->Option Int->Res D
 | .lst xs,lo,hi=>if D.aR xs then .ok (.lst (cutD xs lo hi)) else .bad
 | .scr xs,lo,hi=>if D.aR xs then .ok (.lst (cutD xs lo hi)) else .bad
 | .tup xs,lo,hi=>if !D.aR xs||decide (YM xs.length 0 lo=0/\YM xs.length xs.length hi=xs.length) then .bad else .ok (.tup (cutD xs lo hi))
 | _,_,_=>.bad
noncomputable def jR (o:fD):List D->Res D
 | []=>.bad
 | x::xs=>if ((x::xs).all fun a=>a.bM bA&&(x::xs).all fun b=>(cM o a b).isSome) then .ok (xs.foldl (fun m y=>if (cM o y m).getD false then y else m) x) else .bad
noncomputable def btD (o:fD) (ds:List D) (i j:Nat):Bool:=(cM o (ds.getD i .non) (ds.getD j .non)).getD false
noncomputable def cO (o:fD):List D->Res D
 | [.lst xs]=>jR o xs
 | [.tup xs]=>jR o xs
 | [a,b]=>jR o [a,b]
 | _=>.bad
noncomputable def uE:List D->Res D
 | [.tup xs]=>.ok (.int xs.length)
 | [.lst xs]=>.ok (.int xs.length)
 | [.scr xs]=>.ok (.int xs.length)
 | [.cel _ xs]=>.ok (.int xs.length)
 | [.str x]=>if decide (x.length<=lim) then .ok (.int x.length) else .bad
 | _=>.bad
noncomputable def VR (kvs:List (D×D)):List D:=kvs.map (·.1)
noncomputable def oG:List D->Res D
 | [.tup xs]=>.ok (.tup xs)
 | [.lst xs]=>.ok (.tup xs)
 | _=>.bad
noncomputable def iZ:List D->Res D
 | [.lst xs]=>if bF xs then .ok (.lst (iW xs)) else .bad
 | _=>.bad
noncomputable def Ty.nm:Ty->String
 | .int => "int" | .str => "str" | .bool => "bool" | .list => "list" | .tuple => "tuple" | .dict => "dict"
noncomputable def oH (t:Ty) (d:D):Res D:=do let k <- JC t d;pure (.bl k)
noncomputable def j6 (n:Nat) (f:List D->Res D):List D->Res D:=fun ds=>if decide (ds.length=n) then f ds else .bad
noncomputable abbrev FI:=List D->Res (List D×Bool)
noncomputable def oJ:D->Res (List D)
 | .lst xs=>.ok xs
 | .tup xs=>.ok xs
 | _=>.bad
noncomputable def lW:List D->Res (List D×Bool)
 | [.int n]=>if fH n then .ok ((List.range n.toNat).map fun (k:Nat)=>D.int (0+(k:Int)),true) else .bad
 | _=>.bad
noncomputable def BX:List D->Res (List D×Bool)
 | [.int a,.int b]=>if fH a&&fH b then .ok ((List.range (b-a).toNat).map fun (k:Nat)=>D.int (a+(k:Int)),true) else .bad
 | _=>.bad
noncomputable def iK (f:FA) (g:List D->Res (List D×Bool)):FI:=fun ρ=>do let xs <- f ρ;g xs
noncomputable def yL (n:Nat) (ρ:List D):List D:=(List.range n).map fun i=>ρ.getD i .uDf
noncomputable def yM:D->Res (List D):=fun d=>.ok [d]
noncomputable def JF (m:Nat):D->Res (List D)
 | .tup ds=>if decide (ds.length=m) then .ok ds else .bad
 | _=>.bad
noncomputable def lB (n:Nat) (t:D->Res (List D)) (c:FT) (f:FE) (k:Bool) (ρ:List D) (acc:List D) (x:D):Res (List D):=do
 let bs <- t x
 let ok <- c (yL n ρ++bs)
 if ok then (do
  let y <- f (yL n ρ++bs)
  if k||y.pure then pure (acc++[y]) else .bad)
 else pure acc
noncomputable def m8 (g:List D->D->Res (List D)):List D->List D->Res (List D)
 | acc,[]=>.ok acc
 | acc,x::xs=>do let a <- g acc x;m8 g a xs
noncomputable def fJ (n:Nat) (it:FI) (t:D->Res (List D)) (c:FT) (f:FE) (k:Bool):FE:=fun ρ=>do
 let xs <- it ρ
 if decide (xs.1.length<=lim) then (do
  let ys <- m8 (lB n t c f k ρ) [] xs.1
  pure (.lst ys)) else .bad
noncomputable def fU:FT:=fun _=>.ok true
noncomputable abbrev FS:=List D->Res Fl
noncomputable def D.R8:D->Bool
 | .cel _ _=>false
 | _=>true
noncomputable def inner:D->Bool
 | .lst xs=>D.aR xs
 | .dct kvs=>D.aR (kvs.map (·.2))
 | .cel _ xs=>D.aR xs
 | _=>false
noncomputable def pO:FS:=fun ρ=>.ok (.nx ρ)
noncomputable def bU (f g:FS):FS:=fun ρ=>do
 let r <- f ρ
 match r with
 | .nx ρ'=>g ρ'
 | r=>.ok r
noncomputable def dZ (o:Bool) (i:Nat) (f:FE) (k:Bool):FS:=fun ρ=>do
 let d <- f ρ
 if (if o then k&&inner d else k||d.pure) then .ok (.nx (ρ.set i d)) else .bad
noncomputable def sIf (c:FT) (f g:FS):FS:=fun ρ=>do
 let k <- c ρ
 if k then f ρ else g ρ
noncomputable def nA (f:FE) (k:Bool):FS:=fun ρ=>do
 let d <- f ρ
 if k||d.pure then .ok (.rt d) else .bad
noncomputable def aA1 (i:Nat):FS:=fun ρ=>do
 let d <- aH i ρ
 .ok (.rt d)
noncomputable def rtX:Nat:=1000000
noncomputable def BZ (f:FE) (k:Bool):FS:=fun ρ=>do
 let d <- f ρ
 if k||d.pure then .ok (.rt (.tup (d::ρ))) else .bad
noncomputable def oK (i:Nat):FS:=fun ρ=>do
 let d <- aH i ρ
 if d.R8 then .ok (.rt (.tup (d::ρ))) else .bad
noncomputable def tR (i:Nat) (f:FE):FS:=fun ρ=>do
 let d <- f ρ
 match ρ.getD i .uDf with
 | .lst xs=>if decide (xs.length<lim)&&d.pure then .ok (.nx (ρ.set i (.lst (xs++[d])))) else .bad
 | _=>.bad
noncomputable def aC2 (i:Nat) (f:FE) (g:FE):FS:=fun ρ=>do
 let d <- g ρ
 let k <- f ρ
 match ρ.getD i .uDf with
 | .dct kvs=>if decide (kvs.length<lim)&&FQ kvs k&&d.pure then .ok (.nx (ρ.set i (.dct (putD kvs k d)))) else .bad
 | _=>.bad
noncomputable def tg1 (i:Nat):D->List D->Res (List D):=fun d ρ=>.ok (ρ.set i d)
noncomputable def JG:List Nat->List D->List D->List D
 | i::is,d::ds,ρ=>JG is ds (ρ.set i d)
 | _,_,ρ=>ρ
noncomputable def tgN (is:List Nat):D->List D->Res (List D)
 | .tup ds,ρ=>if decide (ds.length=is.length) then .ok (JG is ds ρ) else .bad
 | _,_=>.bad
noncomputable def tU (t:D->List D->Res (List D)) (body:FS):List D->List D->Res Fl
 | [],ρ=>.ok (.nx ρ)
 | x::xs,ρ=>do
  let ρ1 <- t x ρ
  let r <- body ρ1
  match r with
  | .nx ρ'=>tU t body xs ρ'
  | .ct ρ'=>tU t body xs ρ'
  | .bk ρ'=>.ok (.nx ρ')
  | .rt d=>.ok (.rt d)
noncomputable def O4 (it:FI) (t:D->List D->Res (List D)) (body:FS):FS:=fun ρ=>do
 let xs <- it ρ
 if xs.2 then tU t body xs.1 ρ else .bad
noncomputable def QG (i:Nat) (t:D->List D->Res (List D)) (body:FS):FS:=fun ρ=>do
 let d <- aH i ρ
 let xs <- oJ d
 tU t body xs ρ
noncomputable def fnS (n m:Nat) (f:FS):List D->Res D:=fun ds=>do
 let r <- f (ds++List.replicate (m-n) .uDf)
 aEn r
end Mi
end
section
namespace Mi
open PySem
mutual
theorem R9:∀(a b:D),a.plain=true->b.plain=true->eqD a b=true->a=b
 | .int i,.int j,_,_,h=>by rw [eqD] at h;rw [eq_of_beq h]
 | .str i,.str j,_,_,h=>by rw [eqD] at h;rw [eq_of_beq h]
 | .tup xs,.tup ys,h1,h2,h=>by
  rw [D.plain] at h1 h2;rw [eqD] at h;rw [JK xs ys h1 h2 h]
 | .int _,.str _,_,_,h=>by simp [eqD] at h
 | .int _,.tup _,_,_,h=>by simp [eqD] at h
 | .str _,.int _,_,_,h=>by simp [eqD] at h
 | .str _,.tup _,_,_,h=>by simp [eqD] at h
 | .tup _,.int _,_,_,h=>by simp [eqD] at h
 | .tup _,.str _,_,_,h=>by simp [eqD] at h
 | .uDf,_,h,_,_=>by simp [D.plain] at h
 | .scr _,_,h,_,_=>by simp [D.plain] at h
 | .non,_,h,_,_=>by simp [D.plain] at h
 | .bl _,_,h,_,_=>by simp [D.plain] at h
 | .lst _,_,h,_,_=>by simp [D.plain] at h
 | .dct _,_,h,_,_=>by simp [D.plain] at h
 | .int _,.uDf,_,h,_=>by simp [D.plain] at h
 | .int _,.scr _,_,h,_=>by simp [D.plain] at h
 | .int _,.non,_,h,_=>by simp [D.plain] at h
 | .int _,.bl _,_,h,_=>by simp [D.plain] at h
 | .int _,.lst _,_,h,_=>by simp [D.plain] at h
 | .int _,.dct _,_,h,_=>by simp [D.plain] at h
 | .str _,.uDf,_,h,_=>by simp [D.plain] at h
 | .str _,.scr _,_,h,_=>by simp [D.plain] at h
 | .str _,.non,_,h,_=>by simp [D.plain] at h
 | .str _,.bl _,_,h,_=>by simp [D.plain] at h
 | .str _,.lst _,_,h,_=>by simp [D.plain] at h
 | .str _,.dct _,_,h,_=>by simp [D.plain] at h
 | .tup _,.uDf,_,h,_=>by simp [D.plain] at h
 | .tup _,.scr _,_,h,_=>by simp [D.plain] at h
 | .tup _,.non,_,h,_=>by simp [D.plain] at h
 | .tup _,.bl _,_,h,_=>by simp [D.plain] at h
 | .tup _,.lst _,_,h,_=>by simp [D.plain] at h
 | .tup _,.dct _,_,h,_=>by simp [D.plain] at h
theorem JK:∀(a b:List D),D.fG a=true->D.fG b=true->pQ a b=true->a=b
 | [],[],_,_,_=>rfl
 | x::xs,y::ys,h1,h2,h=>by
  rw [D.fG,Bool.and_eq_true] at h1 h2;rw [pQ,Bool.and_eq_true] at h;rw [R9 x y h1.1 h2.1 h.1,JK xs ys h1.2 h2.2 h.2]
 | [],_::_,_,_,h=>by simp [pQ] at h
 | _::_,[],_,_,h=>by simp [pQ] at h
end
mutual
theorem yN:∀(a:D),a.plain=true->eqD a a=true
 | .int i,_=>by simp [eqD]
 | .str i,_=>by simp [eqD]
 | .tup xs,h=>by rw [D.plain] at h;rw [eqD];exact uF xs h
 | .uDf,h=>by simp [D.plain] at h
 | .scr _,h=>by simp [D.plain] at h
 | .non,h=>by simp [D.plain] at h
 | .bl _,h=>by simp [D.plain] at h
 | .lst _,h=>by simp [D.plain] at h
 | .dct _,h=>by simp [D.plain] at h
theorem uF:∀(a:List D),D.fG a=true->pQ a a=true
 | [],_=>rfl
 | x::xs,h=>by
  rw [D.fG,Bool.and_eq_true] at h;rw [pQ,yN x h.1,uF xs h.2];rfl
end
theorem JL:∀(a b:List Nat) (r t:List Int),(a.map (fun (c:Nat)=>(c:Int)+1)++[0])++r=(b.map (fun (c:Nat)=>(c:Int)+1)++[0])++t->a=b/\r=t
 | [],[],r,t,h=>by simpa using h
 | [],c::b,r,t,h=>by
  simp only [List.map_nil,List.nil_append,List.cons_append,List.map_cons,List.cons.injEq] at h;lia
 | c::a,[],r,t,h=>by
  simp only [List.map_nil,List.nil_append,List.cons_append,List.map_cons,List.cons.injEq] at h;lia
 | c::a,d::b,r,t,h=>by
  simp only [List.cons_append,List.map_cons,List.cons.injEq] at h;obtain ⟨e1,e2⟩:=JL a b r t h.2;exact ⟨by rw [e1,show c=d by lia],e2⟩
mutual
theorem rP:∀(a b:D) (r t:List Int),a.plain=true->b.plain=true->enc a++r=enc b++t->a=b/\r=t
 | .int i,b,r,t,_,h2,h=>by
  cases b <;> simp only [enc,D.plain,Bool.false_eq_true,List.cons_append,List.cons.injEq,List.nil_append] at h h2 <;> try omega
  ·exact ⟨by rw [h.2.1],h.2.2⟩
 | .str x,b,r,t,_,h2,h=>by
  cases b with
  | str y=>
   simp only [enc,List.cons_append,List.cons.injEq,true_and] at h;obtain ⟨e1,e2⟩:=JL _ _ _ _ h;refine ⟨?_,e2⟩;cases x;cases y;simp only [] at e1
   congr 2
   exact Array.toList_inj.mp e1
  | _=>simp [enc,D.plain] at h h2
 | .tup xs,b,r,t,h1,h2,h=>by
  cases b with
  | tup ys=>
   rw [D.plain] at h1 h2;simp only [enc,List.cons_append,List.cons.injEq,true_and] at h;obtain ⟨e1,e2⟩:=yO xs ys r t h1 h2 h;exact ⟨by rw [e1],e2⟩
  | _=>simp [enc,D.plain] at h h2
 | .uDf,_,_,_,h,_,_=>by simp [D.plain] at h
 | .scr _,_,_,_,h,_,_=>by simp [D.plain] at h
 | .non,_,_,_,h,_,_=>by simp [D.plain] at h
 | .bl _,_,_,_,h,_,_=>by simp [D.plain] at h
 | .lst _,_,_,_,h,_,_=>by simp [D.plain] at h
 | .dct _,_,_,_,h,_,_=>by simp [D.plain] at h
theorem yO:∀(a b:List D) (r t:List Int),D.fG a=true->D.fG b=true->vQ a++r=vQ b++t->a=b/\r=t
 | [],[],r,t,_,_,h=>by simpa [vQ] using h
 | [],_::_,r,t,_,_,h=>by simp [vQ] at h
 | _::_,[],r,t,_,_,h=>by simp [vQ] at h
 | x::xs,y::ys,r,t,h1,h2,h=>by
  rw [D.fG,Bool.and_eq_true] at h1 h2;simp only [vQ,List.cons_append,List.cons.injEq,true_and,List.append_assoc] at h;obtain ⟨e1,e2⟩:=rP x y _ _ h1.1 h2.1 h;obtain ⟨e3,e4⟩:=yO xs ys r t h1.2 h2.2 e2;exact ⟨by rw [e1,e3],e4⟩
end
theorem V0 {a b:D} (h1:a.plain=true) (h2:b.plain=true) (h:enc a=enc b):a=b:=(rP a b [] [] h1 h2 (by rw [h])).1
theorem wI (p:List Int) (r t:List Int):p++r<p++t↔r<t:=by
 induction p with
 | nil=>rfl
 | cons x p ih=>rw [List.cons_append,List.cons_append,List.cons_lt_cons_iff];simp [ih]
theorem R_:∀(u v r t:List Int),(∀z,u++z≠v)->(∀z,v++z≠u)->(u++r<v++t↔u<v)
 | [],v,_,_,h,_=>absurd rfl (h v)
 | u,[],_,_,_,h=>absurd rfl (h u)
 | x::u,y::v,r,t,h1,h2=>by
  rw [List.cons_append,List.cons_append,List.cons_lt_cons_iff,List.cons_lt_cons_iff];by_cases e:x=y
  ·subst e;have:=R_ u v r t (fun z hz=>h1 z (by rw [List.cons_append,hz])) (fun z hz=>h2 z (by rw [List.cons_append,hz]));simp [this]
  ·simp [e]
theorem JM:∀(a b:List Nat),(a.map (fun (c:Nat)=>(c:Int)+1)++[0]<b.map (fun (c:Nat)=>(c:Int)+1)++[0])↔a<b
 | [],[]=>by simp
 | [],c::b=>by
  simp only [List.map_nil,List.nil_append,List.map_cons,List.cons_append,List.cons_lt_cons_iff,List.nil_lt_cons,iff_true]
  left;lia
 | c::a,[]=>by
  simp only [List.map_nil,List.nil_append,List.map_cons,List.cons_append,List.cons_lt_cons_iff,List.not_lt_nil,iff_false,not_or,not_and];exact ⟨by lia,fun h=>by lia⟩
 | c::a,d::b=>by
  simp only [List.map_cons,List.cons_append,List.cons_lt_cons_iff,JM a b];constructor
  ·rintro (h|⟨h,k⟩)
   ·left;lia
   ·right;exact ⟨by lia,k⟩
  ·rintro (h|⟨h,k⟩)
   ·left;lia
   ·right;exact ⟨by lia,k⟩
mutual
theorem wJ:∀(a b:D) (k:Bool),a.plain=true->b.plain=true->cM .lt a b=some k->k=decide (enc a<enc b)
 | .int i,.int j,k,_,_,h=>by
  rw [cM] at h;rw [<-Option.some.inj h];simp [enc,fD.int,List.cons_lt_cons_iff]
 | .str x,.str y,k,_,_,h=>by
  rw [cM] at h;rw [<-Option.some.inj h];have:=JM x.cps.toList y.cps.toList;simp only [enc,fD.str,JB,List.cons_lt_cons_iff,true_and];simp [this]
 | .tup xs,.tup ys,k,h1,h2,h=>by
  rw [D.plain] at h1 h2;rw [cM] at h;rw [yP xs ys k h1 h2 h];simp [enc,List.cons_lt_cons_iff]
 | .int _,.str _,_,_,_,h=>by simp [cM] at h
 | .int _,.tup _,_,_,_,h=>by simp [cM] at h
 | .int _,.uDf,_,_,_,h=>by simp [cM] at h
 | .int _,.scr _,_,_,_,h=>by simp [cM] at h
 | .int _,.non,_,_,_,h=>by simp [cM] at h
 | .int _,.bl _,_,_,_,h=>by simp [cM] at h
 | .int _,.lst _,_,_,_,h=>by simp [cM] at h
 | .int _,.dct _,_,_,_,h=>by simp [cM] at h
 | .str _,.int _,_,_,_,h=>by simp [cM] at h
 | .str _,.tup _,_,_,_,h=>by simp [cM] at h
 | .str _,.uDf,_,_,_,h=>by simp [cM] at h
 | .str _,.scr _,_,_,_,h=>by simp [cM] at h
 | .str _,.non,_,_,_,h=>by simp [cM] at h
 | .str _,.bl _,_,_,_,h=>by simp [cM] at h
 | .str _,.lst _,_,_,_,h=>by simp [cM] at h
 | .str _,.dct _,_,_,_,h=>by simp [cM] at h
 | .tup _,.int _,_,_,_,h=>by simp [cM] at h
 | .tup _,.str _,_,_,_,h=>by simp [cM] at h
 | .tup _,.uDf,_,_,_,h=>by simp [cM] at h
 | .tup _,.scr _,_,_,_,h=>by simp [cM] at h
 | .tup _,.non,_,_,_,h=>by simp [cM] at h
 | .tup _,.bl _,_,_,_,h=>by simp [cM] at h
 | .tup _,.lst _,_,_,_,h=>by simp [cM] at h
 | .tup _,.dct _,_,_,_,h=>by simp [cM] at h
 | .uDf,_,_,h,_,_=>by simp [D.plain] at h
 | .scr _,_,_,h,_,_=>by simp [D.plain] at h
 | .non,_,_,h,_,_=>by simp [D.plain] at h
 | .bl _,_,_,h,_,_=>by simp [D.plain] at h
 | .lst _,_,_,h,_,_=>by simp [D.plain] at h
 | .dct _,_,_,h,_,_=>by simp [D.plain] at h
theorem yP:∀(a b:List D) (k:Bool),D.fG a=true->D.fG b=true->cC .lt a b=some k->k=decide (vQ a<vQ b)
 | [],[],k,_,_,h=>by rw [cC] at h;rw [<-Option.some.inj h];simp [vQ,fD.nat]
 | [],y::ys,k,_,_,h=>by rw [cC] at h;rw [<-Option.some.inj h];simp [vQ,fD.nat,List.cons_lt_cons_iff]
 | x::xs,[],k,_,_,h=>by rw [cC] at h;rw [<-Option.some.inj h];simp [vQ,fD.nat,List.cons_lt_cons_iff]
 | x::xs,y::ys,k,h1,h2,h=>by
  rw [D.fG,Bool.and_eq_true] at h1 h2;rw [cC] at h;simp only [vQ,List.cons_lt_cons_iff,true_and,Int.lt_irrefl,false_or];cases e:eqD x y with
  | true=>
   rw [e,if_pos rfl] at h;have:=R9 x y h1.1 h2.1 e;subst this;rw [yP xs ys k h1.2 h2.2 h];simp [wI]
  | false=>
   rw [e,if_neg (by simp)] at h;rw [wJ x y k h1.1 h2.1 h];have hne:x≠y:=fun z=>by subst z;rw [yN x h1.1] at e;cases e
   have:=R_ (enc x) (enc y) (vQ xs) (vQ ys) (fun z hz=>hne (rP x y z [] h1.1 h2.1 (by simpa using hz)).1) (fun z hz=>hne (rP y x z [] h2.1 h1.1 (by simpa using hz)).1.symm);simp [this]
end
theorem JN (a b c:D) (h1:leE a b=true) (h2:leE b c=true):leE a c=true:=by
 simp only [leE,Bool.not_eq_true',decide_eq_false_iff_not] at *;exact fun h=>by
  rcases (inferInstance:Std.Trichotomous (α:=List Int) (·<·)) with _
  exact h1 (List.lt_of_le_of_lt (List.not_lt.mp h2) h)
theorem JP (a b:D):(leE a b||leE b a)=true:=by
 simp only [leE,Bool.or_eq_true,Bool.not_eq_true',decide_eq_false_iff_not];by_cases h:enc b<enc a
 ·right;exact List.lt_asymm h
 ·left;exact h
theorem d9 (ds:List D):(iW ds).Perm ds:=List.mergeSort_perm ds leE
theorem i_ (ds:List D):(iW ds).Pairwise fun a b=>leE a b=true:=List.pairwise_mergeSort (fun a b c=>JN a b c) (fun a b=>JP a b) ds
theorem oM {ds es:List D} (hp:∀d∈ds,d.plain=true) (h:ds.Perm es) (h1:ds.Pairwise fun a b=>leE a b=true) (h2:es.Pairwise fun a b=>leE a b=true):ds=es:=by
 refine List.Perm.eq_of_pairwise (le:=fun a b=>leE a b=true) (fun a b ha hb h1 h2=>?_) h1 h2 h;simp only [leE,Bool.not_eq_true',decide_eq_false_iff_not] at h1 h2;exact V0 (hp a ha) (hp b (h.mem_iff.mpr hb)) (List.le_antisymm h1 h2)
end Mi
end
section
namespace Mi
open PySem L2
class KFrag where
 K:PySem.W.Frag
variable [KFrag]
noncomputable def V1 (H:Hp) (a:Addr) (xs:List V):Prop:=(∃o,H a=some (.frz o (.lst xs)))\/
 ∃(o:Obj) (its:Array Value) (n:Nat),KFrag.K.lookup a=some o/\o.cls=.type "list"/\o.dict=none/\o.data=.seq its n/\its.size<=sizeLine/\Vals xs its.toList
theorem V1.sq {H:Hp} {a:Addr} {xs:List V} {K:PySem.W.Frag} (h:V1 H a xs) (hK:KFrag.K=K):SqL K H a xs:=by
 subst hK;rcases h with ⟨o,h⟩|h
 ·exact .inl (.inr ⟨o,h⟩)
 ·exact .inr h
noncomputable def kD:Key->D
 | .inl i=>.int i
 | .inr x=>.str x
noncomputable def FW:HO->Bool
 | .lst _=>true
 | .dK _=>true
 | .dT _=>true
 | _=>false
mutual
inductive Rep (P:Addr->Prop) (H:Hp):V->D->Prop
 | non:Rep P H .non .non
 | bl (b:Bool):Rep P H (.bl b) (.bl b)
 | int (i:Int):Rep P H (.int i) (.int i)
 | str (x:Str):Rep P H (.str x) (.str x)
 | tup {a:Addr} {xs:List V} {ds:List D}:H a=some (.tup xs)->a_ P H xs ds->Rep P H (.ref a) (.tup ds)
 | lst {a:Addr} {xs:List V} {ds:List D}:H a=some (.lst xs)->P a->a_ P H xs ds->Rep P H (.ref a) (.lst ds)
 | cel {a:Addr} {xs:List V} {ds:List D}:H a=some (.lst xs)->P a->a_ P H xs ds->Rep P H (.ref a) (.cel a ds)
 | frz {a:Addr} {xs:List V} {ds:List D}:V1 H a xs->a_ P H xs ds->Rep P H (.ref a) (.scr ds)
 | dK {a:Addr} {kvs:List (Key×V)} {ds:List (D×D)}:H a=some (.dK kvs)->P a->lO P H kvs ds->(kvs.map (·.1)).Nodup->Rep P H (.ref a) (.dct ds)
 | dT {a:Addr} {kvs:List (List Key×V)} {ds:List (D×D)}:H a=some (.dT kvs)->P a->lC P H kvs ds->(kvs.map (·.1)).Nodup->Rep P H (.ref a) (.dct ds)
 | fdK {a:Addr} {o:Obj} {kvs:List (Key×V)} {ds:List (D×D)}:H a=some (.frz o (.dK kvs))->lO P H kvs ds->(kvs.map (·.1)).Nodup->Rep P H (.ref a) (.fdc ds)
 | fdT {a:Addr} {o:Obj} {kvs:List (List Key×V)} {ds:List (D×D)}:H a=some (.frz o (.dT kvs))->lC P H kvs ds->(kvs.map (·.1)).Nodup->Rep P H (.ref a) (.fdc ds)
inductive a_ (P:Addr->Prop) (H:Hp):List V->List D->Prop
 | nil:a_ P H [] []
 | cons {v:V} {d:D} {vs:List V} {ds:List D}:Rep P H v d->a_ P H vs ds->a_ P H (v::vs) (d::ds)
inductive lO (P:Addr->Prop) (H:Hp):List (Key×V)->List (D×D)->Prop
 | nil:lO P H [] []
 | cons {k:Key} {v:V} {d:D} {r:List (Key×V)} {ds:List (D×D)}:Rep P H v d->lO P H r ds->lO P H ((k,v)::r) ((kD k,d)::ds)
inductive lC (P:Addr->Prop) (H:Hp):List (List Key×V)->List (D×D)->Prop
 | nil:lC P H [] []
 | cons {k:List Key} {v:V} {d:D} {r:List (List Key×V)} {ds:List (D×D)}:Rep P H v d->lC P H r ds->lC P H ((k,v)::r) ((.tup (k.map kD),d)::ds)
end
noncomputable def JQ (P:Addr->Prop) (H H':Hp):Prop:=∀a o,H a=some o->(P a\/FW o=false)->H' a=some o
theorem JQ.same {P:Addr->Prop} {H H':Hp} (h:bZ H H'):JQ P H H':=fun a o e _=>h a o e
mutual
theorem Rep.keep {P P':Addr->Prop} {H H':Hp} (k:JQ P H H') (m:∀a,P a->P' a):∀{v:V} {d:D},Rep P H v d->Rep P' H' v d
 | _,_,.non=>.non
 | _,_,.bl b=>.bl b
 | _,_,.int i=>.int i
 | _,_,.str x=>.str x
 | _,_,.tup e r=>.tup (k _ _ e (.inr rfl)) (a_.keep k m r)
 | _,_,.lst e p r=>.lst (k _ _ e (.inl p)) (m _ p) (a_.keep k m r)
 | _,_,.cel e p r=>.cel (k _ _ e (.inl p)) (m _ p) (a_.keep k m r)
 | _,_,.frz e r=>.frz (e.imp (fun ⟨o,e⟩=>⟨o,k _ _ e (.inr rfl)⟩) id) (a_.keep k m r)
 | _,_,.dK e p r n=>.dK (k _ _ e (.inl p)) (m _ p) (lO.keep k m r) n
 | _,_,.dT e p r n=>.dT (k _ _ e (.inl p)) (m _ p) (lC.keep k m r) n
 | _,_,.fdK e r n=>.fdK (k _ _ e (.inr rfl)) (lO.keep k m r) n
 | _,_,.fdT e r n=>.fdT (k _ _ e (.inr rfl)) (lC.keep k m r) n
theorem a_.keep {P P':Addr->Prop} {H H':Hp} (k:JQ P H H') (m:∀a,P a->P' a):∀{v:List V} {d:List D},a_ P H v d->a_ P' H' v d
 | _,_,.nil=>.nil
 | _,_,.cons r t=>.cons (Rep.keep k m r) (a_.keep k m t)
theorem lO.keep {P P':Addr->Prop} {H H':Hp} (k:JQ P H H') (m:∀a,P a->P' a):∀{v:List (Key×V)} {d:List (D×D)},lO P H v d->lO P' H' v d
 | _,_,.nil=>.nil
 | _,_,.cons r t=>.cons (Rep.keep k m r) (lO.keep k m t)
theorem lC.keep {P P':Addr->Prop} {H H':Hp} (k:JQ P H H') (m:∀a,P a->P' a):∀{v:List (List Key×V)} {d:List (D×D)},lC P H v d->lC P' H' v d
 | _,_,.nil=>.nil
 | _,_,.cons r t=>.cons (Rep.keep k m r) (lC.keep k m t)
end
theorem Rep.mono {P P':Addr->Prop} {H:Hp} {v:V} {d:D} (r:Rep P H v d) (m:∀a,P a->P' a):Rep P' H v d:=r.keep (fun _ _ e _=>e) m
theorem a_.mono {P P':Addr->Prop} {H:Hp} {v:List V} {d:List D} (r:a_ P H v d) (m:∀a,P a->P' a):a_ P' H v d:=r.keep (fun _ _ e _=>e) m
theorem Rep.same {P:Addr->Prop} {H H':Hp} {v:V} {d:D} (r:Rep P H v d) (s:bZ H H'):Rep P H' v d:=r.keep (.same s) fun _ h=>h
theorem a_.same {P:Addr->Prop} {H H':Hp} {v:List V} {d:List D} (r:a_ P H v d) (s:bZ H H'):a_ P H' v d:=r.keep (.same s) fun _ h=>h
mutual
theorem Rep.bD {P P':Addr->Prop} {H:Hp}:∀{v:V} {d:D},Rep P H v d->d.pure=true->Rep P' H v d
 | _,_,.non,_=>.non
 | _,_,.bl b,_=>.bl b
 | _,_,.int i,_=>.int i
 | _,_,.str x,_=>.str x
 | _,_,.tup e r,h=>.tup e (a_.bD r (by rw [D.pure] at h;exact h))
 | _,_,.lst _ _ _,h=>by rw [D.pure] at h;cases h
 | _,_,.cel _ _ _,h=>by rw [D.pure] at h;cases h
 | _,_,.frz e r,h=>.frz e (a_.bD r (by rw [D.pure] at h;exact h))
 | _,_,.dK _ _ _ _,h=>by rw [D.pure] at h;cases h
 | _,_,.dT _ _ _ _,h=>by rw [D.pure] at h;cases h
 | _,_,.fdK _ _ _,h=>by rw [D.pure] at h;cases h
 | _,_,.fdT _ _ _,h=>by rw [D.pure] at h;cases h
theorem a_.bD {P P':Addr->Prop} {H:Hp}:∀{v:List V} {d:List D},a_ P H v d->D.aR d=true->a_ P' H v d
 | _,_,.nil,_=>.nil
 | _,_,.cons r t,h=>by
  rw [D.aR,Bool.and_eq_true] at h;exact .cons (Rep.bD r h.1) (a_.bD t h.2)
end
theorem a_.length {P:Addr->Prop} {H:Hp}:∀{v:List V} {d:List D},a_ P H v d->v.length=d.length
 | _,_,.nil=>rfl
 | _,_,.cons _ t=>by rw [List.length_cons,List.length_cons,a_.length t]
theorem a_.get {P:Addr->Prop} {H:Hp}:∀{vs:List V} {ds:List D} {i:Nat} {d:D},a_ P H vs ds->ds[i]?=some d->∃v,vs[i]?=some v/\Rep P H v d
 | _,_,_,_,.nil,e=>by simp at e
 | _,_,0,_,.cons r _,e=>by simp at e;subst e;exact ⟨_,rfl,r⟩
 | _,_,i+1,d,.cons _ t,e=>by
  obtain ⟨v,h1,h2⟩:=a_.get (i:=i) (d:=d) t (by simpa using e);exact ⟨v,by simpa using h1,h2⟩
theorem a_.at {P:Addr->Prop} {H:Hp}:∀{vs:List V} {ds:List D} {i:Nat} {v:V},a_ P H vs ds->vs[i]?=some v->∃d,ds[i]?=some d/\Rep P H v d
 | _,_,_,_,.nil,e=>by simp at e
 | _,_,0,_,.cons r _,e=>by simp at e;subst e;exact ⟨_,rfl,r⟩
 | _,_,i+1,d,.cons _ t,e=>by
  obtain ⟨v,h1,h2⟩:=a_.at (i:=i) (v:=d) t (by simpa using e);exact ⟨v,by simpa using h1,h2⟩
theorem a_.append {P:Addr->Prop} {H:Hp}:∀{vs ws:List V} {ds es:List D},a_ P H vs ds->a_ P H ws es->a_ P H (vs++ws) (ds++es)
 | _,_,_,_,.nil,s=>s
 | _,_,_,_,.cons r t,s=>.cons r (a_.append t s)
theorem a_.take {P:Addr->Prop} {H:Hp}:∀{vs:List V} {ds:List D} (n:Nat),a_ P H vs ds->a_ P H (vs.take n) (ds.take n)
 | _,_,0,_=>.nil
 | _,_,_+1,.nil=>.nil
 | _,_,n+1,.cons r t=>.cons r (a_.take n t)
theorem a_.drop {P:Addr->Prop} {H:Hp}:∀{vs:List V} {ds:List D} (n:Nat),a_ P H vs ds->a_ P H (vs.drop n) (ds.drop n)
 | _,_,0,r=>r
 | _,_,_+1,.nil=>.nil
 | _,_,n+1,.cons _ t=>a_.drop n t
theorem a_.set {P:Addr->Prop} {H:Hp} {v:V} {d:D} (r:Rep P H v d):∀{vs:List V} {ds:List D} (n:Nat),a_ P H vs ds->a_ P H (vs.set n v) (ds.set n d)
 | _,_,_,.nil=>.nil
 | _,_,0,.cons _ t=>.cons r t
 | _,_,n+1,.cons q t=>.cons q (a_.set r n t)
theorem a_.snoc {P:Addr->Prop} {H:Hp} {vs:List V} {ds:List D} {v:V} {d:D} (t:a_ P H vs ds) (r:Rep P H v d):a_ P H (vs++[v]) (ds++[d]):=t.append (.cons r .nil)
theorem Rep.uDf {P:Addr->Prop} {H:Hp} {v:V}:¬Rep P H v .uDf:=fun h=>by cases h
noncomputable abbrev All:Addr->Prop:=fun _=>True
noncomputable abbrev New (H:Hp):Addr->Prop:=fun a=>H a=none
theorem Rep.all {P:Addr->Prop} {H:Hp} {v:V} {d:D} (r:Rep P H v d):Rep All H v d:=r.mono fun _ _=>trivial
theorem a_.all {P:Addr->Prop} {H:Hp} {v:List V} {d:List D} (r:a_ P H v d):a_ All H v d:=r.mono fun _ _=>trivial
theorem bZ.new {H H':Hp} (s:bZ H H'):∀a,New H' a->New H a:=fun a h=>s.free h
theorem bZ.upd {H:Hp} {a:Addr} {o:HO} (h:H a=none):bZ H (upd H a o):=fun b u e=>by rw [bI (cT e h)];exact e
noncomputable def ER (H:Hp) (σ:St) (ρ:List D):Prop:=∀i,ρ.getD i .uDf≠.uDf->∃v,σ[i]?=some (some v)/\Rep All H v (ρ.getD i .uDf)
theorem ER.same {H H':Hp} {σ:St} {ρ:List D} (e:ER H σ ρ) (s:bZ H H'):ER H' σ ρ:=fun i h=>by
 obtain ⟨v,h1,h2⟩:=e i h;exact ⟨v,h1,h2.same s⟩
section
variable (cf:Nat->List D->Res D) (ff:Nat->Bool)
end
theorem PE.imp {X:Cx} {e:PySem.Expr} {t t':TE} (h:PE X e t) (i:∀σ H Q,t' σ H Q->t σ H Q):PE X e t':=fun pins s σ H Q I q=>h pins s σ H Q I (i σ H Q q)
theorem PT.imp {X:Cx} {e:PySem.Expr} {t t':TT} (h:PT X e t) (i:∀σ H Q,t' σ H Q->t σ H Q):PT X e t':=fun pins s σ H Q I q=>h pins s σ H Q I (i σ H Q q)
theorem PA.imp {X:Cx} {e:List PySem.Expr} {t t':TA} (h:PA X e t) (i:∀σ H Q,t' σ H Q->t σ H Q):PA X e t':=fun pos pins s σ H Q I q=>h pos pins s σ H Q I (i σ H Q q)
end Mi
end
section
namespace L2
open PySem PySem.Spec PyProof.Rows
noncomputable def g_ (own:List Str) (x:Str):Str:=if own.contains x then x++(" " : Str) else x
noncomputable def clF (env:Env):List (Str×NameKind)->List (Str×Addr)->List (Str×Addr)
 | [],acc=>acc
 | (n,k)::r,acc=>clF env r (if k==.free then (n,(env.cells.lookup n).getD 0)::acc else acc)
theorem lX {env:Env}:∀(names:List (Str×NameKind)) (acc:List (Str×Addr)),(∀y∈names,y.2=.free->∃c,env.cells.lookup y.1=some c)->
  (forIn names acc fun x cs=>(match x with
   | (name,kind)=>if (kind==.free)=true then cellOf env name >>= fun c=>pure (ForInStep.yield ((name,c)::cs)) else pure (ForInStep.yield cs):Sem (ForInStep (List (Str×Addr)))))=(pure (clF env names acc):Sem _)
 | [],acc,_=>by rw [List.forIn_nil];rfl
 | (n,k)::r,acc,h=>by
  rw [List.forIn_cons];by_cases hk:(k==.free)=true
  ·have hk':k=.free:=by simpa using hk
   obtain ⟨c,e⟩:=h (n,k) (List.mem_cons_self ..) hk';have e':cellOf env n=pure c:=by
    unfold cellOf;have e2:env.cells.lookup n=some c:=e;rw [e2]
   dsimp only;rw [if_pos hk,e',pure_bind,pure_bind];dsimp only;rw [lX r _ fun y hy=>h y (List.mem_cons_of_mem _ hy)];have e2:env.cells.lookup n=some c:=e;simp only [clF,hk,if_true,e2,Option.getD_some]
  ·dsimp only;rw [if_neg hk,pure_bind];dsimp only;rw [lX r _ fun y hy=>h y (List.mem_cons_of_mem _ hy)];simp only [clF,hk,Bool.false_eq_true,if_false]
theorem lY {env:Env} {scope:Scope} (h:∀y∈scope.names,y.2=.free->∃c,env.cells.lookup y.1=some c):closureFor scope env=pure (clF env scope.names []):=by
 unfold closureFor;have:=lX (env:=env) scope.names [] h;simp only [bind_pure] at *;exact this
theorem oN {env:Env}:∀{names:List (Str×NameKind)} {acc:List (Str×Addr)} {x:Str} {c:Addr},(∀y∈names,y.2=.free->∃c,env.cells.lookup y.1=some c)->(∀x c,acc.lookup x=some c->env.cells.lookup x=some c)->
  (clF env names acc).lookup x=some c->env.cells.lookup x=some c
 | [],acc,x,c,_,h,e=>h x c e
 | (n,k)::r,acc,x,c,q,h,e=>by
  unfold clF at e;refine oN (fun y hy=>q y (List.mem_cons_of_mem _ hy)) (fun y d hy=>?_) e;by_cases hk:(k==.free)=true
  ·rw [if_pos hk,List.lookup_cons] at hy;obtain ⟨c',e'⟩:=q (n,k) (List.mem_cons_self ..) (by simpa using hk);have e2:env.cells.lookup n=some c':=e';cases hyn:y==n with
   | true=>
    rw [hyn] at hy;have:y=n:=by simpa using hyn
    subst this;rw [e2] at hy;simp only [Option.getD_some] at hy;rw [e2];exact hy
   | false=>rw [hyn] at hy;exact h y d hy
  ·rw [if_neg hk] at hy;exact h y d hy
theorem JR {env:Env}:∀{names:List (Str×NameKind)} {acc:List (Str×Addr)} {x:Str},(∃c,acc.lookup x=some c)->∃c,(clF env names acc).lookup x=some c
 | [],_,_,h=>h
 | (n,k)::r,acc,x,⟨c,h⟩=>by
  unfold clF;refine JR ?_;by_cases hk:(k==.free)=true
  ·rw [if_pos hk,List.lookup_cons];cases x==n with
   | true=>exact ⟨_,rfl⟩
   | false=>exact ⟨c,h⟩
  ·rw [if_neg hk];exact ⟨c,h⟩
theorem wK {env:Env}:∀{names:List (Str×NameKind)} {acc:List (Str×Addr)} {x:Str},(x,NameKind.free)∈names->∃c,(clF env names acc).lookup x=some c
 | (n,k)::r,acc,x,h=>by
  unfold clF;rcases List.mem_cons.mp h with e|h
  ·cases e;refine JR ?_;rw [if_pos (by decide),List.lookup_cons];simp
  ·exact wK h
structure dN (N:List Str) (sc scope:Scope) (own:List Str):Prop where
 kind:scope.kind=.function
 nocell:∀y∈scope.names,y.2≠.cell
 names:∀y∈scope.names,y.2=.local->scope.names.lookup y.1=some .local
 free:∀y∈scope.names,y.2=.free->sc.names.lookup y.1=some .cell\/sc.names.lookup y.1=some .free
 ownl:∀x∈own,scope.names.lookup x=some .local
 hid:∀x∈own,scope.names.lookup (x++(" " : Str))=none
 loc:∀y∈scope.names,y.2=.local->y.1∈own\/y.1∉N
structure dO (X X':Cx) (scope:Scope) (own:List Str):Prop where
 prog:X'.prog=X.prog
 w:X'.w=X.w
 K:X'.K=X.K
 mg:X'.mg=X.mg
 base:X'.base=X.base
 A:X'.A=X.A
 N:X'.N=X.N.map (g_ own)++own
 scope:X'.env.scope=relabel scope X.env
 calm:X'.calm=X.calm
 xe:X'.xe=fun _ _=>False
noncomputable def qJ (X:Cx) (scope:Scope) (cl:List (Str×Addr)) (C:Addr) (own:List Str) (s₂:Shared) (H₂:Hp) (fp:List Addr):Cx:=
 {X with N:=X.N.map (g_ own)++own,s₀:=s₂,H₀:=H₂,env:=compEnvC scope cl C X.env,outer:=X.stack,stack:=X.stack,ex:=fp,fn:=fun _=>false,pn:=[],xe:=fun _ _=>False}
theorem oO {X:Cx} {scope:Scope} {cl:List (Str×Addr)} {C:Addr} {own:List Str} {s₂:Shared} {H₂:Hp} {fp:List Addr}:dO X (qJ X scope cl C own s₂ H₂ fp) scope own:=
 ⟨rfl,rfl,rfl,rfl,rfl,rfl,rfl,rfl,rfl,rfl⟩
noncomputable def Ext (σ σ2:St):Prop:=σ2.length=σ.length/\∀(i:Nat) v,σ[i]?=some (some v)->σ2[i]?=some (some v)
noncomputable def JS (wi:TI) (g:TG) (tc:TT) (te:TE) (m:Nat):TE:=fun σ H Q=>wi σ H fun J H1=>∀p,H1 p=none->
 ∃W:Nat->Nat->List V->Hp->Prop,(∃n,W 0 n [] (upd H1 p (.lst [])))/\∀i n ys H,W i n ys H->H p=some (.lst ys)/\((J.stop i H/\Q (.ref p) H)\/(J.go i H/\ys.length<sizeLine/\
  ∀x H2,J.yld i H x H2->g x (σ++List.replicate m none) H2 fun σ2 H3=>Ext (σ++List.replicate m none) σ2/\tc σ2 H3 fun b H4=>if b=true then te σ2 H4 fun y H5=>H5 p=some (.lst ys)/\∃n',n'<n/\W (i+1) n' (ys++[y]) (upd H5 p (.lst (ys++[y])))
   else ∃n',n'<n/\W (i+1) n' ys H4))
theorem Un.but {fs ex:List Addr} {H H1:Hp} {h h1 h':Heap} {C:Addr} (u:Un fs ex H H1 h h1) (sb:Heap.SameBut C h1 h') (hC:h.objs.size<=C) (hx:C∉ex):Un fs ex H H1 h h':=by
 have ne:∀b o,h.get? b=some o->b≠C:=fun b o e=>Nat.ne_of_lt (Nat.lt_of_lt_of_le (Heap.lt_size e) hC)
 refine ⟨fun b o e n h1 h2=>sb.extBut b o (ne b o e) (u.keep b o e n h1 h2),fun b o e n h1 h2=>?_,u.free,fun b o e h2=>?_,u.tups,u.frzs,u.tbls⟩
 ·obtain ⟨sl,q⟩:=u.slot b o e n h1 h2;exact ⟨sl,sb.extBut b _ (ne b o e) q⟩
 ·obtain ⟨o',q⟩:=u.there b o e h2;exact ⟨o',sb.extBut b _ (ne b o e) q⟩
theorem HOk.but {P:Program} {w:World} {H:Hp} {h h':Heap} {C:Addr} (ok:HOk P w H h) (sb:Heap.SameBut C h h') (hC:H C=none):HOk P w H h':=fun a o e=>by
 refine (ok a o e).stay (fun b u hb q=>sb.extBut b u ?_ q) (fun _ q=>q) fun _ _ q=>q
 intro z;subst z;rcases hb with z|z
 ·subst z;rw [hC] at e;cases e
 ·rw [hC] at z;cases z
section
variable {X:Cx} {scope:Scope} {own:List Str}
theorem Inv.comp {pins:List (Addr×Obj)} {σ:St} {H2:Hp} {s2:Shared} {fp:List Addr} {h1:Heap} {t1:Nat} (I:Inv X pins σ H2 s2) (S:dN X.N X.env.scope scope own) (hf:∀b∈fp,O1 X pins H2 b)
  (hfx:∀b∈fp,b<s2.heap.objs.size) (hns:h1.Ns (s2.heap.objs.size+1) (fun _=>none))
  (hk:∀b o,s2.heap.get? b=some o->h1.get? b=some o) (hacc:h1.get? s2.heap.objs.size=some {cls:=.type "list",data:=.seq #[]}) :
  Inv (qJ X scope (clF X.env scope.names []) (s2.heap.objs.size+1) own s2 H2 fp) [] (σ++List.replicate own.length none) (upd H2 s2.heap.objs.size (.lst [])) {s2 with heap:=h1,toks:=t1}:=by
 have hD:H2 s2.heap.objs.size=none:=I.hok.fresh (Nat.le_refl _);have hC:H2 (s2.heap.objs.size+1)=none:=I.hok.fresh (Nat.le_succ _);have cells:∀y∈scope.names,y.2=.free->∃c,X.env.cells.lookup y.1=some c:=fun y hy hk=>I.ok.has y.1 (S.free y hy hk)
 have sub:∀x c,(clF X.env scope.names []).lookup x=some c->X.env.cells.lookup x=some c:=fun x c e=>oN cells (fun _ _ h=>by simp at h) e
 have relk:∀x,(relabel scope X.env).names.lookup x=some .cell\/(relabel scope X.env).names.lookup x=some .free->(x,NameKind.free)∈scope.names:=by
  intro x hx;have go:∀(l:List (Str×NameKind)),(∀y∈l,y.2≠.cell)->((l.map fun (n,k)=>if (k==NameKind.free&&X.env.scope.kind==.function&&X.env.kindOf n==some .cell) then (n,NameKind.cell) else (n,k)).lookup x=some .cell\/(l.map fun (n,k)=>if (k==NameKind.free&&X.env.scope.kind==.function&&X.env.kindOf n==some .cell) then (n,NameKind.cell) else (n,k)).lookup x=some .free)->(x,NameKind.free)∈l:=by
   intro l;induction l with
   | nil=>intro _ h;rcases h with h|h <;> simp at h
   | cons p l ih=>
    obtain ⟨n,k⟩:=p;intro nc h;rw [List.map_cons] at h;dsimp only at h;by_cases hc:(k==NameKind.free&&X.env.scope.kind==.function&&X.env.kindOf n==some .cell)=true
    ·rw [if_pos hc] at h;rw [List.lookup_cons] at h;cases e:x==n with
     | true=>
      have:x=n:=by simpa using e
      subst this;simp only [Bool.and_eq_true] at hc;have:k=.free:=by simpa using hc.1.1
      subst this;exact List.mem_cons_self ..
     | false=>
      rw [e] at h;exact List.mem_cons_of_mem _ (ih (fun y hy=>nc y (List.mem_cons_of_mem _ hy)) h)
    ·rw [if_neg hc] at h;rw [List.lookup_cons] at h;cases e:x==n with
     | true=>
      have:x=n:=by simpa using e
      subst this;rw [e] at h;dsimp only at h;rcases h with h|h
      ·exact absurd (Option.some.inj h) (nc (x,k) (List.mem_cons_self ..))
      ·have:=Option.some.inj h;subst this;exact List.mem_cons_self ..
     | false=>
      rw [e] at h;exact List.mem_cons_of_mem _ (ih (fun y hy=>nc y (List.mem_cons_of_mem _ hy)) h)
  exact go scope.names S.nocell hx
 have hne:s2.heap.objs.size≠s2.heap.objs.size+1:=Nat.ne_of_lt (Nat.lt_succ_self _);have hlt:∀b o,s2.heap.get? b=some o->b<s2.heap.objs.size:=fun b o e=>Heap.lt_size e
 have hstk:∀b∈frs X.stack,b<s2.heap.objs.size:=fun b hb=>by
  obtain ⟨_,o,ho,_⟩:=I.stack.mem hb;exact hlt b o ho
 refine ⟨⟨I.mod,?_,I.ok.glob,I.ok.blt,Nat.le_succ _,fun x y c e1 e2=>I.ok.inj x y c (sub x c e1) (sub y c e2),fun x hx=>?_,fun _ _ h=>(by cases h),I.ok.hd,I.ok.frames,.inl rfl,fun b hb=>?_,fun b o e=>I.bs b o e,?_,fun b o e hb=>?_,fun b hb hz=>?_,I.stack,I.GQ⟩,
  rfl,I.bare,Un.laid hk (Nat.le_refl _) hD,?_,fun x c e=>?_,?_,fun x c e=>?_,fun p hp=>(by simp [qJ] at hp),?_,?_⟩
 ·exact S.kind
 ·have hx':(relabel scope X.env).names.lookup x=some .cell\/(relabel scope X.env).names.lookup x=some .free:=hx;exact wK (relk x hx')
 ·refine ⟨Nat.ne_of_lt (Nat.lt_succ_of_lt (hfx b hb)),fun x c e z=>?_⟩;exact (hf b hb).2.2.2.2.1 x c (sub x c e) z
 ·exact Nat.le_trans I.ok.bsz I.sz
 ·rcases (hf b hb).2.2.2.1 with z|z
  ·exact I.ok.noex b o e z
  ·exact absurd (Nat.lt_of_lt_of_le (Heap.lt_size e) (Nat.le_trans I.ok.bsz z)) (Nat.lt_irrefl _)
 ·rcases List.mem_cons.mp (I.qC b hz) with z'|z'
  ·exact (hf b hb).2.1 z'
  ·exact (hf b hb).2.2.1 z'
 ·refine ⟨_,hns,fun i x v e1 e2 e3=>?_⟩;have hi:i<σ.length:=by
   rcases Nat.lt_or_ge i σ.length with h|h
   ·exact h
   ·rw [List.getElem?_append_right h,List.getElem?_replicate] at e2;split at e2 <;> cases e2
  rw [List.getElem?_append_left hi] at e2;have hiN:i<X.N.length:=by rw [<-I.len];exact hi
  have e1':(X.N.map (g_ own))[i]?=some x:=by
   have:(X.N.map (g_ own)++own)[i]?=some x:=e1;rwa [List.getElem?_append_left (by rw [List.length_map];exact hiN)] at this
  rw [List.getElem?_map] at e1';obtain ⟨y,hy,ey⟩:=Option.map_eq_some_iff.mp e1';have hyN:y∈X.N:=List.mem_of_getElem? hy;have e3':(relabel scope X.env).names.lookup x=some .local\/(relabel scope X.env).names.lookup x=some .cell\/(relabel scope X.env).names.lookup x=some .free:=e3;have keys:∀z k,(relabel scope X.env).names.lookup z=some k->∃k',scope.names.lookup z=some k'/\(k=.local->k'=.local):=by
   intro z k;show (scope.names.map fun (n,k)=>if (k==NameKind.free&&X.env.scope.kind==.function&&X.env.kindOf n==some .cell) then (n,NameKind.cell) else (n,k)).lookup z=some k->_;generalize scope.names=l;induction l with
   | nil=>intro h;simp at h
   | cons p l ih=>
    obtain ⟨n,k0⟩:=p;intro h;rw [List.map_cons] at h;dsimp only at h;by_cases hc:(k0==NameKind.free&&X.env.scope.kind==.function&&X.env.kindOf n==some .cell)=true
    ·rw [if_pos hc,List.lookup_cons] at h;rw [List.lookup_cons];cases e:z==n with
     | true=>
      rw [e] at h;dsimp only at h;cases h;exact ⟨k0,rfl,fun q=>by cases q⟩
     | false=>rw [e] at h;exact ih h
    ·rw [if_neg hc,List.lookup_cons] at h;rw [List.lookup_cons];cases e:z==n with
     | true=>
      rw [e] at h;dsimp only at h;cases h;exact ⟨_,rfl,fun q=>q⟩
     | false=>rw [e] at h;exact ih h
  by_cases hown:own.contains y=true
  ·exfalso;have ex:x=y++(" " : Str):=by rw [<-ey];unfold g_;rw [if_pos hown]
   have hn:=S.hid y (by simpa using hown);rw [<-ex] at hn;rcases e3' with q|q|q
   all_goals
    obtain ⟨k',hk',_⟩:=keys _ _ q;rw [hn] at hk';cases hk'
  ·have ex:x=y:=by rw [<-ey];unfold g_;rw [if_neg hown]
   subst ex;rcases e3' with q|q
   ·exfalso;obtain ⟨k',hk',hl⟩:=keys _ _ q;have:=hl rfl;subst this;rcases S.loc _ (PySem.mem_of_lookup hk') rfl with z|z
    ·exact hown (by simpa using z)
    ·exact z hyN
   ·have hfr:=relk x q;have hv:=S.free _ hfr rfl;obtain ⟨m,_,hl⟩:=I.loc;obtain ⟨u,ru,lk⟩:=hl i x v hy e2 (.inr hv);refine ⟨u,ru,.inr ⟨q,?_⟩⟩;rcases lk with ⟨z,_⟩|⟨_,c,hc,o,ho,hd⟩
    ·have z':X.env.scope.names.lookup x=some .local:=z;rcases hv with hv|hv <;> (rw [z'] at hv;cases hv)
    ·obtain ⟨c',hc'⟩:=wK (env:=X.env) (acc:=[]) hfr;have:=sub x c' hc';rw [hc] at this;cases this;exact ⟨c,hc',o,hk c o ho,hd⟩
 ·obtain ⟨v,z⟩:=I.cell x c (sub x c e);obtain ⟨o,ho,hd⟩:=z;exact ⟨v,o,hk c o ho,hd⟩
 ·show upd H2 _ _ (s2.heap.objs.size+1)=none;rw [bI (Ne.symm hne)];exact hC
 ·obtain ⟨v,o,ho,_⟩:=I.cell x c (sub x c e);show upd H2 _ _ c=none;rw [bI (Nat.ne_of_lt (hlt c o ho))];exact I.freeC x c (sub x c e)
 ·exact I.hok.laid hk (Nat.le_refl _) ⟨Nat.zero_le _,[],0,.nil,hacc⟩
 ·show (σ++List.replicate own.length none).length=(X.N.map (g_ own)++own).length;rw [List.length_append,List.length_append,List.length_replicate,List.length_map,I.len]
end
section
variable {X:Cx} {scope:Scope} {own:List Str}
theorem JT {elt iter tg c:Expr} {wi:TI} {g:TG} {tc:TT} {te:TE} {pos:Pos} (S:dN X.N X.env.scope scope own) (hcalm:X.calm=true) (hi:PI X tg iter wi)
  (hg:∀X',dO X X' scope own->PG X' tg g) (hc:∀X',dO X X' scope own->PT X' c tc) (he:∀X',dO X X' scope own->PE X' elt te)
  (hs:∀x,foldedSetIterable iter X.env x=pure x):PE X (.ListComp elt [⟨tg,iter,[c],0⟩] scope pos) (JS wi g tc te own.length):=by
 intro pins s σ H Q I h;rw [eval_ListComp];have cells:∀y∈scope.names,y.2=.free->∃c,X.env.cells.lookup y.1=some c:=fun y hy hk=>I.ok.has y.1 (S.free y hy hk)
 refine wpAny_comprehension_free (use:=none) rfl hs (lY cells) S.kind S.names (thn (hi pins s σ H _ I h) fun xv s1 h1=>thn h1 fun itv s2 h2=>?_);obtain ⟨it,fp,tn,J,H2,e,I2,T,st2,f2,hW⟩:=h2;subst e;have hD:H2 s2.heap.objs.size=none:=I2.hok.fresh (Nat.le_refl _);obtain ⟨W,⟨n0,w0⟩,turn⟩:=hW _ hD;have hfx:∀b∈fp,b<s2.heap.objs.size:=fun b hb=>by
  obtain ⟨o,ho,_⟩:=T.obj 0 _ st2 b hb;exact Heap.lt_size ho
 refine wpAny_newObj_type (wpAny_newFunctionEnv S.nocell (by intro y hy;simp at hy) (fun h₁ hns₁ hsb₁=>?_) S.kind);dsimp only at hns₁ hsb₁ ⊢;have hC:(s2.heap.push {cls:=.type "list",dict:=none,data:=.seq ([]:List Value).toArray}).objs.size=s2.heap.objs.size+1:=Heap.size_push ..;have hne:s2.heap.objs.size≠s2.heap.objs.size+1:=Nat.ne_of_lt (Nat.lt_succ_self _);rw [hC] at hns₁ hsb₁ ⊢;have old:∀b o,s2.heap.get? b=some o->h₁.get? b=some o:=fun b o e=>hsb₁.extBut b o (Nat.ne_of_lt (Nat.lt_succ_of_lt (Heap.lt_size e))) (Heap.get?_push_of_some _ (Heap.get?_push_of_some _ e))
 have hacc:h₁.get? s2.heap.objs.size=some {cls:=.type "list",data:=.seq #[]}:=hsb₁.extBut _ _ hne (Heap.get?_push_of_some _ (Heap.get?_push_size _ rfl));have I4:=Inv.comp (t1:=s2.toks+([]:List (Str×Value)).length) I2 S f2 hfx hns₁ old hacc;generalize hX':qJ X scope (clF X.env scope.names []) (s2.heap.objs.size+1) own s2 H2 fp=X' at I4;have cc:dO X X' scope own:=by rw [<-hX'];exact oO
 have eenv:X'.env=compEnvC scope (clF X.env scope.names []) (s2.heap.objs.size+1) X.env:=by rw [<-hX'];rfl
 have eA:X'.A=X.A:=cc.A;have ep:X'.prog=X.prog:=cc.prog;have ew:X'.w=X.w:=cc.w;have efs:X'.fs=frs X.stack:=by rw [<-hX'];rfl
 have eex:X'.ex=fp:=by rw [<-hX'];rfl
 have es0:X'.s₀=s2:=by rw [<-hX'];rfl
 have eH0:X'.H₀=H2:=by rw [<-hX'];rfl
 have epn:X'.pn=[]:=by rw [<-hX'];rfl
 have eK:X'.K=X.K:=cc.K;have exe:=cc.xe;have ecalm:X'.calm=true:=cc.calm.trans hcalm
 -- the iterator's records within the block
 have fpok:∀{H':Hp},(∀b∈fp,H' b=none)->∀b∈fp,O1 X' [] H' b:=fun {H'} hn b hb=>by
  obtain ⟨_,f1,f3,_,f5,_⟩:=f2 b hb;refine ⟨hn b hb,?_,?_,.inl (by rw [eex];exact hb),fun x c e=>?_,fun p hp=>by rw [epn] at hp;simp at hp⟩
  ·rw [eenv];exact Nat.ne_of_lt (Nat.lt_succ_of_lt (hfx b hb))
  ·rw [efs];intro z;rcases List.mem_cons.mp (I2.qC b z) with z|z
   ·exact f1 z
   ·exact f3 z
  ·rw [eenv] at e;exact f5 x c (oN cells (fun _ _ h=>by simp at h) e)
 have st4:tn 0 h₁:=T.keep _ _ _ st2 fun b _ o e=>old b o e
 have fr4:∀b∈fp,(upd H2 s2.heap.objs.size (.lst [])) b=none:=fun b hb=>by rw [bI (Nat.ne_of_lt (hfx b hb))];exact (f2 b hb).1
 have loop:∀s4:Shared,s4={s2 with heap:=h₁,toks:=s2.toks+([]:List (Str×Value)).length}->
   codeAny (model X.prog X.w) X.A (.compLoop (.ListComp elt [⟨tg,iter,[c],0⟩] scope pos) 0 (.ref it) (.ref s2.heap.objs.size) X'.env)
    (compPost (model X.prog X.w) X.A X.xe none (EP X pins σ Q) (.ref s2.heap.objs.size) (s2.heap.objs.size+1)) s4:=by
  rintro s4 rfl;refine PySem.W.kct_loop (fun n s'=>∃i ys H',Inv X' [] (σ++List.replicate own.length none) H' s'/\tn i s'.heap/\(∀b∈fp,H' b=none)/\W i n ys H') ?_ n0 ⟨0,[],_,I4,st4,fr4,w0⟩;rintro n s5 ⟨i,ys,H5,I5,st5,fr5,w5⟩;obtain ⟨hacc5,tr⟩:=turn i n ys H5 w5;rcases tr with ⟨stop,q⟩|⟨go,hlen,step⟩
  ·have done:=T.done X' ep ew eK ecalm i [] s5 _ H5 (notedBy (model X.prog X.w) X.A X'.env fun e s'=>compPost (model X.prog X.w) X.A X.xe none (EP X pins σ Q) (.ref s2.heap.objs.size) (s2.heap.objs.size+1) (.error e) s') I5 (fpok fr5) st5 stop;rw [eA] at done;refine thn done fun r s6 ⟨hr,I6⟩=>?_
   subst hr;obtain ⟨m6,hn6,_⟩:=id I6.loc;rw [eenv] at hn6;refine ⟨m6,hn6,fun h' sb=>⟨.ref s2.heap.objs.size,H5,?_,rfl,q⟩⟩;have u6:Un (frs X.stack) fp H2 H5 s2.heap s6.heap:=by
    have:=I6.base;rw [efs,eex,eH0,es0] at this;exact this
   have hCn:H5 (s2.heap.objs.size+1)=none:=by
    have:=I6.free;rw [eenv] at this;exact this
   have u7:=u6.but sb (Nat.le_succ _) (fun z=>absurd (hfx _ z) (Nat.not_lt.mpr (Nat.le_succ _)));have hok7:HOk X.prog X.w H5 h':=by
    have:=I6.hok;rw [ep,ew] at this;exact this.but sb hCn
   have hos:s6.os=s2.os:=by have:=I6.os;rw [es0] at this;exact this
   obtain ⟨hh,gg,dd,tt,oo⟩:=s6;obtain rfl:oo=s2.os:=hos;have fin:=Inv.call (h':=h') (g':=gg) (d':=dd) (t':=tt) (ch:=fp) I2 u7 hok7 I6.bare fun b hb=>⟨(f2 b hb).2.2.2.1,(f2 b hb).2.1,(f2 b hb).2.2.2.2.1,(f2 b hb).2.2.2.2.2⟩
   exact fin
  ·have item:=T.item X' ep ew eK ecalm i [] s5 _ H5 (notedBy (model X.prog X.w) X.A X'.env fun e s'=>compPost (model X.prog X.w) X.A X.xe none (EP X pins σ Q) (.ref s2.heap.objs.size) (s2.heap.objs.size+1) (.error e) s') I5 (fpok fr5) st5 go;rw [eA] at item;refine thn item fun r s6 ⟨u,hr,h6⟩=>?_
   subst hr;refine thn h6 fun _ s7 ⟨x,H7,I7,r7,y7,st7,fr7⟩=>?_
   have I7':=I7.pinned (fpok fr7) (T.obj _ _ st7);have hg':=hg X' cc _ s7 _ H7 x u _ I7' r7 (step x H7 y7);rw [ep,ew,eA,exe] at hg';refine wpAny_mono hg' (fun _ s8 ⟨σ8,H8,I8,ext8,q8⟩=>?_) fun _ _ z=>False.elim z
   have back:∀{ys':List V} {H9:Hp} {s9:Shared} {σ9:St},Ext (σ++List.replicate own.length none) σ9->Inv X' ([]++nT fp s7.heap) σ9 H9 s9->(∃n',n'<n/\W (i+1) n' ys' H9)->∃m,m<n/\∃i ys H',Inv X' [] (σ++List.replicate own.length none) H' s9/\tn i s9.heap/\(∀b∈fp,H' b=none)/\W i m ys H':=by
    rintro ys' H9 s9 σ9 ex9 I9 ⟨n',hn',w9⟩;refine ⟨n',hn',i+1,ys',H9,(I9.weak ex9.1.symm ex9.2).gW,T.keep _ _ _ st7 fun b hb o e=>(I9.pin (b,o) (List.mem_append_right _ (List.mem_append_right _ (dC hb e)))).1,fun b hb=>?_,w9⟩;obtain ⟨o,e,d⟩:=T.obj _ _ st7 b hb;exact (I9.pin (b,o) (List.mem_append_right _ (List.mem_append_right _ (dC hb e)))).2.1
   have hc':=hc X' cc _ s8 _ H8 _ I8 q8;rw [ep,ew,eA,exe] at hc';refine wpAny_mono hc' (fun b s9 ⟨H9,I9,q9⟩=>?_) fun _ _ z=>False.elim z
   cases b with
   | false=>
    simp only [Bool.false_eq_true,if_false] at q9 ⊢;exact back ext8 I9 q9
   | true=>
    simp only [if_true] at q9 ⊢;have he':=he X' cc _ s9 _ H9 _ I9 q9;rw [ep,ew,eA,exe] at he';refine wpAny_mono he' (fun yv s10 ⟨y,H10,I10,r10,p10,q10⟩=>?_) fun _ _ z=>False.elim z
    have hm:=kJ (X:=X') _ s10 σ8 H10 (.ref s2.heap.objs.size) [y] (.ref s2.heap.objs.size) [yv] (fun _ H11=>∃n',n'<n/\W (i+1) n' (ys++[y]) H11) I10 rfl (.cons r10 .nil) ⟨s2.heap.objs.size,ys,y,rfl,rfl,p10,hlen,q10⟩;rw [ep,ew,eA,exe] at hm;exact wpAny_mono hm (fun _ s11 ⟨_,H11,I11,_,q11⟩=>back ext8 I11 q11) fun _ _ z=>False.elim z
 have l4:=loop _ rfl;rw [eenv] at l4;exact codeAny_compStart_list l4 (T.self X.A 0 _ _ _ st4 l4)
theorem QH {elt iter tg:Expr} {wi:TI} {g:TG} {te:TE} {pos:Pos} (S:dN X.N X.env.scope scope own) (hcalm:X.calm=true) (hi:PI X tg iter wi)
  (hg:∀X',dO X X' scope own->PG X' tg g) (he:∀X',dO X X' scope own->PE X' elt te)
  (hs:∀x,foldedSetIterable iter X.env x=pure x):PE X (.ListComp elt [⟨tg,iter,[],0⟩] scope pos) (JS wi g (fun _ H Q=>Q true H) te own.length):=by
 intro pins s σ H Q I h;rw [eval_ListComp];have cells:∀y∈scope.names,y.2=.free->∃c,X.env.cells.lookup y.1=some c:=fun y hy hk=>I.ok.has y.1 (S.free y hy hk)
 refine wpAny_comprehension_free (use:=none) rfl hs (lY cells) S.kind S.names (thn (hi pins s σ H _ I h) fun xv s1 h1=>thn h1 fun itv s2 h2=>?_);obtain ⟨it,fp,tn,J,H2,e,I2,T,st2,f2,hW⟩:=h2;subst e;have hD:H2 s2.heap.objs.size=none:=I2.hok.fresh (Nat.le_refl _);obtain ⟨W,⟨n0,w0⟩,turn⟩:=hW _ hD;have hfx:∀b∈fp,b<s2.heap.objs.size:=fun b hb=>by
  obtain ⟨o,ho,_⟩:=T.obj 0 _ st2 b hb;exact Heap.lt_size ho
 refine wpAny_newObj_type (wpAny_newFunctionEnv S.nocell (by intro y hy;simp at hy) (fun h₁ hns₁ hsb₁=>?_) S.kind);dsimp only at hns₁ hsb₁ ⊢;have hC:(s2.heap.push {cls:=.type "list",dict:=none,data:=.seq ([]:List Value).toArray}).objs.size=s2.heap.objs.size+1:=Heap.size_push ..;have hne:s2.heap.objs.size≠s2.heap.objs.size+1:=Nat.ne_of_lt (Nat.lt_succ_self _);rw [hC] at hns₁ hsb₁ ⊢;have old:∀b o,s2.heap.get? b=some o->h₁.get? b=some o:=fun b o e=>hsb₁.extBut b o (Nat.ne_of_lt (Nat.lt_succ_of_lt (Heap.lt_size e))) (Heap.get?_push_of_some _ (Heap.get?_push_of_some _ e))
 have hacc:h₁.get? s2.heap.objs.size=some {cls:=.type "list",data:=.seq #[]}:=hsb₁.extBut _ _ hne (Heap.get?_push_of_some _ (Heap.get?_push_size _ rfl));have I4:=Inv.comp (t1:=s2.toks+([]:List (Str×Value)).length) I2 S f2 hfx hns₁ old hacc;generalize hX':qJ X scope (clF X.env scope.names []) (s2.heap.objs.size+1) own s2 H2 fp=X' at I4;have cc:dO X X' scope own:=by rw [<-hX'];exact oO
 have eenv:X'.env=compEnvC scope (clF X.env scope.names []) (s2.heap.objs.size+1) X.env:=by rw [<-hX'];rfl
 have eA:X'.A=X.A:=cc.A;have ep:X'.prog=X.prog:=cc.prog;have ew:X'.w=X.w:=cc.w;have efs:X'.fs=frs X.stack:=by rw [<-hX'];rfl
 have eex:X'.ex=fp:=by rw [<-hX'];rfl
 have es0:X'.s₀=s2:=by rw [<-hX'];rfl
 have eH0:X'.H₀=H2:=by rw [<-hX'];rfl
 have epn:X'.pn=[]:=by rw [<-hX'];rfl
 have eK:X'.K=X.K:=cc.K;have exe:=cc.xe;have ecalm:X'.calm=true:=cc.calm.trans hcalm
 -- the iterator's records within the block
 have fpok:∀{H':Hp},(∀b∈fp,H' b=none)->∀b∈fp,O1 X' [] H' b:=fun {H'} hn b hb=>by
  obtain ⟨_,f1,f3,_,f5,_⟩:=f2 b hb;refine ⟨hn b hb,?_,?_,.inl (by rw [eex];exact hb),fun x c e=>?_,fun p hp=>by rw [epn] at hp;simp at hp⟩
  ·rw [eenv];exact Nat.ne_of_lt (Nat.lt_succ_of_lt (hfx b hb))
  ·rw [efs];intro z;rcases List.mem_cons.mp (I2.qC b z) with z|z
   ·exact f1 z
   ·exact f3 z
  ·rw [eenv] at e;exact f5 x c (oN cells (fun _ _ h=>by simp at h) e)
 have st4:tn 0 h₁:=T.keep _ _ _ st2 fun b _ o e=>old b o e
 have fr4:∀b∈fp,(upd H2 s2.heap.objs.size (.lst [])) b=none:=fun b hb=>by rw [bI (Nat.ne_of_lt (hfx b hb))];exact (f2 b hb).1
 have loop:∀s4:Shared,s4={s2 with heap:=h₁,toks:=s2.toks+([]:List (Str×Value)).length}->
   codeAny (model X.prog X.w) X.A (.compLoop (.ListComp elt [⟨tg,iter,[],0⟩] scope pos) 0 (.ref it) (.ref s2.heap.objs.size) X'.env)
    (compPost (model X.prog X.w) X.A X.xe none (EP X pins σ Q) (.ref s2.heap.objs.size) (s2.heap.objs.size+1)) s4:=by
  rintro s4 rfl;refine PySem.W.kcp_loop (fun n s'=>∃i ys H',Inv X' [] (σ++List.replicate own.length none) H' s'/\tn i s'.heap/\(∀b∈fp,H' b=none)/\W i n ys H') ?_ n0 ⟨0,[],_,I4,st4,fr4,w0⟩;rintro n s5 ⟨i,ys,H5,I5,st5,fr5,w5⟩;obtain ⟨hacc5,tr⟩:=turn i n ys H5 w5;rcases tr with ⟨stop,q⟩|⟨go,hlen,step⟩
  ·have done:=T.done X' ep ew eK ecalm i [] s5 _ H5 (notedBy (model X.prog X.w) X.A X'.env fun e s'=>compPost (model X.prog X.w) X.A X.xe none (EP X pins σ Q) (.ref s2.heap.objs.size) (s2.heap.objs.size+1) (.error e) s') I5 (fpok fr5) st5 stop;rw [eA] at done;refine thn done fun r s6 ⟨hr,I6⟩=>?_
   subst hr;obtain ⟨m6,hn6,_⟩:=id I6.loc;rw [eenv] at hn6;refine ⟨m6,hn6,fun h' sb=>⟨.ref s2.heap.objs.size,H5,?_,rfl,q⟩⟩;have u6:Un (frs X.stack) fp H2 H5 s2.heap s6.heap:=by
    have:=I6.base;rw [efs,eex,eH0,es0] at this;exact this
   have hCn:H5 (s2.heap.objs.size+1)=none:=by
    have:=I6.free;rw [eenv] at this;exact this
   have u7:=u6.but sb (Nat.le_succ _) (fun z=>absurd (hfx _ z) (Nat.not_lt.mpr (Nat.le_succ _)));have hok7:HOk X.prog X.w H5 h':=by
    have:=I6.hok;rw [ep,ew] at this;exact this.but sb hCn
   have hos:s6.os=s2.os:=by have:=I6.os;rw [es0] at this;exact this
   obtain ⟨hh,gg,dd,tt,oo⟩:=s6;obtain rfl:oo=s2.os:=hos;have fin:=Inv.call (h':=h') (g':=gg) (d':=dd) (t':=tt) (ch:=fp) I2 u7 hok7 I6.bare fun b hb=>⟨(f2 b hb).2.2.2.1,(f2 b hb).2.1,(f2 b hb).2.2.2.2.1,(f2 b hb).2.2.2.2.2⟩
   exact fin
  ·have item:=T.item X' ep ew eK ecalm i [] s5 _ H5 (notedBy (model X.prog X.w) X.A X'.env fun e s'=>compPost (model X.prog X.w) X.A X.xe none (EP X pins σ Q) (.ref s2.heap.objs.size) (s2.heap.objs.size+1) (.error e) s') I5 (fpok fr5) st5 go;rw [eA] at item;refine thn item fun r s6 ⟨u,hr,h6⟩=>?_
   subst hr;refine thn h6 fun _ s7 ⟨x,H7,I7,r7,y7,st7,fr7⟩=>?_
   have I7':=I7.pinned (fpok fr7) (T.obj _ _ st7);have hg':=hg X' cc _ s7 _ H7 x u _ I7' r7 (step x H7 y7);rw [ep,ew,eA,exe] at hg';refine wpAny_mono hg' (fun _ s8 ⟨σ8,H8,I8,ext8,q8⟩=>?_) fun _ _ z=>False.elim z
   have back:∀{ys':List V} {H9:Hp} {s9:Shared} {σ9:St},Ext (σ++List.replicate own.length none) σ9->Inv X' ([]++nT fp s7.heap) σ9 H9 s9->(∃n',n'<n/\W (i+1) n' ys' H9)->∃m,m<n/\∃i ys H',Inv X' [] (σ++List.replicate own.length none) H' s9/\tn i s9.heap/\(∀b∈fp,H' b=none)/\W i m ys H':=by
    rintro ys' H9 s9 σ9 ex9 I9 ⟨n',hn',w9⟩;refine ⟨n',hn',i+1,ys',H9,(I9.weak ex9.1.symm ex9.2).gW,T.keep _ _ _ st7 fun b hb o e=>(I9.pin (b,o) (List.mem_append_right _ (List.mem_append_right _ (dC hb e)))).1,fun b hb=>?_,w9⟩;obtain ⟨o,e,d⟩:=T.obj _ _ st7 b hb;exact (I9.pin (b,o) (List.mem_append_right _ (List.mem_append_right _ (dC hb e)))).2.1
   simp only [if_true] at q8;have he':=he X' cc _ s8 _ H8 _ I8 q8;rw [ep,ew,eA,exe] at he';refine wpAny_mono he' (fun yv s10 ⟨y,H10,I10,r10,p10,q10⟩=>?_) fun _ _ z=>False.elim z
   have hm:=kJ (X:=X') _ s10 σ8 H10 (.ref s2.heap.objs.size) [y] (.ref s2.heap.objs.size) [yv] (fun _ H11=>∃n',n'<n/\W (i+1) n' (ys++[y]) H11) I10 rfl (.cons r10 .nil) ⟨s2.heap.objs.size,ys,y,rfl,rfl,p10,hlen,q10⟩;rw [ep,ew,eA,exe] at hm;exact wpAny_mono hm (fun _ s11 ⟨_,H11,I11,_,q11⟩=>back ext8 I11 q11) fun _ _ z=>False.elim z
 have l4:=loop _ rfl;rw [eenv] at l4;exact codeAny_compStart_list l4 (T.self X.A 0 _ _ _ st4 l4)
end
end L2
end
section
namespace Mi
open PySem L2 PySem.SeqAt
variable [KFrag]
theorem d8 {X:Cx} {pins:List (Addr×Obj)} {σ:St} {H:Hp} {s:Shared} {a:Addr} {xs:List V} (I:Inv X pins σ H s) (e:H a=some (.tup xs)):∃its:List Value,Vals xs its/\s.heap.IsTuple a its.toArray:=by
 obtain ⟨_,its,r,p⟩:xs.length<=sizeLine/\∃its:List Value,Vals xs its/\iI s.heap a its.toArray:=I.hok a _ e;exact ⟨its,r,p.tup⟩
theorem iJ {X:Cx} {pins:List (Addr×Obj)} {σ:St} {H:Hp} {s:Shared} {a:Addr} {xs:List V} (I:Inv X pins σ H s) (e:SqL X.K H a xs):∃its:List Value,Vals xs its/\s.heap.IsList a its.toArray:=by
 obtain ⟨its,r,p,_⟩:=I.list e;exact ⟨its,r,p.isList⟩
theorem Rep.fV {P:Addr->Prop} {H:Hp} {K:PySem.W.Frag} {v:V} {ds:List D} (r:Rep P H v (.lst ds)):∃a xs,v=.ref a/\SqL K H a xs/\a_ P H xs ds:=by
 cases r with
 | lst e p r=>exact ⟨_,_,rfl,.inl (.inl e),r⟩
theorem Rep.dR {P:Addr->Prop} {H:Hp} {v:V} {ds:List D} (r:Rep P H v (.tup ds)):∃a xs,v=.ref a/\H a=some (.tup xs)/\a_ P H xs ds:=by
 cases r with
 | tup e r=>exact ⟨_,_,rfl,e,r⟩
mutual
theorem rQ:∀(n:Nat) (d:D),d.bM n=true->eqD d d=true
 | _,.non,_=>rfl
 | _,.bl b,_=>by simp [eqD]
 | _,.int i,_=>by simp [eqD]
 | _,.str x,_=>by simp [eqD]
 | n+1,.tup xs,h=>by rw [D.bM] at h;rw [eqD];exact oR n xs h
 | n+1,.lst xs,h=>by rw [D.bM] at h;rw [eqD];exact oR n xs h
 | 0,.tup xs,h=>by simp [D.bM] at h
 | 0,.lst xs,h=>by simp [D.bM] at h
 | n,.dct _,h=>by cases n <;> simp [D.bM] at h
 | n,.uDf,h=>by cases n <;> simp [D.bM] at h
 | n,.scr _,h=>by cases n <;> simp [D.bM] at h
 | n,.fdc _,h=>by cases n <;> simp [D.bM] at h
 | n,.cel _ _,h=>by cases n <;> simp [D.bM] at h
theorem oR:∀(n:Nat) (ds:List D),D.gZ n ds=true->pQ ds ds=true
 | _,[],_=>rfl
 | n,d::ds,h=>by
  rw [D.gZ,Bool.and_eq_true] at h;rw [pQ,rQ n d h.1,oR n ds h.2];rfl
end
mutual
theorem Rep.inj {P P':Addr->Prop} {H:Hp}:∀(n:Nat) {v:V} {d e:D},d.bM n=true->e.bM n=true->Rep P H v d->Rep P' H v e->d=e
 | _,_,_,_,_,_,.non,.non=>rfl
 | _,_,_,_,_,_,.bl _,.bl _=>rfl
 | _,_,_,_,_,_,.int _,.int _=>rfl
 | _,_,_,_,_,_,.str _,.str _=>rfl
 | n+1,_,.tup ds,_,h,h',.tup e1 r1,q=>by
  cases q with
  | tup e2 r2=>
   rw [e1] at e2;cases e2;rw [D.bM] at h h';rw [a_.inj n h h' r1 r2]
  | lst e2 _ _=>rw [e1] at e2;cases e2
  | frz e2 _=>simp [D.bM] at h'
  | fdK e2 _ _=>simp [D.bM] at h'
  | cel e2 _ _=>simp [D.bM] at h'
  | fdT e2 _ _=>simp [D.bM] at h'
  | dK e2 _ _ _=>rw [e1] at e2;cases e2
  | dT e2 _ _ _=>rw [e1] at e2;cases e2
 | n+1,_,.lst ds,_,h,h',.lst e1 p r1,q=>by
  cases q with
  | tup e2 r2=>rw [e1] at e2;cases e2
  | lst e2 _ r2=>
   rw [e1] at e2;cases e2;rw [D.bM] at h h';rw [a_.inj n h h' r1 r2]
  | frz e2 _=>simp [D.bM] at h'
  | fdK e2 _ _=>simp [D.bM] at h'
  | cel e2 _ _=>simp [D.bM] at h'
  | fdT e2 _ _=>simp [D.bM] at h'
  | dK e2 _ _ _=>rw [e1] at e2;cases e2
  | dT e2 _ _ _=>rw [e1] at e2;cases e2
 | 0,_,.tup ds,_,h,_,_,_=>by simp [D.bM] at h
 | 0,_,.lst ds,_,h,_,_,_=>by simp [D.bM] at h
 | n,_,.dct _,_,h,_,_,_=>by cases n <;> simp [D.bM] at h
 | n,_,.scr _,_,h,_,_,_=>by cases n <;> simp [D.bM] at h
 | n,_,.fdc _,_,h,_,_,_=>by cases n <;> simp [D.bM] at h
 | n,_,.cel _ _,_,h,_,_,_=>by cases n <;> simp [D.bM] at h
theorem a_.inj {P P':Addr->Prop} {H:Hp}:∀(n:Nat) {v:List V} {d e:List D},D.gZ n d=true->D.gZ n e=true->a_ P H v d->a_ P' H v e->d=e
 | _,_,_,_,_,_,.nil,.nil=>rfl
 | n,_,_,_,h,h',.cons r t,.cons r' t'=>by
  rw [D.gZ,Bool.and_eq_true] at h h';rw [Rep.inj n h.1 h'.1 r r',a_.inj n h.2 h'.2 t t']
end
theorem lZ:∀(xs ys:List D),pQ xs ys=((List.range (min xs.length ys.length)).all (fun j=>eqD (xs.getD j .non) (ys.getD j .non))&&xs.length==ys.length)
 | [],[]=>by simp [pQ]
 | [],y::ys=>by simp [pQ]
 | x::xs,[]=>by simp [pQ]
 | x::xs,y::ys=>by
  have e:min (x::xs).length (y::ys).length=min xs.length ys.length+1:=by simp only [List.length_cons];lia
  rw [pQ,lZ xs ys,e,List.range_succ_eq_map,List.all_cons,List.all_map,Bool.and_assoc]
  congr 1
  simp [Function.comp_def]
theorem dU {n:Nat}:∀{ds:List D} {j:Nat},D.gZ n ds=true->j<ds.length->(ds.getD j .non).bM n=true
 | [],j,_,h=>by simp at h
 | d::ds,0,h,_=>by rw [D.gZ,Bool.and_eq_true] at h;exact h.1
 | d::ds,j+1,h,hj=>by
  rw [D.gZ,Bool.and_eq_true] at h;simpa using dU (ds:=ds) (j:=j) h.2 (by simpa using hj)
theorem a_.getD {P:Addr->Prop} {H:Hp} {vs:List V} {ds:List D} {j:Nat} (r:a_ P H vs ds) (hj:j<ds.length):∃v,vs[j]?=some v/\Rep P H v (ds.getD j .non):=by
 obtain ⟨v,h1,h2⟩:=r.get (i:=j) (d:=ds.getD j .non) (by simp [hj]);exact ⟨v,h1,h2⟩
section
variable {X:Cx} {pins:List (Addr×Obj)} {σ:St} {H:Hp} {s:Shared}
theorem yQ (I:Inv X pins σ H s):∀(n:Nat) (A:Around) {x y:V} {a b:D} {u v:Value},A.units+n<cLine->a.bM n=true->b.bM n=true->Rep All H x a->Rep All H y b->RelV x u->RelV y v->
  RcAt A s u v (eqD a b)/\RcNeAt A s u v (!eqD a b)/\EqAt A s u v (eqD a b):=by
 intro n;induction n with
 | zero=>
  intro A x y a b u v hu ha hb rx ry ru rv;cases rx with
  | non=>
   cases ru;cases ry with
   | non=>cases rv;exact ⟨RcAt.none_none,RcNeAt.none_none,EqAt.same _⟩
   | bl _=>cases rv;exact ⟨RcAt.none_bool _,RcNeAt.none_bool _,EqAt.none_bool _⟩
   | int _=>obtain ⟨t,rfl⟩:=rv;exact ⟨RcAt.none_int _ _,RcNeAt.none_int _ _,EqAt.none_int _ _⟩
   | str _=>obtain ⟨t,rfl⟩:=rv;exact ⟨RcAt.none_str _ _,RcNeAt.none_str _ _,EqAt.none_str _ _⟩
   | _=>simp [D.bM] at hb
  | bl _=>
   cases ru;cases ry with
   | non=>cases rv;exact ⟨RcAt.bool_none _,RcNeAt.bool_none _,EqAt.bool_none _⟩
   | bl _=>cases rv;exact ⟨RcAt.bool_bool _ _,RcNeAt.bool_bool _ _,EqAt.bool_bool _ _⟩
   | int _=>obtain ⟨t,rfl⟩:=rv;exact ⟨RcAt.bool_int _ _ _,RcNeAt.bool_int _ _ _,EqAt.bool_int _ _ _⟩
   | str _=>obtain ⟨t,rfl⟩:=rv;exact ⟨RcAt.bool_str _ _ _,RcNeAt.bool_str _ _ _,EqAt.bool_str _ _ _⟩
   | _=>simp [D.bM] at hb
  | int _=>
   obtain ⟨t,rfl⟩:=ru;cases ry with
   | non=>cases rv;exact ⟨RcAt.int_none _ _,RcNeAt.int_none _ _,EqAt.int_none _ _⟩
   | bl _=>cases rv;exact ⟨RcAt.int_bool _ _ _,RcNeAt.int_bool _ _ _,EqAt.int_bool _ _ _⟩
   | int _=>obtain ⟨t',rfl⟩:=rv;exact ⟨RcAt.int_int _ _ _ _,RcNeAt.int_int _ _ _ _,EqAt.int_int _ _ _ _⟩
   | str _=>obtain ⟨t',rfl⟩:=rv;exact ⟨RcAt.int_str _ _ _ _,RcNeAt.int_str _ _ _ _,EqAt.int_str _ _ _ _⟩
   | _=>simp [D.bM] at hb
  | str _=>
   obtain ⟨t,rfl⟩:=ru;cases ry with
   | non=>cases rv;exact ⟨RcAt.str_none _ _,RcNeAt.str_none _ _,EqAt.str_none _ _⟩
   | bl _=>cases rv;exact ⟨RcAt.str_bool _ _ _,RcNeAt.str_bool _ _ _,EqAt.str_bool _ _ _⟩
   | int _=>obtain ⟨t',rfl⟩:=rv;exact ⟨RcAt.str_int _ _ _ _,RcNeAt.str_int _ _ _ _,EqAt.str_int _ _ _ _⟩
   | str _=>obtain ⟨t',rfl⟩:=rv;exact ⟨RcAt.str_str _ _ _ _,RcNeAt.str_str _ _ _ _,EqAt.str_str _ _ _ _⟩
   | _=>simp [D.bM] at hb
  | _=>simp [D.bM] at ha
 | succ n ih=>
  intro A x y a b u v hu ha hb rx ry ru rv;have hu0:A.units<cLine:=by lia
  have hu1:A.in1.units+n<cLine:=by show A.units+1+n<cLine;lia
  cases a with
  | uDf=>exact absurd rx Rep.uDf
  | dct _=>simp [D.bM] at ha
  | scr _=>simp [D.bM] at ha
  | fdc _=>simp [D.bM] at ha
  | cel _ _=>simp [D.bM] at ha
  | non=>
   cases rx;cases ru;cases b with
   | uDf=>exact absurd ry Rep.uDf
   | dct _=>simp [D.bM] at hb
   | scr _=>simp [D.bM] at hb
   | fdc _=>simp [D.bM] at hb
   | cel _ _=>simp [D.bM] at hb
   | non=>cases ry;cases rv;exact ⟨RcAt.none_none,RcNeAt.none_none,EqAt.same _⟩
   | bl _=>cases ry;cases rv;exact ⟨RcAt.none_bool _,RcNeAt.none_bool _,EqAt.none_bool _⟩
   | int _=>cases ry;obtain ⟨t2,rfl⟩:=rv;exact ⟨RcAt.none_int _ _,RcNeAt.none_int _ _,EqAt.none_int _ _⟩
   | str _=>cases ry;obtain ⟨t2,rfl⟩:=rv;exact ⟨RcAt.none_str _ _,RcNeAt.none_str _ _,EqAt.none_str _ _⟩
   | tup es=>
    obtain ⟨q,ys,rfl,e2,r2⟩:=ry.dR;cases rv;obtain ⟨its2,vr2,h2⟩:=d8 I e2;exact ⟨RcAt.none_tuple h2 hu0,RcNeAt.none_tuple h2 hu0,EqAt.none_tuple h2 hu0⟩
   | lst es=>
    obtain ⟨q,ys,rfl,e2,r2⟩:=ry.fV (K:=X.K);cases rv;obtain ⟨its2,vr2,h2⟩:=iJ I e2;exact ⟨RcAt.none_list h2 hu0,RcNeAt.none_list h2 hu0,EqAt.none_list h2 hu0⟩
  | bl _=>
   cases rx;cases ru;cases b with
   | uDf=>exact absurd ry Rep.uDf
   | dct _=>simp [D.bM] at hb
   | scr _=>simp [D.bM] at hb
   | fdc _=>simp [D.bM] at hb
   | cel _ _=>simp [D.bM] at hb
   | non=>cases ry;cases rv;exact ⟨RcAt.bool_none _,RcNeAt.bool_none _,EqAt.bool_none _⟩
   | bl _=>cases ry;cases rv;exact ⟨RcAt.bool_bool _ _,RcNeAt.bool_bool _ _,EqAt.bool_bool _ _⟩
   | int _=>cases ry;obtain ⟨t2,rfl⟩:=rv;exact ⟨RcAt.bool_int _ _ _,RcNeAt.bool_int _ _ _,EqAt.bool_int _ _ _⟩
   | str _=>cases ry;obtain ⟨t2,rfl⟩:=rv;exact ⟨RcAt.bool_str _ _ _,RcNeAt.bool_str _ _ _,EqAt.bool_str _ _ _⟩
   | tup es=>
    obtain ⟨q,ys,rfl,e2,r2⟩:=ry.dR;cases rv;obtain ⟨its2,vr2,h2⟩:=d8 I e2;exact ⟨RcAt.bool_tuple _ h2 hu0,RcNeAt.bool_tuple _ h2 hu0,EqAt.bool_tuple _ h2 hu0⟩
   | lst es=>
    obtain ⟨q,ys,rfl,e2,r2⟩:=ry.fV (K:=X.K);cases rv;obtain ⟨its2,vr2,h2⟩:=iJ I e2;exact ⟨RcAt.bool_list _ h2 hu0,RcNeAt.bool_list _ h2 hu0,EqAt.bool_list _ h2 hu0⟩
  | int _=>
   cases rx;obtain ⟨t1,rfl⟩:=ru;cases b with
   | uDf=>exact absurd ry Rep.uDf
   | dct _=>simp [D.bM] at hb
   | scr _=>simp [D.bM] at hb
   | fdc _=>simp [D.bM] at hb
   | cel _ _=>simp [D.bM] at hb
   | non=>cases ry;cases rv;exact ⟨RcAt.int_none _ _,RcNeAt.int_none _ _,EqAt.int_none _ _⟩
   | bl _=>cases ry;cases rv;exact ⟨RcAt.int_bool _ _ _,RcNeAt.int_bool _ _ _,EqAt.int_bool _ _ _⟩
   | int _=>cases ry;obtain ⟨t2,rfl⟩:=rv;exact ⟨RcAt.int_int _ _ _ _,RcNeAt.int_int _ _ _ _,EqAt.int_int _ _ _ _⟩
   | str _=>cases ry;obtain ⟨t2,rfl⟩:=rv;exact ⟨RcAt.int_str _ _ _ _,RcNeAt.int_str _ _ _ _,EqAt.int_str _ _ _ _⟩
   | tup es=>
    obtain ⟨q,ys,rfl,e2,r2⟩:=ry.dR;cases rv;obtain ⟨its2,vr2,h2⟩:=d8 I e2;exact ⟨RcAt.int_tuple _ _ h2 hu0,RcNeAt.int_tuple _ _ h2 hu0,EqAt.int_tuple _ _ h2 hu0⟩
   | lst es=>
    obtain ⟨q,ys,rfl,e2,r2⟩:=ry.fV (K:=X.K);cases rv;obtain ⟨its2,vr2,h2⟩:=iJ I e2;exact ⟨RcAt.int_list _ _ h2 hu0,RcNeAt.int_list _ _ h2 hu0,EqAt.int_list _ _ h2 hu0⟩
  | str _=>
   cases rx;obtain ⟨t1,rfl⟩:=ru;cases b with
   | uDf=>exact absurd ry Rep.uDf
   | dct _=>simp [D.bM] at hb
   | scr _=>simp [D.bM] at hb
   | fdc _=>simp [D.bM] at hb
   | cel _ _=>simp [D.bM] at hb
   | non=>cases ry;cases rv;exact ⟨RcAt.str_none _ _,RcNeAt.str_none _ _,EqAt.str_none _ _⟩
   | bl _=>cases ry;cases rv;exact ⟨RcAt.str_bool _ _ _,RcNeAt.str_bool _ _ _,EqAt.str_bool _ _ _⟩
   | int _=>cases ry;obtain ⟨t2,rfl⟩:=rv;exact ⟨RcAt.str_int _ _ _ _,RcNeAt.str_int _ _ _ _,EqAt.str_int _ _ _ _⟩
   | str _=>cases ry;obtain ⟨t2,rfl⟩:=rv;exact ⟨RcAt.str_str _ _ _ _,RcNeAt.str_str _ _ _ _,EqAt.str_str _ _ _ _⟩
   | tup es=>
    obtain ⟨q,ys,rfl,e2,r2⟩:=ry.dR;cases rv;obtain ⟨its2,vr2,h2⟩:=d8 I e2;exact ⟨RcAt.str_tuple _ _ h2 hu0,RcNeAt.str_tuple _ _ h2 hu0,EqAt.str_tuple _ _ h2 hu0⟩
   | lst es=>
    obtain ⟨q,ys,rfl,e2,r2⟩:=ry.fV (K:=X.K);cases rv;obtain ⟨its2,vr2,h2⟩:=iJ I e2;exact ⟨RcAt.str_list _ _ h2 hu0,RcNeAt.str_list _ _ h2 hu0,EqAt.str_list _ _ h2 hu0⟩
  | tup ds=>
   obtain ⟨p,xs,rfl,e1,r1⟩:=rx.dR;cases ru;obtain ⟨its1,vr1,h1⟩:=d8 I e1;rw [D.bM] at ha;cases b with
   | uDf=>exact absurd ry Rep.uDf
   | dct _=>simp [D.bM] at hb
   | scr _=>simp [D.bM] at hb
   | fdc _=>simp [D.bM] at hb
   | cel _ _=>simp [D.bM] at hb
   | non=>cases ry;cases rv;exact ⟨RcAt.tuple_none h1 hu0,RcNeAt.tuple_none h1 hu0,EqAt.tuple_none h1 hu0⟩
   | bl _=>cases ry;cases rv;exact ⟨RcAt.tuple_bool _ h1 hu0,RcNeAt.tuple_bool _ h1 hu0,EqAt.tuple_bool _ h1 hu0⟩
   | int _=>cases ry;obtain ⟨t2,rfl⟩:=rv;exact ⟨RcAt.tuple_int _ _ h1 hu0,RcNeAt.tuple_int _ _ h1 hu0,EqAt.tuple_int _ _ h1 hu0⟩
   | str _=>cases ry;obtain ⟨t2,rfl⟩:=rv;exact ⟨RcAt.tuple_str _ _ h1 hu0,RcNeAt.tuple_str _ _ h1 hu0,EqAt.tuple_str _ _ h1 hu0⟩
   | tup es=>
    obtain ⟨q,ys,rfl,e2,r2⟩:=ry.dR;cases rv;obtain ⟨its2,vr2,h2⟩:=d8 I e2;rw [D.bM] at hb;have z1:its1.toArray.size=ds.length:=by rw [List.size_toArray,<-vr1.length,r1.length]
    have z2:its2.toArray.size=es.length:=by rw [List.size_toArray,<-vr2.length,r2.length]
    have he:∀j (g1:j<its1.toArray.size) (g2:j<its2.toArray.size),EqAt A.in1 s its1.toArray[j] its2.toArray[j] (eqD (ds.getD j .non) (es.getD j .non)):=fun j g1 g2=>by
     obtain ⟨v1,w1,rr1⟩:=r1.getD (j:=j) (by lia);obtain ⟨v2,w2,rr2⟩:=r2.getD (j:=j) (by lia);obtain ⟨u1,k1,l1⟩:=vr1.get w1;obtain ⟨u2,k2,l2⟩:=vr2.get w2;have m1:its1.toArray[j]=u1:=by
      rw [List.getElem?_eq_getElem (by simpa using g1)] at k1;simpa using Option.some.inj k1
     have m2:its2.toArray[j]=u2:=by
      rw [List.getElem?_eq_getElem (by simpa using g2)] at k2;simpa using Option.some.inj k2
     rw [m1,m2];exact (ih A.in1 hu1 (dU ha (by lia)) (dU hb (by lia)) rr1 rr2 l1 l2).2.2
    have ee:eqD (.tup ds) (.tup es)=((List.range (min its1.toArray.size its2.toArray.size)).all (fun j=>eqD (ds.getD j .non) (es.getD j .non))&&its1.toArray.size==its2.toArray.size):=by
     rw [eqD,lZ,z1,z2]
    have r0:=RcAt.tuples h1 h2 hu0 he;have r0':=RcNeAt.tuples h1 h2 hu0 he;rw [<-ee] at r0 r0';refine ⟨r0,r0',?_⟩;by_cases hpq:p=q
    ·subst hpq;have hab:(D.tup ds)=(.tup es):=Rep.inj (n+1) (by rw [D.bM];exact ha) (by rw [D.bM];exact hb) rx ry;rw [<-hab,rQ (n+1) _ (by rw [D.bM];exact ha)];exact EqAt.same _
    ·exact EqAt.of_refs hpq r0
   | lst es=>
    obtain ⟨q,ys,rfl,e2,r2⟩:=ry.fV (K:=X.K);cases rv;obtain ⟨its2,vr2,h2⟩:=iJ I e2;exact ⟨RcAt.tuple_list h1 h2 hu0,RcNeAt.tuple_list h1 h2 hu0,EqAt.tuple_list h1 h2 hu0⟩
  | lst ds=>
   obtain ⟨p,xs,rfl,e1,r1⟩:=rx.fV (K:=X.K);cases ru;obtain ⟨its1,vr1,h1⟩:=iJ I e1;rw [D.bM] at ha;cases b with
   | uDf=>exact absurd ry Rep.uDf
   | dct _=>simp [D.bM] at hb
   | scr _=>simp [D.bM] at hb
   | fdc _=>simp [D.bM] at hb
   | cel _ _=>simp [D.bM] at hb
   | non=>cases ry;cases rv;exact ⟨RcAt.list_none h1 hu0,RcNeAt.list_none h1 hu0,EqAt.list_none h1 hu0⟩
   | bl _=>cases ry;cases rv;exact ⟨RcAt.list_bool _ h1 hu0,RcNeAt.list_bool _ h1 hu0,EqAt.list_bool _ h1 hu0⟩
   | int _=>cases ry;obtain ⟨t2,rfl⟩:=rv;exact ⟨RcAt.list_int _ _ h1 hu0,RcNeAt.list_int _ _ h1 hu0,EqAt.list_int _ _ h1 hu0⟩
   | str _=>cases ry;obtain ⟨t2,rfl⟩:=rv;exact ⟨RcAt.list_str _ _ h1 hu0,RcNeAt.list_str _ _ h1 hu0,EqAt.list_str _ _ h1 hu0⟩
   | tup es=>
    obtain ⟨q,ys,rfl,e2,r2⟩:=ry.dR;cases rv;obtain ⟨its2,vr2,h2⟩:=d8 I e2;exact ⟨RcAt.list_tuple h1 h2 hu0,RcNeAt.list_tuple h1 h2 hu0,EqAt.list_tuple h1 h2 hu0⟩
   | lst es=>
    obtain ⟨q,ys,rfl,e2,r2⟩:=ry.fV (K:=X.K);cases rv;obtain ⟨its2,vr2,h2⟩:=iJ I e2;rw [D.bM] at hb;have z1:its1.toArray.size=ds.length:=by rw [List.size_toArray,<-vr1.length,r1.length]
    have z2:its2.toArray.size=es.length:=by rw [List.size_toArray,<-vr2.length,r2.length]
    have he:∀j (g1:j<its1.toArray.size) (g2:j<its2.toArray.size),EqAt A.in1 s its1.toArray[j] its2.toArray[j] (eqD (ds.getD j .non) (es.getD j .non)):=fun j g1 g2=>by
     obtain ⟨v1,w1,rr1⟩:=r1.getD (j:=j) (by lia);obtain ⟨v2,w2,rr2⟩:=r2.getD (j:=j) (by lia);obtain ⟨u1,k1,l1⟩:=vr1.get w1;obtain ⟨u2,k2,l2⟩:=vr2.get w2;have m1:its1.toArray[j]=u1:=by
      rw [List.getElem?_eq_getElem (by simpa using g1)] at k1;simpa using Option.some.inj k1
     have m2:its2.toArray[j]=u2:=by
      rw [List.getElem?_eq_getElem (by simpa using g2)] at k2;simpa using Option.some.inj k2
     rw [m1,m2];exact (ih A.in1 hu1 (dU ha (by lia)) (dU hb (by lia)) rr1 rr2 l1 l2).2.2
    have r00:RcAt A s (.ref p) (.ref q) (eqD (.lst ds) (.lst es))/\RcNeAt A s (.ref p) (.ref q) (!eqD (.lst ds) (.lst es)):=by
     rw [eqD,lZ];by_cases hz:ds.length=es.length
     ·have r0:=RcAt.lists h1 h2 (by lia) hu0 he;have r0':=RcNeAt.lists h1 h2 (by lia) hu0 he;rw [z1] at r0 r0';rw [show min ds.length es.length=ds.length by lia,show (ds.length==es.length)=true by simpa using hz,Bool.and_true];exact ⟨r0,r0'⟩
     ·have hz':(its1.toArray.size != its2.toArray.size)=true:=by rw [z1,z2];simpa using hz
      rw [show (ds.length==es.length)=false by simpa using hz,Bool.and_false];exact ⟨RcAt.lists_lengths h1 h2 hz' hu0,RcNeAt.lists_lengths h1 h2 hz' hu0⟩
    obtain ⟨r0,r0'⟩:=r00;refine ⟨r0,r0',?_⟩;by_cases hpq:p=q
    ·subst hpq;have hab:(D.lst ds)=(.lst es):=Rep.inj (n+1) (by rw [D.bM];exact ha) (by rw [D.bM];exact hb) rx ry;rw [<-hab,rQ (n+1) _ (by rw [D.bM];exact ha)];exact EqAt.same _
    ·exact EqAt.of_refs hpq r0
end
end Mi
end
section
namespace Mi
open PySem L2 PySem.SeqAt
open PySem.AutoSeq1 (wpAny_loadPart')
open PySem.MeetsSeq PySem.MeetsSeq2 PySem.MeetsSeq3
variable [KFrag]
noncomputable def fD.op:fD->CmpOp
 | .lt=>.Lt|.le=>.LtE|.gt=>.Gt|.ge=>.GtE
noncomputable def yR (op:CmpOp) (A:Around) (s:Shared) (u v:Value) (b:Bool):Prop:=
 ∀(prog:Program) (w:World) (E:Value->Shared->Prop) (Q:Value->Shared->Prop),Q (.bool b) s->wpAny (model prog w) A (richCompare op u v) Q E s
noncomputable def C2 (o:fD) (A:Around) (s:Shared) (vs ws:List Value) (xs ys:List D):Prop:=
 vs.length=xs.length/\ws.length=ys.length/\∀(j:Nat) (v w:Value) (x y:D),vs[j]?=some v->ws[j]?=some w->xs[j]?=some x->ys[j]?=some y->
  EqAt A s v w (eqD x y)/\(eqD x y=false->∀k,cM o x y=some k->yR o.op A s v w k)
theorem C2.tail {o:fD} {A:Around} {s:Shared} {v w:Value} {vs ws:List Value} {x y:D} {xs ys:List D} (h:C2 o A s (v::vs) (w::ws) (x::xs) (y::ys)):C2 o A s vs ws xs ys:=
 ⟨by simpa using h.1,by simpa using h.2.1,fun j a b c d e1 e2 e3 e4=>h.2.2 (j+1) a b c d (by simpa using e1) (by simpa using e2) (by simpa using e3) (by simpa using e4)⟩
theorem B_ (l b:Addr) (items items2:Array Value) (n n2:Nat) (dd dd2:Option Addr) (sl sl2:Array (Option Value)) (xs ys:List D) (res:Bool) (hr:cC .lt xs ys=some res) :
  Meets (Builtin.«tuple.__lt__» ⟨[.ref l,.ref b],[]⟩)
   (fun A R s=>s.heap.get? l=some {cls:=.type "tuple",dict:=dd,data:=.seq items n,slots:=sl}/\s.heap.get? b=some {cls:=.type "tuple",dict:=dd2,data:=.seq items2 n2,slots:=sl2}/\
    C2 .lt A.in1 s items.toList items2.toList xs ys/\R (.ok (.ret (.bool res))) s):=
 .of_wp fun prog w A R s h=>by
  obtain ⟨hp,g,d,tk,os⟩:=s;obtain ⟨hl,hb,hC,h⟩:=h;have f2:=AutoSeq1.sub_tuple_tuple;have z1:items.size=xs.length:=by rw [<-hC.1];simp
  have z2:items2.size=ys.length:=by rw [<-hC.2.1];simp
  wp_walk using wpAny_loadPart' hl,wpAny_loadPart' hb,wpAny_forIn_list _ (fun rest b s'=>b.1=none/\s'=⟨hp,g,d,tk,os⟩/\∃(vs ws:List Value) (xs' ys':List D),rest=vs.zip ws/\
   C2 .lt A.in1 ⟨hp,g,d,tk,os⟩ vs ws xs' ys'/\xs'.length+items2.size=ys'.length+items.size/\cC .lt xs' ys'=some res) _
  case turn=>
   rintro ⟨y,x⟩ rest b s' ⟨hb',rfl,vs,ws,xs',ys',hz,hC',hlen,hR⟩;cases vs with
   | nil=>rw [List.zip_nil_left] at hz;cases hz
   | cons v vs=>
    cases ws with
    | nil=>rw [List.zip_nil_right] at hz;cases hz
    | cons w' ws=>
     rw [List.zip_cons_cons] at hz;injection hz with hyx hrest
     injection hyx with hy hx
     subst hy hx;cases xs' with
     | nil=>exact absurd hC'.1 (by simp)
     | cons x0 xs'=>
      cases ys' with
      | nil=>exact absurd hC'.2.1 (by simp)
      | cons y0 ys'=>
       rw [cC] at hR;simp only [List.length_cons] at hlen;obtain ⟨he,hlt⟩:=hC'.2.2 0 _ _ _ _ rfl rfl rfl rfl;refine wpAny_bind (he prog w _ _ ?_);cases e:eqD x0 y0 with
       | true=>
        rw [e] at hR;simp only [if_true] at hR
        wp_walk
        exact ⟨rfl,rfl,_,_,_,_,hrest,hC'.tail,by lia,hR⟩
       | false=>
        rw [e] at hR;simp only [Bool.false_eq_true,if_false] at hR;have hri:∀(E:Value->Shared->Prop) (Q:Value->Shared->Prop),Q (.bool res) ⟨hp,g,d,tk,os⟩->wpAny (model prog w) A.in1 (richCompare .Lt _ _) Q E ⟨hp,g,d,tk,os⟩:=fun E Q q=>hlt e res hR prog w E Q q
        wp_walk using hri
        exact ⟨_,rfl,by simpa using h⟩
  case fin=>
   rintro ⟨b1,b2⟩ s' ⟨hb',rfl,vs,ws,xs',ys',hz,hC',hlen,hR⟩;simp only at hb';subst hb';have hv:res=decide (items.size<items2.size):=by
    cases xs' with
    | nil=>
     rw [cC] at hR;have:=Option.some.inj hR;rw [<-this];simp only [List.length_nil] at hlen;simp only [fD.nat]
     congr 1
     simp only [eq_iff_iff];lia
    | cons x0 xs'=>
     cases ys' with
     | nil=>
      rw [cC] at hR;have:=Option.some.inj hR;rw [<-this];simp only [List.length_nil,List.length_cons] at hlen;simp only [fD.nat,List.length_cons]
      congr 1
      simp only [eq_iff_iff];lia
     | cons y0 ys'=>
      exfalso;cases vs with
      | nil=>exact absurd hC'.1 (by simp)
      | cons v vs=>
       cases ws with
       | nil=>exact absurd hC'.2.1 (by simp)
       | cons w' ws=>rw [List.zip_cons_cons] at hz;cases hz
   rw [hv] at h
   wp_walk
   exact ⟨_,rfl,by simpa [Builtin.Tuple.tupleCompareSizes] using h⟩
  case h=>
   exact ⟨rfl,rfl,items.toList,items2.toList,xs,ys,rfl,hC,by lia,hr⟩
theorem yR.aA2 {A:Around} {s:Shared} {l b:Addr} {items items2:Array Value} {xs ys:List D} {res:Bool} (hl:s.heap.IsTuple l items) (hb:s.heap.IsTuple b items2) (hC:C2 .lt A.in1 s items.toList items2.toList xs ys) (hr:cC .lt xs ys=some res) (hu:A.units<cLine) :
  yR .Lt A s (.ref l) (.ref b) res:=fun prog w E Q h=>by
 obtain ⟨⟨cls,dd,data,sl⟩,ho,hc,n,hd⟩:=id hl;obtain ⟨⟨cls2,dd2,data2,sl2⟩,ho2,hc2,n2,hd2⟩:=id hb;simp only at hc hd hc2 hd2;subst hc hd hc2 hd2;exact richCompare_meets_room (op:=.Lt) ⟨_,ho,rfl⟩ ⟨_,ho2,rfl⟩ PySem.F.slot_tuple_lt PySem.F.entry_tuple_lt (PySem.F.args_tuple_lt_2 _ _) (B_ l b items items2 n n2 dd dd2 sl sl2 xs ys res hr)
  ⟨ho,ho2,hC,show Value.bool res≠Value.notImplemented/\Q (.bool res) s from ⟨(fun x=>nomatch x),h⟩⟩ hu
theorem CG (l b:Addr) (items items2:Array Value) (n n2:Nat) (dd dd2:Option Addr) (sl sl2:Array (Option Value)) (xs ys:List D) (res:Bool) (hr:cC .le xs ys=some res) :
  Meets (Builtin.«tuple.__le__» ⟨[.ref l,.ref b],[]⟩)
   (fun A R s=>s.heap.get? l=some {cls:=.type "tuple",dict:=dd,data:=.seq items n,slots:=sl}/\s.heap.get? b=some {cls:=.type "tuple",dict:=dd2,data:=.seq items2 n2,slots:=sl2}/\
    C2 .le A.in1 s items.toList items2.toList xs ys/\R (.ok (.ret (.bool res))) s):=
 .of_wp fun prog w A R s h=>by
  obtain ⟨hp,g,d,tk,os⟩:=s;obtain ⟨hl,hb,hC,h⟩:=h;have f2:=AutoSeq1.sub_tuple_tuple;have z1:items.size=xs.length:=by rw [<-hC.1];simp
  have z2:items2.size=ys.length:=by rw [<-hC.2.1];simp
  wp_walk using wpAny_loadPart' hl,wpAny_loadPart' hb,wpAny_forIn_list _ (fun rest b s'=>b.1=none/\s'=⟨hp,g,d,tk,os⟩/\∃(vs ws:List Value) (xs' ys':List D),rest=vs.zip ws/\
   C2 .le A.in1 ⟨hp,g,d,tk,os⟩ vs ws xs' ys'/\xs'.length+items2.size=ys'.length+items.size/\cC .le xs' ys'=some res) _
  case turn=>
   rintro ⟨y,x⟩ rest b s' ⟨hb',rfl,vs,ws,xs',ys',hz,hC',hlen,hR⟩;cases vs with
   | nil=>rw [List.zip_nil_left] at hz;cases hz
   | cons v vs=>
    cases ws with
    | nil=>rw [List.zip_nil_right] at hz;cases hz
    | cons w' ws=>
     rw [List.zip_cons_cons] at hz;injection hz with hyx hrest
     injection hyx with hy hx
     subst hy hx;cases xs' with
     | nil=>exact absurd hC'.1 (by simp)
     | cons x0 xs'=>
      cases ys' with
      | nil=>exact absurd hC'.2.1 (by simp)
      | cons y0 ys'=>
       rw [cC] at hR;simp only [List.length_cons] at hlen;obtain ⟨he,hlt⟩:=hC'.2.2 0 _ _ _ _ rfl rfl rfl rfl;refine wpAny_bind (he prog w _ _ ?_);cases e:eqD x0 y0 with
       | true=>
        rw [e] at hR;simp only [if_true] at hR
        wp_walk
        exact ⟨rfl,rfl,_,_,_,_,hrest,hC'.tail,by lia,hR⟩
       | false=>
        rw [e] at hR;simp only [Bool.false_eq_true,if_false] at hR;have hri:∀(E:Value->Shared->Prop) (Q:Value->Shared->Prop),Q (.bool res) ⟨hp,g,d,tk,os⟩->wpAny (model prog w) A.in1 (richCompare .LtE _ _) Q E ⟨hp,g,d,tk,os⟩:=fun E Q q=>hlt e res hR prog w E Q q
        wp_walk using hri
        exact ⟨_,rfl,by simpa using h⟩
  case fin=>
   rintro ⟨b1,b2⟩ s' ⟨hb',rfl,vs,ws,xs',ys',hz,hC',hlen,hR⟩;simp only at hb';subst hb';have hv:res=decide (items.size<=items2.size):=by
    cases xs' with
    | nil=>
     rw [cC] at hR;have:=Option.some.inj hR;rw [<-this];simp only [List.length_nil] at hlen;simp only [fD.nat]
     congr 1
     simp only [eq_iff_iff];lia
    | cons x0 xs'=>
     cases ys' with
     | nil=>
      rw [cC] at hR;have:=Option.some.inj hR;rw [<-this];simp only [List.length_nil,List.length_cons] at hlen;simp only [fD.nat,List.length_cons]
      congr 1
      simp only [eq_iff_iff];lia
     | cons y0 ys'=>
      exfalso;cases vs with
      | nil=>exact absurd hC'.1 (by simp)
      | cons v vs=>
       cases ws with
       | nil=>exact absurd hC'.2.1 (by simp)
       | cons w' ws=>rw [List.zip_cons_cons] at hz;cases hz
   rw [hv] at h
   wp_walk
   exact ⟨_,rfl,by simpa [Builtin.Tuple.tupleCompareSizes] using h⟩
  case h=>
   exact ⟨rfl,rfl,items.toList,items2.toList,xs,ys,rfl,hC,by lia,hr⟩
theorem yR.aA3 {A:Around} {s:Shared} {l b:Addr} {items items2:Array Value} {xs ys:List D} {res:Bool} (hl:s.heap.IsTuple l items) (hb:s.heap.IsTuple b items2) (hC:C2 .le A.in1 s items.toList items2.toList xs ys) (hr:cC .le xs ys=some res) (hu:A.units<cLine) :
  yR .LtE A s (.ref l) (.ref b) res:=fun prog w E Q h=>by
 obtain ⟨⟨cls,dd,data,sl⟩,ho,hc,n,hd⟩:=id hl;obtain ⟨⟨cls2,dd2,data2,sl2⟩,ho2,hc2,n2,hd2⟩:=id hb;simp only at hc hd hc2 hd2;subst hc hd hc2 hd2;exact richCompare_meets_room (op:=.LtE) ⟨_,ho,rfl⟩ ⟨_,ho2,rfl⟩ PySem.F.slot_tuple_le PySem.F.entry_tuple_le (PySem.F.args_tuple_le_2 _ _) (CG l b items items2 n n2 dd dd2 sl sl2 xs ys res hr)
  ⟨ho,ho2,hC,show Value.bool res≠Value.notImplemented/\Q (.bool res) s from ⟨(fun x=>nomatch x),h⟩⟩ hu
theorem CJ (l b:Addr) (items items2:Array Value) (n n2:Nat) (dd dd2:Option Addr) (sl sl2:Array (Option Value)) (xs ys:List D) (res:Bool) (hr:cC .gt xs ys=some res) :
  Meets (Builtin.«tuple.__gt__» ⟨[.ref l,.ref b],[]⟩)
   (fun A R s=>s.heap.get? l=some {cls:=.type "tuple",dict:=dd,data:=.seq items n,slots:=sl}/\s.heap.get? b=some {cls:=.type "tuple",dict:=dd2,data:=.seq items2 n2,slots:=sl2}/\
    C2 .gt A.in1 s items.toList items2.toList xs ys/\R (.ok (.ret (.bool res))) s):=
 .of_wp fun prog w A R s h=>by
  obtain ⟨hp,g,d,tk,os⟩:=s;obtain ⟨hl,hb,hC,h⟩:=h;have f2:=AutoSeq1.sub_tuple_tuple;have z1:items.size=xs.length:=by rw [<-hC.1];simp
  have z2:items2.size=ys.length:=by rw [<-hC.2.1];simp
  wp_walk using wpAny_loadPart' hl,wpAny_loadPart' hb,wpAny_forIn_list _ (fun rest b s'=>b.1=none/\s'=⟨hp,g,d,tk,os⟩/\∃(vs ws:List Value) (xs' ys':List D),rest=vs.zip ws/\
   C2 .gt A.in1 ⟨hp,g,d,tk,os⟩ vs ws xs' ys'/\xs'.length+items2.size=ys'.length+items.size/\cC .gt xs' ys'=some res) _
  case turn=>
   rintro ⟨y,x⟩ rest b s' ⟨hb',rfl,vs,ws,xs',ys',hz,hC',hlen,hR⟩;cases vs with
   | nil=>rw [List.zip_nil_left] at hz;cases hz
   | cons v vs=>
    cases ws with
    | nil=>rw [List.zip_nil_right] at hz;cases hz
    | cons w' ws=>
     rw [List.zip_cons_cons] at hz;injection hz with hyx hrest
     injection hyx with hy hx
     subst hy hx;cases xs' with
     | nil=>exact absurd hC'.1 (by simp)
     | cons x0 xs'=>
      cases ys' with
      | nil=>exact absurd hC'.2.1 (by simp)
      | cons y0 ys'=>
       rw [cC] at hR;simp only [List.length_cons] at hlen;obtain ⟨he,hlt⟩:=hC'.2.2 0 _ _ _ _ rfl rfl rfl rfl;refine wpAny_bind (he prog w _ _ ?_);cases e:eqD x0 y0 with
       | true=>
        rw [e] at hR;simp only [if_true] at hR
        wp_walk
        exact ⟨rfl,rfl,_,_,_,_,hrest,hC'.tail,by lia,hR⟩
       | false=>
        rw [e] at hR;simp only [Bool.false_eq_true,if_false] at hR;have hri:∀(E:Value->Shared->Prop) (Q:Value->Shared->Prop),Q (.bool res) ⟨hp,g,d,tk,os⟩->wpAny (model prog w) A.in1 (richCompare .Gt _ _) Q E ⟨hp,g,d,tk,os⟩:=fun E Q q=>hlt e res hR prog w E Q q
        wp_walk using hri
        exact ⟨_,rfl,by simpa using h⟩
  case fin=>
   rintro ⟨b1,b2⟩ s' ⟨hb',rfl,vs,ws,xs',ys',hz,hC',hlen,hR⟩;simp only at hb';subst hb';have hv:res=decide (items2.size<items.size):=by
    cases xs' with
    | nil=>
     rw [cC] at hR;have:=Option.some.inj hR;rw [<-this];simp only [List.length_nil] at hlen;simp only [fD.nat]
     congr 1
     simp only [eq_iff_iff];lia
    | cons x0 xs'=>
     cases ys' with
     | nil=>
      rw [cC] at hR;have:=Option.some.inj hR;rw [<-this];simp only [List.length_nil,List.length_cons] at hlen;simp only [fD.nat,List.length_cons]
      congr 1
      simp only [eq_iff_iff];lia
     | cons y0 ys'=>
      exfalso;cases vs with
      | nil=>exact absurd hC'.1 (by simp)
      | cons v vs=>
       cases ws with
       | nil=>exact absurd hC'.2.1 (by simp)
       | cons w' ws=>rw [List.zip_cons_cons] at hz;cases hz
   rw [hv] at h
   wp_walk
   exact ⟨_,rfl,by simpa [Builtin.Tuple.tupleCompareSizes] using h⟩
  case h=>
   exact ⟨rfl,rfl,items.toList,items2.toList,xs,ys,rfl,hC,by lia,hr⟩
theorem yR.aA4 {A:Around} {s:Shared} {l b:Addr} {items items2:Array Value} {xs ys:List D} {res:Bool} (hl:s.heap.IsTuple l items) (hb:s.heap.IsTuple b items2) (hC:C2 .gt A.in1 s items.toList items2.toList xs ys) (hr:cC .gt xs ys=some res) (hu:A.units<cLine) :
  yR .Gt A s (.ref l) (.ref b) res:=fun prog w E Q h=>by
 obtain ⟨⟨cls,dd,data,sl⟩,ho,hc,n,hd⟩:=id hl;obtain ⟨⟨cls2,dd2,data2,sl2⟩,ho2,hc2,n2,hd2⟩:=id hb;simp only at hc hd hc2 hd2;subst hc hd hc2 hd2;exact richCompare_meets_room (op:=.Gt) ⟨_,ho,rfl⟩ ⟨_,ho2,rfl⟩ PySem.F.slot_tuple_gt PySem.F.entry_tuple_gt (PySem.F.args_tuple_gt_2 _ _) (CJ l b items items2 n n2 dd dd2 sl sl2 xs ys res hr)
  ⟨ho,ho2,hC,show Value.bool res≠Value.notImplemented/\Q (.bool res) s from ⟨(fun x=>nomatch x),h⟩⟩ hu
theorem CK (l b:Addr) (items items2:Array Value) (n n2:Nat) (dd dd2:Option Addr) (sl sl2:Array (Option Value)) (xs ys:List D) (res:Bool) (hr:cC .ge xs ys=some res) :
  Meets (Builtin.«tuple.__ge__» ⟨[.ref l,.ref b],[]⟩)
   (fun A R s=>s.heap.get? l=some {cls:=.type "tuple",dict:=dd,data:=.seq items n,slots:=sl}/\s.heap.get? b=some {cls:=.type "tuple",dict:=dd2,data:=.seq items2 n2,slots:=sl2}/\
    C2 .ge A.in1 s items.toList items2.toList xs ys/\R (.ok (.ret (.bool res))) s):=
 .of_wp fun prog w A R s h=>by
  obtain ⟨hp,g,d,tk,os⟩:=s;obtain ⟨hl,hb,hC,h⟩:=h;have f2:=AutoSeq1.sub_tuple_tuple;have z1:items.size=xs.length:=by rw [<-hC.1];simp
  have z2:items2.size=ys.length:=by rw [<-hC.2.1];simp
  wp_walk using wpAny_loadPart' hl,wpAny_loadPart' hb,wpAny_forIn_list _ (fun rest b s'=>b.1=none/\s'=⟨hp,g,d,tk,os⟩/\∃(vs ws:List Value) (xs' ys':List D),rest=vs.zip ws/\
   C2 .ge A.in1 ⟨hp,g,d,tk,os⟩ vs ws xs' ys'/\xs'.length+items2.size=ys'.length+items.size/\cC .ge xs' ys'=some res) _
  case turn=>
   rintro ⟨y,x⟩ rest b s' ⟨hb',rfl,vs,ws,xs',ys',hz,hC',hlen,hR⟩;cases vs with
   | nil=>rw [List.zip_nil_left] at hz;cases hz
   | cons v vs=>
    cases ws with
    | nil=>rw [List.zip_nil_right] at hz;cases hz
    | cons w' ws=>
     rw [List.zip_cons_cons] at hz;injection hz with hyx hrest
     injection hyx with hy hx
     subst hy hx;cases xs' with
     | nil=>exact absurd hC'.1 (by simp)
     | cons x0 xs'=>
      cases ys' with
      | nil=>exact absurd hC'.2.1 (by simp)
      | cons y0 ys'=>
       rw [cC] at hR;simp only [List.length_cons] at hlen;obtain ⟨he,hlt⟩:=hC'.2.2 0 _ _ _ _ rfl rfl rfl rfl;refine wpAny_bind (he prog w _ _ ?_);cases e:eqD x0 y0 with
       | true=>
        rw [e] at hR;simp only [if_true] at hR
        wp_walk
        exact ⟨rfl,rfl,_,_,_,_,hrest,hC'.tail,by lia,hR⟩
       | false=>
        rw [e] at hR;simp only [Bool.false_eq_true,if_false] at hR;have hri:∀(E:Value->Shared->Prop) (Q:Value->Shared->Prop),Q (.bool res) ⟨hp,g,d,tk,os⟩->wpAny (model prog w) A.in1 (richCompare .GtE _ _) Q E ⟨hp,g,d,tk,os⟩:=fun E Q q=>hlt e res hR prog w E Q q
        wp_walk using hri
        exact ⟨_,rfl,by simpa using h⟩
  case fin=>
   rintro ⟨b1,b2⟩ s' ⟨hb',rfl,vs,ws,xs',ys',hz,hC',hlen,hR⟩;simp only at hb';subst hb';have hv:res=decide (items2.size<=items.size):=by
    cases xs' with
    | nil=>
     rw [cC] at hR;have:=Option.some.inj hR;rw [<-this];simp only [List.length_nil] at hlen;simp only [fD.nat]
     congr 1
     simp only [eq_iff_iff];lia
    | cons x0 xs'=>
     cases ys' with
     | nil=>
      rw [cC] at hR;have:=Option.some.inj hR;rw [<-this];simp only [List.length_nil,List.length_cons] at hlen;simp only [fD.nat,List.length_cons]
      congr 1
      simp only [eq_iff_iff];lia
     | cons y0 ys'=>
      exfalso;cases vs with
      | nil=>exact absurd hC'.1 (by simp)
      | cons v vs=>
       cases ws with
       | nil=>exact absurd hC'.2.1 (by simp)
       | cons w' ws=>rw [List.zip_cons_cons] at hz;cases hz
   rw [hv] at h
   wp_walk
   exact ⟨_,rfl,by simpa [Builtin.Tuple.tupleCompareSizes] using h⟩
  case h=>
   exact ⟨rfl,rfl,items.toList,items2.toList,xs,ys,rfl,hC,by lia,hr⟩
theorem yR.aA5 {A:Around} {s:Shared} {l b:Addr} {items items2:Array Value} {xs ys:List D} {res:Bool} (hl:s.heap.IsTuple l items) (hb:s.heap.IsTuple b items2) (hC:C2 .ge A.in1 s items.toList items2.toList xs ys) (hr:cC .ge xs ys=some res) (hu:A.units<cLine) :
  yR .GtE A s (.ref l) (.ref b) res:=fun prog w E Q h=>by
 obtain ⟨⟨cls,dd,data,sl⟩,ho,hc,n,hd⟩:=id hl;obtain ⟨⟨cls2,dd2,data2,sl2⟩,ho2,hc2,n2,hd2⟩:=id hb;simp only at hc hd hc2 hd2;subst hc hd hc2 hd2;exact richCompare_meets_room (op:=.GtE) ⟨_,ho,rfl⟩ ⟨_,ho2,rfl⟩ PySem.F.slot_tuple_ge PySem.F.entry_tuple_ge (PySem.F.args_tuple_ge_2 _ _) (CK l b items items2 n n2 dd dd2 sl sl2 xs ys res hr)
  ⟨ho,ho2,hC,show Value.bool res≠Value.notImplemented/\Q (.bool res) s from ⟨(fun x=>nomatch x),h⟩⟩ hu
section
variable {X:Cx} {pins:List (Addr×Obj)} {σ:St} {H:Hp} {s:Shared}
theorem wL (I:Inv X pins σ H s) (o:fD):∀(n:Nat) (A:Around) {x y:V} {a b:D} {u v:Value} {k:Bool},A.units+n<cLine->a.bM n=true->b.bM n=true->Rep All H x a->Rep All H y b->RelV x u->RelV y v->
  cM o a b=some k->yR o.op A s u v k:=by
 intro n;induction n with
 | zero=>
  intro A x y a b u v k hu ha hb rx ry ru rv hk;cases a with
  | int i=>
   cases b with
   | int j=>
    cases rx;cases ry;obtain ⟨t,rfl⟩:=ru;obtain ⟨t',rfl⟩:=rv;rw [cM] at hk;have:=Option.some.inj hk;subst this;cases o with
    | lt=>exact fun prog w E Q h=>(PyProof.Rows.lt_int h:wpAny (model prog w) A (compareOp .Lt (.int i t) (.int j t')) Q E s)
    | le=>exact fun prog w E Q h=>(PyProof.Rows.le_int h:wpAny (model prog w) A (compareOp .LtE (.int i t) (.int j t')) Q E s)
    | gt=>exact fun prog w E Q h=>(PyProof.Rows.gt_int h:wpAny (model prog w) A (compareOp .Gt (.int i t) (.int j t')) Q E s)
    | ge=>exact fun prog w E Q h=>(PyProof.Rows.ge_int h:wpAny (model prog w) A (compareOp .GtE (.int i t) (.int j t')) Q E s)
   | _=>simp [cM] at hk
  | str i=>
   cases b with
   | str j=>
    cases rx;cases ry;obtain ⟨t,rfl⟩:=ru;obtain ⟨t',rfl⟩:=rv;rw [cM] at hk;have:=Option.some.inj hk;subst this;cases o with
    | lt=>exact fun prog w E Q h=>(PyProof.Rows.lt_str h:wpAny (model prog w) A (compareOp .Lt (.str i t) (.str j t')) Q E s)
    | le=>exact fun prog w E Q h=>(PySem.P.le_str h:wpAny (model prog w) A (compareOp .LtE (.str i t) (.str j t')) Q E s)
    | gt=>exact fun prog w E Q h=>(PySem.P.gt_str h:wpAny (model prog w) A (compareOp .Gt (.str i t) (.str j t')) Q E s)
    | ge=>exact fun prog w E Q h=>(PySem.P.ge_str h:wpAny (model prog w) A (compareOp .GtE (.str i t) (.str j t')) Q E s)
   | _=>simp [cM] at hk
  | tup _=>simp [D.bM] at ha
  | _=>cases b <;> simp [cM] at hk
 | succ n ih=>
  intro A x y a b u v k hu ha hb rx ry ru rv hk;have hu0:A.units<cLine:=by lia
  have hu1:A.in1.units+n<cLine:=by show A.units+1+n<cLine;lia
  cases a with
  | int i=>
   cases b with
   | int j=>
    cases rx;cases ry;obtain ⟨t,rfl⟩:=ru;obtain ⟨t',rfl⟩:=rv;rw [cM] at hk;have:=Option.some.inj hk;subst this;cases o with
    | lt=>exact fun prog w E Q h=>(PyProof.Rows.lt_int h:wpAny (model prog w) A (compareOp .Lt (.int i t) (.int j t')) Q E s)
    | le=>exact fun prog w E Q h=>(PyProof.Rows.le_int h:wpAny (model prog w) A (compareOp .LtE (.int i t) (.int j t')) Q E s)
    | gt=>exact fun prog w E Q h=>(PyProof.Rows.gt_int h:wpAny (model prog w) A (compareOp .Gt (.int i t) (.int j t')) Q E s)
    | ge=>exact fun prog w E Q h=>(PyProof.Rows.ge_int h:wpAny (model prog w) A (compareOp .GtE (.int i t) (.int j t')) Q E s)
   | _=>simp [cM] at hk
  | str i=>
   cases b with
   | str j=>
    cases rx;cases ry;obtain ⟨t,rfl⟩:=ru;obtain ⟨t',rfl⟩:=rv;rw [cM] at hk;have:=Option.some.inj hk;subst this;cases o with
    | lt=>exact fun prog w E Q h=>(PyProof.Rows.lt_str h:wpAny (model prog w) A (compareOp .Lt (.str i t) (.str j t')) Q E s)
    | le=>exact fun prog w E Q h=>(PySem.P.le_str h:wpAny (model prog w) A (compareOp .LtE (.str i t) (.str j t')) Q E s)
    | gt=>exact fun prog w E Q h=>(PySem.P.gt_str h:wpAny (model prog w) A (compareOp .Gt (.str i t) (.str j t')) Q E s)
    | ge=>exact fun prog w E Q h=>(PySem.P.ge_str h:wpAny (model prog w) A (compareOp .GtE (.str i t) (.str j t')) Q E s)
   | _=>simp [cM] at hk
  | tup ds=>
   cases b with
   | tup es=>
    obtain ⟨p,xs,rfl,e1,r1⟩:=rx.dR;cases ru;obtain ⟨its1,vr1,h1⟩:=d8 I e1;obtain ⟨q,ys,rfl,e2,r2⟩:=ry.dR;cases rv;obtain ⟨its2,vr2,h2⟩:=d8 I e2;rw [D.bM] at ha hb;rw [cM] at hk;have hC:∀o',o'=o->C2 o' A.in1 s its1.toArray.toList its2.toArray.toList ds es:=by
     rintro o' rfl;refine ⟨by rw [List.toList_toArray,<-vr1.length,r1.length],by rw [List.toList_toArray,<-vr2.length,r2.length],fun j v w x y a1 a2 a3 a4=>?_⟩;rw [List.toList_toArray] at a1 a2;obtain ⟨v1,w1,rr1⟩:=r1.get a3;obtain ⟨v2,w2,rr2⟩:=r2.get a4;obtain ⟨u1,k1,l1⟩:=vr1.get w1;obtain ⟨u2,k2,l2⟩:=vr2.get w2;rw [a1] at k1;cases k1;rw [a2] at k2;cases k2;have g1:x.bM n=true:=by
      have:=dU (j:=j) ha (List.getElem?_eq_some_iff.mp a3).1;rwa [List.getD_eq_getElem?_getD,a3] at this
     have g2:y.bM n=true:=by
      have:=dU (j:=j) hb (List.getElem?_eq_some_iff.mp a4).1;rwa [List.getD_eq_getElem?_getD,a4] at this
     exact ⟨(yQ I n A.in1 hu1 g1 g2 rr1 rr2 l1 l2).2.2,fun _ k hk=>ih A.in1 hu1 g1 g2 rr1 rr2 l1 l2 hk⟩
    cases o with
    | lt=>exact yR.aA2 h1 h2 (hC .lt rfl) hk hu0
    | le=>exact yR.aA3 h1 h2 (hC .le rfl) hk hu0
    | gt=>exact yR.aA4 h1 h2 (hC .gt rfl) hk hu0
    | ge=>exact yR.aA5 h1 h2 (hC .ge rfl) hk hu0
   | _=>simp [cM] at hk
  | _=>cases b <;> simp [cM] at hk
end
end Mi
end
section
namespace TS
open PySem PyProof.Rows
theorem rR {prog:Program} {w:World} {A:Around} {E:Value->Shared->Prop} {s:Shared} {a:Addr} {vs:List Value} {n:Nat} {P:Fin->Shared->Prop} (ho:s.heap.get? a=some (seqObj "list" vs.toArray n)) (hn:vs.length<=sizeLine)
  (hk:2<=vs.length->∃κ U blt,Ord U blt/\k_ U (pairsOf vs)/\
   (∀Q:SortKind->Shared->Prop,Q κ {s with heap:=((s.heap.update a (Obj.mapSeq fun _=>(#[]:Array Value))).push (seqObj "tuple" vs.toArray 0)).push (seqObj "list" #[] 0)}->wpAny (model prog w) A (keyKind' vs.toArray) Q E {s with heap:=((s.heap.update a (Obj.mapSeq fun _=>(#[]:Array Value))).push (seqObj "tuple" vs.toArray 0)).push (seqObj "list" #[] 0)})/\
   BR prog w A E {s with heap:=((s.heap.update a (Obj.mapSeq fun _=>(#[]:Array Value))).push (seqObj "tuple" vs.toArray 0)).push (seqObj "list" #[] 0)} κ U blt/\
   ∀arr:Array Keyed,arr.Perm (pairsOf vs)->Srt blt arr 0 (pairsOf vs).size->P (.done (.ret .none)) {s with heap:=sortedHeap s.heap a vs (arr.map (·.2))})
  (h1:vs.length<2->P (.done (.ret .none)) {s with heap:=sortedHeap s.heap a vs ((pairsOf vs).map (·.2))}) :
  wpAny (model prog w) A (Builtin.«list.sort» ⟨[.ref a],[]⟩) P E s:=by
 rw [list_sort_plain];have ha:a<s.heap.objs.size:=Heap.lt_size ho;refine wpAny_bind (listItems_at ho rfl ?_);refine wpAny_bind (listUpdate_at ho rfl ?_ (by rw [List.size_toArray];exact hn) (Nat.zero_le _));obtain ⟨e1,ho1⟩:∃e1,(s.heap.update a (Obj.mapSeq fun _=>(#[]:Array Value))).get? a=some (seqObj "list" #[] e1):=⟨_,get?_update_seq ho (fun _=>#[])⟩
 refine wpAny_bind (seqEpoch_at ho1 rfl ?_);refine wpAny_bind (wpAny_newTuple ?_ (by show vs.length<=_;exact hn));refine wpAny_bind (wpAny_newList ?_ (Nat.zero_le _));refine wpAny_holding ?_;have ho6:(((s.heap.update a (Obj.mapSeq fun _=>(#[]:Array Value))).push (seqObj "tuple" vs.toArray 0)).push (seqObj "list" #[] 0)).get? a=some (seqObj "list" #[] e1):=by
  rw [Heap.get?_push_ne _ _ _ (by rw [size_push',Heap.size_update];exact Nat.ne_of_lt (Nat.lt_succ_of_lt ha)),Heap.get?_push_ne _ _ _ (by rw [Heap.size_update];exact Nat.ne_of_lt ha)];exact ho1
 show wpAny (model prog w) A _ P E {s with heap:=((s.heap.update a (Obj.mapSeq fun _=>(#[]:Array Value))).push (seqObj "tuple" vs.toArray 0)).push (seqObj "list" #[] 0)};dsimp only;have hsz:vs.toArray.size=vs.length:=by simp
 by_cases h2:vs.toArray.size<2
 ·rw [if_pos h2,if_pos h2];refine wpAny_bind (wpAny_pure ?_);rw [StateT.run_pure];refine wpAny_bind (wpAny_pure ?_);dsimp only;refine wpAny_bind (seqEpoch_at ho6 rfl ?_);refine wpAny_bind (listUpdate_at ho6 rfl ?_ (Nat.zero_le _) (hsz2:=by rw [Array.size_map];show (pairsOf vs).size<=_;rw [pairsOf_size];exact Nat.le_succ_of_le hn));simp only [bne_self_eq_false,Bool.false_eq_true,if_false];exact wpAny_pure (h1 (by lia))
 ·rw [if_neg h2,if_neg h2];obtain ⟨κ,U,blt,O,hU,hkk,hL,fin⟩:=hk (by lia);refine wpAny_bind (hkk _ ?_);refine wpAny_bind (wpAny_mono (wpS_sortRuns (a₀:=pairsOf vs) (st:=SortSt.mk' κ (vs.toArray.zip vs.toArray) #[] 7 none)
   (Q:=fun _ st'=>(arrOf st').Perm (pairsOf vs)/\failedOf st'=none/\Srt blt (arrOf st') 0 (pairsOf vs).size) O hL hU ⟨rfl,rfl,Array.Perm.refl _⟩ rfl (by rw [pairsOf_size];lia) fun st' b z=>⟨b.pm,b.fl,z⟩) ?_ fun _ _ e=>e)
  rintro ⟨⟨⟩,st'⟩ s' ⟨rfl,hp,hf,hs⟩;dsimp only;refine wpAny_bind (seqEpoch_at ho6 rfl ?_);refine wpAny_bind (listUpdate_at ho6 rfl ?_ (Nat.zero_le _) (hsz2:=by refine Nat.le_trans (Nat.le_of_eq ((Array.size_map ..).trans (hp.size_eq.trans (pairsOf_size _)))) ?_;exact Nat.le_succ_of_le hn));rw [hf];simp only [bne_self_eq_false,Bool.false_eq_true,if_false];exact wpAny_pure (fin (arrOf st') hp hs)
noncomputable def YT (h:Heap) (vs:List Value):Heap:=
 (((h.push (seqObj "list" vs.toArray 0)).update h.objs.size (Obj.mapSeq fun _=>(#[]:Array Value))).push (seqObj "tuple" vs.toArray 0)).push (seqObj "list" #[] 0)
theorem QJ {h:Heap} {vs:List Value} {b:Addr} {o:Obj} (hb:h.get? b=some o):(YT h vs).get? b=some o:=by
 have hlt:b<h.objs.size:=Heap.lt_size hb;unfold YT;refine Heap.get?_push_of_some _ (Heap.get?_push_of_some _ ?_);rw [Heap.get?_update_ne _ _ _ _ (Nat.ne_of_lt hlt)];exact Heap.get?_push_of_some _ hb
noncomputable def YW (h:Heap) (vs:List Value) (out:Array Value):Heap:=sortedHeap (h.push (seqObj "list" vs.toArray 0)) h.objs.size vs out
theorem QK {h:Heap} {vs:List Value} {out:Array Value} {b:Addr} {o:Obj} (hb:h.get? b=some o):(YW h vs out).get? b=some o:=by
 have hlt:b<h.objs.size:=Heap.lt_size hb;unfold YW;rw [sortedHeap_old (Nat.ne_of_lt hlt) (by rw [size_push'];exact Nat.lt_succ_of_lt hlt)];exact Heap.get?_push_of_some _ hb
theorem V2 (h:Heap) (vs:List Value) (out:Array Value):∃e,(YW h vs out).get? h.objs.size=some (seqObj "list" out e):=sortedHeap_at (n:=0) (Heap.get?_push_size _ rfl)
theorem CN {prog:Program} {w:World} {A:Around} {E:Value->Shared->Prop} {s:Shared} {v:Value} {vs:List Value} {Q:Value->Shared->Prop} (hn:vs.length<=sizeLine)
  (hcol:∀(Q':List Value->Shared->Prop) (E':Value->Shared->Prop),(∀h1 tk,(∀b o,s.heap.get? b=some o->h1.get? b=some o)->s.heap.objs.size<=h1.objs.size->Q' vs {s with heap:=h1,toks:=tk})->wpAny (model prog w) A.in1 (collect v) Q' E' s)
  (hk:∀h1 tk,(∀b o,s.heap.get? b=some o->h1.get? b=some o)->s.heap.objs.size<=h1.objs.size->2<=vs.length->∃κ U blt,Ord U blt/\k_ U (pairsOf vs)/\
   (∀Q:SortKind->Shared->Prop,Q κ {s with heap:=YT h1 vs,toks:=tk}->wpAny (model prog w) A.in1.in1 (keyKind' vs.toArray) Q (fun _ _=>False) {s with heap:=YT h1 vs,toks:=tk})/\
   BR prog w A.in1.in1 (fun _ _=>False) {s with heap:=YT h1 vs,toks:=tk} κ U blt/\
   ∀arr:Array Keyed,arr.Perm (pairsOf vs)->Srt blt arr 0 (pairsOf vs).size->Q (.ref h1.objs.size) {s with heap:=YW h1 vs (arr.map (·.2)),toks:=tk})
  (h1:∀h1 tk,(∀b o,s.heap.get? b=some o->h1.get? b=some o)->s.heap.objs.size<=h1.objs.size->vs.length<2->Q (.ref h1.objs.size) {s with heap:=YW h1 vs ((pairsOf vs).map (·.2)),toks:=tk}) :
  wpAny (model prog w) A (call (.builtin "sorted") [v]) Q E s:=by
 refine Calls.call_function_entry kind_sorted plain_sorted entry_sorted (args_sorted1 _) ?_;unfold Builtin.«sorted»;refine wpAny_bind (m:=checkCount "sorted" 1 1 _) (wpAny_pure ?_);refine wpAny_bind (hcol _ _ fun hh tk kp hle=>?_);refine wpAny_bind (wpAny_newList ?_ hn);have hoL:(hh.push (seqObj "list" vs.toArray 0)).get? hh.objs.size=some (seqObj "list" vs.toArray 0):=Heap.get?_push_size _ rfl;show wpAny _ _ _ _ _ {s with heap:=hh.push (seqObj "list" vs.toArray 0),toks:=tk};refine wpAny_bind (wpAny_holding (wpAny_call_entry slot_list_sort ⟨_,hoL,rfl⟩ entry_list_sort ?body (args_list_sort _)))
 case body=>
  refine wpAny_mono (rR (s:={s with heap:=hh.push (seqObj "list" vs.toArray 0),toks:=tk}) (E:=fun _ _=>False) (P:=fun f s'=>∃v,f=.done (.ret v)/\v=Value.none/\Q (.ref hh.objs.size) s') hoL hn (fun h2=>?_) (fun h2=>⟨_,rfl,rfl,h1 hh tk kp hle h2⟩)) (fun f s' h=>?_) fun _ _ z=>False.elim z
  ·obtain ⟨κ,U,blt,O,hU,hkk,hL,fin⟩:=hk hh tk kp hle h2;exact ⟨κ,U,blt,O,hU,hkk,hL,fun arr p z=>⟨_,rfl,rfl,fin arr p z⟩⟩
  ·obtain ⟨v,rfl,rfl,q⟩:=h;exact ⟨_,rfl,wpAny_pure ⟨_,rfl,q⟩⟩
end TS
end
section
namespace Mi
open PySem L2 PySem.SeqAt
open PyProof.Rows (Keyed lt' keyLt' oneLt' SortKind SortSt kindOf tuples' oneType' pairsOf wpS wpS_bind wpS_pure wpS_get wpS_lift keyKind')
variable [KFrag]
noncomputable def iM (H:Hp) (u:Value):D:=by
 classical
 exact if h:∃d,d.plain=true/\d.bM bA=true/\∃v,RelV v u/\Rep All H v d then Classical.choose h else .non
theorem nC {H:Hp} {u:Value} {v:V} {d:D} (hp:d.plain=true) (hq:d.bM bA=true) (rv:RelV v u) (r:Rep All H v d):iM H u=d:=by
 unfold iM;have h:∃d,d.plain=true/\d.bM bA=true/\∃v,RelV v u/\Rep All H v d:=⟨d,hp,hq,v,rv,r⟩
 rw [dif_pos h];obtain ⟨h1,h2,v',rv',r'⟩:=Classical.choose_spec h;have:=rv'.inj rv;subst this;exact Rep.inj bA h2 hq r' r
theorem cV {ds:List D} (h:bF ds=true) {a:D} (ha:a∈ds):a.plain=true/\a.bM bA=true/\dJ a≠0/\dJ a=dJ (ds.headD .non)/\∀b∈ds,∃k,cM .lt a b=some k:=by
 unfold bF at h;have:=List.all_eq_true.mp h a ha;simp only [Bool.and_eq_true,bne_iff_ne,beq_iff_eq] at this;obtain ⟨⟨⟨⟨h1,h2⟩,h3⟩,h4⟩,h5⟩:=this;refine ⟨h1,h2,h3,h4,fun b hb=>Option.isSome_iff_exists.mp (List.all_eq_true.mp h5 b hb)⟩
theorem qK {ds:List D} (h:bF ds=true) {a b:D} (ha:a∈ds) (hb:b∈ds):cM .lt a b=some (decide (enc a<enc b)):=by
 obtain ⟨p1,_,_,_,q⟩:=cV h ha;obtain ⟨p2,_⟩:=cV h hb;obtain ⟨k,hk⟩:=q b hb;rw [hk,wJ a b k p1 p2 hk]
noncomputable def sU (H:Hp) (ds:List D) (k:Keyed):Prop:=∃v d,RelV v k.1/\Rep All H v d/\d∈ds
noncomputable def sLt (H:Hp) (x y:Keyed):Bool:=decide (enc (iM H x.1)<enc (iM H y.1))
theorem aEp (H:Hp) (ds:List D):TS.Ord (sU H ds) (sLt H):=by
 refine ⟨fun x _=>?_,fun x y z _ _ _ h1 h2=>?_,fun x y z _ _ _ h=>?_⟩
 ·simp [sLt,List.lt_irrefl]
 ·simp only [sLt,decide_eq_true_eq] at *;exact List.lt_trans h1 h2
 ·simp only [sLt,decide_eq_true_eq] at *;by_cases q:enc (iM H x.1)<enc (iM H y.1)
  ·exact .inl q
  ·exact .inr (List.lt_of_le_of_lt (List.not_lt.mp q) h)
section
variable {X:Cx} {pins:List (Addr×Obj)} {σ:L2.St} {H:Hp} {s:Shared}
open PySem.W in
theorem rT {prog:Program} {w:World} {A:Around} {b k:Bool} {n1 n2:Nat} {Q:Bool->Shared->Prop}:∀(vs ws:List Value) (xs ys:List D) (i:Nat),(b&&i==0)=false->C2 .lt A s vs ws xs ys->cC .lt xs ys=some k->xs.length+n2=ys.length+n1->Q k s->
  KatLex prog w A b (decide (n1<n2)) Q (vs.zip ws) i s
 | [],ws,xs,ys,i,_,hC,hk,hf,q=>by
  have:xs=[]:=List.eq_nil_of_length_eq_zero hC.1.symm;subst this;rw [List.zip_nil_left];rw [cC] at hk;have e:k=decide (n1<n2):=by
   rw [<-Option.some.inj hk];simp only [fD.nat,List.length_nil] at hf ⊢
   congr 1
   simp only [eq_iff_iff];lia
  rw [<-e];exact q
 | v::vs,[],xs,ys,i,_,hC,hk,hf,q=>by
  have:ys=[]:=List.eq_nil_of_length_eq_zero hC.2.1.symm;subst this;rw [List.zip_nil_right];cases xs with
  | nil=>exact absurd hC.1 (by simp)
  | cons x xs=>
   rw [cC] at hk;have e:k=decide (n1<n2):=by
    rw [<-Option.some.inj hk];simp only [fD.nat,List.length_nil,List.length_cons] at hf ⊢
    congr 1
    simp only [eq_iff_iff];lia
   rw [<-e];exact q
 | v::vs,w'::ws,[],ys,i,_,hC,hk,hf,q=>absurd hC.1 (by simp)
 | v::vs,w'::ws,x::xs,[],i,_,hC,hk,hf,q=>absurd hC.2.1 (by simp)
 | v::vs,w'::ws,x::xs,y::ys,i,hi,hC,hk,hf,q=>by
  rw [List.zip_cons_cons];obtain ⟨he,hlt⟩:=hC.2.2 0 _ _ _ _ rfl rfl rfl rfl;rw [cC] at hk;refine kat_cons (he prog w _ _ ?_);cases e:eqD x y with
  | true=>
   rw [e,if_pos rfl] at hk;exact kat_yes (rT vs ws xs ys (i+1) (by simp) hC.tail hk (by simp only [List.length_cons] at hf;lia) q)
  | false=>
   rw [e,if_neg (by simp)] at hk;refine kat_no ?_;rw [hi];exact kat_one _ _ (hlt e k hk prog w _ _ q)
theorem aCx (I:Inv X pins σ H s) {A:Around} {n:Nat} (hu:A.units+n<cLine) {xs ys:List V} {ds es:List D} {its1 its2:List Value} (ha:D.gZ n ds=true) (hb:D.gZ n es=true) (r1:a_ All H xs ds) (r2:a_ All H ys es) (vr1:Vals xs its1) (vr2:Vals ys its2) :
  C2 .lt A s its1 its2 ds es:=by
 refine ⟨by rw [<-vr1.length,r1.length],by rw [<-vr2.length,r2.length],fun j v w x y a1 a2 a3 a4=>?_⟩;obtain ⟨v1,w1,rr1⟩:=r1.get a3;obtain ⟨v2,w2,rr2⟩:=r2.get a4;obtain ⟨u1,k1,l1⟩:=vr1.get w1;obtain ⟨u2,k2,l2⟩:=vr2.get w2;rw [a1] at k1;cases k1;rw [a2] at k2;cases k2;have g1:x.bM n=true:=by
  have:=dU (j:=j) ha (List.getElem?_eq_some_iff.mp a3).1;rwa [List.getD_eq_getElem?_getD,a3] at this
 have g2:y.bM n=true:=by
  have:=dU (j:=j) hb (List.getElem?_eq_some_iff.mp a4).1;rwa [List.getD_eq_getElem?_getD,a4] at this
 exact ⟨(yQ I n A hu g1 g2 rr1 rr2 l1 l2).2.2,fun _ k hk=>wL I .lt n A hu g1 g2 rr1 rr2 l1 l2 hk⟩
theorem kind_le (d:D):dJ d<=5:=by
 unfold dJ;split <;> lia
theorem V3 {d:D} (h:dJ d=1):∃i,d=.int i:=by
 unfold dJ at h;split at h <;> first|lia|exact ⟨_,rfl⟩
theorem V4 {d:D} (h:dJ d=2):∃i,d=.str i:=by
 unfold dJ at h;split at h <;> first|lia|exact ⟨_,rfl⟩
theorem QL {d:D} (h:dJ d=3):∃i r,d=.tup (.int i::r):=by
 unfold dJ at h;split at h <;> first|lia|exact ⟨_,_,rfl⟩
theorem QM {d:D} (h:dJ d=4):∃i r,d=.tup (.str i::r):=by
 unfold dJ at h;split at h <;> first|lia|exact ⟨_,_,rfl⟩
theorem aA6 {d:D} (h:dJ d=5):∃i r,d=.tup (.tup i::r):=by
 unfold dJ at h;split at h <;> first|lia|exact ⟨_,_,rfl⟩
theorem yS {xs:List V} {ds:List D} {its:List Value} (r:a_ All H xs ds) (vr:Vals xs its) {u:Value} (hu:u∈its):∃v d,RelV v u/\Rep All H v d/\d∈ds:=by
 obtain ⟨j,hj,e⟩:=List.getElem_of_mem hu;have hj':j<ds.length:=by rw [<-r.length,vr.length];exact hj
 obtain ⟨v,h1,h2⟩:=r.get (i:=j) (d:=ds[j]) (by simp [hj']);obtain ⟨u',h3,h4⟩:=vr.get h1;rw [List.getElem?_eq_getElem hj,e] at h3;cases h3;exact ⟨v,_,h4,h2,List.getElem_mem _⟩
open PySem.W in
theorem rU (I:Inv X pins σ H s) {T:Value} {F:D->Prop} (hF:∀(d:D) (v:V) (u:Value),F d->RelV v u->Rep All H v d->Looks (model X.prog X.w) s.heap (typeOf u) T) :
  ∀{xs:List V} {ds:List D} {its:List Value},a_ All H xs ds->Vals xs its->(∀d∈ds,∃f r,d=.tup (f::r)/\F f)->∃fs,KatTups s.heap its fs/\fs.length=its.length/\∀f∈fs,Looks (model X.prog X.w) s.heap (typeOf f) T
 | _,_,_,.nil,.nil,_=>⟨[],.nil,rfl,fun _ h=>by simp at h⟩
 | _,_,_,.cons r t,.cons v vt,h=>by
  obtain ⟨fs,h1,h2,h3⟩:=rU I hF t vt fun d hd=>h d (List.mem_cons_of_mem _ hd)
  obtain ⟨f,rr,rfl,hf⟩:=h _ (List.mem_cons_self ..);obtain ⟨a,ys,rfl,e,rs⟩:=r.dR;cases v;obtain ⟨its2,vr2,o,ho,hc,n,hd⟩:=d8 I e;cases rs with
  | cons r0 rs=>
   cases vr2 with
   | cons v0 vr2=>
    refine ⟨_::fs,.cons ho hc hd rfl h1,by simp [h2],fun g hg=>?_⟩;rcases List.mem_cons.mp hg with rfl|hg
    ·exact hF _ _ _ hf v0 r0
    ·exact h3 g hg
open PySem.W in
theorem JV (I:Inv X pins σ H s) {A:Around} (hu:A.units+bA<cLine) {xs:List V} {ds:List D} {its:List Value} (hc:bF ds=true) (r:a_ All H xs ds) (vr:Vals xs its) (h2:2<=its.length) :
  ∃κ:SortKind,(∀Q:SortKind->Shared->Prop,Q κ s->wpAny (model X.prog X.w) A (keyKind' its.toArray) Q (fun _ _=>False) s)/\
   ∀(x y:Keyed) (Q:Bool->Shared->Prop),sU H ds x->sU H ds y->Q (sLt H x y) s->wpAny (model X.prog X.w) A (keyLt' κ x.1 y.1) Q (fun _ _=>False) s:=by
 have hlen:ds.length=its.length:=by rw [<-r.length,vr.length]
 have hkind:∀d∈ds,dJ d=dJ (ds.headD .non):=fun d hd=>(cV hc hd).2.2.2.1
 have hne:dJ (ds.headD .non)≠0:=by
  have hd:ds.headD .non∈ds:=by
   cases ds with
   | nil=>simp at hlen;lia
   | cons d ds=>simp
  exact (cV hc hd).2.2.1
 have lty:∀{x y:Keyed} {v v':V} {d d':D},RelV v x.1->Rep All H v d->d∈ds->RelV v' y.1->Rep All H v' d'->d'∈ds->cM .lt d d'=some (sLt H x y):=fun {x y v v' d d'} rv rp hd rv' rp' hd'=>by
  have e1:=nC (cV hc hd).1 (cV hc hd).2.1 rv rp;have e2:=nC (cV hc hd').1 (cV hc hd').2.1 rv' rp';rw [qK hc hd hd'];unfold sLt;rw [e1,e2]
 -- two tuples whose first items are told by a rule of their own,or by the common one
 have tupl:∀(b:Bool) (x y:Keyed) (Q:Bool->Shared->Prop),sU H ds x->sU H ds y->(∀d∈ds,∃f r,d=.tup (f::r))->
   (b=true->∀(f g:D) (v v':V) (u u':Value) (k:Bool) (Q:Bool->Shared->Prop),(∃r,D.tup (f::r)∈ds)->(∃r,D.tup (g::r)∈ds)->RelV v u->Rep All H v f->RelV v' u'->Rep All H v' g->cM .lt f g=some k->Q k s->wpAny (model X.prog X.w) A (oneLt' true u u') Q (fun _ _=>False) s)->
   Q (sLt H x y) s->wpAny (model X.prog X.w) A (keyLt' (tuples' b) x.1 y.1) Q (fun _ _=>False) s:=by
  rintro b ⟨x1,x2⟩ ⟨y1,y2⟩ Q ⟨v,d,rv,rp,hd⟩ ⟨v',d',rv',rp',hd'⟩ htup hone q;have hk:=lty rv rp hd rv' rp' hd';have q1:=(cV hc hd).2.1;have q2:=(cV hc hd').2.1;obtain ⟨f,rr,rfl⟩:=htup d hd;obtain ⟨g,rr',rfl⟩:=htup d' hd';obtain ⟨a,ys,rfl,e,rs⟩:=rp.dR;obtain ⟨a',ys',rfl,e',rs'⟩:=rp'.dR;cases rv;cases rv';obtain ⟨i1,vr1,o1,ho1,hc1,n1,hd1⟩:=d8 I e;obtain ⟨i2,vr2,o2,ho2,hc2,n2,hd2⟩:=d8 I e';rw [cM] at hk;have q1':D.gZ 11 (f::rr)=true:=by rw [show bA=11+1 from rfl,D.bM] at q1;exact q1
  have q2':D.gZ 11 (g::rr')=true:=by rw [show bA=11+1 from rfl,D.bM] at q2;exact q2
  have hu':A.units+11<cLine:=by have:A.units+12<cLine:=hu;lia
  have C:=aCx I hu' q1' q2' rs rs' vr1 vr2;refine kat_lt ho1 hd1 ho2 hd2 ?_;have z1:i1.toArray.size=(f::rr).length:=by rw [List.size_toArray,<-vr1.length,rs.length]
  have z2:i2.toArray.size=(g::rr').length:=by rw [List.size_toArray,<-vr2.length,rs'.length]
  rw [List.toList_toArray,List.toList_toArray,z1,z2];cases b with
  | false=>exact rT i1 i2 (f::rr) (g::rr') 0 rfl C hk (by lia) q
  | true=>
   cases rs with
   | cons r0 rs=>
    cases rs' with
    | cons r0' rs'=>
     cases vr1 with
     | cons v0 vr1=>
      cases vr2 with
      | cons v0' vr2=>
       rw [List.zip_cons_cons];obtain ⟨he,_⟩:=C.2.2 0 _ _ _ _ rfl rfl rfl rfl;rw [cC] at hk;refine kat_cons (he X.prog X.w _ _ ?_);cases e0:eqD f g with
       | true=>
        rw [e0,if_pos rfl] at hk;exact kat_yes (rT _ _ rr rr' 1 (by simp) C.tail hk (by simp only [List.length_cons];lia) q)
       | false=>
        rw [e0,if_neg (by simp)] at hk;refine kat_no ?_;exact hone rfl f g _ _ _ _ _ Q ⟨_,hd⟩ ⟨_,hd'⟩ v0 r0 v0' r0' hk q
 have h5:=kind_le (ds.headD .non);have cases5:dJ (ds.headD .non)=1\/dJ (ds.headD .non)=2\/dJ (ds.headD .non)=3\/dJ (ds.headD .non)=4\/dJ (ds.headD .non)=5:=by lia
 rcases cases5 with c|c|c|c|c
 ·refine ⟨oneType',fun Q q=>kas_kind (T:=.type "int") h2 (fun u hm=>?_) (by decide) (by decide) q,fun x y Q hx hy q=>?_⟩
  ·obtain ⟨v,d,rv,rp,hd⟩:=yS r vr hm;obtain ⟨i,rfl⟩:=V3 ((hkind d hd).trans c);cases rp;obtain ⟨t,rfl⟩:=rv;exact Looks.of_pure rfl
  ·obtain ⟨v,d,rv,rp,hd⟩:=hx;obtain ⟨v',d',rv',rp',hd'⟩:=hy;have hk:=lty rv rp hd rv' rp' hd';obtain ⟨i,rfl⟩:=V3 ((hkind d hd).trans c);obtain ⟨j,rfl⟩:=V3 ((hkind d' hd').trans c);cases rp;cases rp';obtain ⟨t,e1⟩:=rv;obtain ⟨t',e2⟩:=rv';rw [cM] at hk;rw [<-Option.some.inj hk] at q;rw [e1,e2,PyProof.Rows.keyLt'_oneType];exact PyProof.Rows.oneLt_int q
 ·refine ⟨oneType',fun Q q=>kas_kind (T:=.type "str") h2 (fun u hm=>?_) (by decide) (by decide) q,fun x y Q hx hy q=>?_⟩
  ·obtain ⟨v,d,rv,rp,hd⟩:=yS r vr hm;obtain ⟨i,rfl⟩:=V4 ((hkind d hd).trans c);cases rp;obtain ⟨t,rfl⟩:=rv;exact Looks.of_pure rfl
  ·obtain ⟨v,d,rv,rp,hd⟩:=hx;obtain ⟨v',d',rv',rp',hd'⟩:=hy;have hk:=lty rv rp hd rv' rp' hd';obtain ⟨i,rfl⟩:=V4 ((hkind d hd).trans c);obtain ⟨j,rfl⟩:=V4 ((hkind d' hd').trans c);cases rp;cases rp';obtain ⟨t,e1⟩:=rv;obtain ⟨t',e2⟩:=rv';rw [cM] at hk;rw [<-Option.some.inj hk] at q;rw [e1,e2,PyProof.Rows.keyLt'_oneType];exact PyProof.Rows.oneLt_str q
 ·obtain ⟨fs,t1,t2,t3⟩:=rU I (T:=.type "int") (F:=fun f=>∃i,f=.int i) (fun d v u hf rv rp=>by
   obtain ⟨i,rfl⟩:=hf;cases rp;obtain ⟨t,rfl⟩:=rv;exact Looks.of_pure rfl) r vr (fun d hd=>by
   obtain ⟨i,rr,rfl⟩:=QL ((hkind d hd).trans c);exact ⟨_,_,rfl,i,rfl⟩)
  refine ⟨tuples' true,fun Q q=>kat_kind (T:=.type "int") t1 (by lia) t3 (by decide) q,fun x y Q hx hy q=>tupl true x y Q hx hy (fun d hd=>?_) (fun _ f g v v' u u' k Q hf hg rv rp rv' rp' hk q=>?_) q⟩
  ·obtain ⟨i,rr,rfl⟩:=QL ((hkind d hd).trans c);exact ⟨_,_,rfl⟩
  ·obtain ⟨r1,hf⟩:=hf;obtain ⟨r2,hg⟩:=hg;obtain ⟨i,rr,e1⟩:=QL ((hkind _ hf).trans c);obtain ⟨j,rr',e2⟩:=QL ((hkind _ hg).trans c);cases e1;cases e2;cases rp;cases rp';obtain ⟨t,rfl⟩:=rv;obtain ⟨t',rfl⟩:=rv';rw [cM] at hk;rw [<-Option.some.inj hk] at q;exact PyProof.Rows.oneLt_int q
 ·obtain ⟨fs,t1,t2,t3⟩:=rU I (T:=.type "str") (F:=fun f=>∃i,f=.str i) (fun d v u hf rv rp=>by
   obtain ⟨i,rfl⟩:=hf;cases rp;obtain ⟨t,rfl⟩:=rv;exact Looks.of_pure rfl) r vr (fun d hd=>by
   obtain ⟨i,rr,rfl⟩:=QM ((hkind d hd).trans c);exact ⟨_,_,rfl,i,rfl⟩)
  refine ⟨tuples' true,fun Q q=>kat_kind (T:=.type "str") t1 (by lia) t3 (by decide) q,fun x y Q hx hy q=>tupl true x y Q hx hy (fun d hd=>?_) (fun _ f g v v' u u' k Q hf hg rv rp rv' rp' hk q=>?_) q⟩
  ·obtain ⟨i,rr,rfl⟩:=QM ((hkind d hd).trans c);exact ⟨_,_,rfl⟩
  ·obtain ⟨r1,hf⟩:=hf;obtain ⟨r2,hg⟩:=hg;obtain ⟨i,rr,e1⟩:=QM ((hkind _ hf).trans c);obtain ⟨j,rr',e2⟩:=QM ((hkind _ hg).trans c);cases e1;cases e2;cases rp;cases rp';obtain ⟨t,rfl⟩:=rv;obtain ⟨t',rfl⟩:=rv';rw [cM] at hk;rw [<-Option.some.inj hk] at q;exact PyProof.Rows.oneLt_str q
 ·obtain ⟨fs,t1,t2,t3⟩:=rU I (T:=.type "tuple") (F:=fun f=>∃i,f=.tup i) (fun d v u hf rv rp=>by
   obtain ⟨i,rfl⟩:=hf;obtain ⟨a,ys,rfl,e,rs⟩:=rp.dR;cases rv;obtain ⟨i1,vr1,o1,ho1,hc1,n1,hd1⟩:=d8 I e;have:=(show Looks (model X.prog X.w) s.heap (typeOf (.ref a)) o1.cls from (Looks.ld ho1).andThen .now)
   rwa [hc1] at this) r vr (fun d hd=>by
   obtain ⟨i,rr,rfl⟩:=aA6 ((hkind d hd).trans c);exact ⟨_,_,rfl,i,rfl⟩)
  refine ⟨tuples' false,fun Q q=>kat_kind (T:=.type "tuple") t1 (by lia) t3 (by decide) q,fun x y Q hx hy q=>tupl false x y Q hx hy (fun d hd=>?_) (fun h=>by cases h) q⟩;obtain ⟨i,rr,rfl⟩:=aA6 ((hkind d hd).trans c);exact ⟨_,_,rfl⟩
theorem V5 (I:Inv X pins σ H s) {A:Around} {ds:List D} {κ:SortKind} (h:∀(x y:Keyed) (Q:Bool->Shared->Prop),sU H ds x->sU H ds y->Q (sLt H x y) s->wpAny (model X.prog X.w) A (keyLt' κ x.1 y.1) Q (fun _ _=>False) s) :
  TS.BR X.prog X.w A (fun _ _=>False) s κ (sU H ds) (sLt H):=by
 intro x y st Q hx hy hk q;rw [PyProof.Rows.lt'_eq];refine wpS_bind (wpS_get ?_);rw [hk];refine wpS_bind (wpS_lift (wpAny_attempt (wpAny_mono (h x y (fun b s'=>s'=s/\b=sLt H x y) hx hy ⟨rfl,rfl⟩) (fun b s' ⟨e1,e2⟩=>⟨e1,?_⟩) fun _ _ z=>False.elim z)));subst e2;exact wpS_pure q
theorem h_ {Q:VK} {v:Value} {its:List Value} {xs:List V} {ds:List D} (I:Inv X pins σ H s) (hu:X.A.units+20<cLine) (vr:Vals xs its) (hn:its.length<=sizeLine) (r:a_ All H xs ds) (hc:bF ds=true)
  (hcol:∀(Q':List Value->Shared->Prop) (E':Value->Shared->Prop),(∀h1 tk,(∀b o,s.heap.get? b=some o->h1.get? b=some o)->s.heap.objs.size<=h1.objs.size->Q' its {s with heap:=h1,toks:=tk})->wpAny (model X.prog X.w) X.A.in1 (collect v) Q' E' s)
  (q:∀p xs',H p=none->a_ All H xs' (iW ds)->Q (.ref p) (upd H p (.lst xs'))):wpAny (model X.prog X.w) X.A (call (.builtin "sorted") [v]) (EP X pins σ Q) X.xe s:=by
 have hz:xs.length<=sizeLine:=by rw [vr.length];exact hn
 -- what comes,told by its data
 have fin:∀(h1:Heap) (tk:Nat),(∀b o,s.heap.get? b=some o->h1.get? b=some o)->s.heap.objs.size<=h1.objs.size->∀arr:Array Keyed,arr.Perm (pairsOf its)->(∀i j,i<=j->j<arr.size->leE (iM H (TS.gt arr i).1) (iM H (TS.gt arr j).1)=true)->EP X pins σ Q (.ref h1.objs.size) {s with heap:=TS.YW h1 its (arr.map (·.2)),toks:=tk}:=by
  intro h1' tk kp hle arr hp hs;have hpl:arr.toList.Perm (its.zip its):=by rw [<-PyProof.Rows.pairsOf_toList];exact Array.perm_iff_toList_perm.mp hp
  have hmem:∀p∈arr.toList,p.1=p.2/\p.1∈its:=fun p hp'=>PyProof.Rows.mem_zip_self (hpl.mem_iff.mp hp')
  have e1:(arr.map (·.2)).toList=arr.toList.map (·.1):=by
   rw [Array.toList_map];exact List.map_congr_left fun p hp'=>(hmem p hp').1.symm
  -- the values and their data
  have all:∀l:List Keyed,(∀p∈l,p∈arr.toList)->∃ys,Vals ys (l.map (·.1))/\a_ All H ys (l.map fun p=>iM H p.1):=by
   intro l;induction l with
   | nil=>intro _;exact ⟨[],.nil,.nil⟩
   | cons p l ih=>
    intro h;obtain ⟨ys,h1,h2⟩:=ih fun p hp'=>h p (List.mem_cons_of_mem _ hp')
    obtain ⟨v,d,rv,rp,hd⟩:=yS r vr (hmem p (h p (List.mem_cons_self ..))).2;refine ⟨v::ys,.cons rv h1,?_⟩;rw [List.map_cons,nC (cV hc hd).1 (cV hc hd).2.1 rv rp];exact .cons rp h2
  obtain ⟨ys,h1,h2⟩:=all arr.toList fun _ h=>h
  have dats:its.map (iM H)=ds:=by
   clear all h1 h2 hp hs hpl hmem e1;have:∀{xs:List V} {es:List D} {us:List Value},a_ All H xs es->Vals xs us->(∀d∈es,d∈ds)->us.map (iM H)=es:=by
    intro xs es us r;induction us generalizing xs es with
    | nil=>intro v _;cases v;cases r;rfl
    | cons u us ih=>
     intro v hsub;cases v with
     | cons v0 vt=>
      cases r with
      | cons r0 rt=>
       have hd:=hsub _ (List.mem_cons_self ..);rw [List.map_cons,ih rt vt fun d hd=>hsub d (List.mem_cons_of_mem _ hd),nC (cV hc hd).1 (cV hc hd).2.1 v0 r0]
   exact this r vr fun _ h=>h
  have hperm:(arr.toList.map fun p=>iM H p.1).Perm ds:=by
   have:=hpl.map fun p=>iM H p.1
   have e2:(its.zip its).map (fun p=>iM H p.1)=ds:=by
    have:(its.zip its).map (fun p=>iM H p.1)=((its.zip its).map Prod.fst).map (iM H):=by rw [List.map_map];rfl
    rw [this,List.map_fst_zip (Nat.le_refl _),dats]
   rwa [e2] at this
  have hsorted:(arr.toList.map fun p=>iM H p.1).Pairwise fun a b=>leE a b=true:=by
   rw [List.pairwise_map,List.pairwise_iff_getElem];intro i j hi hj hij;have:=hs i j (Nat.le_of_lt hij) (by simpa using hj);have g:∀k (hk:k<arr.toList.length),TS.gt arr k=arr.toList[k]:=fun k hk=>by
    unfold TS.gt;have hk':k<arr.size:=by simpa using hk
    simp [Array.getD,hk']
   rwa [g i hi,g j hj] at this
  have eq:(arr.toList.map fun p=>iM H p.1)=iW ds:=by
   refine oM (fun d hd=>?_) (hperm.trans (d9 ds).symm) hsorted (i_ ds);exact (cV hc (hperm.mem_iff.mp hd)).1
  rw [eq] at h2;rw [<-e1] at h1;have hfr:H h1'.objs.size=none:=I.hok.fresh hle;obtain ⟨ee,he⟩:=TS.V2 h1' its (arr.map (·.2));refine ⟨.ref h1'.objs.size,_,I.laid (t':=tk) (fun b o e=>TS.QK (kp b o e)) hle ?_,rfl,q _ ys hfr h2⟩;refine ⟨?_,(arr.map (·.2)).toList,ee,h1,by rw [he]⟩;rw [h2.length,(d9 ds).length_eq,<-r.length];exact hz
 refine TS.CN hn hcol (fun hh tk kp hle h2=>?_) (fun hh tk kp hle h2=>?_)
 ·have I':Inv X pins σ H {s with heap:=TS.YT hh its,toks:=tk}:=I.kept (t':=tk) fun b o e=>TS.QJ (kp b o e)
  have hu2:X.A.in1.in1.units+bA<cLine:=by show X.A.units+1+1+12<cLine;lia
  obtain ⟨κ,k1,k2⟩:=JV I' hu2 hc r vr h2;refine ⟨κ,sU H ds,sLt H,aEp H ds,fun i hi=>?_,k1,V5 I' k2,fun arr p z=>fin hh tk kp hle arr p fun i j a1 a2=>?_⟩
  ·rw [PyProof.Rows.pairsOf_size] at hi;have e:TS.gt (pairsOf its) i=(its[i],its[i]):=by
    unfold TS.gt pairsOf;simp [Array.getD,hi]
   rw [e];exact yS r vr (List.getElem_mem hi)
  ·have:=z i j (Nat.zero_le _) a1 (by rw [<-p.size_eq];exact a2);unfold leE;unfold sLt at this;rw [this];rfl
 ·refine fin hh tk kp hle _ (Array.Perm.refl _) fun i j a1 a2=>?_
  rw [PyProof.Rows.pairsOf_size] at a2;rw [show i=j by lia];simp [leE,List.lt_irrefl]
theorem CP {Q:VK} {l:Addr} {xs:List V} {ds:List D} (I:Inv X pins σ H s) (hu:X.A.units+20<cLine) (hl:SqL X.K H l xs) (r:a_ All H xs ds) (hc:bF ds=true)
  (q:∀p xs',H p=none->a_ All H xs' (iW ds)->Q (.ref p) (upd H p (.lst xs'))):wpAny (model X.prog X.w) X.A (call (.builtin "sorted") [.ref l]) (EP X pins σ Q) X.xe s:=by
 obtain ⟨its,vr,pl,hz⟩:=I.list hl;have hn:its.length<=sizeLine:=by rw [<-vr.length];exact hz
 refine h_ I hu vr hn r hc (fun Q' E' h=>PyProof.Rows.collect_list pl.isList (h _ s.toks (fun b o e=>?_) ?_) hn) q
 ·rw [Heap.get?_update_ne _ _ _ _ (Nat.ne_of_lt (Heap.lt_size e))];exact Heap.get?_push_of_some _ e
 ·rw [Heap.size_update,PyProof.Rows.size_push'];exact Nat.le_succ _
end
end Mi
end
section
namespace Mi
open PySem L2 PySem.SeqAt PySem.Spec PyProof.Rows
variable [KFrag]
noncomputable def kR (H:Hp) (d:D) (fr:Bool) (Q:VK):Prop:=∀v H',bZ H H'->Rep All H' v d->(fr=true->Rep (New H) H' v d)->Q v H'
noncomputable def gE (f:FE) (fr:Bool):TE:=fun σ H Q=>∃ρ d,ER H σ ρ/\f ρ=.ok d/\kR H d fr Q
noncomputable def gT (f:FT):TT:=fun σ H Q=>∃ρ b,ER H σ ρ/\f ρ=.ok b/\∀H',bZ H H'->Q b H'
noncomputable def gA (f:FA) (fr:Bool):TA:=fun σ H Q=>∃ρ ds,ER H σ ρ/\f ρ=.ok ds/\∀vs H',bZ H H'->a_ All H' vs ds->(fr=true->a_ (New H) H' vs ds)->Q vs H'
theorem kR.self {H:Hp} {d:D} {fr:Bool} {Q:VK} {v:V} (q:kR H d fr Q) (r:Rep All H v d) (r2:fr=true->Rep (New H) H v d):Q v H:=q v H (bZ.refl H) r r2
theorem kR.imp {H H':Hp} {d:D} {fr fr':Bool} {Q:VK} (q:kR H d fr Q) (s:bZ H H') (h:fr=true->fr'=true):kR H' d fr' Q:=fun v H2 s2 r n=>q v H2 (s.trans s2) r fun hf=>(n (h hf)).mono (bZ.new s)
theorem kR.int {H:Hp} {i:Int} {fr:Bool} {Q:VK} (q:kR H (.int i) fr Q):Q (.int i) H:=q.self (.int i) fun _=>.int i
theorem kR.bl {H:Hp} {i:Bool} {fr:Bool} {Q:VK} (q:kR H (.bl i) fr Q):Q (.bl i) H:=q.self (.bl i) fun _=>.bl i
theorem kR.str {H:Hp} {i:Str} {fr:Bool} {Q:VK} (q:kR H (.str i) fr Q):Q (.str i) H:=q.self (.str i) fun _=>.str i
theorem kR.non {H:Hp} {fr:Bool} {Q:VK} (q:kR H .non fr Q):Q .non H:=q.self .non fun _=>.non
noncomputable def r2 (f:D->D->Res D) (fr:Bool):R2:=fun x y H Q=>∃a b d,Rep All H x a/\Rep All H y b/\f a b=.ok d/\kR H d fr Q
noncomputable def rs (f:List D->Res D) (fr:Bool):List V->Hp->VK->Prop:=fun xs H Q=>∃ds d,a_ All H xs ds/\f ds=.ok d/\kR H d fr Q
theorem aU {α β:Type} {m:Res α} {f:α->Res β} {b:β} (h:(do let x <- m;f x)=.ok b):∃a,m=.ok a/\f a=.ok b:=Res.VP h
section
variable {X:Cx} {a b c e:Expr} {pos:Pos} {fa fb fc fe:FE} {ra rb rc re:Bool} {ga gb gc:FT}
theorem ER.var {H:Hp} {σ:L2.St} {ρ:List D} {i:Nat} {d:D} (E:ER H σ ρ) (h:aH i ρ=.ok d):∃v,σ[i]?=some (some v)/\Rep All H v d/\ρ.getD i .uDf=d:=by
 have:ρ.getD i .uDf=d/\d≠.uDf:=by
  unfold aH at h;split at h
  ·cases h
  ·cases h;refine ⟨rfl,fun z=>?_⟩;rename_i q;exact q z
 obtain ⟨e1,e2⟩:=this;obtain ⟨v,h1,h2⟩:=E i (by rw [e1];exact e2);exact ⟨v,h1,by rw [e1] at h2;exact h2,e1⟩
theorem aA {i:Nat} {x:Str} (hN:X.N[i]?=some x:=by exact rfl) (hv:Vis X.env.scope x:=by trivial) (hd:(x==("__debug__" : Str))=false:=by decide) (hcd:(x==("__classdict__" : Str))=false:=by decide):PE X (.Name x pos) (gE (aH i) false):=
 PE.imp (eU hN hv hd hcd) fun σ H Q ⟨ρ,d,E,h,q⟩=>by
  obtain ⟨v,h1,h2,_⟩:=E.var h;exact ⟨v,h1,q.self h2 (fun z=>by cases z)⟩
theorem aG {i j}:PE X (.Constant (.int i) j pos) (gE (bC (.int i)) true):=PE.imp Y5 fun σ H Q ⟨ρ,d,E,h,q⟩=>by cases h;exact q.int
theorem QQ {i j}:PE X (.Constant (.bool i) j pos) (gE (bC (.bl i)) true):=PE.imp aCc fun σ H Q ⟨ρ,d,E,h,q⟩=>by cases h;exact q.bl
theorem SJ {i j}:PE X (.Constant (.str i) j pos) (gE (bC (.str i)) true):=PE.imp Y7 fun σ H Q ⟨ρ,d,E,h,q⟩=>by cases h;exact q.str
theorem SM {j}:PE X (.Constant .none j pos) (gE (bC .non) true):=PE.imp Y6 fun σ H Q ⟨ρ,d,E,h,q⟩=>by cases h;exact q.non
theorem two {f:D->D->Res D} {fr:Bool} {σ:L2.St} {H:Hp} {Q:VK} (h:gE (b2 f fa fb) fr σ H Q):tOp (r2 f fr) (gE fa ra) (gE fb rb) σ H Q:=by
 obtain ⟨ρ,d,E,h,q⟩:=h;obtain ⟨x,h1,h⟩:=aU h;obtain ⟨y,h2,h⟩:=aU h;refine ⟨ρ,x,E,h1,fun v H1 s1 rp1 _=>⟨ρ,y,E.same s1,h2,fun u H2 s2 rp2 _=>⟨x,y,d,rp1.same s2,rp2,h,q.imp (s1.trans s2) id⟩⟩⟩
theorem bJ {o:Operator} {f:D->D->Res D} {fr:Bool} (ho:OpR X (binaryOp o) (r2 f fr)) (ha:PE X a (gE fa ra)) (hb:PE X b (gE fb rb)):PE X (.BinOp a o b pos) (gE (b2 f fa fb) fr):=PE.imp (ZK ho ha hb) fun _ _ _=>two
theorem oU {o:CmpOp} {f:D->D->Res D} {fr:Bool} (ho:OpR X (compareOp o) (r2 f fr)) (ha:PE X a (gE fa ra)) (hb:PE X b (gE fb rb)) (hm:behindInMarks o b=false):PE X (.Compare a [o] [b] pos) (gE (b2 f fa fb) fr):=PE.imp (U4 ho ha hb hm) fun _ _ _=>two
theorem gK {o:CmpOp} {f:D->D->Res D} {fr:Bool} (ho:OpR X (compareOp o) (r2 f fr)) (ha:PE X a (gE fa ra)) (hb:PE X b (gE fb rb)) (hm:behindInMarks o b=false):PT X (.Compare a [o] [b] pos) (gT (bTB (b2 f fa fb))):=
 PT.imp (G6 ho ha hb hm) fun σ H Q ⟨ρ,k,E,h,q⟩=>by
  obtain ⟨d,h1,h2⟩:=aU h;refine two ⟨ρ,d,E,h1,fun v H' s r _=>?_⟩;cases d <;> simp only [asB] at h2 <;> cases h2
  cases r;exact ⟨_,rfl,q H' s⟩
theorem bY {f:D->D->Res D} {fr:Bool} (ho:IxR X (r2 f fr)) (ha:PE X a (gE fa ra)) (hb:PE X b (gE fb rb)) (hs:q_ b):PE X (.Subscript a b pos) (gE (b2 f fa fb) fr):=PE.imp (U8 ho ha hb hs) fun _ _ _=>two
theorem aEq {H:Hp} {v:V} {d:D} {k:Bool} (r:Rep All H v d) (h:aCw d=.ok k) (hd:∀kvs,d≠.dct kvs) (hs:∀xs,d≠.scr xs):aCo X.K v H k:=by
 cases r with
 | non=>cases h;rfl
 | bl b=>cases h;rfl
 | int i=>cases h;rfl
 | str x=>
  simp only [aCw] at h;split at h
  ·rename_i hl;cases h;exact ⟨Nat.le_trans (of_decide_eq_true hl) (by rw [sizeLine_eq];decide),rfl⟩
  ·cases h
 | tup e rr=>cases h;exact .inr (.inl ⟨_,.of e,by cases rr <;> rfl⟩)
 | lst e p rr=>cases h;exact .inl ⟨_,.of e,by cases rr <;> rfl⟩
 | frz e rr=>exact absurd rfl (hs _)
 | dK e p rr n=>exact absurd rfl (hd _)
 | dT e p rr n=>exact absurd rfl (hd _)
 | fdK e rr n=>cases h
 | fdT e rr n=>cases h
 | cel e p rr=>cases h
theorem mQ (ha:PE X a (gE fa ra)) (he:∀whole,isTrue a X.env whole=(do let v <- whole;standAt a.pos;holding [v] (truthy v)):=by intro _;rfl):PT X a (gT (bTr fa)):=
 PT.imp (PJ ha he) fun σ H Q ⟨ρ,k,E,h,q⟩=>by
  obtain ⟨d,h1,h2⟩:=aU h;refine ⟨ρ,d,E,h1,fun v H' s r _=>⟨k,aEq r ?_ ?_ ?_,q H' s⟩⟩
  ·cases d <;> first|exact h2|cases h2
  ·rintro kvs rfl;cases h2
  ·rintro kvs rfl;cases h2
theorem JW (ha:PT X a (gT ga)):PT X (.UnaryOp .Not a pos) (gT (YQ ga)):=PT.imp (Y_ ha) fun σ H Q ⟨ρ,k,E,h,q⟩=>by
  obtain ⟨d,h1,h2⟩:=aU h;cases h2;exact ⟨ρ,d,E,h1,fun H' s=>q H' s⟩
theorem qL {op} (ha:PE X a (gE fa ra)):PE X (.BoolOp op [a] pos) (gE fa ra):=ZC ha
theorem JX {d:D} {k:Bool} (h:asB d=.ok k):d=.bl k:=by cases d <;> simp only [asB] at h <;> cases h;rfl
theorem aA7 {d:D} {k:Int} (h:asI d=.ok k):d=.int k:=by cases d <;> simp only [asI] at h <;> cases h;rfl
theorem qM {rest:List Expr} (ha:PE X a (gE fa ra)) (hb:PE X (.BoolOp .And (b::rest) pos) (gE fb rb)):PE X (.BoolOp .And (a::b::rest) pos) (gE (rO fa fb) rb):=PE.imp (ZD ha hb) fun σ H Q ⟨ρ,k,E,h,q⟩=>by
  obtain ⟨d,h1,h⟩:=aU h;obtain ⟨z,h2,h3⟩:=aU h;cases JX h2;refine ⟨ρ,_,E,h1,fun v H' s r _=>?_⟩;cases r;refine ⟨_,rfl,?_⟩;cases z with
  | true=>rw [if_pos rfl];rw [if_pos rfl] at h3;exact ⟨ρ,k,E.same s,h3,q.imp s id⟩
  | false=>rw [if_neg (by simp)];rw [if_neg (by simp)] at h3;cases h3;exact (q.imp s id).bl
theorem aCy {rest:List Expr} (ha:PE X a (gE fa ra)) (hb:PE X (.BoolOp .Or (b::rest) pos) (gE fb rb)):PE X (.BoolOp .Or (a::b::rest) pos) (gE (aA0 fa fb) rb):=PE.imp (aCf ha hb) fun σ H Q ⟨ρ,k,E,h,q⟩=>by
  obtain ⟨d,h1,h⟩:=aU h;obtain ⟨z,h2,h3⟩:=aU h;cases JX h2;refine ⟨ρ,_,E,h1,fun v H' s r _=>?_⟩;cases r;refine ⟨_,rfl,?_⟩;cases z with
  | true=>rw [if_pos rfl];rw [if_pos rfl] at h3;cases h3;exact (q.imp s id).bl
  | false=>rw [if_neg (by simp)];rw [if_neg (by simp)] at h3;exact ⟨ρ,k,E.same s,h3,q.imp s id⟩
theorem aO:PA X [] (gA aZ true):=PA.imp jV fun σ H Q ⟨ρ,ds,E,h,q⟩=>by cases h;exact q [] H (bZ.refl H) .nil fun _=>.nil
theorem aC {es:List Expr} {f:FA} {r:Bool} (he:PE X e (gE fe re)) (hes:PA X es (gA f r)) (hs:starEach (e::es) X.env=(false,eval e X.env)::starEach es X.env:=by rfl):PA X (e::es) (gA (aD fe f) (re&&r)):=PA.imp (cJ he hes hs) fun σ H Q ⟨ρ,ds,E,h,q⟩=>by
  obtain ⟨x,h1,h⟩:=aU h;obtain ⟨xs,h2,h⟩:=aU h;cases h;refine ⟨ρ,x,E,h1,fun v H1 s1 r1 n1=>⟨ρ,xs,E.same s1,h2,fun vs H2 s2 r2 n2=>q _ _ (s1.trans s2) (.cons (r1.same s2) r2) fun hf=>?_⟩⟩;obtain ⟨f1,f2⟩:=(Bool.and_eq_true _ _▸hf:re=true/\r=true)
  exact .cons ((n1 f1).same s2) ((n2 f2).mono (bZ.new s1))
theorem fK {es:List Expr} {f:FA} {r:Bool} {x1} (h:PA X es (gA f r)):PE X (.Tuple es x1 pos) (gE (iY f) r):=PE.imp (G7 h) fun σ H Q ⟨ρ,d,E,h,q⟩=>by
  obtain ⟨xs,h1,h⟩:=aU h;split at h
  ·rename_i hl;cases h;refine ⟨ρ,xs,E,h1,fun vs H1 s1 r1 n1=>⟨?_,fun p hp=>?_⟩⟩
   ·rw [r1.length];exact Nat.le_trans (of_decide_eq_true hl) (by rw [sizeLine_eq];decide)
   ·have sp:bZ H1 (upd H1 p (.tup vs)):=bZ.upd hp;exact q _ _ (s1.trans sp) (.tup aL (r1.same sp)) fun hf=>.tup aL ((n1 hf).same sp)
  ·cases h
theorem jA {es:List Expr} {f:FA} {r:Bool} (h:PA X es (gA f r)):PE X (.List es pos) (gE (wG f) r):=PE.imp (R3 h) fun σ H Q ⟨ρ,d,E,h,q⟩=>by
  obtain ⟨xs,h1,h⟩:=aU h;split at h
  ·rename_i hl;cases h;refine ⟨ρ,xs,E,h1,fun vs H1 s1 r1 n1=>⟨?_,fun p hp=>?_⟩⟩
   ·rw [r1.length];exact Nat.le_trans (of_decide_eq_true hl) (by rw [sizeLine_eq];decide)
   ·have sp:bZ H1 (upd H1 p (.lst vs)):=bZ.upd hp;exact q _ _ (s1.trans sp) (.lst aL trivial (r1.same sp)) fun hf=>.lst aL (s1.free hp) ((n1 hf).same sp)
  ·cases h
end
end Mi
end
section
namespace Mi
open PySem L2 PySem.SeqAt PySem.Spec PyProof.Rows
variable [KFrag]
section
variable {X:Cx} {a b c e:Expr} {pos:Pos} {fa fb fc fe:FE} {ra rb rc re:Bool} {ga gb gc:FT}
theorem lD {n:Nat} (h:decide (n<=lim)=true):n<=sizeLine:=Nat.le_trans (of_decide_eq_true h) (by rw [sizeLine_eq];decide)
theorem SN {n:Nat} (h:decide (n<lim)=true):n<sizeLine:=Nat.lt_of_lt_of_le (of_decide_eq_true h) (by rw [sizeLine_eq];decide)
theorem Rep.aA8 {P:Addr->Prop} {H:Hp} {v:V} {ds:List D} (r:Rep P H v (.lst ds)):∃a xs,v=.ref a/\Rd H a (.lst xs)/\a_ P H xs ds:=by
 cases r with
 | lst e p rr=>exact ⟨_,_,rfl,.inl e,rr⟩
theorem PW.imp {X:Cx} {e:PySem.Expr} {t t':TT} (h:PW X e t) (i:∀σ H Q,t' σ H Q->t σ H Q):PW X e t':=fun wh pins s σ H Q I q=>h wh pins s σ H Q I (i σ H Q q)
theorem V6 (ha:PT X a (gT ga)):PW X (.BoolOp .And [a] pos) (gT ga):=UT ha
theorem SQ (ha:PT X a (gT ga)):PW X (.BoolOp .Or [a] pos) (gT ga):=Y8 ha
theorem aA9 {rest:List Expr} (ha:PT X a (gT ga)) (hb:PW X (.BoolOp .And (b::rest) pos) (gT gb)):PW X (.BoolOp .And (a::b::rest) pos) (gT (YS ga gb)):=PW.imp (Y9 ha hb) fun σ H Q ⟨ρ,k,E,h,q⟩=>by
 obtain ⟨z,h1,h3⟩:=aU h;refine ⟨ρ,z,E,h1,fun H' s=>?_⟩;cases z with
 | true=>rw [if_pos rfl];rw [if_pos rfl] at h3;exact ⟨ρ,k,E.same s,h3,fun H2 s2=>q H2 (s.trans s2)⟩
 | false=>rw [if_neg (by simp)];rw [if_neg (by simp)] at h3;cases h3;exact q H' s
theorem aAa {rest:List Expr} (ha:PT X a (gT ga)) (hb:PW X (.BoolOp .Or (b::rest) pos) (gT gb)):PW X (.BoolOp .Or (a::b::rest) pos) (gT (bOr ga gb)):=PW.imp (aCd ha hb) fun σ H Q ⟨ρ,k,E,h,q⟩=>by
 obtain ⟨z,h1,h3⟩:=aU h;refine ⟨ρ,z,E,h1,fun H' s=>?_⟩;cases z with
 | true=>rw [if_pos rfl];rw [if_pos rfl] at h3;cases h3;exact q H' s
 | false=>rw [if_neg (by simp)];rw [if_neg (by simp)] at h3;exact ⟨ρ,k,E.same s,h3,fun H2 s2=>q H2 (s.trans s2)⟩
theorem cU:OpR X (binaryOp .Add) (r2 (bB .add) true):=by
 intro pins s σ H x y v u Q I rx ry h;obtain ⟨a,b,d,p,q,e,k⟩:=h;cases p with
 | int i=>
  cases q with
  | int j=>cases e;exact ZL pins s σ H _ _ v u Q I rx ry ⟨i,j,rfl,rfl,k.int⟩
  | _=>simp [bB] at e
 | str i=>
  cases q with
  | str j=>
   simp only [bB] at e;split at e
   ·rename_i hl;cases e;exact z_ pins s σ H _ _ v u Q I rx ry ⟨i,j,rfl,rfl,lD hl,k.str⟩
   ·cases e
  | _=>simp [bB] at e
 | non=>simp [bB] at e
 | bl _=>simp [bB] at e
 | tup _ _=>simp [bB] at e
 | dK _ _ _ _=>simp [bB] at e
 | dT _ _ _ _=>simp [bB] at e
 | fdK _ _ _=>simp [bB] at e
 | fdT _ _ _=>simp [bB] at e
 | cel _ _ _=>simp [bB] at e
 | @lst a1 xs ds e1 p1 r1=>
  have hR:Rep All H (.ref a1) (.lst ds):=.lst e1 p1 r1;cases b with
  | lst es=>
   simp only [bB] at e;split at e
   ·rename_i hl;cases e;rw [Bool.and_eq_true,Bool.and_eq_true] at hl;obtain ⟨⟨hl,hp1⟩,hp2⟩:=hl;obtain ⟨l1,xs1,e1',rd1,rr1⟩:=hR.aA8;obtain ⟨l2,xs2,rfl,rd2,rr2⟩:=q.aA8;cases e1';cases rx;cases ry;obtain ⟨z,its,n,vr1,ee1⟩:=rd1.ok I.hok;obtain ⟨z2,its2,n2,vr2,ee2⟩:=rd2.ok I.hok;have hz:xs1.length+xs2.length<=sizeLine:=by rw [rr1.length,rr2.length];exact lD hl
    have t1:=vr1.length;have t2:=vr2.length;refine PySem.P.add_list ee1 ee2 ?_ (by rw [List.size_toArray,List.size_toArray];lia);have ea:its.toArray++its2.toArray=(its++its2).toArray:=by simp
    rw [ea];refine ⟨.ref _,_,I.aEm (t':=s.toks) (vr1.append vr2) (by rw [List.length_append];lia),rfl,?_⟩;have sp:bZ H (upd H s.heap.objs.size (.lst (xs1++xs2))):=bZ.upd I.fresh;exact k _ _ sp (.lst aL trivial ((rr1.append rr2).same sp)) fun _=>.lst aL I.fresh (((rr1.bD hp1).append (rr2.bD hp2)).same sp)
   ·cases e
  | _=>simp [bB] at e
 | frz _ _=>simp [bB] at e
theorem rW {f:Value->Value->Sem Value} {C:Int->Int->Prop} {g:Int->Int->V} {op:D->D->Res D} (h:OpR X f (rI C g))
  (hi:∀i j d,op (.int i) (.int j)=.ok d->C i j/\∃k,d=.int k/\g i j=.int k) (hn:∀a b d,op a b=.ok d->(∃i,a=.int i)/\∃j,b=.int j):OpR X f (r2 op true):=by
 intro pins s σ H x y v u Q I rx ry ⟨a,b,d,p,q,e,k⟩;obtain ⟨⟨i,rfl⟩,⟨j,rfl⟩⟩:=hn a b d e;cases p;cases q;obtain ⟨hc,m,rfl,hm⟩:=hi i j d e;exact h pins s σ H _ _ v u Q I rx ry ⟨i,j,rfl,rfl,hc,by rw [hm];exact k.int⟩
theorem mR:OpR X (binaryOp .Sub) (r2 (bB .sub) true):=by
 intro pins s σ H x y v u Q I rx ry ⟨a,b,d,p,q,e,k⟩;cases a <;> cases b <;> simp [bB] at e
 cases p;cases q;subst e;exact ZM pins s σ H _ _ v u Q I rx ry ⟨_,_,rfl,rfl,k.int⟩
theorem aAb:OpR X (binaryOp .Mult) (r2 (bB .mul) true):=by
 refine rW ZP (fun i j d e=>?_) fun a b d e=>?_
 ·simp only [bB] at e;split at e
  ·rename_i hl;cases e;refine ⟨?_,_,rfl,rfl⟩;simp only [iV,Bool.or_eq_true,Bool.and_eq_true,decide_eq_true_eq] at hl;exact hl
  ·cases e
 ·cases a <;> cases b <;> first|exact ⟨⟨_,rfl⟩,_,rfl⟩|simp [bB] at e
theorem jB:OpR X (binaryOp .FloorDiv) (r2 (bB .fdiv) true):=by
 refine rW U3 (fun i j d e=>?_) fun a b d e=>?_
 ·simp only [bB] at e;split at e
  ·rename_i hl;cases e;refine ⟨?_,_,rfl,rfl⟩;simp only [Bool.and_eq_true,decide_eq_true_eq] at hl;exact hl
  ·cases e
 ·cases a <;> cases b <;> first|exact ⟨⟨_,rfl⟩,_,rfl⟩|simp [bB] at e
theorem fX:OpR X (binaryOp .Mod) (r2 (bB .mod) true):=by
 refine rW ZQ (fun i j d e=>?_) fun a b d e=>?_
 ·simp only [bB] at e;split at e
  ·rename_i hl;cases e;refine ⟨?_,_,rfl,rfl⟩;simp only [Bool.and_eq_true,decide_eq_true_eq] at hl;exact hl
  ·cases e
 ·cases a <;> cases b <;> first|exact ⟨⟨_,rfl⟩,_,rfl⟩|simp [bB] at e
theorem uG:OpR X (binaryOp .Pow) (r2 (bB .pow) true):=by
 refine rW ZR (fun i j d e=>?_) fun a b d e=>?_
 ·simp only [bB] at e;split at e
  ·rename_i hl;cases e;refine ⟨?_,_,rfl,rfl⟩;simp only [Bool.and_eq_true,decide_eq_true_eq] at hl;exact ⟨hl.1.1,hl.1.2,hl.2⟩
  ·cases e
 ·cases a <;> cases b <;> first|exact ⟨⟨_,rfl⟩,_,rfl⟩|simp [bB] at e
theorem pR (hu:X.A.units+20<cLine):OpR X (compareOp .Eq) (r2 (d7 .eq) true):=by
 intro pins s σ H x y v u Q I rx ry ⟨a,b,d,p,q,e,k⟩;simp only [d7] at e;split at e
 ·rename_i hl;cases e;rw [Bool.and_eq_true] at hl;exact (yQ I bA X.A (by have:bA=12:=rfl;lia) hl.1 hl.2 p q rx ry).1 X.prog X.w X.xe _ ⟨.bl _,H,I,rfl,k.bl⟩
 ·cases e
theorem V7 (hu:X.A.units+20<cLine):OpR X (compareOp .NotEq) (r2 (d7 .ne) true):=by
 intro pins s σ H x y v u Q I rx ry ⟨a,b,d,p,q,e,k⟩;simp only [d7] at e;split at e
 ·rename_i hl;cases e;rw [Bool.and_eq_true] at hl;exact (yQ I bA X.A (by have:bA=12:=rfl;lia) hl.1 hl.2 p q rx ry).2.1 X.prog X.w X.xe _ ⟨.bl _,H,I,rfl,k.bl⟩
 ·cases e
theorem JZ (o:fD) (hu:X.A.units+20<cLine):OpR X (compareOp o.op) (r2 (d7 (.ord o)) true):=by
 intro pins s σ H x y v u Q I rx ry ⟨a,b,d,p,q,e,k⟩;simp only [d7] at e;split at e
 ·rename_i hl;rw [Bool.and_eq_true] at hl;split at e
  ·rename_i m hm;cases e;have:=wL I o bA X.A (by have:bA=12:=rfl;lia) hl.1 hl.2 p q rx ry hm X.prog X.w X.xe _ (show EP X pins σ Q (.bool m) s from ⟨.bl _,H,I,rfl,k.bl⟩);cases o <;> exact this
  ·cases e
 ·cases e
theorem V8 (hu:X.A.units+20<cLine):OpR X (compareOp .Lt) (r2 (d7 (.ord .lt)) true):=JZ .lt hu
theorem aCz (hu:X.A.units+20<cLine):OpR X (compareOp .LtE) (r2 (d7 (.ord .le)) true):=JZ .le hu
theorem aAc (hu:X.A.units+20<cLine):OpR X (compareOp .Gt) (r2 (d7 (.ord .gt)) true):=JZ .gt hu
theorem SX:OpR X (compareOp .Is) (r2 (d7 .isN) true):=by
 intro pins s σ H x y v u Q I rx ry ⟨a,b,d,p,q,e,k⟩;cases b <;> simp only [d7] at e <;> (try (cases e;done)) <;> (try (split at e <;> cases e;done))
 cases q;refine ZV pins s σ H x .non v u Q I rx ry ⟨rfl,?_⟩;cases p <;> simp only [d7] at e <;> cases e <;> exact k.bl
end
end Mi
end
section
namespace Mi
open PySem L2 PySem.SeqAt PySem.Spec PyProof.Rows
variable [KFrag]
theorem QR (k q:Key):eqD (kD k) (kD q)=decide (k=q):=by
 cases k <;> cases q <;> simp [kD,eqD,Bool.beq_eq_decide_eq]
theorem S5:∀(k q:List Key),pQ (k.map kD) (q.map kD)=decide (k=q)
 | [],[]=>by simp [pQ]
 | [],_::_=>by simp [pQ]
 | _::_,[]=>by simp [pQ]
 | a::k,b::q=>by
  rw [List.map_cons,List.map_cons,pQ,QR,S5 k q];by_cases h:a=b <;> by_cases h':k=q <;> simp [h,h']
theorem V9 (k q:List Key):eqD (.tup (k.map kD)) (.tup (q.map kD))=decide (k=q):=by rw [eqD,S5]
theorem V_ {P:Addr->Prop} {H:Hp} {k:Key}:∀{kvs:List (Key×V)} {ds:List (D×D)},lO P H kvs ds->(∃v d,qH kvs k=some v/\cD ds (kD k)=some d/\Rep P H v d)\/(qH kvs k=none/\cD ds (kD k)=none)
 | _,_,.nil=>.inr ⟨rfl,rfl⟩
 | _,_,.cons (k:=k') r t=>by
  by_cases h:k'=k
  ·subst h;exact .inl ⟨_,_,kO rfl,by rw [cD,QR,if_pos (by simp)],r⟩
  ·rw [cD,QR,if_neg (by simpa using h),kW (p:=(k',_)) h];exact V_ t
theorem WD {P:Addr->Prop} {H:Hp} {k:List Key}:∀{kvs:List (List Key×V)} {ds:List (D×D)},lC P H kvs ds->(∃v d,qH kvs k=some v/\cD ds (.tup (k.map kD))=some d/\Rep P H v d)\/(qH kvs k=none/\cD ds (.tup (k.map kD))=none)
 | _,_,.nil=>.inr ⟨rfl,rfl⟩
 | _,_,.cons (k:=k') r t=>by
  by_cases h:k'=k
  ·subst h;exact .inl ⟨_,_,kO rfl,by rw [cD,V9,if_pos (by simp)],r⟩
  ·rw [cD,V9,if_neg (by simpa using h),kW (p:=(k',_)) h];exact WD t
theorem rY {H:Hp} {v:V} {d:D} (h:rN d=true) (r:Rep All H v d):∃k,v=kV k/\d=kD k:=by
 cases r <;> simp [rN] at h
 ·exact ⟨.inl _,rfl,rfl⟩
 ·exact ⟨.inr _,rfl,rfl⟩
theorem flat_keys {H:Hp}:∀{vs:List V} {ds:List D},ds.all rN=true->a_ All H vs ds->∃ks:List Key,vs=ks.map kV/\ds=ks.map kD
 | _,_,_,.nil=>⟨[],rfl,rfl⟩
 | _,_,h,.cons r t=>by
  rw [List.all_cons,Bool.and_eq_true] at h;obtain ⟨k,rfl,rfl⟩:=rY h.1 r;obtain ⟨ks,rfl,rfl⟩:=flat_keys h.2 t;exact ⟨k::ks,rfl,rfl⟩
theorem gM {H:Hp} {y:V} {k:D} (h:keyOk k=true) (r:Rep All H y k):(∃q,y=kV q/\k=kD q)\/∃(b:Addr) (ks:List Key),y=.ref b/\H b=some (.tup (ks.map kV))/\k=.tup (ks.map kD):=by
 cases k <;> simp [keyOk] at h
 ·exact .inl (rY rfl r)
 ·exact .inl (rY rfl r)
 ·obtain ⟨a,xs,rfl,e,rr⟩:=r.dR;obtain ⟨ks,rfl,rfl⟩:=flat_keys (List.all_eq_true.mpr h) rr;exact .inr ⟨a,ks,rfl,e,rfl⟩
theorem iB (k:Key):isTup (kD k)=false:=by cases k <;> rfl
section
variable {X:Cx} {pins:List (Addr×Obj)} {σ:L2.St} {H:Hp} {s:Shared} {a:Addr}
theorem yU {o o':HO} (e:H a=some o):upd (upd H a o') a o=H:=by
 rw [vW]
 funext b
 by_cases h:b=a
 ·subst h;rw [aL,e]
 ·rw [bI h]
theorem l_ (I:Inv X pins σ H s) (e:H a=some (.dK [])):Inv X pins σ (upd H a (.dT [])) s:=by
 obtain ⟨z,hd,vs,rel,o,es,ep,h1,h2,h3,h4,h5,h6⟩:=BL I.hok e;cases rel;refine I.write (t':=s.toks) (x:=a) (e:=a) (h':=s.heap) (by rw [e];trivial) (.inl rfl) (fun _ _ _ q=>q) ⟨o,h1⟩ ?_;refine ⟨Nat.zero_le _,hd,[],.nil,o,es,ep,h1,h2,h3,?_,List.nodup_nil⟩;cases h5':es.toList with
 | nil=>rfl
 | cons _ _=>rw [h5'] at h5;cases h5
theorem mC (I:Inv X pins σ H s) (e:H a=some (.dT [])):Inv X pins σ (upd H a (.dK [])) s:=by
 obtain ⟨z,hd,vs,rel,o,es,ep,h1,h2,h3,h4,h5,h6⟩:=HQ I.hok e;cases rel;refine I.write (t':=s.toks) (x:=a) (e:=a) (h':=s.heap) (by rw [e];trivial) (.inl rfl) (fun _ _ _ q=>q) ⟨o,h1⟩ ?_;have h0:es.toList=[]:=h4;refine ⟨Nat.zero_le _,hd,[],.nil,o,es,ep,h1,h2,h3,?_,?_,List.nodup_nil⟩
 ·intro x hx;have:x∈es.toList:=by simpa using hx
  rw [h0] at this;cases this
 ·rw [h0];exact .nil
theorem yV {P:Addr->Prop}:∀{kvs:List (Key×V)} {ds:List (D×D)},lO P H kvs ds->∀p∈ds,isTup p.1=false
 | _,_,.nil,_,h=>by cases h
 | _,_,.cons r t,p,h=>by
  rcases List.mem_cons.mp h with rfl|h
  ·exact iB _
  ·exact yV t p h
theorem yW {P:Addr->Prop}:∀{kvs:List (List Key×V)} {ds:List (D×D)},lC P H kvs ds->∀p∈ds,isTup p.1=true
 | _,_,.nil,_,h=>by cases h
 | _,_,.cons r t,p,h=>by
  rcases List.mem_cons.mp h with rfl|h
  ·rfl
  ·exact yW t p h
theorem aD0 {x y:V} {ds:List (D×D)} {k:D} (I:Inv X pins σ H s) (rd:Rep All H x (.dct ds)) (rk:Rep All H y k) (hk:FQ ds k=true) :
  ∃H1 a o,x=.ref a/\Inv X pins σ H1 s/\(∀s',Inv X pins σ H1 s'->Inv X pins σ H s')/\PX H1 a y o/\((o=none/\cD ds k=none)\/∃v d,o=some v/\cD ds k=some d/\Rep All H v d):=by
 unfold FQ at hk;rw [Bool.and_eq_true] at hk;obtain ⟨h1,h2⟩:=hk;cases rd with
 | @dK a kvs ds e _ r n=>
  rcases gM h1 rk with ⟨q,rfl,rfl⟩|⟨b,ks,rfl,eb,rfl⟩
  ·refine ⟨H,a,_,rfl,I,fun _ h=>h,.k e,?_⟩;rcases V_ (k:=q) r with ⟨v,d,g1,g2,g3⟩|⟨g1,g2⟩
   ·exact .inr ⟨v,d,g1,g2,g3⟩
   ·exact .inl ⟨g1,g2⟩
  ·cases r with
   | nil=>
    have e2:=yU (o':=.dT []) e;refine ⟨upd H a (.dT []),a,none,rfl,l_ I e,fun s' I'=>?_,.t (k:=ks) aL (by rw [bI (UG eb e (by intro z;cases z))];exact eb),.inl ⟨rfl,rfl⟩⟩;have:=mC I' aL;rwa [e2] at this
   | cons r t=>
    rw [List.all_cons,iB] at h2;simp [isTup] at h2
 | @dT a kvs ds e _ r n=>
  rcases gM h1 rk with ⟨q,rfl,rfl⟩|⟨b,ks,rfl,eb,rfl⟩
  ·cases r with
   | nil=>
    have e2:=yU (o':=.dK []) e;refine ⟨upd H a (.dK []),a,none,rfl,mC I e,fun s' I'=>?_,.k (k:=q) aL,.inl ⟨rfl,rfl⟩⟩;have:=l_ I' aL;rwa [e2] at this
   | cons r t=>
    rw [List.all_cons,iB] at h2;simp [isTup] at h2
  ·refine ⟨H,a,_,rfl,I,fun _ h=>h,.t e eb,?_⟩;rcases WD (k:=ks) r with ⟨v,d,g1,g2,g3⟩|⟨g1,g2⟩
   ·exact .inr ⟨v,d,g1,g2,g3⟩
   ·exact .inl ⟨g1,g2⟩
theorem QS {x:V} {ds:List (D×D)} {k d:D} (rd:Rep All H x (.dct ds)) (hk:keyOk k=true) (h:cD ds k=some d):FQ ds k=true:=by
 have one:∀{ds:List (D×D)},cD ds k=some d->∃p∈ds,eqD p.1 k=true:=by
  intro ds;induction ds with
  | nil=>intro h;cases h
  | cons p ds ih=>
   intro h;obtain ⟨p1,p2⟩:=p;rw [cD] at h;by_cases hq:eqD p1 k=true
   ·exact ⟨_,List.mem_cons_self ..,hq⟩
   ·rw [if_neg hq] at h;obtain ⟨p,hp,e⟩:=ih h;exact ⟨p,List.mem_cons_of_mem _ hp,e⟩
 obtain ⟨p,hp,he⟩:=one h;unfold FQ;rw [hk,Bool.true_and,List.all_eq_true];intro q hq;have same:isTup p.1=isTup k:=by
  obtain ⟨p1,p2⟩:=p;cases p1 <;> cases k <;> simp [eqD,keyOk,isTup] at he hk ⊢
 cases rd with
 | dK e _ r n=>rw [yV r q hq,<-same,yV r p hp];rfl
 | dT e _ r n=>rw [yW r q hq,<-same,yW r p hp];rfl
end
section
variable {X:Cx} {a b c e:Expr} {pos:Pos} {fa fb fc fe:FE} {ra rb rc re:Bool} {ga gb gc:FT}
theorem aAd {α:Type} (xs:List α) (i:Int):L2.atI xs i=(ixD xs.length i).bind fun j=>xs[j]?:=rfl
theorem a_.atI {P:Addr->Prop} {H:Hp} {xs:List V} {ds:List D} {i:Int} {d:D} (r:a_ P H xs ds) (h:((ixD ds.length i).bind fun j=>ds[j]?)=some d):∃v,L2.atI xs i=some v/\Rep P H v d:=by
 rw [aAd,r.length];cases hi:ixD ds.length i with
 | none=>rw [hi] at h;cases h
 | some j=>
  rw [hi] at h;obtain ⟨v,h1,h2⟩:=r.get h;exact ⟨v,h1,h2⟩
theorem uH {X:Cx} {value slice:Expr} {pins:List (Addr×Obj)} {s:Shared} {σ:L2.St} {H:Hp} {a:Addr} {y v':V} {u:Value} {Q:VK} (hu:X.A.units+20<cLine) (I:Inv X pins σ H s) (g:PX H a y (some v')) (ry:RelV y u) {H':Hp}
  (hs:subscripted slice false (.ref a) u=operate [.ref a,u] (getItem (.ref a) u)) (bk:∀s',Inv X pins σ H s'->Inv X pins σ H' s') (q:Q v' H') :
  wpAny (model X.prog X.w) X.A (subscriptTail value slice (.ref a) u) (EP X pins σ Q) X.xe s:=by
 have hT:=v6 I g;unfold subscriptTail;refine wpAny_bind ?_;rw [getitemInPython_of_ne hT.not_modules];refine wpAny_bind (wpAny_specialOf hT PySem.F.slot_dict_getitem.lookup ?_);have fin:wpAny (model X.prog X.w) X.A (subscripted slice false (.ref a) u) (fun r s₃=>wpAny (model X.prog X.w) X.A (letTemporaryGo value (.ref a) r >>= fun _=>pure r) (EP X pins σ Q) X.xe s₃) X.xe s:=by
  rw [hs];exact wpAny_operating (HR (by lia) I g ry fun w' s3 I3 rw'=>wpAny_bind (wpAny_letTemporaryGo (wpAny_pure ⟨v',H',bk s3 I3,rw',q⟩)))
 first
  | exact wpAny_pure (wpAny_bind fin)
  | exact wpAny_bind (wpAny_pure (wpAny_bind fin))
  | exact wpAny_bind fin
theorem yX {k d:D}:∀{ds:List (D×D)},keyOk k=true->cD ds k=some d->∃p∈ds,isTup p.1=isTup k
 | [],_,h=>by cases h
 | (p1,p2)::ds,hk,h=>by
  rw [cD] at h;by_cases hq:eqD p1 k=true
  ·refine ⟨_,List.mem_cons_self ..,?_⟩;cases p1 <;> cases k <;> simp [eqD,keyOk,isTup] at hq hk ⊢
  ·rw [if_neg hq] at h;obtain ⟨p,hp,e⟩:=yX hk h;exact ⟨p,List.mem_cons_of_mem _ hp,e⟩
theorem aD1 {H:Hp} {x y:V} {ds:List (D×D)} {k d:D} (rd:Rep All H x (.fdc ds)) (rk:Rep All H y k) (hk:keyOk k=true) (h:cD ds k=some d):∃a v,x=.ref a/\PX H a y (some v)/\Rep All H v d:=by
 obtain ⟨p,hp,et⟩:=yX hk h;cases rd with
 | @fdK a o kvs ds e r n=>
  rcases gM hk rk with ⟨q,rfl,rfl⟩|⟨b,ks,rfl,eb,rfl⟩
  ·rcases V_ (k:=q) r with ⟨v,d',g1,g2,g3⟩|⟨g1,g2⟩
   ·rw [g2] at h;cases h;exact ⟨a,v,rfl,.inl ⟨kvs,q,.inr ⟨o,e⟩,rfl,g1.symm⟩,g3⟩
   ·rw [g2] at h;cases h
  ·rw [yV r p hp] at et;cases et
 | @fdT a o kvs ds e r n=>
  rcases gM hk rk with ⟨q,rfl,rfl⟩|⟨b,ks,rfl,eb,rfl⟩
  ·rw [yW r p hp,iB] at et;cases et
  ·rcases WD (k:=ks) r with ⟨v,d',g1,g2,g3⟩|⟨g1,g2⟩
   ·rw [g2] at h;cases h;exact ⟨a,v,rfl,.inr ⟨kvs,ks,b,.inr ⟨o,e⟩,rfl,eb,g1.symm⟩,g3⟩
   ·rw [g2] at h;cases h
theorem bQ (hK:KFrag.K=X.K) (hu:X.A.units+20<cLine):IxR X (r2 getD false):=by
 intro value slice pins s σ H x y v u Q I rx ry ⟨a,b,d,p,q,e,k⟩ hs;cases a with
 | tup ys=>
  cases b <;> simp only [getD] at e <;> (try (cases e;done))
  have e':=Res.g8 e;obtain ⟨l,xs,rfl,ee,rr⟩:=p.dR;cases q;obtain ⟨w,h1,h2⟩:=rr.atI e';exact Z1 value slice pins s σ H _ _ v u Q I rx ry ⟨l,xs,_,w,rfl,rfl,.of ee,h1,k.self h2 fun z=>by cases z⟩ hs
 | lst ys=>
  cases b <;> simp only [getD] at e <;> (try (cases e;done))
  have e':=Res.g8 e;obtain ⟨l,xs,rfl,ee,rr⟩:=p.fV (K:=X.K);cases q;obtain ⟨w,h1,h2⟩:=rr.atI e';exact v4 value slice pins s σ H _ _ v u Q I rx ry ⟨l,xs,_,w,rfl,rfl,ee,h1,k.self h2 fun z=>by cases z⟩ hs
 | cel ca ys=>
  cases b <;> simp only [getD] at e <;> (try (cases e;done))
  have e':=Res.g8 e;cases p with
  | cel ee pp rr=>
   cases q;obtain ⟨w,h1,h2⟩:=rr.atI e';exact v4 value slice pins s σ H _ _ v u Q I rx ry ⟨_,_,_,w,rfl,rfl,.inl (.inl ee),h1,k.self h2 fun z=>by cases z⟩ hs
 | scr ys=>
  cases b <;> simp only [getD] at e <;> (try (cases e;done))
  have e':=Res.g8 e;cases p with
  | frz ee rr=>
   cases q;obtain ⟨w,h1,h2⟩:=rr.atI e';exact v4 value slice pins s σ H _ _ v u Q I rx ry ⟨_,_,_,w,rfl,rfl,ee.sq hK,h1,k.self h2 fun z=>by cases z⟩ hs
 | str z=>
  cases b <;> simp only [getD] at e <;> (try (cases e;done))
  split at e
  ·rename_i hl;have e':=Res.g8 e;obtain ⟨cc,h1,h2⟩:=Option.map_eq_some_iff.mp e';subst h2;cases p;cases q;exact Z4 value slice pins s σ H _ _ v u Q I rx ry ⟨z,_,cc,rfl,rfl,lD hl,h1,k.str⟩ hs
  ·cases e
 | dct kvs=>
  have e':keyOk b=true/\cD kvs b=some d:=by
   cases b <;> simp only [getD] at e <;> (split at e <;> first|(rename_i hl;exact ⟨hl,Res.g8 e⟩)|cases e)
  obtain ⟨H1,a1,o,rfl,I1,bk,g,hc⟩:=aD0 I p q (QS p e'.1 e'.2);cases rx;rcases hc with ⟨rfl,h2⟩|⟨w,dd,rfl,h2,h3⟩
  ·rw [h2] at e';cases e'.2
  ·rw [h2] at e';cases e'.2;exact uH hu I1 g ry hs bk (k.self h3 fun z=>by cases z)
 | fdc kvs=>
  have e':keyOk b=true/\cD kvs b=some d:=by
   cases b <;> simp only [getD] at e <;> (split at e <;> first|(rename_i hl;exact ⟨hl,Res.g8 e⟩)|cases e)
  obtain ⟨a1,w,rfl,g,h3⟩:=aD1 p q e'.1 e'.2;cases rx;exact uH hu I g ry hs (fun _ h=>h) (k.self h3 fun z=>by cases z)
 | _=>cases b <;> simp [getD] at e
noncomputable def gO (f:List D->Res (Option Int)):TO:=fun σ H Q=>∃ρ i,ER H σ ρ/\f ρ=.ok i/\∀H',bZ H H'->Q i H'
theorem PO.imp {X:Cx} {e:Option PySem.Expr} {t t':TO} (h:PO X e t) (i:∀σ H Q,t' σ H Q->t σ H Q):PO X e t':=fun pins s σ H Q I q=>h pins s σ H Q I (i σ H Q q)
theorem J5:PO X none (gO JD):=PO.imp U6 fun σ H Q ⟨ρ,i,E,h,q⟩=>by cases h;exact q H (bZ.refl H)
theorem J6 (ha:PE X a (gE fa ra)):PO X (some a) (gO (wH fa)):=PO.imp (U7 ha) fun σ H Q ⟨ρ,i,E,h,q⟩=>by
 obtain ⟨x,h1,h⟩:=aU h;obtain ⟨j,h2,h⟩:=aU h;cases h;have e:=aA7 h2;subst e;exact ⟨ρ,_,E,h1,fun v H' s r _=>by cases r;exact ⟨j,rfl,q H' s⟩⟩
theorem S6 (n d:Nat) (o:Option Int):HT.sIx n d o=YM n d o:=by
 cases o with
 | none=>rfl
 | some v=>
  show (if v<0 then (v+(n:Int)).toNat else min v.toNat n)=(if v<0 then (max (v+(n:Int)) 0).toNat else (min v (n:Int)).toNat);split <;> lia
theorem a_.cut {P:Addr->Prop} {H:Hp} {xs:List V} {ds:List D} (r:a_ P H xs ds) (lo hi:Option Int):a_ P H (HD xs lo hi) (cutD ds lo hi):=by
 unfold HD cutD;rw [r.length];simp only [S6];exact (r.drop _).take _
theorem fL {ds:List D}:D.aR ds=true↔∀d∈ds,d.pure=true:=by
 induction ds with
 | nil=>simp [D.aR]
 | cons d ds ih=>rw [D.aR,Bool.and_eq_true,ih];simp
noncomputable def rSl:V->Option Int->Option Int->Hp->VK->Prop:=fun x lo hi H Q=>∃a d,Rep All H x a/\aC1 a lo hi=.ok d/\kR H d true Q
theorem aD2 (hK:KFrag.K=X.K):SlR X rSl:=by
 intro pins s σ H x v vl vu lo hi sl Q I rx hs pl pu ⟨a,d,p,e,k⟩;cases a <;> simp only [aC1] at e <;> (try (cases e;done))
 ·split at e
  ·cases e
  ·rename_i hw;cases e;obtain ⟨l,xs,rfl,ee,rr⟩:=p.dR;refine Z0 pins s σ H _ v vl vu lo hi sl Q I rx hs pl pu ⟨l,xs,rfl,.of ee,?_,fun p hp=>?_⟩
   ·simp only [S6,rr.length];simp only [Bool.not_eq_true',Bool.or_eq_true,not_or,Bool.not_eq_false',decide_eq_true_eq] at hw;exact hw.2
   ·have sp:bZ H (upd H p (.tup (HD xs lo hi))):=bZ.upd hp;have hp2:D.aR ‹List D›=true:=by
     simp only [Bool.or_eq_true,not_or,Bool.not_eq_true'] at hw;simpa using hw.1
    exact k _ _ sp (.tup aL ((rr.cut lo hi).same sp)) fun z=>.tup aL (((rr.bD hp2).cut lo hi).same sp)
 ·split at e
  ·rename_i hl;cases e;obtain ⟨l,xs,rfl,ee,rr⟩:=p.fV (K:=X.K);refine HH pins s σ H _ v vl vu lo hi sl Q I rx hs pl pu ⟨l,xs,rfl,ee,fun p hp=>?_⟩;have sp:bZ H (upd H p (.lst (HD xs lo hi))):=bZ.upd hp;exact k _ _ sp (.lst aL trivial ((rr.cut lo hi).same sp)) fun z=>.lst aL hp (((rr.bD hl).cut lo hi).same sp)
  ·cases e
 ·split at e
  ·rename_i hl;cases e;cases p with
   | @frz l xs ds ee rr=>
    refine HH pins s σ H _ v vl vu lo hi sl Q I rx hs pl pu ⟨l,xs,rfl,ee.sq hK,fun p hp=>?_⟩;have sp:bZ H (upd H p (.lst (HD xs lo hi))):=bZ.upd hp;exact k _ _ sp (.lst aL trivial ((rr.cut lo hi).same sp)) fun z=>.lst aL hp (((rr.bD hl).cut lo hi).same sp)
  ·cases e
end
end Mi
end
section
namespace PySem.Mm
open PySem
noncomputable def wdL:Bool->String
 | false => "min.loop"
 | true => "max.loop"
noncomputable def wdO:Bool->CmpOp
 | false=>.Lt
 | true=>.Gt
section
variable {prog:Program} {w:World} {A:Around} {R:Result->Shared->Prop} {I S:Addr} {fp wr:List Addr} {n:Nat} {P:Nat->Value->Prop} {St:Nat->Heap->Prop} {bt:Nat->Nat->Bool} {Gd:Shared->Prop} {op:CmpOp}
structure aAe (prog:Program) (w:World) (A:Around) (op:CmpOp) (P:Nat->Value->Prop) (bt:Nat->Nat->Bool) (wr:List Addr) (top:Nat) (Gd:Shared->Prop):Prop where
 keep:∀s h' tk,Gd s->(∀b o,b∉wr->b<top->s.heap.get? b=some o->h'.get? b=some o)->Gd {s with heap:=h',toks:=tk}
 says:∀i j vi vj s Q E,Gd s->P i vi->P j vj->Q (.bool (bt i j)) s->wpAny (model prog w) A (richCompare op vi vj) Q E s
noncomputable def aDu (P:Nat->Value->Prop) (bt:Nat->Nat->Bool) (n:Nat):Nat->Array Value->Prop
 | 0,a=>a=#[]/\0<n
 | j+1,a=>∃v,a=#[v,v]/\P (argBest bt j) v
theorem touched (J:aAe prog w A op P bt wr S Gd) {s:Shared} {f:Array Value->Array Value} (g:Gd s):Gd {s with heap:=s.heap.update S (Obj.mapSeq f)}:=
 J.keep s _ s.toks g fun b o _ hb e=>(Heap.get?_update_other _ _ (Nat.ne_of_gt hb)).trans e
theorem turn (m:Bool) (W:Walks prog w A.in1 I fp wr n P St) (hS:S∉fp) (J:aAe prog w A.in1 (wdO m) P bt wr S Gd):∀(k j:Nat) (s:Shared) (a:Array Value) (c:Nat),j+k=n->St j s.heap->Gd s->aDu P bt n j a->
  s.heap.get? S=some {cls:=.type "list",dict:=none,data:=.seq a c,slots:=#[]}->
  (∀v h' tk,P (argBest bt (n-1)) v->(∀b o,b∉wr->b≠S->s.heap.get? b=some o->h'.get? b=some o)->R (.ok (.ret v)) {s with heap:=h',toks:=tk})->
  codeAny (model prog w) A (.builtin (wdL m) ⟨[.ref I,.none,.ref S],[]⟩) R s:=by
 have off:S∉wr:=fun h=>hS (W.sub _ h)
 have still:∀{j:Nat} {h:Heap} {f:Array Value->Array Value},St j h->St j (h.update S (Obj.mapSeq f)):=fun st=>
  W.frame _ _ _ st fun b hb o e=>(Heap.get?_update_other _ _ fun z:S=b=>hS (z▸hb)).trans e
 intro k;induction k with
 | zero=>
  intro j s a c hj st g hb hs fin;have hjn:j=n:=hj;subst hjn;cases j with
  | zero=>exact absurd hb.2 (Nat.lt_irrefl 0)
  | succ j=>
   obtain ⟨v,rfl,hv⟩:=hb;have last:∀(h':Heap) (tk:Nat),(∀b o,b∉wr->s.heap.get? b=some o->h'.get? b=some o)->R (.ok (.ret v)) {s with heap:=h'.update S (Obj.mapSeq fun _=>#[]),toks:=tk}:=fun h' tk kp=>
    fin v _ tk hv fun b o h1 h2 e=>(Heap.get?_update_other _ _ (Ne.symm h2)).trans (kp b o h1 e)
   cases m
   ·show codeAny (model prog w) A (.builtin "min.loop" ⟨[.ref I,.none,.ref S],[]⟩) R s;refine codeAny_builtin F.entry_min_loop ?_;rw [Around.under_plainId F.plain_min_loop];refine wpAny_bind (m:=seqItems? (.ref S)) (wpAny_seqItems hs rfl ?_);refine wpAny_bind (wpAny_tryCatch (m:=pyNext (.ref I)) (W.done s _ _ st fun h' tk kp=>?_));exact wpAny_bind (m:=updateSeq S _) (wpAny_updateSeq (kp S _ off hs) rfl (wpAny_bind (wpAny_letGo (wpAny_pure (last h' tk kp)))))
   ·show codeAny (model prog w) A (.builtin "max.loop" ⟨[.ref I,.none,.ref S],[]⟩) R s;refine codeAny_builtin F.entry_max_loop ?_;rw [Around.under_plainId F.plain_max_loop];refine wpAny_bind (m:=seqItems? (.ref S)) (wpAny_seqItems hs rfl ?_);refine wpAny_bind (wpAny_tryCatch (m:=pyNext (.ref I)) (W.done s _ _ st fun h' tk kp=>?_));exact wpAny_bind (m:=updateSeq S _) (wpAny_updateSeq (kp S _ off hs) rfl (wpAny_bind (wpAny_letGo (wpAny_pure (last h' tk kp)))))
 | succ k ih=>
  intro j s a c hj st g hb hs fin;have hjn:j<n:=by lia
  /- what is left to do behind the list's change,or without one -/
  have on:∀(v:Value) (h':Heap) (tk:Nat),P j v->St (j+1) h'->(∀b o,b∉wr->s.heap.get? b=some o->h'.get? b=some o)->(∀(a':Array Value) (c':Nat) (h2:Heap),aDu P bt n (j+1) a'->h2.get? S=some {cls:=.type "list",dict:=none,data:=.seq a' c',slots:=#[]}->(h2=h'\/∃f:Array Value->Array Value,h2=h'.update S (Obj.mapSeq f))->
    codeAny (model prog w) A (.builtin (wdL m) ⟨[.ref I,.none,.ref S],[]⟩) R {s with heap:=h2,toks:=tk}):=by
   intro v h' tk _ st' kp a' c' h2 hb' hs' hh;have g':Gd {s with heap:=h',toks:=tk}:=J.keep s h' tk g fun b o h1 _ e=>kp b o h1 e
   rcases hh with rfl|⟨f,rfl⟩
   ·exact ih (j+1) _ a' c' (by lia) st' g' hb' hs' fun u h3 t3 hu k3=>fin u h3 t3 hu fun b o h1 h2 e=>k3 b o h1 h2 (kp b o h1 e)
   ·exact ih (j+1) _ a' c' (by lia) (still st') (touched J g') hb' hs' fun u h3 t3 hu k3=>fin u h3 t3 hu fun b o h1 h2 e=>k3 b o h1 h2 ((Heap.get?_update_other _ _ (Ne.symm h2)).trans (kp b o h1 e))
  have nmn:(toString "min" ++ toString ".loop" : String) = "min.loop":=by decide
  have nmx:(toString "max" ++ toString ".loop" : String) = "max.loop":=by decide
  cases j with
  | zero=>
   obtain ⟨rfl,_⟩:=hb;cases m
   ·show codeAny (model prog w) A (.builtin "min.loop" ⟨[.ref I,.none,.ref S],[]⟩) R s;refine codeAny_builtin F.entry_min_loop ?_;rw [Around.under_plainId F.plain_min_loop];refine wpAny_bind (m:=seqItems? (.ref S)) (wpAny_seqItems hs rfl ?_);refine wpAny_bind (wpAny_tryCatch (m:=pyNext (.ref I)) (W.item 0 s _ _ hjn st fun v h' tk pv st' kp=>?_));have hs':=kp S _ off hs;refine wpAny_bind (m:=updateSeq S _) (wpAny_updateSeq hs' rfl ?_);rw [nmn];exact wpAny_pure ⟨plainId_quiet F.plain_min_loop _,on v h' tk pv st' kp #[v,v] _ _ ⟨v,rfl,pv⟩ (Heap.get?_update_self _ hs' rfl) (.inr ⟨_,rfl⟩)⟩
   ·show codeAny (model prog w) A (.builtin "max.loop" ⟨[.ref I,.none,.ref S],[]⟩) R s;refine codeAny_builtin F.entry_max_loop ?_;rw [Around.under_plainId F.plain_max_loop];refine wpAny_bind (m:=seqItems? (.ref S)) (wpAny_seqItems hs rfl ?_);refine wpAny_bind (wpAny_tryCatch (m:=pyNext (.ref I)) (W.item 0 s _ _ hjn st fun v h' tk pv st' kp=>?_));have hs':=kp S _ off hs;refine wpAny_bind (m:=updateSeq S _) (wpAny_updateSeq hs' rfl ?_);rw [nmx];exact wpAny_pure ⟨plainId_quiet F.plain_max_loop _,on v h' tk pv st' kp #[v,v] _ _ ⟨v,rfl,pv⟩ (Heap.get?_update_self _ hs' rfl) (.inr ⟨_,rfl⟩)⟩
  | succ j=>
   obtain ⟨u,rfl,hu⟩:=hb;cases m
   ·show codeAny (model prog w) A (.builtin "min.loop" ⟨[.ref I,.none,.ref S],[]⟩) R s;refine codeAny_builtin F.entry_min_loop ?_;rw [Around.under_plainId F.plain_min_loop];refine wpAny_bind (m:=seqItems? (.ref S)) (wpAny_seqItems hs rfl ?_);refine wpAny_bind (wpAny_tryCatch (m:=pyNext (.ref I)) (W.item (j+1) s _ _ hjn st fun v h' tk pv st' kp=>?_));have hs':=kp S _ off hs;refine wpAny_bind (wpAny_pure ?_);refine wpAny_bind (wpAny_tryCatch (wpAny_holding (wpAny_bind (m:=richCompare .Lt v u) (J.says (j+1) (argBest bt j) v u _ _ _ (J.keep s h' tk g fun b o h1 _ e=>kp b o h1 e) pv hu ?_))));refine wpAny_bind (wpAny_holding (wpAny_truthy_bool (wpAny_bind (wpAny_letGo (wpAny_pure ?_)))));cases hx:bt (j+1) (argBest bt j)
    ·rw [if_neg Bool.false_ne_true];refine wpAny_bind (wpAny_letGo ?_);rw [nmn];exact wpAny_pure ⟨plainId_quiet F.plain_min_loop _,on v h' tk pv st' kp _ _ _ ⟨u,rfl,by rw [argBest,hx];exact hu⟩ hs' (.inl rfl)⟩
    ·rw [if_pos rfl];refine wpAny_bind (m:=updateSeq S _) (wpAny_updateSeq hs' rfl (wpAny_bind (wpAny_letGo ?_)));rw [nmn];exact wpAny_pure ⟨plainId_quiet F.plain_min_loop _,on v h' tk pv st' kp #[v,v] _ _ ⟨v,rfl,by rw [argBest,hx];exact pv⟩ (Heap.get?_update_self _ hs' rfl) (.inr ⟨_,rfl⟩)⟩
   ·show codeAny (model prog w) A (.builtin "max.loop" ⟨[.ref I,.none,.ref S],[]⟩) R s;refine codeAny_builtin F.entry_max_loop ?_;rw [Around.under_plainId F.plain_max_loop];refine wpAny_bind (m:=seqItems? (.ref S)) (wpAny_seqItems hs rfl ?_);refine wpAny_bind (wpAny_tryCatch (m:=pyNext (.ref I)) (W.item (j+1) s _ _ hjn st fun v h' tk pv st' kp=>?_));have hs':=kp S _ off hs;refine wpAny_bind (wpAny_pure ?_);refine wpAny_bind (wpAny_tryCatch (wpAny_holding (wpAny_bind (m:=richCompare .Gt v u) (J.says (j+1) (argBest bt j) v u _ _ _ (J.keep s h' tk g fun b o h1 _ e=>kp b o h1 e) pv hu ?_))));refine wpAny_bind (wpAny_holding (wpAny_truthy_bool (wpAny_bind (wpAny_letGo (wpAny_pure ?_)))));cases hx:bt (j+1) (argBest bt j)
    ·rw [if_neg Bool.false_ne_true];refine wpAny_bind (wpAny_letGo ?_);rw [nmx];exact wpAny_pure ⟨plainId_quiet F.plain_max_loop _,on v h' tk pv st' kp _ _ _ ⟨u,rfl,by rw [argBest,hx];exact hu⟩ hs' (.inl rfl)⟩
    ·rw [if_pos rfl];refine wpAny_bind (m:=updateSeq S _) (wpAny_updateSeq hs' rfl (wpAny_bind (wpAny_letGo ?_)));rw [nmx];exact wpAny_pure ⟨plainId_quiet F.plain_max_loop _,on v h' tk pv st' kp #[v,v] _ _ ⟨v,rfl,by rw [argBest,hx];exact pv⟩ (Heap.get?_update_self _ hs' rfl) (.inr ⟨_,rfl⟩)⟩
end
section
variable {prog:Program} {w:World} {A:Around} {E:Value->Shared->Prop} {s:Shared} {Q:Value->Shared->Prop}
noncomputable abbrev Seen (prog:Program) (w:World) (A:Around) (op:CmpOp) (Q:Value->Shared->Prop) (it:Value) (t:Shared):Prop:=
 ∃(I:Addr) (fp wr:List Addr) (n:Nat) (P:Nat->Value->Prop) (St:Nat->Heap->Prop) (bt:Nat->Nat->Bool),it=.ref I/\Walks prog w A I fp wr n P St/\St 0 t.heap/\(∀b∈fp,b<t.heap.objs.size)/\0<n/\
  (∃Gd:Shared->Prop,Gd t/\(∀s h' tk,Gd s->(∀b o,b∉wr->b<t.heap.objs.size->s.heap.get? b=some o->h'.get? b=some o)->Gd {s with heap:=h',toks:=tk})/\
   ∀i j vi vj s Q E,Gd s->P i vi->P j vj->Q (.bool (bt i j)) s->wpAny (model prog w) A (richCompare op vi vj) Q E s)/\
  ∀v h' tk,P (argBest bt (n-1)) v->(∀b o,b∉wr->t.heap.get? b=some o->h'.get? b=some o)->Q v {t with heap:=h',toks:=tk}
theorem begun (m:Bool) {it:Value} {t:Shared} {R:Result->Shared->Prop} (hR:∀v s,Q v s->R (.ok (.ret v)) s) (h:Seen prog w A.in1 (wdO m) Q it t) :
  codeAny (model prog w) A (.builtin (wdL m) ⟨[it,.none,.ref t.heap.objs.size],[]⟩) R {t with heap:=t.heap.push {cls:=.type "list",data:=.seq #[]}}:=by
 obtain ⟨I,fp,wr,n,P,St,bt,rfl,W,st,hfp,hn,⟨Gd,g,gk,gs⟩,q⟩:=h;have up:∀b o,t.heap.get? b=some o->(t.heap.push {cls:=.type "list",data:=.seq #[]}).get? b=some o:=fun b o e=>Heap.get?_push_of_some _ e
 refine turn m W (fun z=>Nat.lt_irrefl _ (hfp _ z)) ⟨gk,gs⟩ n 0 _ #[] _ (Nat.zero_add n) (W.frame _ _ _ st fun b _ o e=>up b o e) (gk t _ t.toks g fun b o _ _ e=>up b o e) ⟨rfl,hn⟩ (Heap.get?_push_size _ rfl) fun v h' tk hv kp=>?_
 exact hR _ _ (q v h' tk hv fun b o h1 e=>kp b o h1 (Nat.ne_of_lt (Heap.lt_size e)) (up b o e))
theorem mU {x:Value} (h:wpAny (model prog w) A.in1 (pyIter x) (Seen prog w A.in1 .Lt Q) E s):wpAny (model prog w) A (call (.builtin "min") [x]) Q E s:=by
 have nmn:(toString "min" ++ toString ".loop" : String) = "min.loop":=by decide
 refine call_function_tree F.kind_min F.plain_min F.entry_min (F.args_min1 _) ?_;refine wpAny_bind (m:=Builtin.Builtins.bindParams "min" ["key", "default"] 0 ⟨[],[]⟩) (wpAny_of_eq (a:=[none,none]) rfl ?_);refine wpAny_bind (wpAny_pure (wpAny_bind (wpAny_mono h (fun it t ht=>wpAny_bind (wpAny_newObj_type ?_)) fun _ _ e=>e)));rw [nmn];exact wpAny_pure ⟨plainId_quiet F.plain_min_loop _,begun false (fun _ _ q=>q) ht⟩
theorem mV {x:Value} (h:wpAny (model prog w) A.in1 (pyIter x) (Seen prog w A.in1 .Gt Q) E s):wpAny (model prog w) A (call (.builtin "max") [x]) Q E s:=by
 have nmx:(toString "max" ++ toString ".loop" : String) = "max.loop":=by decide
 refine call_function_tree F.kind_max F.plain_max F.entry_max (F.args_max1 _) ?_;refine wpAny_bind (m:=Builtin.Builtins.bindParams "max" ["key", "default"] 0 ⟨[],[]⟩) (wpAny_of_eq (a:=[none,none]) rfl ?_);refine wpAny_bind (wpAny_pure (wpAny_bind (wpAny_mono h (fun it t ht=>wpAny_bind (wpAny_newObj_type ?_)) fun _ _ e=>e)));rw [nmx];exact wpAny_pure ⟨plainId_quiet F.plain_max_loop _,begun true (fun _ _ q=>q) ht⟩
theorem wM {a b:Value} (h:wpAny (model prog w) A.in1 (pyIter (.ref s.heap.objs.size)) (Seen prog w A.in1 .Lt Q) E {s with heap:=s.heap.push {cls:=.type "tuple",data:=.seq #[a,b]}}):wpAny (model prog w) A (call (.builtin "min") [a,b]) Q E s:=by
 have nmn:(toString "min" ++ toString ".loop" : String) = "min.loop":=by decide
 refine call_function_tree F.kind_min F.plain_min F.entry_min (F.args_min2 _ _) ?_;refine wpAny_bind (m:=Builtin.Builtins.bindParams "min" ["key", "default"] 0 ⟨[],[]⟩) (wpAny_of_eq (a:=[none,none]) rfl ?_);refine wpAny_bind (m:=newTuple [a,b]) (wpAny_newObj_type (wpAny_bind (wpAny_mono h (fun it t ht=>wpAny_bind (wpAny_newObj_type ?_)) fun _ _ e=>e)));rw [nmn];exact wpAny_pure ⟨plainId_quiet F.plain_min_loop _,begun false (fun _ _ q=>q) ht⟩
theorem wN {a b:Value} (h:wpAny (model prog w) A.in1 (pyIter (.ref s.heap.objs.size)) (Seen prog w A.in1 .Gt Q) E {s with heap:=s.heap.push {cls:=.type "tuple",data:=.seq #[a,b]}}):wpAny (model prog w) A (call (.builtin "max") [a,b]) Q E s:=by
 have nmx:(toString "max" ++ toString ".loop" : String) = "max.loop":=by decide
 refine call_function_tree F.kind_max F.plain_max F.entry_max (F.args_max2 _ _) ?_;refine wpAny_bind (m:=Builtin.Builtins.bindParams "max" ["key", "default"] 0 ⟨[],[]⟩) (wpAny_of_eq (a:=[none,none]) rfl ?_);refine wpAny_bind (m:=newTuple [a,b]) (wpAny_newObj_type (wpAny_bind (wpAny_mono h (fun it t ht=>wpAny_bind (wpAny_newObj_type ?_)) fun _ _ e=>e)));rw [nmx];exact wpAny_pure ⟨plainId_quiet F.plain_max_loop _,begun true (fun _ _ q=>q) ht⟩
end
end PySem.Mm
end
section
namespace Mi
open PySem L2 PySem.SeqAt PySem.Spec PyProof.Rows
variable [KFrag]
theorem uI (o:fD) (x:D) (xs:List D):∀k,k<=xs.length->(xs.take k).foldl (fun m y=>if (cM o y m).getD false then y else m) x=(x::xs).getD (argBest (btD o (x::xs)) k) .non
 | 0,_=>by simp [argBest]
 | k+1,h=>by
  have ih:=uI o x xs k (by lia);have hk:k<xs.length:=by lia
  rw [List.take_succ_eq_append_getElem hk,List.foldl_append,ih];have e:(x::xs).getD (k+1) .non=xs[k]:=by simp [hk]
  have hb:btD o (x::xs) (k+1) (argBest (btD o (x::xs)) k)=(cM o xs[k] ((x::xs).getD (argBest (btD o (x::xs)) k) .non)).getD false:=by unfold btD;rw [e]
  show (if (cM o xs[k] ((x::xs).getD (argBest (btD o (x::xs)) k) .non)).getD false then xs[k] else (x::xs).getD (argBest (btD o (x::xs)) k) .non)=(x::xs).getD (if btD o (x::xs) (k+1) (argBest (btD o (x::xs)) k) then k+1 else argBest (btD o (x::xs)) k) .non;rw [<-hb];cases btD o (x::xs) (k+1) (argBest (btD o (x::xs)) k) with
  | true=>rw [if_pos rfl,if_pos rfl,e]
  | false=>rw [if_neg (by simp),if_neg (by simp)]
section
variable {X:Cx} {pins:List (Addr×Obj)} {σ:L2.St} {H:Hp} {s:Shared}
noncomputable def Gds (s:Shared) (s':Shared):Prop:=∃h' tk,s'={s with heap:=h',toks:=tk}/\∀b o,s.heap.get? b=some o->h'.get? b=some o
theorem jO (I:Inv X pins σ H s) (hu:X.A.units+20<cLine) {o:fD} {xs:List V} {ds:List D} {its:List Value} {d:D} (r:a_ All H xs ds) (vr:Vals xs its) (h:jR o ds=.ok d) (i j:Nat) (vi vj:Value) (s':Shared) (Q:Value->Shared->Prop) (E:Value->Shared->Prop)
  (g:Gds s s') (hi:its.toArray[i]?=some vi) (hj:its.toArray[j]?=some vj) (q:Q (.bool (btD o ds i j)) s'):wpAny (model X.prog X.w) X.A.in1 (richCompare o.op vi vj) Q E s':=by
 obtain ⟨h',tk,rfl,hk⟩:=g;have I':Inv X pins σ H {s with heap:=h',toks:=tk}:=I.kept hk;have hi':its[i]?=some vi:=by simpa using hi
 have hj':its[j]?=some vj:=by simpa using hj
 have at_:∀{i:Nat} {v:Value},its[i]?=some v->∃d w,ds.getD i .non=d/\d∈ds/\RelV w v/\Rep All H w d:=by
  intro i v hv;have hlt:i<its.length:=(List.getElem?_eq_some_iff.mp hv).1;have hlt':i<ds.length:=by rw [<-r.length,vr.length];exact hlt
  obtain ⟨w,h1,h2⟩:=r.get (i:=i) (d:=ds[i]) (by simp [hlt']);obtain ⟨u,h3,h4⟩:=vr.get h1;rw [hv] at h3;cases h3;exact ⟨ds[i],w,by simp [hlt'],List.getElem_mem _,h4,h2⟩
 obtain ⟨d1,w1,e1,m1,v1,r1⟩:=at_ hi';obtain ⟨d2,w2,e2,m2,v2,r2⟩:=at_ hj';cases ds with
 | nil=>cases m1
 | cons x xs'=>
  simp only [jR] at h;split at h
  ·rename_i hall;have h1:=List.all_eq_true.mp hall d1 m1;have h2:=List.all_eq_true.mp hall d2 m2;rw [Bool.and_eq_true] at h1 h2;obtain ⟨k,hk⟩:=Option.isSome_iff_exists.mp (List.all_eq_true.mp h1.2 d2 m2);have:btD o (x::xs') i j=k:=by unfold btD;rw [e1,e2,hk];rfl
   rw [this] at q;exact wL I' o bA X.A.in1 (by show X.A.units+1+12<cLine;lia) h1.1 h2.1 r1 r2 v1 v2 hk X.prog X.w E Q q
  ·cases h
theorem mD {o:fD} {xs:List V} {ds:List D} {its:List Value} {d:D} (r:a_ All H xs ds) (vr:Vals xs its) (h:jR o ds=.ok d) {v:Value} (hv:its.toArray[argBest (btD o ds) (its.length-1)]?=some v):∃w,RelV w v/\Rep All H w d:=by
 have hv':its[argBest (btD o ds) (its.length-1)]?=some v:=by simpa using hv
 cases ds with
 | nil=>cases h
 | cons x xs'=>
  simp only [jR] at h;split at h
  ·cases h;have hl:its.length-1=xs'.length:=by rw [<-vr.length,r.length];simp
   rw [hl] at hv';have fb:=uI o x xs' xs'.length (Nat.le_refl _);rw [List.take_length] at fb;have hlt:argBest (btD o (x::xs')) xs'.length<its.length:=(List.getElem?_eq_some_iff.mp hv').1;have hlt':argBest (btD o (x::xs')) xs'.length<(x::xs').length:=by rw [<-r.length,vr.length];exact hlt
   obtain ⟨w,h1,h2⟩:=r.get (i:=argBest (btD o (x::xs')) xs'.length) (d:=(x::xs')[argBest (btD o (x::xs')) xs'.length]) (by simp [hlt']);obtain ⟨u,h3,h4⟩:=vr.get h1;rw [hv'] at h3;cases h3;refine ⟨w,h4,?_⟩;rw [fb,List.getD_eq_getElem?_getD,List.getElem?_eq_getElem hlt'];exact h2
  ·cases h
theorem Gds.grow {s':Shared} {h1:Heap} {tk1:Nat} (g:Gds s s') {wq:List Addr} {n:Nat} (hw:∀b∈wq,s.heap.objs.size<=b) (hn:s.heap.objs.size<=n)
  (kk:∀b o,b∉wq->b<n->s'.heap.get? b=some o->h1.get? b=some o):Gds s {s' with heap:=h1,toks:=tk1}:=by
 obtain ⟨h',tk,rfl,hk⟩:=g;refine ⟨h1,tk1,rfl,fun b o e=>kk b o (fun hb=>?_) (Nat.lt_of_lt_of_le (Heap.lt_size e) hn) (hk b o e)⟩;exact absurd (Nat.lt_of_lt_of_le (Heap.lt_size e) (hw b hb)) (Nat.lt_irrefl _)
end
section
variable {X:Cx}
theorem nF {o:fD} {ds:List D} {d:D} (h:jR o ds=.ok d):0<ds.length:=by
 cases ds with
 | nil=>cases h
 | cons _ _=>simp
theorem CQ (hu:X.A.units+20<cLine) (hc:X.calm=true) {pins:List (Addr×Obj)} {σ:L2.St} {H:Hp} {s:Shared} {l:Addr} {xs:List V} {ds:List D} {d:D} {Q:VK} (I:Inv X pins σ H s) (hl:SqL X.K H l xs) (r:a_ All H xs ds) (h:jR .lt ds=.ok d) (q:kR H d false Q) :
  wpAny (model X.prog X.w) X.A (call (.builtin "min") [.ref l]) (EP X pins σ Q) X.xe s:=by
 obtain ⟨its,vr,pl⟩:=iJ I hl;have hlt:l<s.heap.objs.size:=by obtain ⟨_,e,_⟩:=pl;exact Heap.lt_size e
 refine Mm.mU (wpAny_pyIter_list pl ?_);refine ⟨_,_,_,_,_,_,btD .lt ds,rfl,Walks.list (A:=X.A.in1) (I.ok.hd hc) _ l (Nat.ne_of_lt hlt) its.toArray,⟨⟨_,Heap.get?_push_size _ rfl,rfl,rfl⟩,pl.push _⟩,fun b hb=>?_,by rw [List.size_toArray,<-vr.length,r.length];exact nF h,⟨Gds s,⟨_,s.toks,rfl,fun b o e=>Heap.get?_push_of_some _ e⟩,fun s' h' tk g kk=>g.grow (wq:=[s.heap.objs.size]) (n:=s.heap.objs.size+1) (fun b hb=>?_) (Nat.le_succ _) fun b o h1 h2 e=>kk b o h1 (by show b<(s.heap.push _).objs.size;rw [Heap.size_push];exact h2) e,fun i j vi vj s' Q E g h1 h2 q=>jO I hu r vr h i j vi vj s' Q E g h1 h2 q⟩,fun v h' tk hP hk=>?_⟩
 ·show b<(s.heap.push _).objs.size;rw [Heap.size_push];rcases List.mem_cons.mp hb with rfl|hb
  ·exact Nat.lt_succ_self _
  ·rcases List.mem_cons.mp hb with rfl|hb
   ·exact Nat.lt_succ_of_lt hlt
   ·cases hb
 ·rcases List.mem_cons.mp hb with rfl|hb
  ·exact Nat.le_refl _
  ·cases hb
 ·obtain ⟨w,v1,r1⟩:=mD r vr h (by simpa using hP);refine ⟨w,H,I.kept fun b o e=>hk b o (fun hb=>?_) (Heap.get?_push_of_some _ e),v1,q.self r1 fun z=>by cases z⟩;rcases List.mem_cons.mp hb with rfl|hb
  ·exact absurd (Heap.lt_size e) (Nat.lt_irrefl _)
  ·cases hb
theorem CT (hu:X.A.units+20<cLine) (hc:X.calm=true) {pins:List (Addr×Obj)} {σ:L2.St} {H:Hp} {s:Shared} {l:Addr} {xs:List V} {ds:List D} {d:D} {Q:VK} (I:Inv X pins σ H s) (hl:H l=some (.tup xs)) (r:a_ All H xs ds) (h:jR .lt ds=.ok d) (q:kR H d false Q) :
  wpAny (model X.prog X.w) X.A (call (.builtin "min") [.ref l]) (EP X pins σ Q) X.xe s:=by
 obtain ⟨its,vr,pl⟩:=d8 I hl;have hlt:l<s.heap.objs.size:=by obtain ⟨_,e,_⟩:=pl;exact Heap.lt_size e
 refine Mm.mU (wpAny_pyIter_tuple pl ?_);refine ⟨_,_,_,_,_,_,btD .lt ds,rfl,Walks.tuple (A:=X.A.in1) (I.ok.hd hc) _ l (Nat.ne_of_lt hlt) its.toArray,⟨⟨_,Heap.get?_push_size _ rfl,rfl,rfl⟩,pl.push _⟩,fun b hb=>?_,by rw [List.size_toArray,<-vr.length,r.length];exact nF h,⟨Gds s,⟨_,s.toks,rfl,fun b o e=>Heap.get?_push_of_some _ e⟩,fun s' h' tk g kk=>g.grow (wq:=[s.heap.objs.size]) (n:=s.heap.objs.size+1) (fun b hb=>?_) (Nat.le_succ _) fun b o h1 h2 e=>kk b o h1 (by show b<(s.heap.push _).objs.size;rw [Heap.size_push];exact h2) e,fun i j vi vj s' Q E g h1 h2 q=>jO I hu r vr h i j vi vj s' Q E g h1 h2 q⟩,fun v h' tk hP hk=>?_⟩
 ·show b<(s.heap.push _).objs.size;rw [Heap.size_push];rcases List.mem_cons.mp hb with rfl|hb
  ·exact Nat.lt_succ_self _
  ·rcases List.mem_cons.mp hb with rfl|hb
   ·exact Nat.lt_succ_of_lt hlt
   ·cases hb
 ·rcases List.mem_cons.mp hb with rfl|hb
  ·exact Nat.le_refl _
  ·cases hb
 ·obtain ⟨w,v1,r1⟩:=mD r vr h (by simpa using hP);refine ⟨w,H,I.kept fun b o e=>hk b o (fun hb=>?_) (Heap.get?_push_of_some _ e),v1,q.self r1 fun z=>by cases z⟩;rcases List.mem_cons.mp hb with rfl|hb
  ·exact absurd (Heap.lt_size e) (Nat.lt_irrefl _)
  ·cases hb
theorem CV (hu:X.A.units+20<cLine) (hc:X.calm=true) {pins:List (Addr×Obj)} {σ:L2.St} {H:Hp} {s:Shared} {x y:V} {u w:Value} {a b d:D} {Q:VK} (I:Inv X pins σ H s) (rx:Rep All H x a) (ry:Rep All H y b) (ru:RelV x u) (rw':RelV y w) (h:jR .lt [a,b]=.ok d) (q:kR H d false Q) :
  wpAny (model X.prog X.w) X.A (call (.builtin "min") [u,w]) (EP X pins σ Q) X.xe s:=by
 have r:a_ All H [x,y] [a,b]:=.cons rx (.cons ry .nil);have vr:Vals [x,y] [u,w]:=.cons ru (.cons rw' .nil);have pl:(s.heap.push {cls:=.type "tuple",data:=.seq #[u,w]}).IsTuple s.heap.objs.size [u,w].toArray:=⟨_,Heap.get?_push_size _ rfl,rfl,0,rfl⟩
 have hsz:(s.heap.push {cls:=.type "tuple",data:=.seq #[u,w]}).objs.size=s.heap.objs.size+1:=Heap.size_push ..;refine Mm.wM (wpAny_pyIter_tuple pl ?_);refine ⟨_,_,_,_,_,_,btD .lt [a,b],rfl,Walks.tuple (A:=X.A.in1) (I.ok.hd hc) _ s.heap.objs.size (by rw [hsz];exact Nat.ne_of_lt (Nat.lt_succ_self _)) [u,w].toArray,⟨⟨_,Heap.get?_push_size _ rfl,rfl,rfl⟩,pl.push _⟩,fun b hb=>?_,by simp,⟨Gds s,⟨_,s.toks,rfl,fun b o e=>Heap.get?_push_of_some _ (Heap.get?_push_of_some _ e)⟩,fun s' h' tk g kk=>g.grow (wq:=[s.heap.objs.size+1]) (n:=s.heap.objs.size+2) (fun b hb=>?_) (by lia) fun b o h1 h2 e=>kk b o (by rw [hsz];exact h1) (by show b<((s.heap.push _).push _).objs.size;rw [Heap.size_push,hsz];exact h2) e,fun i j vi vj s' Q E g h1 h2 q=>jO I hu r vr h i j vi vj s' Q E g h1 h2 q⟩,fun v h' tk hP hk=>?_⟩
 ·show b<((s.heap.push _).push _).objs.size;rw [Heap.size_push,hsz];rcases List.mem_cons.mp hb with rfl|hb
  ·rw [hsz];exact Nat.lt_succ_self _
  ·rcases List.mem_cons.mp hb with rfl|hb
   ·exact Nat.lt_succ_of_lt (Nat.lt_succ_self _)
   ·cases hb
 ·rcases List.mem_cons.mp hb with rfl|hb
  ·lia
  ·cases hb
 ·obtain ⟨w,v1,r1⟩:=mD r vr h (by simpa using hP);refine ⟨w,H,I.kept fun b o e=>hk b o (fun hb=>?_) (Heap.get?_push_of_some _ (Heap.get?_push_of_some _ e)),v1,q.self r1 fun z=>by cases z⟩;rcases List.mem_cons.mp hb with hb|hb
  ·have:=Heap.lt_size e;rw [hb,hsz] at this;exact absurd this (Nat.not_lt.mpr (Nat.le_succ _))
  ·cases hb
theorem J7 (hu:X.A.units+20<cLine) (hc:X.calm=true):gY X (.builtin "min") (rs (cO .lt) false):=by
 intro pins s σ H xs us Q I vr ⟨ds,d,r,e,k⟩;unfold cO at e;split at e
 ·cases r with
  | cons r t=>
   cases t;cases vr with
   | cons v vt=>
    cases vt;obtain ⟨l,ys,rfl,hl,rr⟩:=r.fV (K:=X.K);cases v;exact CQ hu hc I hl rr e k
 ·cases r with
  | cons r t=>
   cases t;cases vr with
   | cons v vt=>
    cases vt;obtain ⟨l,ys,rfl,hl,rr⟩:=r.dR;cases v;exact CT hu hc I hl rr e k
 ·cases r with
  | cons r t=>
   cases t with
   | cons r' t=>
    cases t;cases vr with
    | cons v vt=>
     cases vt with
     | cons v' vt=>
      cases vt;exact CV hu hc I r r' v v' e k
 ·cases e
theorem CW (hu:X.A.units+20<cLine) (hc:X.calm=true) {pins:List (Addr×Obj)} {σ:L2.St} {H:Hp} {s:Shared} {l:Addr} {xs:List V} {ds:List D} {d:D} {Q:VK} (I:Inv X pins σ H s) (hl:SqL X.K H l xs) (r:a_ All H xs ds) (h:jR .gt ds=.ok d) (q:kR H d false Q) :
  wpAny (model X.prog X.w) X.A (call (.builtin "max") [.ref l]) (EP X pins σ Q) X.xe s:=by
 obtain ⟨its,vr,pl⟩:=iJ I hl;have hlt:l<s.heap.objs.size:=by obtain ⟨_,e,_⟩:=pl;exact Heap.lt_size e
 refine Mm.mV (wpAny_pyIter_list pl ?_);refine ⟨_,_,_,_,_,_,btD .gt ds,rfl,Walks.list (A:=X.A.in1) (I.ok.hd hc) _ l (Nat.ne_of_lt hlt) its.toArray,⟨⟨_,Heap.get?_push_size _ rfl,rfl,rfl⟩,pl.push _⟩,fun b hb=>?_,by rw [List.size_toArray,<-vr.length,r.length];exact nF h,⟨Gds s,⟨_,s.toks,rfl,fun b o e=>Heap.get?_push_of_some _ e⟩,fun s' h' tk g kk=>g.grow (wq:=[s.heap.objs.size]) (n:=s.heap.objs.size+1) (fun b hb=>?_) (Nat.le_succ _) fun b o h1 h2 e=>kk b o h1 (by show b<(s.heap.push _).objs.size;rw [Heap.size_push];exact h2) e,fun i j vi vj s' Q E g h1 h2 q=>jO I hu r vr h i j vi vj s' Q E g h1 h2 q⟩,fun v h' tk hP hk=>?_⟩
 ·show b<(s.heap.push _).objs.size;rw [Heap.size_push];rcases List.mem_cons.mp hb with rfl|hb
  ·exact Nat.lt_succ_self _
  ·rcases List.mem_cons.mp hb with rfl|hb
   ·exact Nat.lt_succ_of_lt hlt
   ·cases hb
 ·rcases List.mem_cons.mp hb with rfl|hb
  ·exact Nat.le_refl _
  ·cases hb
 ·obtain ⟨w,v1,r1⟩:=mD r vr h (by simpa using hP);refine ⟨w,H,I.kept fun b o e=>hk b o (fun hb=>?_) (Heap.get?_push_of_some _ e),v1,q.self r1 fun z=>by cases z⟩;rcases List.mem_cons.mp hb with rfl|hb
  ·exact absurd (Heap.lt_size e) (Nat.lt_irrefl _)
  ·cases hb
theorem CZ (hu:X.A.units+20<cLine) (hc:X.calm=true) {pins:List (Addr×Obj)} {σ:L2.St} {H:Hp} {s:Shared} {l:Addr} {xs:List V} {ds:List D} {d:D} {Q:VK} (I:Inv X pins σ H s) (hl:H l=some (.tup xs)) (r:a_ All H xs ds) (h:jR .gt ds=.ok d) (q:kR H d false Q) :
  wpAny (model X.prog X.w) X.A (call (.builtin "max") [.ref l]) (EP X pins σ Q) X.xe s:=by
 obtain ⟨its,vr,pl⟩:=d8 I hl;have hlt:l<s.heap.objs.size:=by obtain ⟨_,e,_⟩:=pl;exact Heap.lt_size e
 refine Mm.mV (wpAny_pyIter_tuple pl ?_);refine ⟨_,_,_,_,_,_,btD .gt ds,rfl,Walks.tuple (A:=X.A.in1) (I.ok.hd hc) _ l (Nat.ne_of_lt hlt) its.toArray,⟨⟨_,Heap.get?_push_size _ rfl,rfl,rfl⟩,pl.push _⟩,fun b hb=>?_,by rw [List.size_toArray,<-vr.length,r.length];exact nF h,⟨Gds s,⟨_,s.toks,rfl,fun b o e=>Heap.get?_push_of_some _ e⟩,fun s' h' tk g kk=>g.grow (wq:=[s.heap.objs.size]) (n:=s.heap.objs.size+1) (fun b hb=>?_) (Nat.le_succ _) fun b o h1 h2 e=>kk b o h1 (by show b<(s.heap.push _).objs.size;rw [Heap.size_push];exact h2) e,fun i j vi vj s' Q E g h1 h2 q=>jO I hu r vr h i j vi vj s' Q E g h1 h2 q⟩,fun v h' tk hP hk=>?_⟩
 ·show b<(s.heap.push _).objs.size;rw [Heap.size_push];rcases List.mem_cons.mp hb with rfl|hb
  ·exact Nat.lt_succ_self _
  ·rcases List.mem_cons.mp hb with rfl|hb
   ·exact Nat.lt_succ_of_lt hlt
   ·cases hb
 ·rcases List.mem_cons.mp hb with rfl|hb
  ·exact Nat.le_refl _
  ·cases hb
 ·obtain ⟨w,v1,r1⟩:=mD r vr h (by simpa using hP);refine ⟨w,H,I.kept fun b o e=>hk b o (fun hb=>?_) (Heap.get?_push_of_some _ e),v1,q.self r1 fun z=>by cases z⟩;rcases List.mem_cons.mp hb with rfl|hb
  ·exact absurd (Heap.lt_size e) (Nat.lt_irrefl _)
  ·cases hb
theorem C_ (hu:X.A.units+20<cLine) (hc:X.calm=true) {pins:List (Addr×Obj)} {σ:L2.St} {H:Hp} {s:Shared} {x y:V} {u w:Value} {a b d:D} {Q:VK} (I:Inv X pins σ H s) (rx:Rep All H x a) (ry:Rep All H y b) (ru:RelV x u) (rw':RelV y w) (h:jR .gt [a,b]=.ok d) (q:kR H d false Q) :
  wpAny (model X.prog X.w) X.A (call (.builtin "max") [u,w]) (EP X pins σ Q) X.xe s:=by
 have r:a_ All H [x,y] [a,b]:=.cons rx (.cons ry .nil);have vr:Vals [x,y] [u,w]:=.cons ru (.cons rw' .nil);have pl:(s.heap.push {cls:=.type "tuple",data:=.seq #[u,w]}).IsTuple s.heap.objs.size [u,w].toArray:=⟨_,Heap.get?_push_size _ rfl,rfl,0,rfl⟩
 have hsz:(s.heap.push {cls:=.type "tuple",data:=.seq #[u,w]}).objs.size=s.heap.objs.size+1:=Heap.size_push ..;refine Mm.wN (wpAny_pyIter_tuple pl ?_);refine ⟨_,_,_,_,_,_,btD .gt [a,b],rfl,Walks.tuple (A:=X.A.in1) (I.ok.hd hc) _ s.heap.objs.size (by rw [hsz];exact Nat.ne_of_lt (Nat.lt_succ_self _)) [u,w].toArray,⟨⟨_,Heap.get?_push_size _ rfl,rfl,rfl⟩,pl.push _⟩,fun b hb=>?_,by simp,⟨Gds s,⟨_,s.toks,rfl,fun b o e=>Heap.get?_push_of_some _ (Heap.get?_push_of_some _ e)⟩,fun s' h' tk g kk=>g.grow (wq:=[s.heap.objs.size+1]) (n:=s.heap.objs.size+2) (fun b hb=>?_) (by lia) fun b o h1 h2 e=>kk b o (by rw [hsz];exact h1) (by show b<((s.heap.push _).push _).objs.size;rw [Heap.size_push,hsz];exact h2) e,fun i j vi vj s' Q E g h1 h2 q=>jO I hu r vr h i j vi vj s' Q E g h1 h2 q⟩,fun v h' tk hP hk=>?_⟩
 ·show b<((s.heap.push _).push _).objs.size;rw [Heap.size_push,hsz];rcases List.mem_cons.mp hb with rfl|hb
  ·rw [hsz];exact Nat.lt_succ_self _
  ·rcases List.mem_cons.mp hb with rfl|hb
   ·exact Nat.lt_succ_of_lt (Nat.lt_succ_self _)
   ·cases hb
 ·rcases List.mem_cons.mp hb with rfl|hb
  ·lia
  ·cases hb
 ·obtain ⟨w,v1,r1⟩:=mD r vr h (by simpa using hP);refine ⟨w,H,I.kept fun b o e=>hk b o (fun hb=>?_) (Heap.get?_push_of_some _ (Heap.get?_push_of_some _ e)),v1,q.self r1 fun z=>by cases z⟩;rcases List.mem_cons.mp hb with hb|hb
  ·have:=Heap.lt_size e;rw [hb,hsz] at this;exact absurd this (Nat.not_lt.mpr (Nat.le_succ _))
  ·cases hb
theorem J8 (hu:X.A.units+20<cLine) (hc:X.calm=true):gY X (.builtin "max") (rs (cO .gt) false):=by
 intro pins s σ H xs us Q I vr ⟨ds,d,r,e,k⟩;unfold cO at e;split at e
 ·cases r with
  | cons r t=>
   cases t;cases vr with
   | cons v vt=>
    cases vt;obtain ⟨l,ys,rfl,hl,rr⟩:=r.fV (K:=X.K);cases v;exact CW hu hc I hl rr e k
 ·cases r with
  | cons r t=>
   cases t;cases vr with
   | cons v vt=>
    cases vt;obtain ⟨l,ys,rfl,hl,rr⟩:=r.dR;cases v;exact CZ hu hc I hl rr e k
 ·cases r with
  | cons r t=>
   cases t with
   | cons r' t=>
    cases t;cases vr with
    | cons v vt=>
     cases vt with
     | cons v' vt=>
      cases vt;exact C_ hu hc I r r' v v' e k
 ·cases e
end
end Mi
end
section
namespace PySem.Mm
open PySem PyProof.Rows PySem.W
end PySem.Mm
end
section
namespace Mi
open PySem L2 PySem.SeqAt PySem.Spec PyProof.Rows
variable [KFrag]
section
variable {X:Cx} {a b c e:Expr} {es:List Expr} {pos p:Pos} {fa fb fc fe:FE} {ra rb rc re:Bool} {fs:FA} {rr:Bool} {x:Str} {id T:String}
theorem fY {P:Addr->Prop} {H:Hp} {xs:List V} {us:List Value} {d:D} (r:a_ P H xs [d]) (vr:Vals xs us):∃v u,xs=[v]/\us=[u]/\Rep P H v d/\RelV v u:=by
 cases r with
 | cons r t=>
  cases t;cases vr with
  | cons v vt=>
   cases vt;exact ⟨_,_,rfl,rfl,r,v⟩
theorem yZ {f:List D->Res D} {fr:Bool} {σ:L2.St} {H:Hp} {Q:VK} (h:gE (aY f fs) fr σ H Q):tCB (rs f fr) (gA fs rr) σ H Q:=by
 obtain ⟨ρ,d,E,h,q⟩:=h;obtain ⟨ds,h1,h2⟩:=aU h;exact ⟨ρ,ds,E,h1,fun vs H1 s1 r1 _=>⟨ds,d,r1,h2,q.imp s1 id⟩⟩
theorem bN {f:List D->Res D} {fr:Bool} (hc:gY X (.builtin id) (rs f fr)) (hg:Gl X x) (hm:X.mg x=none) (hv:bootBuiltins x=some (.builtin id)) (ha:PA X (e::es) (gA fs rr)) (hn:x ≠ "__name__":=by decide) (hdb:(x==("__debug__" : Str))=false:=by decide)
  (he:starEach (e::es) X.env=(false,eval e X.env)::starEach es X.env:=by rfl) (hpl:(backTo pos (starEach es X.env)).any (·.1)=false:=by rfl):PE X (.Call (.Name x p) (e::es) [] pos) (gE (aY f fs) fr):=
 PE.imp (qZ hc hg hm hv ha hn hdb he hpl) fun _ _ _=>yZ
theorem fM {f:List D->Res D} {fr:Bool} (hc:gY X (.type T) (rs f fr)) (hg:Gl X x) (hm:X.mg x=none) (hv:bootBuiltins x=some (.type T)) (ha:PA X (e::es) (gA fs rr)) (hn:x ≠ "__name__":=by decide) (hdb:(x==("__debug__" : Str))=false:=by decide)
  (he:starEach (e::es) X.env=(false,eval e X.env)::starEach es X.env:=by rfl) (hpl:(backTo pos (starEach es X.env)).any (·.1)=false:=by rfl):PE X (.Call (.Name x p) (e::es) [] pos) (gE (aY f fs) fr):=
 PE.imp (G_ hc hg hm hv ha hn hdb he hpl) fun _ _ _=>yZ
theorem lE (hK:KFrag.K=X.K):gY X (.builtin "len") (rs uE true):=by
 intro pins s σ H xs us Q I vr ⟨ds,d,r,e,k⟩;unfold uE at e;split at e
 ·cases e;obtain ⟨vv,uu,rfl,rfl,r,v⟩:=fY r vr;obtain ⟨l,ys,rfl,hl,rr⟩:=r.dR;cases v;exact fW pins s σ H [.ref l] [.ref l] Q I (.cons rfl .nil) ⟨l,ys,rfl,.inr (.of hl),by rw [rr.length];exact k.int⟩
 ·cases e;obtain ⟨vv,uu,rfl,rfl,r,v⟩:=fY r vr;obtain ⟨l,ys,rfl,hl,rr⟩:=r.fV (K:=X.K);cases v;exact fW pins s σ H [.ref l] [.ref l] Q I (.cons rfl .nil) ⟨l,ys,rfl,.inl hl,by rw [rr.length];exact k.int⟩
 ·cases e;obtain ⟨vv,uu,rfl,rfl,r,v⟩:=fY r vr;cases r with
  | @frz l xs ds ee rr=>
   cases v;exact fW pins s σ H [.ref l] [.ref l] Q I (.cons rfl .nil) ⟨l,xs,rfl,.inl (ee.sq hK),by rw [rr.length];exact k.int⟩
 ·cases e;obtain ⟨vv,uu,rfl,rfl,r,v⟩:=fY r vr;cases r with
  | cel ee pp rr=>
   cases v;exact fW pins s σ H [.ref _] [.ref _] Q I (.cons rfl .nil) ⟨_,_,rfl,.inl (.inl (.inl ee)),by rw [rr.length];exact k.int⟩
 ·split at e
  ·rename_i hl;cases e;obtain ⟨vv,uu,rfl,rfl,r,v⟩:=fY r vr;cases r;exact t7 pins s σ H _ _ Q I (.cons v .nil) ⟨_,rfl,lD hl,k.int⟩
  ·cases e
 ·cases e
theorem lF:gY X (.type "tuple") (rs oG false):=by
 intro pins s σ H xs us Q I vr ⟨ds,d,r,e,k⟩;unfold oG at e;split at e
 ·cases e;obtain ⟨vv,uu,rfl,rfl,r,v⟩:=fY r vr;obtain ⟨l,ys,rfl,hl',rr⟩:=r.dR;cases v;exact kI pins s σ H [.ref l] [.ref l] Q I (.cons rfl .nil) ⟨l,ys,rfl,.inr ⟨.of hl',k.self (.tup hl' rr) fun z=>by cases z⟩⟩
 ·cases e;obtain ⟨vv,uu,rfl,rfl,r,v⟩:=fY r vr;obtain ⟨l,ys,rfl,hl',rr⟩:=r.fV (K:=X.K);cases v;refine kI pins s σ H [.ref l] [.ref l] Q I (.cons rfl .nil) ⟨l,ys,rfl,.inl ⟨hl',fun p hp=>?_⟩⟩;have sp:bZ H (upd H p (.tup ys)):=bZ.upd hp;exact k _ _ sp (.tup aL (rr.same sp)) fun z=>by cases z
 ·cases e
mutual
theorem qN:∀(d:D),d.plain=true->d.pure=true
 | .tup xs,h=>by rw [D.plain] at h;rw [D.pure];exact mW xs h
 | .int _,_=>rfl
 | .str _,_=>rfl
 | .uDf,h=>by simp [D.plain] at h
 | .non,_=>rfl
 | .bl _,_=>rfl
 | .lst _,h=>by simp [D.plain] at h
 | .dct _,h=>by simp [D.plain] at h
 | .scr _,h=>by simp [D.plain] at h
 | .fdc _,h=>by simp [D.plain] at h
 | .cel _ _,h=>by simp [D.plain] at h
theorem mW:∀(ds:List D),D.fG ds=true->D.aR ds=true
 | [],_=>rfl
 | x::xs,h=>by rw [D.fG,Bool.and_eq_true] at h;rw [D.aR,Bool.and_eq_true];exact ⟨qN x h.1,mW xs h.2⟩
end
theorem oV {ds:List D} (h:bF ds=true):D.aR (iW ds)=true:=fL.mpr fun d hd=>qN d (cV h ((d9 ds).mem_iff.mp hd)).1
theorem lG (hu:X.A.units+20<cLine):gY X (.builtin "sorted") (rs iZ true):=by
 intro pins s σ H xs us Q I vr ⟨ds,d,r,e,k⟩;unfold iZ at e;split at e
 ·split at e
  ·rename_i hl;cases e;obtain ⟨vv,uu,rfl,rfl,r,v⟩:=fY r vr;obtain ⟨l,ys,rfl,hl',rr⟩:=r.fV (K:=X.K);cases v;refine CP I hu hl' rr hl fun p xs' hp r'=>?_
   have sp:bZ H (upd H p (.lst xs')):=bZ.upd hp;exact k _ _ sp (.lst aL trivial (r'.same sp)) fun _=>.lst aL hp ((r'.bD (oV hl)).same sp)
  ·cases e
 ·cases e
theorem isi {pins:List (Addr×Obj)} {s:Shared} {σ:L2.St} {H:Hp} {v:V} {u:Value} {d:D} {t:Ty} {k:Bool} (I:Inv X pins σ H s) (r:Rep All H v d) (ru:RelV v u) (h:JC t d=.ok k) {Q:Value->Shared->Prop}
  (q:∀tk,Q (.bool k) {s with toks:=tk}):wpAny (model X.prog X.w) X.A (call (.builtin "isinstance") [u,.type t.nm]) Q X.xe s:=by
 have q0:Q (.bool k) s:=q s.toks;cases r with
 | non=>cases ru;cases t <;> simp only [JC] at h <;> cases h <;> first|exact IsiPair.NoneType_int (q _)|exact IsiPair.NoneType_str (q _)|exact IsiPair.NoneType_bool (q _)|exact IsiPair.NoneType_list (q _)|exact IsiPair.NoneType_tuple (q _)|exact IsiPair.NoneType_dict (q _)
 | bl b=>cases ru;cases t <;> simp only [JC] at h <;> cases h <;> first|exact IsiPair.bool_int q0|exact IsiPair.bool_str (q _)|exact IsiPair.bool_bool q0|exact IsiPair.bool_list (q _)|exact IsiPair.bool_tuple (q _)|exact IsiPair.bool_dict (q _)
 | int b=>obtain ⟨tt,rfl⟩:=ru;cases t <;> simp only [JC] at h <;> cases h <;> first|exact IsiPair.int_int q0|exact IsiPair.int_str (q _)|exact IsiPair.int_bool (q _)|exact IsiPair.int_list (q _)|exact IsiPair.int_tuple (q _)|exact IsiPair.int_dict (q _)
 | str b=>obtain ⟨tt,rfl⟩:=ru;cases t <;> simp only [JC] at h <;> cases h <;> first|exact IsiPair.str_int (q _)|exact IsiPair.str_str q0|exact IsiPair.str_bool (q _)|exact IsiPair.str_list (q _)|exact IsiPair.str_tuple (q _)|exact IsiPair.str_dict (q _)
 | tup e rr=>
  cases ru;obtain ⟨its,vr,o,ho,hc,_⟩:=d8 I e;cases t <;> simp only [JC] at h <;> cases h <;> first|exact IsiPair.tuple_int ho hc (q _)|exact IsiPair.tuple_str ho hc (q _)|exact IsiPair.tuple_bool ho hc (q _)|exact IsiPair.tuple_list ho hc (q _)|exact IsiPair.tuple_tuple ho hc q0|exact IsiPair.tuple_dict ho hc (q _)
 | lst e p rr=>
  cases ru;obtain ⟨its,vr,o,ho,hc,_⟩:=iJ I (.of e);cases t <;> simp only [JC] at h <;> cases h <;> first|exact IsiPair.list_int ho hc (q _)|exact IsiPair.list_str ho hc (q _)|exact IsiPair.list_bool ho hc (q _)|exact IsiPair.list_list ho hc q0|exact IsiPair.list_tuple ho hc (q _)|exact IsiPair.list_dict ho hc (q _)
 | frz e rr=>cases t <;> cases h
 | fdK e rr n=>cases t <;> cases h
 | fdT e rr n=>cases t <;> cases h
 | cel e p rr=>cases t <;> cases h
 | dK e p rr n=>
  cases ru;obtain ⟨_,_,_,_,o,_,_,ho,hx,_⟩:=BL I.hok e;have hc:=hx.1;cases t <;> simp only [JC] at h <;> cases h <;> first|exact IsiPair.dict_int ho hc (q _)|exact IsiPair.dict_str ho hc (q _)|exact IsiPair.dict_bool ho hc (q _)|exact IsiPair.dict_list ho hc (q _)|exact IsiPair.dict_tuple ho hc (q _)|exact IsiPair.dict_dict ho hc q0
 | dT e p rr n=>
  cases ru;obtain ⟨_,_,_,_,o,_,_,ho,hx,_⟩:=HQ I.hok e;have hc:=hx.1;cases t <;> simp only [JC] at h <;> cases h <;> first|exact IsiPair.dict_int ho hc (q _)|exact IsiPair.dict_str ho hc (q _)|exact IsiPair.dict_bool ho hc (q _)|exact IsiPair.dict_list ho hc (q _)|exact IsiPair.dict_tuple ho hc (q _)|exact IsiPair.dict_dict ho hc q0
noncomputable def aEr (t:Ty):List V->Hp->VK->Prop:=fun xs H Q=>∃v d k,xs=[v,.ty t.nm]/\Rep All H v d/\JC t d=.ok k/\Q (.bl k) H
theorem aAf (t:Ty):gY X (.builtin "isinstance") (aEr t):=by
 intro pins s σ H xs us Q I vr ⟨v,d,k,e,r,h,q⟩;subst e;cases vr with
 | cons rv vt=>
  cases vt with
  | cons rt vt=>
   cases vt;cases rt;exact isi I r rv h fun tk=>⟨.bl k,H,I.tok tk,rfl,q⟩
theorem jW (t:Ty) {y:Str} {p2:Pos} (ha:PE X a (gE fa ra)) (hg:Gl X "isinstance") (hm:X.mg "isinstance" = none) (hv:bootBuiltins "isinstance" = some (.builtin "isinstance")) (gy:Gl X y) (my:X.mg y=none) (vy:bootBuiltins y=some (.type t.nm))
  (hy:y ≠ "__name__":=by decide) (hyd:(y==("__debug__" : Str))=false:=by decide)
  (he:starEach [a,.Name y p2] X.env=(false,eval a X.env)::starEach [.Name y p2] X.env:=by rfl) (he2:starEach [.Name y p2] X.env=(false,eval (.Name y p2) X.env)::starEach [] X.env:=by rfl)
  (hpl:(backTo pos (starEach [.Name y p2] X.env)).any (·.1)=false:=by rfl):PE X (.Call (.Name "isinstance" p) [a,.Name y p2] [] pos) (gE (b1 (oH t) fa) true):=
 PE.imp (qZ (aAf t) hg hm hv (cJ ha (cJ (vY gy my vy (v:=.ty t.nm) rfl hy hyd) jV he2) he) (by decide) (by decide) he hpl) fun σ H Q ⟨ρ,d,E,h,q⟩=>by
  obtain ⟨x,h1,h⟩:=aU h;obtain ⟨k,h2,h⟩:=aU h;cases h;exact ⟨ρ,x,E,h1,fun v H1 s1 r1 _=>⟨v,x,k,rfl,r1,h2,(q.imp s1 id).bl⟩⟩
noncomputable def spD (f:List D->Res D) (n:Nat):Sp:=fun vs H Q _=>∃ds d,ds.length=n/\a_ All H vs ds/\f ds=.ok d/\kR H d true Q
theorem WF {f:List D->Res D} {n:Nat} {vs:List V} {H:Hp} {Q:VK} {E:XK} (h:spD f n vs H Q E):vs.length=n:=by
 obtain ⟨ds,d,h1,r,_⟩:=h;rw [r.length,h1]
theorem WK {k:Nat} {fad:Addr} {fd:FuncData} {ps:List Str} {f:List D->Res D} {n:Nat} (F:yG X.prog X.w X.K X.mg X.base CX0 k fad fd ps (spD f n)) (hr:lR k X.A) (hg:Gl X x) (hm:X.mg x=some (.ref fad)) (hk:PySem.W.keepIn X.K (.ref fad)=true) (hb:Binds X.K fd ps [])
  (ha:PA X (e::es) (gA fs rr)) (hdb:(x==("__debug__" : Str))=false:=by decide) (he:starEach (e::es) X.env=(false,eval e X.env)::starEach es X.env:=by rfl) (hpl:(backTo pos (starEach es X.env)).any (·.1)=false:=by rfl) :
  PE X (.Call (.Name x p) (e::es) [] pos) (gE (aY (j6 n f) fs) true):=
 PE.imp (qY F hr hg hm hk hb .nil QB ha hdb he hpl) fun σ H Q ⟨ρ,d,E,h,q⟩=>by
  obtain ⟨ds,h1,h⟩:=aU h;unfold j6 at h;split at h
  ·rename_i hl;exact ⟨ρ,ds,E,h1,fun vs H1 s1 r1 _=>⟨ds,d,of_decide_eq_true hl,by rw [List.append_nil];exact r1,h,q.imp s1 id⟩⟩
  ·cases h
end
end Mi
end
section
namespace Mi
open PySem L2 PySem.SeqAt PySem.Spec PyProof.Rows
noncomputable def uJ (x:Str):List D:=x.cps.toList.map fun c=>D.str ⟨#[c]⟩
noncomputable def J9 (xs:List D):List D:=xs.zipIdx.map fun p=>.tup [.int p.2,p.1]
noncomputable def aC3 (xs ys:List D):List D:=(xs.zip ys).map fun p=>.tup [p.1,p.2]
noncomputable def QT (m:Nat) (xs:List D):List D:=xs.zipIdx.map fun p=>.tup [.int ((m+p.2:Nat):Int),p.1]
variable [KFrag]
noncomputable def aD3 (x:Str):It:=⟨fun i _=>i<x.cps.size,fun i H v H'=>H'=H/\∃c,x.cps[i]?=some c/\v=.str ⟨#[c]⟩,fun i _=>x.cps.size<=i⟩
noncomputable def Ite (K:PySem.W.Frag) (a:Addr):It:=
 ⟨fun i H=>∃xs x,SqL K H a xs/\xs[i]?=some x,fun i H v H'=>∃t x,(∀xs,SqL K H a xs->xs[i]?=some x)/\v=.ref t/\H t=none/\H'=upd H t (.tup [.int i,x]),fun i H=>∃xs,SqL K H a xs/\xs.length<=i⟩
noncomputable def aEs (K:PySem.W.Frag) (m:Nat) (a:Addr):It:=
 ⟨fun i H=>∃xs x,SqL K H a xs/\xs[i]?=some x,fun i H v H'=>∃t x,(∀xs,SqL K H a xs->xs[i]?=some x)/\v=.ref t/\H t=none/\H'=upd H t (.tup [.int ((m+i:Nat):Int),x]),fun i H=>∃xs,SqL K H a xs/\xs.length<=i⟩
noncomputable def Itz (a b:Addr):It :=
  ⟨fun i H => ∃xs ys x y, H a=some (.tup xs) /\ H b=some (.tup ys) /\ xs[i]?=some x /\ ys[i]?=some y, fun i H v H' => ∃t x y, (∀xs, H a=some (.tup xs) -> xs[i]?=some x) /\ (∀ys, H b=some (.tup ys) -> ys[i]?=some y) /\ v=.ref t /\ H t=none /\ H'=upd H t (.tup [x, y]),
   fun i H => ∃xs ys, H a=some (.tup xs) /\ H b=some (.tup ys) /\ ys.length=xs.length /\ xs.length <= i⟩
theorem QV {m:Nat} {xs:List D} {i:Nat}:(QT m xs)[i]?=(xs[i]?).map fun d=>.tup [.int ((m+i:Nat):Int),d]:=by
 unfold QT;rw [List.getElem?_map,List.getElem?_zipIdx,Nat.zero_add];cases xs[i]? <;> rfl
theorem QW {xs:List D} {i:Nat}:(J9 xs)[i]?=(xs[i]?).map fun d=>.tup [.int i,d]:=by
 unfold J9;rw [List.getElem?_map,List.getElem?_zipIdx,Nat.zero_add];cases xs[i]? <;> rfl
theorem J_ (xs:List D):(J9 xs).length=xs.length:=by simp [J9]
inductive ItQ (K:PySem.W.Frag) (P:Addr->Prop) (J:It) (H:Hp) (items:List D):Prop
 | lst (a:Addr) (e:J=Itl K a) (r:Rep P H (.ref a) (.lst items))
 | tup (a:Addr) (e:J=Itt K a) (r:Rep P H (.ref a) (.tup items))
 | rng (lo:Int) (n:Nat) (e:J=Itr lo n) (r:items=(List.range n).map fun (k:Nat)=>D.int (lo+k))
 | chs (x:Str) (e:J=aD3 x) (r:items=uJ x)
 | enm (a:Addr) (ds:List D) (e:J=Ite K a) (r:Rep P H (.ref a) (.lst ds)) (h:items=J9 ds)
 | enf (m:Nat) (a:Addr) (ds:List D) (e:J=aEs K m a) (r:Rep P H (.ref a) (.lst ds)) (h:items=QT m ds)
 | scr (a:Addr) (hK:KFrag.K=K) (e:J=Itl K a) (r:Rep P H (.ref a) (.scr items))
 | zip (a b:Addr) (ds es:List D) (e:J=Itz a b) (r:Rep P H (.ref a) (.tup ds)) (q:Rep P H (.ref b) (.tup es)) (n:es.length=ds.length) (h:items=aC3 ds es)
theorem ItQ.keep {K:PySem.W.Frag} {P P':Addr->Prop} {J:It} {H H':Hp} {items:List D} (h:ItQ K P J H items) (k:JQ P H H') (m:∀a,P a->P' a):ItQ K P' J H' items:=by
 cases h with
 | lst a e r=>exact .lst a e (r.keep k m)
 | tup a e r=>exact .tup a e (r.keep k m)
 | rng lo n e r=>exact .rng lo n e r
 | chs x e r=>exact .chs x e r
 | enm a ds e r h=>exact .enm a ds e (r.keep k m) h
 | enf m' a ds e r h=>exact .enf m' a ds e (r.keep k m) h
 | zip a b ds es e r q n h=>exact .zip a b ds es e (r.keep k m) (q.keep k m) n h
 | scr a hK e r=>exact .scr a hK e (r.keep k m)
theorem ItQ.stop {K:PySem.W.Frag} {P:Addr->Prop} {J:It} {H:Hp} {items:List D} {i:Nat} (h:ItQ K P J H items) (hi:items.length<=i):J.stop i H:=by
 cases h with
 | lst a e r=>
  subst e;obtain ⟨a',xs,e,hq,rr⟩:=r.fV (K:=K);cases e;exact ⟨xs,hq,by rw [rr.length];exact hi⟩
 | tup a e r=>
  subst e;obtain ⟨a',xs,e,hq,rr⟩:=r.dR;cases e;exact ⟨xs,.of hq,by rw [rr.length];exact hi⟩
 | rng lo n e r=>
  subst e r;show n<=i;simpa using hi
 | chs x e r=>
  subst e r;show x.cps.size<=i;simpa [uJ] using hi
 | enm a ds e r h=>
  subst e h;obtain ⟨a',xs,e,hq,rr⟩:=r.fV (K:=K);cases e;exact ⟨xs,hq,by rw [rr.length,<-J_];exact hi⟩
 | enf m a ds e r h=>
  subst e h;obtain ⟨a',xs,e,hq,rr⟩:=r.fV (K:=K);cases e;exact ⟨xs,hq,by rw [rr.length];simpa [QT] using hi⟩
 | zip a b ds es e r q n h=>
  subst e h;obtain ⟨a',xs,e,hq,rr⟩:=r.dR;cases e;obtain ⟨b',ys,e,hq2,rr2⟩:=q.dR;cases e;have:(aC3 ds es).length=ds.length:=by simp [aC3,n]
  exact ⟨xs,ys,hq,hq2,by rw [rr.length,rr2.length];exact n,by rw [rr.length];lia⟩
 | scr a hK e r=>
  subst e;cases r with
  | frz ee rr=>exact ⟨_,ee.sq hK,by rw [rr.length];exact hi⟩
theorem ItQ.go {K:PySem.W.Frag} {P:Addr->Prop} {J:It} {H:Hp} {items:List D} {i:Nat} {d:D} (h:ItQ K P J H items) (hi:items[i]?=some d):J.go i H/\∀x H',J.yld i H x H'->bZ H H'/\Rep P H' x d:=by
 cases h with
 | lst a e r=>
  subst e;obtain ⟨a',xs,e,hq,rr⟩:=r.fV (K:=K);cases e;obtain ⟨v,h1,h2⟩:=rr.get hi;refine ⟨⟨xs,v,hq,h1⟩,fun x H' ⟨e,hy⟩=>?_⟩;subst e;refine ⟨bZ.refl _,?_⟩;have:=hy xs hq;rw [h1] at this;cases this;exact h2
 | tup a e r=>
  subst e;obtain ⟨a',xs,e,hq,rr⟩:=r.dR;cases e;obtain ⟨v,h1,h2⟩:=rr.get hi;refine ⟨⟨xs,v,.of hq,h1⟩,fun x H' ⟨e,hy⟩=>?_⟩;subst e;refine ⟨bZ.refl _,?_⟩;have:=hy xs (.of hq);rw [h1] at this;cases this;exact h2
 | rng lo n e r=>
  subst e r;have hlt:i<n:=by
   have:=(List.getElem?_eq_some_iff.mp hi).1;simpa using this
  refine ⟨hlt,fun x H' ⟨e,hy⟩=>?_⟩;subst e;have e2:D.int (lo+(i:Int))=d:=by simpa [hlt] using hi
  rw [hy,<-e2];exact ⟨bZ.refl _,.int _⟩
 | chs z e r=>
  subst e r;have hlt:i<z.cps.size:=by
   have:=(List.getElem?_eq_some_iff.mp hi).1;simpa [uJ] using this
  refine ⟨hlt,fun x H' ⟨e,c,hc,hv⟩=>?_⟩;subst e hv;refine ⟨bZ.refl _,?_⟩;have e2:D.str ⟨#[c]⟩=d:=by
   unfold uJ at hi;rw [List.getElem?_map,Array.getElem?_toList,hc] at hi;simpa using hi
  rw [<-e2];exact .str _
 | enm a ds e r h=>
  subst e h;obtain ⟨a',xs,e,hq,rr⟩:=r.fV (K:=K);cases e;rw [QW] at hi;cases hd:ds[i]? with
  | none=>rw [hd] at hi;cases hi
  | some y=>
   rw [hd] at hi;cases hi;obtain ⟨v,h1,h2⟩:=rr.get hd;refine ⟨⟨xs,v,hq,h1⟩,fun x H' ⟨t,u,hy,e1,e2,e3⟩=>?_⟩;subst e1 e3;have:=hy xs hq;rw [h1] at this;cases this;have sp:bZ H (upd H t (.tup [.int i,v])):=bZ.upd e2;exact ⟨sp,.tup aL (.cons (.int _) (.cons (h2.same sp) .nil))⟩
 | enf m a ds e r h=>
  subst e h;obtain ⟨a',xs,e,hq,rr⟩:=r.fV (K:=K);cases e;rw [QV] at hi;obtain ⟨y,hd,rfl⟩:=Option.map_eq_some_iff.mp hi;obtain ⟨v,h1,h2⟩:=rr.get hd;refine ⟨⟨xs,v,hq,h1⟩,fun x H' ⟨t,u,hy,e1,e2,e3⟩=>?_⟩;subst e1 e3;have:=hy xs hq;rw [h1] at this;cases this;have sp:bZ H (upd H t (.tup [.int ((m+i:Nat):Int),v])):=bZ.upd e2;exact ⟨sp,.tup aL (.cons (.int _) (.cons (h2.same sp) .nil))⟩
 | zip a b ds es e r q n h=>
  subst e h;obtain ⟨a',xs,e,hq,rr⟩:=r.dR;cases e;obtain ⟨b',ys,e,hq2,rr2⟩:=q.dR;cases e;unfold aC3 at hi;rw [List.getElem?_map] at hi;obtain ⟨⟨x,y⟩,hd,rfl⟩:=Option.map_eq_some_iff.mp hi;rw [List.getElem?_zip_eq_some] at hd;obtain ⟨v,h1,h2⟩:=rr.get hd.1;obtain ⟨v',h3,h4⟩:=rr2.get hd.2;refine ⟨⟨xs,ys,v,v',hq,hq2,h1,h3⟩,fun x H' ⟨t,u,u',hy,hy',e1,e2,e3⟩=>?_⟩;subst e1 e3;have z:=hy xs hq;rw [h1] at z;cases z;have z:=hy' ys hq2;rw [h3] at z;cases z;have sp:bZ H (upd H t (.tup [v,v'])):=bZ.upd e2;exact ⟨sp,.tup aL (.cons (h2.same sp) (.cons (h4.same sp) .nil))⟩
 | scr a hK e r=>
  subst e;cases r with
  | @frz _ xs _ ee rr=>
   obtain ⟨v,h1,h2⟩:=rr.get hi;refine ⟨⟨xs,v,ee.sq hK,h1⟩,fun x H' ⟨e,hy⟩=>?_⟩;subst e;refine ⟨bZ.refl _,?_⟩;have:=hy xs (ee.sq hK);rw [h1] at this;cases this;exact h2
noncomputable def gI (K:PySem.W.Frag) (f:FI):TI:=fun σ H R=>∃ρ items k,ER H σ ρ/\f ρ=.ok (items,k)/\∀J H1,bZ H H1->ItQ K All J H1 items->(k=true->ItQ K (New H) J H1 items)->R J H1
noncomputable def gIV (K:PySem.W.Frag) (i:Nat):TI:=fun σ H R=>∃v d items,σ[i]?=some (some v)/\Rep All H v d/\oJ d=.ok items/\∀J,(∀P:Addr->Prop,Rep P H v d->ItQ K P J H items)->R J H
section
variable {X:Cx} {tg l a b:Expr} {fl fa:FE} {rl ra rr:Bool} {fs:FA} {p pos:Pos}
theorem y_ {pins:List (Addr×Obj)} {s1:Shared} {σ:L2.St} {H1:Hp} {R:It->Hp->Prop} {v:V} {u:Value} {d:D} {items:List D} (I1:Inv X pins σ H1 s1) (r:Rep All H1 v d) (ru:RelV v u) (hi:oJ d=.ok items)
  (q:∀J,(∀P:Addr->Prop,Rep P H1 v d->ItQ X.K P J H1 items)->R J H1):wpAny (model X.prog X.w) X.A (pyIter u) (PIE X pins σ tg R) X.xe s1:=by
 cases d <;> simp only [oJ] at hi <;> cases hi
 ·obtain ⟨a,xs,rfl,e,rr⟩:=r.dR;cases ru;obtain ⟨its,rv,p,hz⟩:=I1.tuple (.of e);refine wpAny_pyIter_tuple (show s1.heap.IsTuple a its.toArray from p) ?_;refine ⟨s1.heap.objs.size,[s1.heap.objs.size],_,_,H1,rfl,I1.kept (t':=s1.toks) fun b o e=>Heap.get?_push_of_some _ e,z7 a _,⟨_,Heap.get?_push_size _ rfl,rfl,rfl⟩,fun b hb=>?_,q _ fun P r=>.tup a rfl r⟩;have e:b=s1.heap.objs.size:=by simpa using hb
  subst e;exact I1.YK (Nat.le_refl _) (I1.hok.fresh (Nat.le_refl _))
 ·obtain ⟨a,xs,rfl,e,rr⟩:=r.fV (K:=X.K);cases ru;obtain ⟨its,rv,p,hz⟩:=I1.list e;refine wpAny_pyIter_list p.isList ?_;refine ⟨s1.heap.objs.size,[s1.heap.objs.size],_,_,H1,rfl,I1.kept (t':=s1.toks) fun b o e=>Heap.get?_push_of_some _ e,nR a _,⟨_,Heap.get?_push_size _ rfl,rfl,rfl⟩,fun b hb=>?_,q _ fun P r=>.lst a rfl r⟩;have e:b=s1.heap.objs.size:=by simpa using hb
  subst e;exact I1.YK (Nat.le_refl _) (I1.hok.fresh (Nat.le_refl _))
theorem aAg {i:Nat} {x:Str} (hN:X.N[i]?=some x) (hv:Vis X.env.scope x) (hd:(x==("__debug__" : Str))=false:=by decide) (hcd:(x==("__classdict__" : Str))=false:=by decide):PI X tg (.Name x pos) (gIV X.K i):=by
 intro pins s σ H R I ⟨v,d,items,hσ,r,hi,q⟩;exact thn (eU hN hv hd hcd pins s σ H (fun w H1=>w=v/\H1=H) I ⟨v,hσ,rfl,rfl⟩) fun u s1 ⟨w,H1,I1,ru,e1,e2⟩=>by
  subst e1 e2;exact y_ I1 r ru hi q
theorem mF {i:Int} (h:fH i=true):-(2 ^ 62)<=i/\i<2 ^ 62:=by
 simp only [fH,Bool.and_eq_true,decide_eq_true_eq] at h;exact h
theorem PI.imp {w w':TI} (h:PI X tg l w) (i:∀σ H R,w' σ H R->w σ H R):PI X tg l w':=fun pins s σ H R I q=>h pins s σ H R I (i σ H R q)
theorem mG (hg:Gl X "range") (hm:X.mg "range" = none) (ha:PA X [a] (gA fs rr)) (hs:starEach [a] X.env=[(false,eval a X.env)]:=by rfl):PI X tg (.Call (.Name "range" p) [a] [] pos) (gI X.K (iK fs lW)):=
 PI.imp (G3 hg hm ha hs) fun σ H R ⟨ρ,items,k,E,h,q⟩=>by
  obtain ⟨xs,h1,h⟩:=aU h;unfold lW at h;split at h
  ·split at h
   ·rename_i hb;cases h;obtain ⟨b1,b2⟩:=mF hb;refine ⟨ρ,_,E,h1,fun vs H1 s1 r1 _=>?_⟩;cases r1 with
    | cons r t=>
     cases t;cases r;exact ⟨_,rfl,b1,b2,q _ H1 s1 (.rng 0 _ rfl rfl) fun _=>.rng 0 _ rfl rfl⟩
   ·cases h
  ·cases h
theorem WL (hg:Gl X "range") (hm:X.mg "range" = none) (ha:PA X [a,b] (gA fs rr)) (hs:starEach [a,b] X.env=[(false,eval a X.env),(false,eval b X.env)]:=by rfl) (hs2:starEach [b] X.env=[(false,eval b X.env)]:=by rfl):PI X tg (.Call (.Name "range" p) [a,b] [] pos) (gI X.K (iK fs BX)):=
 PI.imp (G4 hg hm ha hs hs2) fun σ H R ⟨ρ,items,k,E,h,q⟩=>by
  obtain ⟨xs,h1,h⟩:=aU h;unfold BX at h;split at h
  ·split at h
   ·rename_i hb;cases h;rw [Bool.and_eq_true] at hb;obtain ⟨b1,b2⟩:=mF hb.1;obtain ⟨b3,b4⟩:=mF hb.2;refine ⟨ρ,_,E,h1,fun vs H1 s1 r1 _=>?_⟩;cases r1 with
    | cons r t=>
     cases t with
     | cons r' t=>
      cases t;cases r;cases r';exact ⟨_,_,rfl,⟨b1,b2,b3,b4⟩,q _ H1 s1 (.rng _ _ rfl rfl) fun _=>.rng _ _ rfl rfl⟩
   ·cases h
  ·cases h
end
theorem QX (n:Nat) (ρ bs:List D) (i:Nat) (h:i<n):(yL n ρ++bs).getD i .uDf=ρ.getD i .uDf:=by
 rw [List.getD_eq_getElem?_getD,List.getElem?_append_left (by simp [yL];exact h)];simp [yL,h]
theorem zA (n:Nat) (ρ:List D):(yL n ρ).length=n:=by simp [yL]
noncomputable def TgC (g:TG) (t:D->Res (List D)) (n m:Nat):Prop:=∀(v:V) (d:D) (bs:List D) (σ:L2.St) (H:Hp) (Q:L2.St->Hp->Prop),σ.length=n->Rep All H v d->t d=.ok bs->
 (∀σ2,Ext (σ++List.replicate m none) σ2->(∀j b,bs[j]?=some b->∃w,σ2[n+j]?=some (some w)/\Rep All H w b)->Q σ2 H)->g v (σ++List.replicate m none) H Q
theorem ER.ext {H:Hp} {σ σ2:L2.St} {ρ bs:List D} {n m:Nat} (E:ER H σ ρ) (hn:σ.length=n) (x:Ext (σ++List.replicate m none) σ2) (hb:∀j b,bs[j]?=some b->∃w,σ2[n+j]?=some (some w)/\Rep All H w b):ER H σ2 (yL n ρ++bs):=by
 intro i hi;by_cases h:i<n
 ·rw [QX n ρ bs i h] at hi ⊢;obtain ⟨v,h1,h2⟩:=E i hi;exact ⟨v,x.2 i v (by rw [List.getElem?_append_left (by rw [hn];exact h)];exact h1),h2⟩
 ·have e:(yL n ρ++bs).getD i .uDf=bs.getD (i-n) .uDf:=by
   rw [List.getD_eq_getElem?_getD,List.getElem?_append_right (by rw [zA];lia),zA,<-List.getD_eq_getElem?_getD]
  rw [e] at hi ⊢;cases hq:bs[i-n]? with
  | none=>rw [List.getD_eq_getElem?_getD,hq] at hi;exact absurd rfl hi
  | some b=>
   obtain ⟨w,h1,h2⟩:=hb (i-n) b hq;rw [List.getD_eq_getElem?_getD,hq];exact ⟨w,by rw [<-h1];congr 1;lia,h2⟩
theorem oW {K:PySem.W.Frag} {it:FI} {t:D->Res (List D)} {c:FT} {f:FE} {k:Bool} {n m:Nat} {g:TG} {tc:TT} (tg:TgC g t n m) (hc:∀σ H Q,gT c σ H Q->tc σ H Q) {σ:L2.St} {H:Hp} {Q:VK} (hn:σ.length=n) (h:gE (fJ n it t c f k) true σ H Q) :
  JS (gI K it) g tc (gE f k) m σ H Q:=by
 obtain ⟨ρ,d,E,h,q⟩:=h;obtain ⟨⟨items,kk⟩,h1,h⟩:=aU h;split at h
 ·rename_i hlim;obtain ⟨ys,h2,h⟩:=aU h;cases h;refine ⟨ρ,items,kk,E,h1,fun J H1 s1 hJ _ p hp=>?_⟩;have hp0:H p=none:=s1.free hp;refine ⟨fun i n' vs H'=>n'=items.length-i/\i<=items.length/\H' p=some (.lst vs)/\bZ H1 H'/\∃acc,acc.length<=i/\a_ (fun a=>H a=none/\a≠p) H' vs acc/\m8 (lB n t c f k ρ) acc (items.drop i)=.ok ys,⟨items.length,?_⟩,?_⟩
  ·exact ⟨rfl,Nat.zero_le _,aL,bZ.upd hp,[],Nat.zero_le _,.nil,h2⟩
  ·rintro i n' vs H' ⟨rfl,hi,hH,sm,acc,hal,racc,hf⟩;refine ⟨hH,?_⟩;have hJ':ItQ K All J H' items:=hJ.keep (.same sm) fun _ z=>z
   rcases Nat.lt_or_ge i items.length with hlt|hge
   ·refine .inr ?_;have e:items[i]?=some items[i]:=List.getElem?_eq_getElem hlt;obtain ⟨g1,g2⟩:=hJ'.go e;have hl1:items.length<=lim:=of_decide_eq_true hlim;refine ⟨g1,?_,fun x H2 hy=>?_⟩
    ·rw [racc.length];exact Nat.lt_of_le_of_lt hal (Nat.lt_of_lt_of_le hlt (Nat.le_trans hl1 (by rw [sizeLine_eq];decide)))
    ·obtain ⟨sH,rx⟩:=g2 x H2 hy;have hH:=sH p _ hH;have sm:=sm.trans sH;have racc:=racc.same sH;rw [List.drop_eq_getElem_cons hlt] at hf;obtain ⟨acc2,hs,hf⟩:=aU hf;obtain ⟨bs,hb,hs⟩:=aU hs;obtain ⟨ok,hok,hs⟩:=aU hs;refine tg x items[i] bs σ H2 _ hn rx hb fun σ2 hx hbs=>⟨hx,hc _ _ _ ?_⟩
     have E2:ER H2 σ2 (yL n ρ++bs):=(E.same (s1.trans sm)).ext hn hx hbs;refine ⟨_,ok,E2,hok,fun H4 s4=>?_⟩;cases ok with
     | true=>
      rw [if_pos rfl];rw [if_pos rfl] at hs;obtain ⟨y,hy2,hs⟩:=aU hs;split at hs
      ·rename_i hk;cases hs;refine ⟨_,y,E2.same s4,hy2,fun w H5 s5 r5 n5=>⟨s5 p _ (s4 p _ hH),items.length-(i+1),by lia,rfl,hlt,aL,?_,acc++[y],?_,?_,hf⟩⟩
       ·exact fun b o e=>by
         rw [bI (cT e hp)];exact s5 b o (s4 b o (sm b o e))
       ·rw [List.length_append,List.length_singleton];lia
       ·have hp5:H5 p=some (.lst vs):=s5 p _ (s4 p _ hH);have ry:Rep (fun a=>H a=none/\a≠p) H5 w y:=by
         rw [Bool.or_eq_true] at hk;rcases hk with hk|hk
         ·exact (n5 hk).mono fun a ha=>⟨((s1.trans sm).trans s4).free ha,fun z=>by subst z;have h0:=s4 _ _ hH;rw [show H4 _=none from ha] at h0;cases h0⟩
         ·exact r5.bD hk
        have all:a_ (fun a=>H a=none/\a≠p) H5 (vs++[w]) (acc++[y]):=(racc.same (s4.trans s5)).snoc ry;refine all.keep (fun b o e hb=>?_) fun _ z=>z
        rw [bI]
        ·exact e
        ·rcases hb with hb|hb
         ·exact hb.2
         ·intro z;subst z;rw [hp5] at e;cases e;cases hb
      ·cases hs
     | false=>
      rw [if_neg (by simp)];rw [if_neg (by simp)] at hs;cases hs;exact ⟨items.length-(i+1),by lia,rfl,hlt,s4 p _ hH,sm.trans s4,acc,by lia,racc.same s4,hf⟩
   ·refine .inl ⟨hJ'.stop hge,?_⟩;rw [List.drop_eq_nil_of_le hge] at hf;cases hf;exact q _ _ (s1.trans sm) (.lst hH trivial racc.all) fun _=>.lst hH hp0 (racc.mono fun a z=>z.1)
 ·cases h
noncomputable def gIx:List Nat->TGs
 | []=>aDq
 | i::is=>ZG (pP i) (gIx is)
noncomputable def jC:List Nat->List V->L2.St->L2.St
 | i::is,v::vs,σ=>jC is vs (σ.set i (some v))
 | _,_,σ=>σ
theorem wO {H:Hp} {Q:L2.St->Hp->Prop}:∀(is:List Nat) (vs:List V) (σ:L2.St),vs.length=is.length->Q (jC is vs σ) H->gIx is vs σ H Q
 | [],[],σ,_,q=>⟨rfl,q⟩
 | i::is,v::vs,σ,h,q=>⟨v,vs,rfl,wO is vs (σ.set i (some v)) (by simpa using h) q⟩
 | [],_::_,_,h,_=>by simp at h
 | _::_,[],_,h,_=>by simp at h
theorem uK:∀(is:List Nat) (vs:List V) (σ:L2.St),(jC is vs σ).length=σ.length
 | [],_,_=>by simp [jC]
 | _::_,[],_=>by simp [jC]
 | i::is,v::vs,σ=>by rw [jC,uK is vs];simp
theorem oX:∀(is:List Nat) (vs:List V) (σ:L2.St) (k:Nat),k∉is->(jC is vs σ)[k]?=σ[k]?
 | [],_,_,_,_=>by simp [jC]
 | _::_,[],_,_,_=>by simp [jC]
 | i::is,v::vs,σ,k,h=>by
  rw [List.mem_cons,not_or] at h;rw [jC,oX is vs _ k h.2,List.getElem?_set_ne (Ne.symm h.1)]
theorem zB:∀(is:List Nat) (vs:List V) (σ:L2.St) (j i:Nat) (v:V),is.Nodup->(∀i∈is,i<σ.length)->is[j]?=some i->vs[j]?=some v->(jC is vs σ)[i]?=some (some v)
 | [],_,_,_,_,_,_,_,h,_=>by simp at h
 | _::_,[],_,_,_,_,_,_,_,h=>by simp at h
 | a::is,w::vs,σ,0,i,v,hn,hl,h1,h2=>by
  have e1:a=i:=by simpa using h1
  have e2:w=v:=by simpa using h2
  subst e1 e2;rw [jC,oX is vs _ a (List.nodup_cons.mp hn).1,List.getElem?_set_self (hl a (List.mem_cons_self ..))]
 | a::is,w::vs,σ,j+1,i,v,hn,hl,h1,h2=>by
  rw [jC];exact zB is vs _ j i v (List.nodup_cons.mp hn).2 (fun i hi=>by rw [List.length_set];exact hl i (List.mem_cons_of_mem _ hi)) (by simpa using h1) (by simpa using h2)
theorem rZ (n:Nat):TgC (pP n) yM n 1:=by
 intro v d bs σ H Q hn r h q;cases h;have hl:(σ++List.replicate 1 (none:Option V)).length=n+1:=by simp [hn]
 refine q _ ⟨by simp,fun i w hi=>?_⟩ fun j b hj=>?_
 ·have:i≠n:=fun z=>by
   subst z;rw [List.getElem?_append_right (by lia)] at hi;simp [hn] at hi
  rw [List.getElem?_set_ne (Ne.symm this)];exact hi
 ·have e:j=0:=by
   have:=(List.getElem?_eq_some_iff.mp hj).1;simp at this;exact this
  subst e;have e:d=b:=by simpa using hj
  subst e;exact ⟨v,by rw [Nat.add_zero,List.getElem?_set_self (by lia)],r⟩
theorem wQ (K:PySem.W.Frag) (n m:Nat):TgC (aCi K m (gIx (List.range' n m))) (JF m) n m:=by
 intro v d bs σ H Q hn r h q;cases d <;> simp only [JF] at h <;> (try (cases h;done))
 split at h
 ·rename_i hm;cases h;have hm':=of_decide_eq_true hm;obtain ⟨a,xs,rfl,e,rr⟩:=r.dR;refine ⟨a,xs,rfl,.of e,by rw [rr.length];exact hm',wO _ _ _ (by rw [rr.length,hm'];simp) ?_⟩;refine q _ ⟨by rw [uK],fun i w hi=>?_⟩ fun j b hj=>?_
  ·rw [oX]
   ·exact hi
   ·intro hmem;have:=List.mem_range'_1.mp hmem;rw [List.getElem?_append_right (by lia)] at hi;rw [List.getElem?_replicate] at hi;split at hi <;> cases hi
  ·obtain ⟨w,h1,h2⟩:=rr.get hj;have hjm:j<m:=by rw [<-hm'];exact (List.getElem?_eq_some_iff.mp hj).1
   refine ⟨w,zB _ _ _ j (n+j) w (List.nodup_range' ..) (fun i hi=>?_) ?_ h1,h2⟩
   ·have:=List.mem_range'_1.mp hi;simp [hn];lia
   ·rw [List.getElem?_range' hjm];simp
 ·cases h
section
variable {X:Cx} {scope:Scope} {ownN:List Str} {elt iter tg c:Expr} {it:FI} {t:D->Res (List D)} {g:TG} {gc:FT} {fe:FE} {re:Bool} {pos:Pos}
theorem WM {n m:Nat} (S:dN X.N X.env.scope scope ownN) (hn:X.N.length=n) (hm:ownN.length=m) (hcalm:X.calm=true) (hi:PI X tg iter (gI X.K it)) (ht:TgC g t n m) (hg:∀X',dO X X' scope ownN->PG X' tg g) (he:∀X',dO X X' scope ownN->PE X' elt (gE fe re))
  (hs:∀x,foldedSetIterable iter X.env x=pure x):PE X (.ListComp elt [⟨tg,iter,[],0⟩] scope pos) (gE (fJ n it t fU fe re) true):=by
 intro pins s σ H Q I h;subst hm;exact QH S hcalm hi hg he hs pins s σ H Q I (oW ht (fun σ H Q h=>by obtain ⟨ρ,b,E,h,q⟩:=h;cases h;exact q H (bZ.refl H)) (I.len.trans hn) h)
theorem KC {n m:Nat} (S:dN X.N X.env.scope scope ownN) (hn:X.N.length=n) (hm:ownN.length=m) (hcalm:X.calm=true) (hi:PI X tg iter (gI X.K it)) (ht:TgC g t n m) (hg:∀X',dO X X' scope ownN->PG X' tg g) (hc:∀X',dO X X' scope ownN->PT X' c (gT gc)) (he:∀X',dO X X' scope ownN->PE X' elt (gE fe re))
  (hs:∀x,foldedSetIterable iter X.env x=pure x):PE X (.ListComp elt [⟨tg,iter,[c],0⟩] scope pos) (gE (fJ n it t gc fe re) true):=by
 intro pins s σ H Q I h;subst hm;exact JT S hcalm hi hg hc he hs pins s σ H Q I (oW ht (fun σ H Q h=>h) (I.len.trans hn) h)
end
end Mi
end
section
namespace Mi
open PySem L2 PySem.SeqAt PySem.Spec PyProof.Rows
variable [KFrag]
mutual
theorem Rep.dom {P:Addr->Prop} {H:Hp}:∀{v:V} {d:D},Rep P H v d->Rep (fun a=>P a/\H a≠none) H v d
 | _,_,.non=>.non
 | _,_,.bl b=>.bl b
 | _,_,.int i=>.int i
 | _,_,.str x=>.str x
 | _,_,.tup e r=>.tup e (a_.dom r)
 | _,_,.lst e p r=>.lst e ⟨p,by rw [e];simp⟩ (a_.dom r)
 | _,_,.cel e p r=>.cel e ⟨p,by rw [e];simp⟩ (a_.dom r)
 | _,_,.frz e r=>.frz e (a_.dom r)
 | _,_,.dK e p r n=>.dK e ⟨p,by rw [e];simp⟩ (lO.dom r) n
 | _,_,.dT e p r n=>.dT e ⟨p,by rw [e];simp⟩ (lC.dom r) n
 | _,_,.fdK e r n=>.fdK e (lO.dom r) n
 | _,_,.fdT e r n=>.fdT e (lC.dom r) n
theorem a_.dom {P:Addr->Prop} {H:Hp}:∀{v:List V} {d:List D},a_ P H v d->a_ (fun a=>P a/\H a≠none) H v d
 | _,_,.nil=>.nil
 | _,_,.cons r t=>.cons (Rep.dom r) (a_.dom t)
theorem lO.dom {P:Addr->Prop} {H:Hp}:∀{v:List (Key×V)} {d:List (D×D)},lO P H v d->lO (fun a=>P a/\H a≠none) H v d
 | _,_,.nil=>.nil
 | _,_,.cons r t=>.cons (Rep.dom r) (lO.dom t)
theorem lC.dom {P:Addr->Prop} {H:Hp}:∀{v:List (List Key×V)} {d:List (D×D)},lC P H v d->lC (fun a=>P a/\H a≠none) H v d
 | _,_,.nil=>.nil
 | _,_,.cons r t=>.cons (Rep.dom r) (lC.dom t)
end
theorem lO.bD {P P':Addr->Prop} {H:Hp}:∀{v:List (Key×V)} {d:List (D×D)},lO P H v d->D.aR (d.map (·.2))=true->lO P' H v d
 | _,_,.nil,_=>.nil
 | _,_,.cons r t,h=>by
  rw [List.map_cons,D.aR,Bool.and_eq_true] at h;exact .cons (r.bD h.1) (t.bD h.2)
theorem lC.bD {P P':Addr->Prop} {H:Hp}:∀{v:List (List Key×V)} {d:List (D×D)},lC P H v d->D.aR (d.map (·.2))=true->lC P' H v d
 | _,_,.nil,_=>.nil
 | _,_,.cons r t,h=>by
  rw [List.map_cons,D.aR,Bool.and_eq_true] at h;exact .cons (r.bD h.1) (t.bD h.2)
theorem Rep.j7 {P P':Addr->Prop} {H:Hp} {a:Addr} {d:D} (r:Rep P H (.ref a) d) (h:inner d=true) (hp:P' a):Rep P' H (.ref a) d:=by
 cases r with
 | tup e r=>cases h
 | lst e p r=>exact .lst e hp (r.bD h)
 | cel e p r=>exact .cel e hp (r.bD h)
 | frz e r=>cases h
 | dK e p r n=>exact .dK e hp (r.bD h) n
 | dT e p r n=>exact .dT e hp (r.bD h) n
 | fdK e r n=>cases h
 | fdT e r n=>cases h
noncomputable def Own (own:Nat->Bool) (σ:L2.St) (a:Addr):Prop:=∃i,own i=true/\σ[i]?=some (some (.ref a))
structure ES (own:Nat->Bool) (H:Hp) (σ:L2.St) (ρ:List D):Prop where
 len:σ.length=ρ.length
 at_:∀i,ρ.getD i .uDf≠.uDf->∃v,σ[i]?=some (some v)/\(own i=false->Rep (fun a=>¬Own own σ a) H v (ρ.getD i .uDf))
 own:∀i v,own i=true->σ[i]?=some (some v)->∃a o,v=.ref a/\Rep All H v (ρ.getD i .uDf)/\inner (ρ.getD i .uDf)=true/\H a=some o/\FW o=true/\∀j,own j=true->σ[j]?=some (some (.ref a))->j=i
variable {own:Nat->Bool}
theorem ES.er {H:Hp} {σ:L2.St} {ρ:List D} (e:ES own H σ ρ):ER H σ ρ:=fun i hi=>by
 obtain ⟨v,h1,h2⟩:=e.at_ i hi;cases ho:own i with
 | false=>exact ⟨v,h1,(h2 ho).all⟩
 | true=>
  obtain ⟨a,o,_,h3,_⟩:=e.own i v ho h1;exact ⟨v,h1,h3⟩
theorem ES.live {H:Hp} {σ:L2.St} {ρ:List D} (e:ES own H σ ρ) {a:Addr} (h:Own own σ a):∃o,H a=some o/\FW o=true:=by
 obtain ⟨i,hi,hs⟩:=h;obtain ⟨b,o,eb,_,_,h3,h4,_⟩:=e.own i _ hi hs;cases eb;exact ⟨o,h3,h4⟩
theorem ES.same {H H':Hp} {σ:L2.St} {ρ:List D} (e:ES own H σ ρ) (s:bZ H H'):ES own H' σ ρ:=by
 refine ⟨e.len,fun i hi=>?_,fun i v hi hv=>?_⟩
 ·obtain ⟨v,h1,h2⟩:=e.at_ i hi;exact ⟨v,h1,fun ho=>(h2 ho).same s⟩
 ·obtain ⟨a,o,h1,h2,h3,h4,h5,h6⟩:=e.own i v hi hv;exact ⟨a,o,h1,h2.same s,h3,s _ _ h4,h5,h6⟩
noncomputable def KU (own:Nat->Bool) (σ:L2.St) (H:Hp) (σ':L2.St) (H':Hp):Prop:=∀a o,H a=some o->¬Own own σ a->H' a=some o/\¬Own own σ' a
theorem KU.trans {σ σ1 σ2:L2.St} {H H1 H2:Hp} (a:KU own σ H σ1 H1) (b:KU own σ1 H1 σ2 H2):KU own σ H σ2 H2:=fun c o e n=>let ⟨e1,n1⟩:=a c o e n;b c o e1 n1
theorem KU.same {σ:L2.St} {H H':Hp} (s:bZ H H'):KU own σ H σ H':=fun a o e n=>⟨s a o e,n⟩
theorem KU.keep {σ σ':L2.St} {H H':Hp} {ρ:List D} (k:KU own σ H σ' H') (e:ES own H σ ρ):JQ (fun a=>¬Own own σ a) H H':=fun a o h hp=>by
 by_cases ho:Own own σ a
 ·obtain ⟨o',h1,h2⟩:=e.live ho;rw [h] at h1;cases h1;rcases hp with hp|hp
  ·exact absurd ho hp
  ·rw [h2] at hp;cases hp
 ·exact (k a o h ho).1
theorem KU.rep {σ σ':L2.St} {H H':Hp} {ρ:List D} (k:KU own σ H σ' H') (e:ES own H σ ρ) {v:V} {d:D} (r:Rep (fun a=>¬Own own σ a) H v d):Rep (fun a=>¬Own own σ' a) H' v d:=by
 refine r.dom.keep (P':=fun a=>¬Own own σ' a) (fun a o h hp=>?_) fun a ⟨h1,h2⟩=>?_
 ·refine k.keep e a o h (hp.imp (fun z=>z.1) id)
 ·cases q:H a with
  | none=>exact absurd q h2
  | some o=>exact (k a o q h1).2
noncomputable def kRt (own:Nat->Bool) (D:Ends) (σ:L2.St) (H:Hp) (d:Mi.D):Prop:=if own rtX=true then ∃d0 ρ',d=.tup (d0::ρ')/\∀v σ' H',KU own σ H σ' H'->ES own H' σ' ρ'->Rep (fun a=>(Own own σ a\/H a=none)/\∀i b xs,ρ'.getD i .uDf=.cel b xs->a≠b) H' v d0->D.rt v H'
  else ∀v H',(∀a o,H a=some o->¬Own own σ a->H' a=some o)->Rep (fun a=>Own own σ a\/H a=none) H' v d->D.rt v H'
theorem kRt.old {own:Nat->Bool} {D:Ends} {σ:L2.St} {H:Hp} {d:Mi.D} (h:kRt own D σ H d) (hx:own rtX=false):∀v H',(∀a o,H a=some o->¬Own own σ a->H' a=some o)->Rep (fun a=>Own own σ a\/H a=none) H' v d->D.rt v H':=by
 unfold kRt at h;rw [if_neg (by rw [hx];simp)] at h;exact h
theorem kRt.mk {own:Nat->Bool} {D:Ends} {σ:L2.St} {H:Hp} {d:Mi.D} (hx:own rtX=false) (h:∀v H',(∀a o,H a=some o->¬Own own σ a->H' a=some o)->Rep (fun a=>Own own σ a\/H a=none) H' v d->D.rt v H'):kRt own D σ H d:=by
 unfold kRt;rw [if_neg (by rw [hx];simp)];exact h
noncomputable def kS (own:Nat->Bool) (D:Ends) (σ:L2.St) (H:Hp):Fl->Prop
 | .nx ρ=>∀σ' H',KU own σ H σ' H'->ES own H' σ' ρ->D.nx σ' H'
 | .bk ρ=>∀σ' H',KU own σ H σ' H'->ES own H' σ' ρ->D.bk σ' H'
 | .ct ρ=>∀σ' H',KU own σ H σ' H'->ES own H' σ' ρ->D.ct σ' H'
 | .rt d=>kRt own D σ H d
theorem kS.step {D:Ends} {σ σ':L2.St} {H H':Hp} {fl:Fl} (k:KU own σ H σ' H') (h:kS own D σ H fl):kS own D σ' H' fl:=by
 cases fl with
 | nx ρ=>exact fun σ2 H2 k2 e=>h σ2 H2 (k.trans k2) e
 | bk ρ=>exact fun σ2 H2 k2 e=>h σ2 H2 (k.trans k2) e
 | ct ρ=>exact fun σ2 H2 k2 e=>h σ2 H2 (k.trans k2) e
 | rt d=>
  have old:∀a,(Own own σ' a\/H' a=none)->Own own σ a\/H a=none:=fun a ha=>by
   cases q:H a with
   | none=>exact .inr rfl
   | some o=>
    refine .inl (Classical.byContradiction fun n=>?_);obtain ⟨e1,n1⟩:=k a o q n;rcases ha with ha|ha
    ·exact n1 ha
    ·rw [e1] at ha;cases ha
  have h:kRt own D σ H d:=h;show kRt own D σ' H' d;unfold kRt at h ⊢;by_cases hx:own rtX=true
  ·rw [if_pos hx] at h ⊢;obtain ⟨d0,ρ',e,g⟩:=h;exact ⟨d0,ρ',e,fun v σ2 H2 k2 E2 r=>g v σ2 H2 (k.trans k2) E2 (r.mono fun a ha=>⟨old a ha.1,ha.2⟩)⟩
  ·rw [if_neg hx] at h ⊢;exact fun v H2 hk r=>h v H2 (fun a o e n=>let ⟨e1,n1⟩:=k a o e n;hk a o e1 n1) (r.mono fun a ha=>old a ha)
noncomputable def tS (own:Nat->Bool) (f:FS):TS:=fun D σ H=>∃ρ fl,ES own H σ ρ/\f ρ=.ok fl/\kS own D σ H fl
theorem PS.imp {X:Cx} {st:Stmt} {t t':TS} (h:PS X st t) (i:∀D σ H,t' D σ H->t D σ H):PS X st t':=fun pins s σ H D I q=>h pins s σ H D I (i D σ H q)
theorem PSs.imp {X:Cx} {st:List Stmt} {t t':TS} (h:PSs X st t) (i:∀D σ H,t' D σ H->t D σ H):PSs X st t':=fun pins s σ H D I q=>h pins s σ H D I (i D σ H q)
section
variable {X:Cx} {a b c e:Expr} {pos pos':Pos} {fa fb fc fe:FE} {ra rb rc re:Bool} {ga gb gc:FT} {f g:FS} {st:Stmt} {rest s1 s2:List Stmt}
theorem cP:PSs X [] (tS own pO):=PSs.imp UV fun D σ H ⟨ρ,fl,E,h,q⟩=>by
 cases h;exact q σ H (fun a o e n=>⟨e,n⟩) E
theorem WN {D:Ends} {σ:L2.St} {H:Hp} (h:tS own (bU f g) D σ H):aDp (tS own f) (tS own g) D σ H:=by
 obtain ⟨ρ,fl,E,h,q⟩:=h;obtain ⟨r,h1,h2⟩:=aU h;refine ⟨ρ,r,E,h1,?_⟩;cases r with
 | nx ρ'=>exact fun σ' H' k E'=>⟨ρ',fl,E',h2,q.step k⟩
 | bk ρ'=>cases h2;exact q
 | ct ρ'=>cases h2;exact q
 | rt d=>cases h2;exact q
theorem aF (h1:PS X st (tS own f)) (h2:PSs X rest (tS own g)):PSs X (st::rest) (tS own (bU f g)):=PSs.imp (O9 h1 h2) fun _ _ _=>WN
theorem aW (h1:PS X st (tS own f)):PSs X [st] (tS own f):=UW h1
theorem jT (hc:PT X c (gT gc)) (ha:PSs X s1 (tS own f)) (hb:PSs X s2 (tS own g)):PS X (.If c s1 s2 pos) (tS own (sIf gc f g)):=PS.imp (ZF hc ha hb) fun D σ H ⟨ρ,fl,E,h,q⟩=>by
 obtain ⟨k,h1,h2⟩:=aU h;refine ⟨ρ,k,E.er,h1,fun H' s=>?_⟩;cases k with
 | true=>rw [if_pos rfl];rw [if_pos rfl] at h2;exact ⟨ρ,fl,E.same s,h2,q.step (.same s)⟩
 | false=>rw [if_neg (by simp)];rw [if_neg (by simp)] at h2;exact ⟨ρ,fl,E.same s,h2,q.step (.same s)⟩
theorem cX (he:PE X e (gE fe re)) (hx:own rtX=false:=by rfl):PS X (.Return (some e) pos) (tS own (nA fe re)):=PS.imp (yD he) fun D σ H ⟨ρ,fl,E,h,q⟩=>by
 obtain ⟨d,h1,h2⟩:=aU h;split at h2
 ·rename_i hk;cases h2;refine ⟨ρ,d,E.er,h1,fun v H' s r n=>q.old hx v H' (fun a o e _=>s a o e) ?_⟩;rw [Bool.or_eq_true] at hk;rcases hk with hk|hk
  ·exact (n hk).mono fun a ha=>.inr ha
  ·exact r.bD hk
 ·cases h2
theorem WP {i:Nat} {x:Str} (ho:own i=true) (hN:X.N[i]?=some x) (hv:Vis X.env.scope x) (hd:(x==("__debug__" : Str))=false:=by decide) (hcd:(x==("__classdict__" : Str))=false:=by decide) (hx:own rtX=false:=by rfl):PS X (.Return (some (.Name x pos')) pos) (tS own (aA1 i)):=
 PS.imp (yD (eU hN hv hd hcd)) fun D σ H ⟨ρ,fl,E,h,q⟩=>by
 obtain ⟨d,h1,h2⟩:=aU h;cases h2;obtain ⟨v,hv,r,e⟩:=E.er.var h1;obtain ⟨a,o,rfl,r2,hin,_⟩:=E.own i v ho hv;rw [e] at hin;exact ⟨_,hv,q.old hx _ H (fun a o e _=>e) (r.j7 hin (.inl ⟨i,ho,hv⟩))⟩
theorem j8 {σ:L2.St} {i:Nat} {v:V} (ho:own i=false) (a:Addr):Own own (σ.set i (some v)) a↔Own own σ a:=by
 constructor
 ·rintro ⟨j,hj,e⟩;have:i≠j:=fun z=>by subst z;rw [ho] at hj;cases hj
  rw [List.getElem?_set_ne this] at e;exact ⟨j,hj,e⟩
 ·rintro ⟨j,hj,e⟩;have:i≠j:=fun z=>by subst z;rw [ho] at hj;cases hj
  exact ⟨j,hj,by rw [List.getElem?_set_ne this];exact e⟩
theorem cF {ρ:List D} {i j:Nat} {d:D}:(ρ.set i d).getD j .uDf=if i=j/\i<ρ.length then d else ρ.getD j .uDf:=by
 rw [List.getD_eq_getElem?_getD,List.getD_eq_getElem?_getD,List.getElem?_set];by_cases h:i=j
 ·subst h;by_cases h2:i<ρ.length
  ·simp [h2]
  ·simp [h2]
 ·simp [h]
theorem ES.set {H:Hp} {σ:L2.St} {ρ:List D} {i:Nat} {v:V} {d:D} (E:ES own H σ ρ) (ho:own i=false) (r:Rep (fun a=>¬Own own σ a) H v d):ES own H (σ.set i (some v)) (ρ.set i d):=by
 have hO:(fun a=>¬Own own (σ.set i (some v)) a)=fun a=>¬Own own σ a:=funext fun a=>by rw [j8 ho]
 refine ⟨by simp [E.len],fun j hj=>?_,fun j w hj hw=>?_⟩
 ·rw [cF] at hj ⊢;rw [hO];by_cases h:i=j/\i<ρ.length
  ·rw [if_pos h];obtain ⟨rfl,hl⟩:=h;exact ⟨v,by rw [List.getElem?_set_self (by rw [E.len];exact hl)],fun _=>r⟩
  ·rw [if_neg h] at hj ⊢;obtain ⟨w,h1,h2⟩:=E.at_ j hj;by_cases hij:i=j
   ·subst hij;have:i<σ.length:=(List.getElem?_eq_some_iff.mp h1).1;rw [E.len] at this;exact absurd ⟨rfl,this⟩ h
   ·exact ⟨w,by rw [List.getElem?_set_ne hij];exact h1,h2⟩
 ·have hij:i≠j:=fun z=>by subst z;rw [ho] at hj;cases hj
  rw [List.getElem?_set_ne hij] at hw;rw [cF,if_neg fun z=>hij z.1];obtain ⟨a,o,h1,h2,h3,h4,h5,h6⟩:=E.own j w hj hw;refine ⟨a,o,h1,h2,h3,h4,h5,fun k hk hs=>h6 k hk ?_⟩;have hik:i≠k:=fun z=>by subst z;rw [ho] at hk;cases hk
  rwa [List.getElem?_set_ne hik] at hs
theorem ES.aEt {H H':Hp} {σ:L2.St} {ρ:List D} {i:Nat} {a:Addr} {o:HO} {d:D} (E:ES own H σ ρ) (s:bZ H H') (ho:own i=true) (hn:H a=none) (r:Rep All H' (.ref a) d) (hin:inner d=true) (ha:H' a=some o) (hm:FW o=true) :
  ES own H' (σ.set i (some (.ref a))) (ρ.set i d)/\KU own σ H (σ.set i (some (.ref a))) H':=by
 have hO:∀b,H b≠none->¬Own own σ b->¬Own own (σ.set i (some (.ref a))) b:=fun b hb n ⟨j,hj,e⟩=>by
  by_cases hij:i=j
  ·subst hij;by_cases hl:i<σ.length
   ·rw [List.getElem?_set_self hl] at e;cases e;exact hb hn
   ·rw [List.getElem?_set,if_pos rfl,if_neg hl] at e;cases e
  ·rw [List.getElem?_set_ne hij] at e;exact n ⟨j,hj,e⟩
 refine ⟨⟨by simp [E.len],fun j hj=>?_,fun j w hj hw=>?_⟩,fun b ob e n=>⟨s b ob e,hO b (by rw [e];simp) n⟩⟩
 ·rw [cF] at hj ⊢;by_cases h:i=j/\i<ρ.length
  ·rw [if_pos h];obtain ⟨rfl,hl⟩:=h;exact ⟨.ref a,by rw [List.getElem?_set_self (by rw [E.len];exact hl)],fun z=>by rw [ho] at z;cases z⟩
  ·rw [if_neg h] at hj ⊢;obtain ⟨w,h1,h2⟩:=E.at_ j hj;by_cases hij:i=j
   ·subst hij;have:i<σ.length:=(List.getElem?_eq_some_iff.mp h1).1;rw [E.len] at this;exact absurd ⟨rfl,this⟩ h
   ·exact ⟨w,by rw [List.getElem?_set_ne hij];exact h1,fun hj=>((h2 hj).dom.same s).mono fun b ⟨n,hb⟩=>hO b hb n⟩
 ·by_cases hij:i=j
  ·subst hij;have hl:i<σ.length:=by
    have:=(List.getElem?_eq_some_iff.mp hw).1;simpa using this
   rw [List.getElem?_set_self hl] at hw;cases hw;rw [cF,if_pos ⟨rfl,by rw [<-E.len];exact hl⟩];refine ⟨a,o,rfl,r,hin,ha,hm,fun k hk hs=>?_⟩;by_cases hik:i=k
   ·exact hik.symm
   ·rw [List.getElem?_set_ne hik] at hs;obtain ⟨o',h1,_⟩:=E.live ⟨k,hk,hs⟩;rw [hn] at h1;cases h1
  ·rw [List.getElem?_set_ne hij] at hw;rw [cF,if_neg fun z=>hij z.1];obtain ⟨b,ob,h1,h2,h3,h4,h5,h6⟩:=E.own j w hj hw;refine ⟨b,ob,h1,h2.same s,h3,s _ _ h4,h5,fun k hk hs=>?_⟩;by_cases hik:i=k
   ·subst hik;by_cases hl:i<σ.length
    ·rw [List.getElem?_set_self hl] at hs;cases hs;rw [hn] at h4;cases h4
    ·rw [List.getElem?_set,if_pos rfl,if_neg hl] at hs;cases hs
   ·rw [List.getElem?_set_ne hik] at hs;exact h6 k hk hs
theorem S7 {P:Addr->Prop} {H:Hp} {v:V} {d:D} (r:Rep P H v d) (hin:inner d=true):∃a o,v=.ref a/\P a/\H a=some o/\FW o=true:=by
 cases r with
 | lst e p r=>exact ⟨_,_,rfl,p,e,rfl⟩
 | cel e p r=>exact ⟨_,_,rfl,p,e,rfl⟩
 | dK e p r n=>exact ⟨_,_,rfl,p,e,rfl⟩
 | dT e p r n=>exact ⟨_,_,rfl,p,e,rfl⟩
 | fdK e r n=>cases hin
 | fdT e r n=>cases hin
 | _=>cases hin
theorem KD {H H':Hp} {σ:L2.St} {ρ:List D} (E:ES own H σ ρ) {v:V} {d:D} (r:Rep (New H) H' v d):Rep (fun a=>¬Own own σ a) H' v d:=r.mono fun a ha ho=>by
 obtain ⟨o,h1,_⟩:=E.live ho;rw [show H a=none from ha] at h1;cases h1
theorem KH {o:Bool} {i:Nat} {D':Ends} {σ:L2.St} {H:Hp} (ho:own i=o) (h:tS own (dZ o i fe re) D' σ H):aBw (gE fe re) (pP i) D' σ H:=by
 obtain ⟨ρ,fl,E,h,q⟩:=h;obtain ⟨d,h1,h2⟩:=aU h;cases o with
 | true=>
  simp only [if_true] at h2;split at h2
  ·rename_i hk;cases h2;refine ⟨ρ,d,E.er,h1,fun v H' s r n=>?_⟩;rw [Bool.and_eq_true] at hk;obtain ⟨a,ob,rfl,hn,ha,hm⟩:=S7 (n hk.1) hk.2;obtain ⟨E2,k⟩:=E.aEt s ho hn r hk.2 ha hm;exact q _ H' k E2
  ·cases h2
 | false=>
  simp only [Bool.false_eq_true,if_false] at h2;split at h2
  ·rename_i hk;cases h2;refine ⟨ρ,d,E.er,h1,fun v H' s r n=>?_⟩;rw [Bool.or_eq_true] at hk;have r2:Rep (fun a=>¬Own own σ a) H' v d:=by
    rcases hk with hk|hk
    ·exact KD E (n hk)
    ·exact r.bD hk
   exact q _ H' (fun a ob e hn=>⟨s a ob e,by rw [j8 ho];exact hn⟩) ((E.same s).set ho r2)
  ·cases h2
theorem bW {i:Nat} {x:Str} {o:Bool} (ho:own i=o) (hN:X.N.Nodup) (hi:X.N[i]?=some x) (hx:Loc X.env.scope x) (he:PE X e (gE fe re)) (hs:swapsWith e (some (.Name x pos')) pos.line X.env=pure false:=by rfl) (hf:X.fn x=true\/X.env.scope.names.lookup x=some .local:=by first|exact .inl rfl|exact .inr rfl|assumption) :
  PS X (.Assign [.Name x pos'] e pos) (tS own (dZ o i fe re)):=PS.imp (GZ hN hi hx he hs hf) fun _ _ _=>KH ho
theorem ES.mut {H:Hp} {σ:L2.St} {ρ:List D} {i:Nat} {a:Addr} {o:HO} {d:D} (E:ES own H σ ρ) (ho:own i=true) (hi:σ[i]?=some (some (.ref a))) (hm:FW o=true) (r:Rep All (upd H a o) (.ref a) d) (hin:inner d=true) :
  ES own (upd H a o) σ (ρ.set i d)/\KU own σ H σ (upd H a o):=by
 have hOa:Own own σ a:=⟨i,ho,hi⟩
 obtain ⟨a',oa,ea,_,_,hHa,hma,huq⟩:=E.own i _ ho hi;cases ea;have k:KU own σ H σ (upd H a o):=fun b ob e n=>⟨by rw [bI (fun z=>by subst z;exact n hOa)];exact e,n⟩
 have hl:i<ρ.length:=by rw [<-E.len];exact (List.getElem?_eq_some_iff.mp hi).1
 refine ⟨⟨by simp [E.len],fun j hj=>?_,fun j w hj hw=>?_⟩,k⟩
 ·rw [cF] at hj ⊢;by_cases h:i=j/\i<ρ.length
  ·obtain ⟨rfl,_⟩:=h;exact ⟨_,hi,fun z=>by rw [ho] at z;cases z⟩
  ·rw [if_neg h] at hj ⊢;obtain ⟨w,h1,h2⟩:=E.at_ j hj;exact ⟨w,h1,fun hj=>k.rep E (h2 hj)⟩
 ·by_cases hij:i=j
  ·subst hij;rw [hi] at hw;cases hw;rw [cF,if_pos ⟨rfl,hl⟩];exact ⟨a,o,rfl,r,hin,aL,hm,huq⟩
  ·rw [cF,if_neg fun z=>hij z.1];obtain ⟨b,ob,h1,h2,h3,h4,h5,h6⟩:=E.own j w hj hw;subst h1;have hba:b≠a:=fun z=>by subst z;exact hij (h6 i ho hi)
   refine ⟨b,ob,rfl,?_,h3,by rw [bI hba];exact h4,h5,h6⟩;refine (h2.j7 (P':=fun c=>c=b) h3 rfl).keep (fun c oc hc hp=>?_) fun _ _=>trivial
   rw [bI]
   ·exact hc
   ·intro z;subst z;rcases hp with hp|hp
    ·exact hba hp.symm
    ·rw [hHa] at hc;cases hc;rw [hma] at hp;cases hp
theorem ES.ownAt {H:Hp} {σ:L2.St} {ρ:List D} {i:Nat} (E:ES own H σ ρ) (ho:own i=true) (hd:ρ.getD i .uDf≠.uDf):∃a o,σ[i]?=some (some (.ref a))/\Rep All H (.ref a) (ρ.getD i .uDf)/\inner (ρ.getD i .uDf)=true/\H a=some o/\FW o=true:=by
 obtain ⟨v,h1,_⟩:=E.at_ i hd;obtain ⟨a,o,rfl,h2,h3,h4,h5,_⟩:=E.own i v ho h1;exact ⟨a,o,h1,h2,h3,h4,h5⟩
theorem S8 {H:Hp} {a:Addr} {xs:List D} (r:Rep All H (.ref a) (.lst xs)):∃vs,H a=some (.lst vs)/\a_ All H vs xs:=by
 cases r with
 | lst e _ r=>exact ⟨_,e,r⟩
theorem a_.upd {H:Hp} {a:Addr} {vs:List V} {xs:List D} {o:HO} {ob:HO} (r:a_ All H vs xs) (hp:D.aR xs=true) (ha:H a=some ob) (hm:FW ob=true):a_ All (upd H a o) vs xs:=by
 refine (r.bD (P':=fun _=>False) hp).keep (fun c oc hc h=>?_) fun _ h=>h.elim
 rw [bI]
 ·exact hc
 ·intro z;subst z;rcases h with h|h
  ·exact h
  ·rw [ha] at hc;cases hc;rw [hm] at h;cases h
theorem oY {xs ys:List D}:D.aR (xs++ys)=(D.aR xs&&D.aR ys):=by
 induction xs with
 | nil=>simp [D.aR]
 | cons x xs ih=>rw [List.cons_append,D.aR,D.aR,ih,Bool.and_assoc]
theorem oZ {i:Nat} {x:Str} {p1 apos cpos:Pos} (ho:own i=true) (hN:X.N[i]?=some x) (hv:Vis X.env.scope x) (he:PE X e (gE fe re)) (hd:(x==("__debug__" : Str))=false:=by decide) (hcd:(x==("__classdict__" : Str))=false:=by decide)
  (hbase:attributeBase (.Name x p1) "append" X.env (eval (.Name x p1) X.env)=eval (.Name x p1) X.env:=by rfl)
  (hs1:starEach [e] X.env=(false,eval e X.env)::starEach [] X.env:=by rfl)
  (hfew:((backTo cpos (starEach [e] X.env)).all (fun x=>!x.1)&&(backToKw cpos (keywordEach [] X.env)).all (fun x=>x.1.isSome)
   && decide (([e]:List Expr).length+([]:List Keyword).length+(if ([]:List Keyword).isEmpty then 0 else 1)<30))=true:=by rfl)
  (hline:(apos.endLine==cpos.line)=true:=by rfl)
  (hs:swapsWith (.Call (.Attribute (.Name x p1) "append" apos) [e] [] cpos) none pos.line X.env=pure false:=by rfl) :
  PS X (.Expr (.Call (.Attribute (.Name x p1) "append" apos) [e] [] cpos) pos) (tS own (tR i fe)):=
 PS.imp (U0 (Z7 PySem.F.plainAttrs_list PySem.F.slot_list_append PySem.F.type_list_append kJ (eU hN hv hd hcd) (cJ he jV hs1) hbase hfew hline hs1 rfl) hs) fun D' σ H ⟨ρ,fl,E,h,q⟩=>by
 obtain ⟨d,h1,h2⟩:=aU h;split at h2
 ·rename_i xs hx;split at h2
  ·rename_i hk;cases h2;rw [Bool.and_eq_true] at hk;obtain ⟨a,o,hσ,r,hin,ha,hm⟩:=E.ownAt ho (by rw [hx];intro z;cases z);rw [hx] at r hin;obtain ⟨vs,hl,rr⟩:=S8 r;refine ⟨_,hσ,.inl ⟨rfl,vs,.of hl⟩,ρ,d,E.er,h1,fun v H' s rv _=>⟨a,vs,v,rfl,rfl,s _ _ hl,by rw [rr.length];exact SN hk.1,?_⟩⟩;have E':=E.same s;have hl':=s _ _ hl;obtain ⟨E2,k2⟩:=E'.mut (o:=.lst (vs++[v])) (d:=.lst (xs++[d])) ho hσ rfl (.lst aL trivial (((rr.same s).snoc rv).upd (by rw [oY];simp only [Bool.and_eq_true];exact ⟨hin,by simp [D.aR,hk.2]⟩) hl' rfl)) (by show D.aR (xs++[d])=true;rw [oY];simp only [Bool.and_eq_true];exact ⟨hin,by simp [D.aR,hk.2]⟩);exact q _ _ ((KU.same s).trans k2) E2
  ·cases h2
 ·cases h2
end
end Mi
end
section
namespace L2
open PySem PySem.Spec PyProof.Rows
section
variable {X:Cx} {scope:Scope} {own:List Str}
theorem zE {elt iter tg:Expr} {wi:TI} {g:TG} {te:TE} {pos:Pos} (S:dN X.N X.env.scope scope own) (hcalm:X.calm=true) (hi:PI X tg iter wi)
  (hg:∀X',dO X X' scope own->PG X' tg g) (he:∀X',dO X X' scope own->PE X' elt te)
  (hs:∀x,foldedSetIterable iter X.env x=pure x) {y:Str} {py pos2:Pos} {iy:Nat} (hNn:X.N.Nodup) (hiy:X.N[iy]?=some y) (hxy:Loc X.env.scope y) (hfy:X.fn y=true\/X.env.scope.names.lookup y=some .local) (hsw:swapsWith (.ListComp elt [⟨tg,iter,[],0⟩] scope pos) (some (.Name y py)) pos2.line X.env=pure true):PS X (.Assign [.Name y py] (.ListComp elt [⟨tg,iter,[],0⟩] scope pos) pos2) (aBw (JS wi g (fun _ H Q=>Q true H) te own.length) (pP iy)):=by
 intro pins s σ H D I h;rw [exec_Assign_Name_used _ _ _ _ hsw];have cells:∀y∈scope.names,y.2=.free->∃c,X.env.cells.lookup y.1=some c:=fun y hy hk=>I.ok.has y.1 (S.free y hy hk)
 refine wpAny_bind (wpAny_standAt (wpAny_bind ?_));show wpAny _ X.A (do let _ <- comprehension (.ListComp elt [⟨tg,iter,[],0⟩] scope pos) scope X.env _ (newList []) false (eval iter X.env) (some (assign (.Name y py) X.env))) _ _ s;refine wpAny_bind (wpAny_mono (wpAny_comprehension_free (use:=some (assign (.Name y py) X.env)) (Q:=fun _ s'=>SP X pins D .next s') rfl hs (lY cells) S.kind S.names (thn (hi pins s σ H _ I h) fun xv s1 h1=>thn h1 fun itv s2 h2=>?_)) (fun _ s' hq=>wpAny_pure (wpAny_pure hq)) fun _ _ e=>e);obtain ⟨it,fp,tn,J,H2,e,I2,T,st2,f2,hW⟩:=h2;subst e;have hD:H2 s2.heap.objs.size=none:=I2.hok.fresh (Nat.le_refl _);obtain ⟨W,⟨n0,w0⟩,turn⟩:=hW _ hD;have hfx:∀b∈fp,b<s2.heap.objs.size:=fun b hb=>by
  obtain ⟨o,ho,_⟩:=T.obj 0 _ st2 b hb;exact Heap.lt_size ho
 refine wpAny_newObj_type (wpAny_newFunctionEnv S.nocell (by intro y hy;simp at hy) (fun h₁ hns₁ hsb₁=>?_) S.kind);dsimp only at hns₁ hsb₁ ⊢;have hC:(s2.heap.push {cls:=.type "list",dict:=none,data:=.seq ([]:List Value).toArray}).objs.size=s2.heap.objs.size+1:=Heap.size_push ..;have hne:s2.heap.objs.size≠s2.heap.objs.size+1:=Nat.ne_of_lt (Nat.lt_succ_self _);rw [hC] at hns₁ hsb₁ ⊢;have old:∀b o,s2.heap.get? b=some o->h₁.get? b=some o:=fun b o e=>hsb₁.extBut b o (Nat.ne_of_lt (Nat.lt_succ_of_lt (Heap.lt_size e))) (Heap.get?_push_of_some _ (Heap.get?_push_of_some _ e))
 have hacc:h₁.get? s2.heap.objs.size=some {cls:=.type "list",data:=.seq #[]}:=hsb₁.extBut _ _ hne (Heap.get?_push_of_some _ (Heap.get?_push_size _ rfl));have I4:=Inv.comp (t1:=s2.toks+([]:List (Str×Value)).length) I2 S f2 hfx hns₁ old hacc;generalize hX':qJ X scope (clF X.env scope.names []) (s2.heap.objs.size+1) own s2 H2 fp=X' at I4;have cc:dO X X' scope own:=by rw [<-hX'];exact oO
 have eenv:X'.env=compEnvC scope (clF X.env scope.names []) (s2.heap.objs.size+1) X.env:=by rw [<-hX'];rfl
 have eA:X'.A=X.A:=cc.A;have ep:X'.prog=X.prog:=cc.prog;have ew:X'.w=X.w:=cc.w;have efs:X'.fs=frs X.stack:=by rw [<-hX'];rfl
 have eex:X'.ex=fp:=by rw [<-hX'];rfl
 have es0:X'.s₀=s2:=by rw [<-hX'];rfl
 have eH0:X'.H₀=H2:=by rw [<-hX'];rfl
 have epn:X'.pn=[]:=by rw [<-hX'];rfl
 have eK:X'.K=X.K:=cc.K;have exe:=cc.xe;have ecalm:X'.calm=true:=cc.calm.trans hcalm
 -- the iterator's records within the block
 have fpok:∀{H':Hp},(∀b∈fp,H' b=none)->∀b∈fp,O1 X' [] H' b:=fun {H'} hn b hb=>by
  obtain ⟨_,f1,f3,_,f5,_⟩:=f2 b hb;refine ⟨hn b hb,?_,?_,.inl (by rw [eex];exact hb),fun x c e=>?_,fun p hp=>by rw [epn] at hp;simp at hp⟩
  ·rw [eenv];exact Nat.ne_of_lt (Nat.lt_succ_of_lt (hfx b hb))
  ·rw [efs];intro z;rcases List.mem_cons.mp (I2.qC b z) with z|z
   ·exact f1 z
   ·exact f3 z
  ·rw [eenv] at e;exact f5 x c (oN cells (fun _ _ h=>by simp at h) e)
 have st4:tn 0 h₁:=T.keep _ _ _ st2 fun b _ o e=>old b o e
 have fr4:∀b∈fp,(upd H2 s2.heap.objs.size (.lst [])) b=none:=fun b hb=>by rw [bI (Nat.ne_of_lt (hfx b hb))];exact (f2 b hb).1
 have loop:∀s4:Shared,s4={s2 with heap:=h₁,toks:=s2.toks+([]:List (Str×Value)).length}->
   codeAny (model X.prog X.w) X.A (.compLoop (.ListComp elt [⟨tg,iter,[],0⟩] scope pos) 0 (.ref it) (.ref s2.heap.objs.size) X'.env)
    (compPost (model X.prog X.w) X.A X.xe (some (assign (.Name y py) X.env)) (fun _ s'=>SP X pins D .next s') (.ref s2.heap.objs.size) (s2.heap.objs.size+1)) s4:=by
  rintro s4 rfl;refine PySem.W.kcp_loop (fun n s'=>∃i ys H',Inv X' [] (σ++List.replicate own.length none) H' s'/\tn i s'.heap/\(∀b∈fp,H' b=none)/\W i n ys H') ?_ n0 ⟨0,[],_,I4,st4,fr4,w0⟩;rintro n s5 ⟨i,ys,H5,I5,st5,fr5,w5⟩;obtain ⟨hacc5,tr⟩:=turn i n ys H5 w5;rcases tr with ⟨stop,q⟩|⟨go,hlen,step⟩
  ·have done:=T.done X' ep ew eK ecalm i [] s5 _ H5 (notedBy (model X.prog X.w) X.A X'.env fun e s'=>compPost (model X.prog X.w) X.A X.xe (some (assign (.Name y py) X.env)) (fun _ s'=>SP X pins D .next s') (.ref s2.heap.objs.size) (s2.heap.objs.size+1) (.error e) s') I5 (fpok fr5) st5 stop;rw [eA] at done;refine thn done fun r s6 ⟨hr,I6⟩=>?_
   subst hr;obtain ⟨m6,hn6,_⟩:=id I6.loc;rw [eenv] at hn6;have u6:Un (frs X.stack) fp H2 H5 s2.heap s6.heap:=by
    have:=I6.base;rw [efs,eex,eH0,es0] at this;exact this
   have hCn:H5 (s2.heap.objs.size+1)=none:=by
    have:=I6.free;rw [eenv] at this;exact this
   have hok6:HOk X.prog X.w H5 s6.heap:=by
    have:=I6.hok;rw [ep,ew] at this;exact this
   have hos:s6.os=s2.os:=by have:=I6.os;rw [es0] at this;exact this
   obtain ⟨hh,gg,dd,tt,oo⟩:=s6;obtain rfl:oo=s2.os:=hos;have fin:=Inv.call (h':=hh) (g':=gg) (d':=dd) (t':=tt) (ch:=fp) I2 u6 hok6 I6.bare fun b hb=>⟨(f2 b hb).2.2.2.1,(f2 b hb).2.1,(f2 b hb).2.2.2.2.1,(f2 b hb).2.2.2.2.2⟩
   obtain ⟨oC,esC,epC,hoC,hdC,_⟩:=id hn6;have neL:s2.heap.objs.size+1≠X.env.locals:=Nat.ne_of_gt (Nat.lt_succ_of_lt I2.lt);have finP:=fin.vX (pins':=pins++[(s2.heap.objs.size+1,oC)]) fun p hp=>(List.mem_append.mp hp).elim (fun z=>fin.pin p (List.mem_append_right _ z)) fun z=>by
    have z':p=(s2.heap.objs.size+1,oC):=by simpa using z
    subst z';exact ⟨hoC,hCn,neL,I2.aDn (Nat.le_succ _),fun v z=>by rw [hdC] at z;cases z⟩
   have hpg:=bR (pos:=py) hNn hiy hxy hfy _ _ σ H5 (.ref s2.heap.objs.size) (.ref s2.heap.objs.size) D.nx finP rfl q;refine thn hpg fun _ s7 ⟨σ7,H7,I7,q7⟩=>?_
   obtain ⟨g7,hC7,_⟩:=I7.pin (s2.heap.objs.size+1,oC) (List.mem_append_right _ (List.mem_append_right _ (by simp)));refine ⟨m6,hn6.at' fun o e=>?_,fun h' sb=>⟨σ7,H7,?_,q7⟩⟩
   ·rw [hoC] at e;cases e;exact g7
   ·refine Inv.turned (t':=s7.toks) I7.gW (fun b o hb e=>sb.extBut b o hb e) hC7 neL (.inr (Nat.le_trans I2.sz (Nat.le_succ _))) (fun x c e z=>?_) fun p hp z=>?_
    ·obtain ⟨v,qq⟩:=I2.cell x c e;exact absurd (Nat.lt_succ_of_lt qq.lt) (by rw [z];exact Nat.lt_irrefl _)
    ·exact absurd (Nat.lt_succ_of_lt (Heap.lt_size (I2.pin p hp).1)) (by rw [z];exact Nat.lt_irrefl _)
  ·have item:=T.item X' ep ew eK ecalm i [] s5 _ H5 (notedBy (model X.prog X.w) X.A X'.env fun e s'=>compPost (model X.prog X.w) X.A X.xe (some (assign (.Name y py) X.env)) (fun _ s'=>SP X pins D .next s') (.ref s2.heap.objs.size) (s2.heap.objs.size+1) (.error e) s') I5 (fpok fr5) st5 go;rw [eA] at item;refine thn item fun r s6 ⟨u,hr,h6⟩=>?_
   subst hr;refine thn h6 fun _ s7 ⟨x,H7,I7,r7,y7,st7,fr7⟩=>?_
   have I7':=I7.pinned (fpok fr7) (T.obj _ _ st7);have hg':=hg X' cc _ s7 _ H7 x u _ I7' r7 (step x H7 y7);rw [ep,ew,eA,exe] at hg';refine wpAny_mono hg' (fun _ s8 ⟨σ8,H8,I8,ext8,q8⟩=>?_) fun _ _ z=>False.elim z
   have back:∀{ys':List V} {H9:Hp} {s9:Shared} {σ9:St},Ext (σ++List.replicate own.length none) σ9->Inv X' ([]++nT fp s7.heap) σ9 H9 s9->(∃n',n'<n/\W (i+1) n' ys' H9)->∃m,m<n/\∃i ys H',Inv X' [] (σ++List.replicate own.length none) H' s9/\tn i s9.heap/\(∀b∈fp,H' b=none)/\W i m ys H':=by
    rintro ys' H9 s9 σ9 ex9 I9 ⟨n',hn',w9⟩;refine ⟨n',hn',i+1,ys',H9,(I9.weak ex9.1.symm ex9.2).gW,T.keep _ _ _ st7 fun b hb o e=>(I9.pin (b,o) (List.mem_append_right _ (List.mem_append_right _ (dC hb e)))).1,fun b hb=>?_,w9⟩;obtain ⟨o,e,d⟩:=T.obj _ _ st7 b hb;exact (I9.pin (b,o) (List.mem_append_right _ (List.mem_append_right _ (dC hb e)))).2.1
   simp only [if_true] at q8;have he':=he X' cc _ s8 _ H8 _ I8 q8;rw [ep,ew,eA,exe] at he';refine wpAny_mono he' (fun yv s10 ⟨y,H10,I10,r10,p10,q10⟩=>?_) fun _ _ z=>False.elim z
   have hm:=kJ (X:=X') _ s10 σ8 H10 (.ref s2.heap.objs.size) [y] (.ref s2.heap.objs.size) [yv] (fun _ H11=>∃n',n'<n/\W (i+1) n' (ys++[y]) H11) I10 rfl (.cons r10 .nil) ⟨s2.heap.objs.size,ys,y,rfl,rfl,p10,hlen,q10⟩;rw [ep,ew,eA,exe] at hm;exact wpAny_mono hm (fun _ s11 ⟨_,H11,I11,_,q11⟩=>back ext8 I11 q11) fun _ _ z=>False.elim z
 have l4:=loop _ rfl;rw [eenv] at l4;exact codeAny_compStart_list l4 (T.self X.A 0 _ _ _ st4 l4)
end
end L2
end
section
namespace Mi
open PySem L2 PySem.SeqAt PySem.Spec PyProof.Rows
variable [KFrag]
variable {own:Nat->Bool}
section
variable {X:Cx} {a b c e:Expr} {pos pos':Pos} {fa fb fc fe:FE} {ra rb rc re:Bool} {ga gb gc:FT} {f g:FS} {st:Stmt} {rest s1 s2:List Stmt}
variable {scope:Scope} {ownN:List Str} {elt iter tg:Expr} {it:FI} {t:D->Res (List D)} {gt:TG}
theorem WQ {n m:Nat} {y:Str} {py pos2:Pos} {iy:Nat} {o:Bool} (S:dN X.N X.env.scope scope ownN) (hn:X.N.length=n) (hm:ownN.length=m) (hcalm:X.calm=true) (hi:PI X tg iter (gI X.K it)) (ht:TgC gt t n m) (hg:∀X',dO X X' scope ownN->PG X' tg gt) (he:∀X',dO X X' scope ownN->PE X' elt (gE fe re))
  (hs:∀x,foldedSetIterable iter X.env x=pure x) (ho:own iy=o) (hNn:X.N.Nodup) (hiy:X.N[iy]?=some y) (hxy:Loc X.env.scope y) (hfy:X.fn y=true\/X.env.scope.names.lookup y=some .local) (hsw:swapsWith (.ListComp elt [⟨tg,iter,[],0⟩] scope pos) (some (.Name y py)) pos2.line X.env=pure true) :
  PS X (.Assign [.Name y py] (.ListComp elt [⟨tg,iter,[],0⟩] scope pos) pos2) (tS own (dZ o iy (fJ n it t fU fe re) true)):=by
 intro pins s σ H D I h;subst hm;refine zE S hcalm hi hg he hs hNn hiy hxy hfy hsw pins s σ H D I ?_;exact oW ht (fun σ H Q h=>by obtain ⟨ρ,b,E,h,q⟩:=h;cases h;exact q H (bZ.refl H)) (I.len.trans hn) (KH ho h)
theorem zF {κ:Type} [DecidableEq κ] {p:κ×V} {r:List (κ×V)} {k:κ} {v:V} (e:p.1=k) (h:k∉r.map (·.1)):putK (p::r) k v=(k,v)::r:=by
 unfold putK;rw [if_pos (by simp [e]),List.map_cons,if_pos e,e]
 congr 1
 have:∀q∈r,(fun kv:κ×V=>if kv.1=k then (kv.1,v) else kv) q=id q:=fun q hq=>by
  have:q.1≠k:=fun z=>h (List.mem_map.mpr ⟨q,hq,z⟩)
  simp [this]
 rw [List.map_congr_left this,List.map_id]
theorem zG {κ:Type} [DecidableEq κ] {p:κ×V} {r:List (κ×V)} {k:κ} {v:V} (e:¬p.1=k):putK (p::r) k v=p::putK r k v:=by
 unfold putK;rw [List.any_cons,decide_eq_false e,Bool.false_or];split
 ·rw [List.map_cons,if_neg e]
 ·rfl
theorem jD {κ:Type} [DecidableEq κ] {k:κ} {v:V}:∀{kvs:List (κ×V)},(kvs.map (·.1)).Nodup->((putK kvs k v).map (·.1)).Nodup:=fun {kvs} h=>by
 by_cases hk:qH kvs k=none
 ·exact VH v h hk
 ·unfold putK;rw [if_pos (by rw [kY];exact Option.isSome_iff_ne_none.mpr hk),List.map_map];have:(fun x:κ×V=>x.1) ∘ (fun kv:κ×V=>if kv.1=k then (kv.1,v) else kv)=fun x=>x.1:=by
   funext q
   simp only [Function.comp];split <;> rfl
  rw [this];exact h
theorem nG {P:Addr->Prop} {H:Hp} {k:Key} {v:V} {d:D} (rv:Rep P H v d):∀{kvs:List (Key×V)} {ds:List (D×D)},lO P H kvs ds->(kvs.map (·.1)).Nodup->lO P H (putK kvs k v) (putD ds (kD k) d)
 | _,_,.nil,_=>.cons rv .nil
 | _,_,.cons (k:=k') (v:=v') (r:=rs) r t,hn=>by
  rw [List.map_cons] at hn;obtain ⟨h1,h2⟩:=List.nodup_cons.mp hn;rw [putD,QR];by_cases h:k'=k
  ·subst h;rw [if_pos (by simp),zF rfl h1];exact .cons rv t
  ·rw [if_neg (by simpa using h),zG (p:=(k',v')) h];exact .cons r (nG rv t h2)
theorem sE {P:Addr->Prop} {H:Hp} {k:List Key} {v:V} {d:D} (rv:Rep P H v d):∀{kvs:List (List Key×V)} {ds:List (D×D)},lC P H kvs ds->(kvs.map (·.1)).Nodup->lC P H (putK kvs k v) (putD ds (.tup (k.map kD)) d)
 | _,_,.nil,_=>.cons rv .nil
 | _,_,.cons (k:=k') (v:=v') (r:=rs) r t,hn=>by
  rw [List.map_cons] at hn;obtain ⟨h1,h2⟩:=List.nodup_cons.mp hn;rw [putD,V9];by_cases h:k'=k
  ·subst h;rw [if_pos (by simp),zF rfl h1];exact .cons rv t
  ·rw [if_neg (by simpa using h),zG (p:=(k',v')) h];exact .cons r (sE rv t h2)
theorem lO.length {P:Addr->Prop} {H:Hp}:∀{kvs:List (Key×V)} {ds:List (D×D)},lO P H kvs ds->kvs.length=ds.length
 | _,_,.nil=>rfl
 | _,_,.cons _ t=>by rw [List.length_cons,List.length_cons,lO.length t]
theorem lC.length {P:Addr->Prop} {H:Hp}:∀{kvs:List (List Key×V)} {ds:List (D×D)},lC P H kvs ds->kvs.length=ds.length
 | _,_,.nil=>rfl
 | _,_,.cons _ t=>by rw [List.length_cons,List.length_cons,lC.length t]
theorem o6 {H:Hp} {a:Addr} {o ob:HO} (ha:H a=some ob) (hm:FW ob=true):JQ (fun _=>False) H (L2.upd H a o):=fun c oc hc h=>by
 rw [bI]
 ·exact hc
 ·intro z;subst z;rcases h with h|h
  ·exact h.elim
  ·rw [ha] at hc;cases hc;rw [hm] at h;cases h
theorem qO {d:D} {k:D} (hd:d.pure=true):∀{ds:List (D×D)},D.aR (ds.map (·.2))=true->D.aR ((putD ds k d).map (·.2))=true
 | [],_=>by simp [putD,D.aR,hd]
 | (q,w)::r,h=>by
  rw [List.map_cons,D.aR,Bool.and_eq_true] at h;rw [putD];split
  ·rw [List.map_cons,D.aR,Bool.and_eq_true];exact ⟨hd,h.2⟩
  ·rw [List.map_cons,D.aR,Bool.and_eq_true];exact ⟨h.1,qO hd h.2⟩
theorem aD4 {pins:List (Addr×Obj)} {s:Shared} {σ:L2.St} {H:Hp} {ad:Addr} {y v:V} {ds:List (D×D)} {k d:D} (I:Inv X pins σ H s) (rd:Rep All H (.ref ad) (.dct ds)) (hin:D.aR (ds.map (·.2))=true) (rk:Rep All H y k) (hk:FQ ds k=true) (hl:ds.length<sizeLine) (rv:Rep All H v d) (hd:d.pure=true) :
  ∃H1 o,Inv X pins σ H1 s/\R4 H1 ad y v (L2.upd H ad o)/\FW o=true/\Rep All (L2.upd H ad o) (.ref ad) (.dct (putD ds k d)):=by
 unfold FQ at hk;rw [Bool.and_eq_true] at hk;obtain ⟨h1,h2⟩:=hk;have rv':Rep (fun _=>False) H v d:=rv.bD hd;cases rd with
 | @dK _ kvs ds e _ r n=>
  have hlen:=r.length;rcases gM h1 rk with ⟨q,rfl,rfl⟩|⟨b,ks,rfl,eb,rfl⟩
  ·refine ⟨H,.dK (putK kvs q v),I,.k e (by lia),rfl,.dK aL trivial ?_ (jD n)⟩;exact (nG rv' (r.bD hin) n).keep (o6 e rfl) fun _ z=>z.elim
  ·cases r with
   | nil=>
    refine ⟨L2.upd H ad (.dT []),.dT (putK [] ks v),l_ I e,?_,rfl,.dT aL trivial ?_ (jD List.nodup_nil)⟩
    ·have:=R4.t (H:=L2.upd H ad (.dT [])) (a:=ad) (b:=b) (kvs:=[]) (k:=ks) (v:=v) aL (by rw [bI (UG eb e (by intro z;cases z))];exact eb) hl;rwa [vW] at this
    ·exact (sE (k:=ks) rv' .nil List.nodup_nil).keep (o6 e rfl) fun _ z=>z.elim
   | cons r t=>
    rw [List.all_cons,iB] at h2;simp [isTup] at h2
 | @dT _ kvs ds e _ r n=>
  have hlen:=r.length;rcases gM h1 rk with ⟨q,rfl,rfl⟩|⟨b,ks,rfl,eb,rfl⟩
  ·cases r with
   | nil=>
    refine ⟨L2.upd H ad (.dK []),.dK (putK [] q v),mC I e,?_,rfl,.dK aL trivial ?_ (jD List.nodup_nil)⟩
    ·have:=R4.k (H:=L2.upd H ad (.dK [])) (a:=ad) (kvs:=[]) (k:=q) (v:=v) aL hl;rwa [vW] at this
    ·exact (nG (k:=q) rv' .nil List.nodup_nil).keep (o6 e rfl) fun _ z=>z.elim
   | cons r t=>
    rw [List.all_cons,iB] at h2;simp [isTup] at h2
  ·refine ⟨H,.dT (putK kvs ks v),I,.t e eb (by lia),rfl,.dT aL trivial ?_ (jD n)⟩;exact (sE rv' (r.bD hin) n).keep (o6 e rfl) fun _ z=>z.elim
theorem aAh {i:Nat} {x:Str} {p1:Pos} {value k:Expr} {fv fk:FE} {rv rk:Bool} (hu:X.A.units+20<cLine) (ho:own i=true) (hN:X.N[i]?=some x) (hvi:Vis X.env.scope x) (hk:PE X k (gE fk rk)) (hv:PE X value (gE fv rv))
  (hs:swapsWith value (some (.Subscript (.Name x p1) k pos')) pos.line X.env=pure false:=by rfl) (hd:(x==("__debug__" : Str))=false:=by decide) (hcd:(x==("__classdict__" : Str))=false:=by decide) :
  PS X (.Assign [.Subscript (.Name x p1) k pos'] value pos) (tS own (aC2 i fk fv)):=by
 intro pins s σ H D' I ⟨ρ,fl,E,h,q⟩;obtain ⟨d,h0,h⟩:=aU h;obtain ⟨kd,h1,h2⟩:=aU h;split at h2
 ·rename_i kvs hx;split at h2
  ·rename_i hg;cases h2;simp only [Bool.and_eq_true] at hg;obtain ⟨⟨hg1,hg2⟩,hg3⟩:=hg;obtain ⟨a,o,hσ,r,hin,ha,hm⟩:=E.ownAt ho (by rw [hx];intro z;cases z);rw [hx] at r hin;refine wpAny_Assign_Subscript (thn (hv pins s σ H (fun v H1=>bZ H H1/\Rep All H1 v d) I ⟨ρ,d,E.er,h0,fun v H1 s1 r1 _=>⟨s1,r1⟩⟩) fun rr s1 ⟨v,H1,I1,rv1,sm1,rp1⟩=>
    thn (eU hN hvi hd hcd pins s1 σ H1 (fun w H2=>w=.ref a/\H2=H1) I1 ⟨_,hσ,rfl,rfl⟩) fun u s2 ⟨xx,H2,I2,rx,ex,eH⟩=>
    thn (hk pins s2 σ H2 (fun w H3=>bZ H2 H3/\Rep All H3 w kd) I2 ⟨ρ,kd,by rw [eH];exact E.er.same sm1,h1,fun v H1 s1 r1 _=>⟨s1,r1⟩⟩) fun iv s3 ⟨y,H3,I3,ry,sm3,rp3⟩=>?_) hs
   subst ex eH;obtain rfl:u=Value.ref a:=rx;have sm:=sm1.trans sm3;obtain ⟨H4,o4,I4,g,hmo,rp⟩:=aD4 I3 (r.same sm) hin rp3 hg2 (SN hg1) (rp1.same sm3) hg3;obtain ⟨E2,k2⟩:=(E.same sm).mut ho hσ hmo rp (qO hg3 hin);exact HS (by lia) I4 g ry rv1 fun s4 I5=>⟨σ,_,I5,q _ _ ((KU.same sm).trans k2) E2⟩
  ·cases h2
 ·cases h2
noncomputable def TgS (own:Nat->Bool) (g:TG) (t:D->List D->Res (List D)):Prop:=∀(v:V) (d:D) (ρ ρ':List D) (σ:L2.St) (H:Hp) (Q:L2.St->Hp->Prop),ES own H σ ρ->Rep (fun a=>¬Own own σ a) H v d->t d ρ=.ok ρ'->
 (∀σ',ES own H σ' ρ'->(∀a,Own own σ' a↔Own own σ a)->Q σ' H)->g v σ H Q
theorem o7 {i:Nat} (ho:own i=false):TgS own (pP i) (tg1 i):=fun v d ρ ρ' σ H Q E r h q=>by
 cases h;exact q _ (E.set ho r) fun a=>j8 ho a
theorem ES.sets {H:Hp}:∀{is:List Nat} {vs:List V} {ds:List D} {σ:L2.St} {ρ:List D},(∀i∈is,own i=false)->ES own H σ ρ->a_ (fun a=>¬Own own σ a) H vs ds->ES own H (jC is vs σ) (JG is ds ρ)/\∀a,Own own (jC is vs σ) a↔Own own σ a
 | [],_,_,_,_,_,E,_=>by simp only [jC,JG];exact ⟨E,fun _=>trivial⟩
 | i::is,_,_,σ,ρ,h,E,.nil=>by simp only [jC,JG];exact ⟨E,fun _=>trivial⟩
 | i::is,_,_,σ,ρ,h,E,.cons (v:=v) r t=>by
  have ho:=h i (List.mem_cons_self ..);have hO:(fun a=>¬Own own (σ.set i (some v)) a)=fun a=>¬Own own σ a:=funext fun a=>by rw [j8 ho]
  obtain ⟨h1,h2⟩:=ES.sets (is:=is) (fun j hj=>h j (List.mem_cons_of_mem _ hj)) (E.set ho r) (by rw [hO];exact t);exact ⟨h1,fun a=>(h2 a).trans (j8 ho a)⟩
theorem wR (K:PySem.W.Frag) {is:List Nat} (ho:∀i∈is,own i=false):TgS own (aCi K is.length (gIx is)) (tgN is):=fun v d ρ ρ' σ H Q E r h q=>by
 cases d <;> simp only [tgN] at h <;> (try (cases h;done))
 split at h
 ·rename_i hl;cases h;have hl':=of_decide_eq_true hl;obtain ⟨a,xs,rfl,e,rr⟩:=r.dR;obtain ⟨h1,h2⟩:=E.sets ho rr;exact ⟨a,xs,rfl,.of e,by rw [rr.length];exact hl',wO _ _ _ (by rw [rr.length];exact hl') (q _ h1 h2)⟩
 ·cases h
theorem ItQ.ku {K:PySem.W.Frag} {J:It} {items:List D} {σ σ':L2.St} {H H':Hp} {ρ:List D} (h:ItQ K (fun a=>¬Own own σ a) J H items) (k:KU own σ H σ' H') (E:ES own H σ ρ):ItQ K (fun a=>¬Own own σ' a) J H' items:=by
 cases h with
 | lst a e r=>exact .lst a e (k.rep E r)
 | tup a e r=>exact .tup a e (k.rep E r)
 | rng lo n e r=>exact .rng lo n e r
 | chs x e r=>exact .chs x e r
 | enm a ds e r h=>exact .enm a ds e (k.rep E r) h
 | enf m a ds e r h=>exact .enf m a ds e (k.rep E r) h
 | zip a b ds es e r q n h=>exact .zip a b ds es e (k.rep E r) (k.rep E q) n h
 | scr a hK e r=>exact .scr a hK e (k.rep E r)
theorem sG {K:PySem.W.Frag} {g:TG} {t:D->List D->Res (List D)} {body:FS} {D':Ends} {J:It} {items:List D} {σ:L2.St} {H1:Hp} {ρ:List D} {fl:Fl} (tg:TgS own g t) (E:ES own H1 σ ρ) (hJ:ItQ K (fun a=>¬Own own σ a) J H1 items) (hf:tU t body items ρ=.ok fl) (q:kS own D' σ H1 fl) :
  ∃W:Nat->Nat->L2.St->Hp->Prop,(∃m,W 0 m σ H1)/\∀i m σ H,W i m σ H->
   (J.stop i H/\D'.nx σ H)\/(J.go i H/\∃N:L2.St->Hp->Prop,(∀σ' H',N σ' H'->∃m',m'<m/\W (i+1) m' σ' H')/\∀x H',J.yld i H x H'->g x σ H' fun σ2 H2=>tS own body {D' with nx:=N,ct:=N,bk:=D'.nx} σ2 H2):=by
 refine ⟨fun i m σ' H'=>m=items.length-i/\i<=items.length/\ItQ K (fun a=>¬Own own σ' a) J H' items/\∃ρ',ES own H' σ' ρ'/\tU t body (items.drop i) ρ'=.ok fl/\kS own D' σ' H' fl,⟨items.length,rfl,Nat.zero_le _,hJ,ρ,E,hf,q⟩,?_⟩;rintro i m σ' H' ⟨rfl,hi,hJ',ρ',E',hf',q'⟩;rcases Nat.lt_or_ge i items.length with hlt|hge
 ·refine .inr ?_;have e:items[i]?=some items[i]:=List.getElem?_eq_getElem hlt;obtain ⟨g1,g2⟩:=hJ'.go e;rw [List.drop_eq_getElem_cons hlt] at hf';obtain ⟨ρ1,h1,hf2⟩:=aU hf';obtain ⟨r,h2,hf3⟩:=aU hf2;refine ⟨g1,fun σ2 H2=>ItQ K (fun a=>¬Own own σ2 a) J H2 items/\∃ρ',ES own H2 σ2 ρ'/\tU t body (items.drop (i+1)) ρ'=.ok fl/\kS own D' σ2 H2 fl,fun σ2 H2 ⟨n1,n2⟩=>⟨items.length-(i+1),by lia,rfl,hlt,n1,n2⟩,fun x H2 hy=>?_⟩;obtain ⟨sH,rx⟩:=g2 x H2 hy;have ks:KU own σ' H' σ' H2:=fun a o e n=>⟨sH a o e,n⟩
  have hJ':=hJ'.ku ks E';have q':=q'.step ks;have E':=E'.same sH;refine tg x items[i] ρ' ρ1 σ' H2 _ E' rx h1 fun σ2 E2 hO=>?_
  have k0:KU own σ' H2 σ2 H2:=fun a o e n=>⟨e,by rw [hO];exact n⟩
  have hJ2:=hJ'.ku k0 E';have q2:=q'.step k0;refine ⟨ρ1,r,E2,h2,?_⟩;cases r with
  | nx ρ2=>exact fun σ3 H3 k3 E3=>⟨hJ2.ku k3 E2,ρ2,E3,hf3,q2.step k3⟩
  | ct ρ2=>exact fun σ3 H3 k3 E3=>⟨hJ2.ku k3 E2,ρ2,E3,hf3,q2.step k3⟩
  | bk ρ2=>cases hf3;exact fun σ3 H3 k3 E3=>q2 σ3 H3 k3 E3
  | rt d=>cases hf3;exact q2
 ·refine .inl ⟨hJ'.stop hge,?_⟩;rw [List.drop_eq_nil_of_le hge] at hf';cases hf';exact q' σ' H' (fun a o e n=>⟨e,n⟩) E'
theorem uL {tg iter:Expr} {body:List Stmt} {g:TG} {t:D->List D->Res (List D)} {it:FI} {fb:FS} (hp:PassesOwn (model X.prog X.w) X.A X.env X.xe) (hc:X.calm=true) (hi:PI X tg iter (gI X.K it)) (ht:TgS own g t) (hg:PG X tg g) (hb:PSs X body (tS own fb))
  (hs:∀x,foldedSetIterable iter X.env x=pure x:=by intro _;rfl):PS X (.For tg iter body [] pos) (tS own (O4 it t fb)):=PS.imp (yF hp hc hi hg hb hs) fun D' σ H ⟨ρ,fl,E,h,q⟩=>by
 obtain ⟨⟨items,k⟩,h1,h2⟩:=aU h;split at h2
 ·rename_i hk;exact ⟨ρ,items,k,E.er,h1,fun J H1 s1 _ hJ=>sG ht (E.same s1) ((hJ hk).keep (fun _ _ e _=>e) fun a ha ho=>by
   obtain ⟨o,e1,_⟩:=E.live ho;rw [show H a=none from ha] at e1;cases e1) h2 (q.step (.same s1))⟩
 ·cases h2
theorem WR {tg:Expr} {body:List Stmt} {g:TG} {t:D->List D->Res (List D)} {i:Nat} {x:Str} {px:Pos} {fb:FS} (ho:own i=false) (hp:PassesOwn (model X.prog X.w) X.A X.env X.xe) (hc:X.calm=true) (hN:X.N[i]?=some x) (hv:Vis X.env.scope x) (ht:TgS own g t) (hg:PG X tg g) (hb:PSs X body (tS own fb))
  (hs:∀z,foldedSetIterable (.Name x px) X.env z=pure z:=by intro _;rfl) (hd:(x==("__debug__" : Str))=false:=by decide) (hcd:(x==("__classdict__" : Str))=false:=by decide):PS X (.For tg (.Name x px) body [] pos) (tS own (QG i t fb)):=PS.imp (yF hp hc (aAg hN hv hd hcd) hg hb hs) fun D' σ H ⟨ρ,fl,E,h,q⟩=>by
 obtain ⟨d,h1,h⟩:=aU h;obtain ⟨items,h2,h3⟩:=aU h;obtain ⟨v,hv,r,e⟩:=E.er.var h1;have hne:ρ.getD i .uDf≠.uDf:=fun z=>by
  rw [z] at e;subst e;exact Rep.uDf r
 obtain ⟨w,hw,hr⟩:=E.at_ i hne;rw [hv] at hw;cases hw;have r2:=hr ho;rw [e] at r2;exact ⟨v,d,items,hv,r,h2,fun J hJ=>sG ht E (hJ _ r2) h3 q⟩
theorem QZ {own:Nat->Bool} {N ps:List Str} {vs:List V} {ds:List D} {H:Hp} (hst:start N vs=vs.map some++List.replicate (N.length-ps.length) none) (hl:ds.length=ps.length) (r:a_ All H vs ds) (hown:∀i,i<ps.length->own i=false) (noown:∀a,¬Own own (start N vs) a):ES own H (start N vs) (ds++List.replicate (N.length-ps.length) .uDf):=by
 refine ⟨by rw [hst];simp [r.length],fun i hi=>?_,fun i v hi hv=>?_⟩
 ·have hlt:i<ds.length:=Nat.lt_of_not_le fun hge=>hi (by
   rw [List.getD_eq_getElem?_getD,List.getElem?_append_right hge,List.getElem?_replicate];split <;> rfl)
  have e:(ds++List.replicate (N.length-ps.length) D.uDf).getD i .uDf=ds[i]:=by
   rw [List.getD_eq_getElem?_getD,List.getElem?_append_left hlt,List.getElem?_eq_getElem hlt];rfl
  obtain ⟨v,g1,g2⟩:=r.get (i:=i) (d:=ds[i]) (by simp [hlt]);refine ⟨v,by rw [hst,List.getElem?_append_left (by simp [r.length,hlt])];simp [g1],fun _=>?_⟩;rw [e];exact g2.mono fun a _=>noown a
 ·exfalso;rw [hst] at hv;by_cases h:i<ps.length
  ·rw [hown i h] at hi;cases hi
  ·rw [List.getElem?_append_right (by simp [r.length,hl];lia)] at hv;rw [List.getElem?_replicate] at hv;split at hv <;> cases hv
theorem WT {own:Nat->Bool} {N ps:List Str} {f:FS} {vs:List V} {H:Hp} {Q:VK} {E:XK} (hx:own rtX=false) (hown:∀i,i<ps.length->own i=false) (h0:spD (fnS ps.length N.length f) ps.length vs H Q E):tS own f {nx:=fun _ H'=>Q .non H',rt:=Q} (start N vs) H:=by
 obtain ⟨ds,d,hl,r,h,q⟩:=h0
 ·obtain ⟨fl,h1,h2⟩:=aU h;have hst:start N vs=vs.map some++List.replicate (N.length-ps.length) none:=by
   show vs.map some++List.replicate (N.length-vs.length) none=_;rw [r.length,hl]
  have noown:∀a,¬Own own (start N vs) a:=fun a ⟨i,hi,e⟩=>by
   rw [hst] at e;by_cases h:i<ps.length
   ·rw [hown i h] at hi;cases hi
   ·rw [List.getElem?_append_right (by simp [r.length,hl];lia)] at e;rw [List.getElem?_replicate] at e;split at e <;> cases e
  have E0:ES own H (start N vs) (ds++List.replicate (N.length-ps.length) .uDf):=QZ hst hl r hown noown;refine ⟨_,fl,E0,h1,?_⟩;have sm:∀{σ':L2.St} {H':Hp},KU own (start N vs) H σ' H'->bZ H H':=fun k a o e=>(k a o e (noown a)).1
  cases fl with
  | nx ρ'=>cases h2;exact fun σ' H' k E'=>q .non H' (sm k) .non fun _=>.non
  | rt d'=>
   cases h2;refine kRt.mk hx fun v H' hk rp=>q v H' (fun a o e=>hk a o e (noown a)) rp.all fun _=>rp.mono fun a ha=>?_
   rcases ha with ha|ha
   ·exact absurd ha (noown a)
   ·exact ha
  | bk ρ'=>cases h2
  | ct ρ'=>cases h2
theorem aAi {P:Program} {w:World} {K:PySem.W.Frag} {mg:Str->Option Value} {base:Heap} {x qual:Str} {st:Stmt} {fad:Addr} {fd:FuncData} {N ps:List Str} {k:Nat} {f:FS} (F:Fun K x qual st fad fd) (S:bT N ps (aJ st)) (own:Nat->Bool) (hown:∀i,i<ps.length->own i=false) (hNl:ps.length<=N.length)
  (hbody:∀(cdv:Value) (A:Around) (outer:List Env) (s:Shared) (H:Hp) (E:XK),lR k (A.deeper (envOfC qual (aJ st) s.heap.objs.size fad cdv))->PSs (O2 CX0 P w K mg base N qual (aJ st) fad cdv A outer s H E).nox (bK st) (tS own f)) (hx:own rtX=false:=by rfl):yG P w K mg base CX0 (k+1) fad fd ps (spD (fnS ps.length N.length f) ps.length):=
 F.ok S (fun vs H Q E h=>WF h) fun cdv A outer s H vs Q E hr h=>⟨_,hbody cdv A outer s H E hr,WT hx hown h⟩
end
end Mi
end
section
namespace Mi
open PySem L2 PySem.SeqAt PySem.Spec PyProof.Rows
variable [KFrag]
structure aD5 where
 s₀:Shared
 H₀:Hp
 env:Env
 outer:List Env
 stack:List Env
 ex:List Addr
 fn:Str->Bool
 pn:List (Addr×Obj)
noncomputable abbrev mkC (X:Cx) (scope:Scope) (ownN:List Str) (y:aD5):Cx:=
 {X with N:=X.N.map (g_ ownN)++ownN,s₀:=y.s₀,H₀:=y.H₀,env:={y.env with scope:=relabel scope X.env},outer:=y.outer,stack:=y.stack,ex:=y.ex,fn:=y.fn,pn:=y.pn,xe:=fun _ _=>False}
theorem lH {X X':Cx} {scope:Scope} {ownN:List Str} (cc:dO X X' scope ownN):∃y,X'=mkC X scope ownN y:=by
 refine ⟨⟨X'.s₀,X'.H₀,X'.env,X'.outer,X'.stack,X'.ex,X'.fn,X'.pn⟩,?_⟩;obtain ⟨h1,h2,h3,h4,h5,h6,h7,h8,h9,h10⟩:=cc;cases X' with
 | mk a b c d e f g h i j k l m n o p q=>
  cases j;dsimp only at *;subst h1 h2 h3 h4 h5 h6 h7 h8 h9 h10;rfl
section
variable {own:Nat->Bool} {X:Cx} {scope:Scope} {ownN:List Str} {elt iter tg c:Expr} {it:FI} {t:D->Res (List D)} {g:TG} {gc:FT} {fe:FE} {re:Bool} {pos:Pos} {n m:Nat}
theorem zH (S:dN X.N X.env.scope scope ownN) (hn:X.N.length=n) (hm:ownN.length=m) (hcalm:X.calm=true) (hi:PI X tg iter (gI X.K it)) (ht:TgC g t n m) (hg:∀y,PG (mkC X scope ownN y) tg g) (he:∀y,PE (mkC X scope ownN y) elt (gE fe re))
  (hs:∀x,foldedSetIterable iter X.env x=pure x):PE X (.ListComp elt [⟨tg,iter,[],0⟩] scope pos) (gE (fJ n it t fU fe re) true):=
 WM S hn hm hcalm hi ht (fun X' cc=>by obtain ⟨y,rfl⟩:=lH cc;exact hg y) (fun X' cc=>by obtain ⟨y,rfl⟩:=lH cc;exact he y) hs
theorem DG (S:dN X.N X.env.scope scope ownN) (hn:X.N.length=n) (hm:ownN.length=m) (hcalm:X.calm=true) (hi:PI X tg iter (gI X.K it)) (ht:TgC g t n m) (hg:∀y,PG (mkC X scope ownN y) tg g) (hc:∀y,PT (mkC X scope ownN y) c (gT gc)) (he:∀y,PE (mkC X scope ownN y) elt (gE fe re))
  (hs:∀x,foldedSetIterable iter X.env x=pure x):PE X (.ListComp elt [⟨tg,iter,[c],0⟩] scope pos) (gE (fJ n it t gc fe re) true):=
 KC S hn hm hcalm hi ht (fun X' cc=>by obtain ⟨y,rfl⟩:=lH cc;exact hg y) (fun X' cc=>by obtain ⟨y,rfl⟩:=lH cc;exact hc y) (fun X' cc=>by obtain ⟨y,rfl⟩:=lH cc;exact he y) hs
theorem nH {y:Str} {py pos2:Pos} {iy:Nat} {o:Bool} (S:dN X.N X.env.scope scope ownN) (hn:X.N.length=n) (hm:ownN.length=m) (hcalm:X.calm=true) (hi:PI X tg iter (gI X.K it)) (ht:TgC g t n m) (hg:∀y,PG (mkC X scope ownN y) tg g) (he:∀y,PE (mkC X scope ownN y) elt (gE fe re))
  (hs:∀x,foldedSetIterable iter X.env x=pure x) (ho:own iy=o) (hNn:X.N.Nodup) (hiy:X.N[iy]?=some y) (hxy:Loc X.env.scope y) (hfy:X.fn y=true\/X.env.scope.names.lookup y=some .local) (hsw:swapsWith (.ListComp elt [⟨tg,iter,[],0⟩] scope pos) (some (.Name y py)) pos2.line X.env=pure true) :
  PS X (.Assign [.Name y py] (.ListComp elt [⟨tg,iter,[],0⟩] scope pos) pos2) (tS own (dZ o iy (fJ n it t fU fe re) true)):=
 WQ S hn hm hcalm hi ht (fun X' cc=>by obtain ⟨y,rfl⟩:=lH cc;exact hg y) (fun X' cc=>by obtain ⟨y,rfl⟩:=lH cc;exact he y) hs ho hNn hiy hxy hfy hsw
end
noncomputable def aDv:FS:=fun _=>.bad
theorem WW {X:Cx} {own:Nat->Bool} {st:List Stmt}:PSs X st (tS own aDv):=fun pins s σ H D I h=>by
 obtain ⟨_,_,_,h,_⟩:=h;cases h
noncomputable def gP (P:Program) (w:World) (K:PySem.W.Frag) (mg:Str->Option Value) (base:Heap) (k:Nat) (x:Str) (n:Nat) (f:List D->Res D):Prop:=
 ∃(fad:Addr) (fd:FuncData) (ps:List Str),yG P w K mg base CX0 k fad fd ps (spD f n)/\mg x=some (.ref fad)/\PySem.W.keepIn K (.ref fad)=true/\Binds K fd ps []
section
variable {X:Cx} {e:Expr} {es:List Expr} {pos p:Pos} {fs:FA} {rr:Bool} {x:Str} {k n:Nat} {f:List D->Res D}
theorem bV {k':Nat} (C:gP X.prog X.w X.K X.mg X.base k x n f) (hr:lR k' X.A) (hkk:k<=k') (hg:Gl X x) (ha:PA X (e::es) (gA fs rr)) (hdb:(x==("__debug__" : Str))=false:=by decide) (he:starEach (e::es) X.env=(false,eval e X.env)::starEach es X.env:=by rfl) (hpl:(backTo pos (starEach es X.env)).any (·.1)=false:=by rfl) :
  PE X (.Call (.Name x p) (e::es) [] pos) (gE (aY (j6 n f) fs) true):=by
 obtain ⟨fad,fd,ps,F,hm,hk,hb⟩:=C;exact WK F (hr.mono hkk) hg hm hk hb ha hdb he hpl
theorem jX {P:Program} {w:World} {K:PySem.W.Frag} {mg:Str->Option Value} {base:Heap} {st:Stmt} {fad:Addr} {fd:FuncData} {N ps:List Str} {fs:FS} (F:Fun K x x st fad fd) (hm:mg x=some (.ref fad)) (hb:Binds K fd ps []) (S:bT N ps (aJ st)) (own:Nat->Bool) (hown:∀i,i<ps.length->own i=false) (hNl:ps.length<=N.length)
  (hbody:∀(cdv:Value) (A:Around) (outer:List Env) (s:Shared) (H:Hp) (E:XK),lR k (A.deeper (envOfC x (aJ st) s.heap.objs.size fad cdv))->PSs (O2 CX0 P w K mg base N x (aJ st) fad cdv A outer s H E).nox (bK st) (tS own fs)) (hx:own rtX=false:=by rfl):gP P w K mg base (k+1) x ps.length (fnS ps.length N.length fs):=
 ⟨fad,fd,ps,aAi F S own hown hNl hbody hx,hm,F.kp,hb⟩
end
theorem vR {A:Around} {k:Nat} (hr:lR k A):A.units+20<cLine:=Nat.lt_of_le_of_lt (Nat.add_le_add_left (by decide:20<=64) _) hr.units
structure Bt (mg:Str->Option Value):Prop where
 len:mg "len" = none
 min:mg "min" = none
 max:mg "max" = none
 list:mg "list" = none
 tuple:mg "tuple" = none
 sorted:mg "sorted" = none
 range:mg "range" = none
 isi:mg "isinstance" = none
 int:mg "int" = none
 bool:mg "bool" = none
 str:mg "str" = none
 dict:mg "dict" = none
 all:mg "all" = none
 enum:mg "enumerate" = none
 sum:mg "sum" = none
 zip:mg "zip" = none
 abs:mg "abs" = none
 reversed:mg "reversed" = none
theorem lJ:bootBuiltins "len" = some (.builtin "len"):=by decide +kernel
theorem KJ:bootBuiltins "min" = some (.builtin "min"):=by decide +kernel
theorem KN:bootBuiltins "max" = some (.builtin "max"):=by decide +kernel
theorem lK:bootBuiltins "sorted" = some (.builtin "sorted"):=by decide +kernel
theorem bG:bootBuiltins "isinstance" = some (.builtin "isinstance"):=by decide +kernel
theorem KQ:bootBuiltins "list" = some (.type "list"):=by decide +kernel
theorem fZ:bootBuiltins "tuple" = some (.type "tuple"):=by decide +kernel
theorem KR:bootBuiltins "int" = some (.type "int"):=by decide +kernel
theorem sI:bootBuiltins "bool" = some (.type "bool"):=by decide +kernel
theorem S9:bootBuiltins "str" = some (.type "str"):=by decide +kernel
theorem ints_rep {P:Addr->Prop} {H:Hp}:∀ns:List Int,a_ P H (ns.map V.int) (ns.map D.int)
 | []=>.nil
 | n::ns=>.cons (.int n) (ints_rep ns)
end Mi
namespace Mi
open PySem L2
theorem KY {K:PySem.W.Frag} {f:List D->Res D} {H:Hp} {a:Addr} {ns:List Int} {E:XK} (main:∀ns:List Int,ns.length<=63->f [.scr (ns.map D.int)]=.ok (.bl true)) (hl:ns.length<=63) (hO:Only H) (hS:SqL K H a (ns.map V.int)):@spD ⟨K⟩ f 1 [.ref a] H (fun v _=>v=.bl true) E:=by
 letI:KFrag:=⟨K⟩
 refine ⟨[.scr (ns.map D.int)],.bl true,rfl,.cons (.frz ?_ (ints_rep ns)) .nil,main ns hl,fun v H' s r n=>by cases r;rfl⟩;rcases hS with (h|⟨o,h⟩)|h
 ·rcases hO a with z|⟨o,xs,z⟩
  ·rw [h] at z;cases z
  ·rw [h] at z;cases z
 ·exact .inl ⟨o,h⟩
 ·exact .inr h
end Mi
end
section
namespace Mi
open PySem L2 PySem.SeqAt PySem.Spec PyProof.Rows
noncomputable def FZ:D->D->Res D
 | .str x,.int n=>if decide (0<=n)&&decide (n<=100000)&&decide (x.length*n.toNat<=lim) then .ok (.str (Txt.mul x n)) else .bad
 | a,b=>bB .mul a b
noncomputable def WX:D->Option Int->Option Int->Res D
 | .str x,lo,hi=>if decide (x.length<=lim) then .ok (.str (Txt.slice x lo hi)) else .bad
 | d,lo,hi=>aC1 d lo hi
noncomputable def aC4 (a:FE) (lo hi:List D->Res (Option Int)):FE:=fun ρ=>do let x <- a ρ;let l <- lo ρ;let h <- hi ρ;WX x l h
noncomputable def uM:D->Res (List D)
 | .str x=>if decide (x.length<=lim) then .ok (uJ x) else .bad
 | d=>oJ d
noncomputable def dW (a:FE) (fr:Bool):FI:=fun ρ=>do let x <- a ρ;let xs <- uM x;pure (xs,fr||x.pure)
noncomputable def o8:List D->Option (List Bool)
 | []=>some []
 | .bl x::r=>(o8 r).map (x::·)
 | _::_=>none
noncomputable def aC5:List D->Res D
 | [.lst ds]=>match o8 ds with
  | some bs=>.ok (.bl (bs.all id))
  | none=>.bad
 | _=>.bad
variable [KFrag]
section
variable {X:Cx}
theorem sJ:OpR X (binaryOp .Mult) (r2 FZ true):=by
 intro pins s σ H x y v u Q I rx ry ⟨a,b,d,p,q,e,k⟩;by_cases hs:∃z n,a=.str z/\b=.int n
 ·obtain ⟨z,n,rfl,rfl⟩:=hs;simp only [FZ] at e;split at e
  ·rename_i hl;cases e;simp only [Bool.and_eq_true,decide_eq_true_eq] at hl;obtain ⟨⟨h0,h1⟩,h2⟩:=hl;cases p;cases q;obtain ⟨t,rfl⟩:=rx;obtain ⟨t',rfl⟩:=ry;have hz:z.length*n.toNat<=sizeLine:=Nat.le_trans h2 (by rw [sizeLine_eq];decide);refine SB.mul ⟨?_,fun h3 _=>?_,fun _ _=>?_⟩ fun t2 k2=>⟨.str _,H,I.tok k2,⟨t2,rfl⟩,k.str⟩
   ·rw [decide_eq_false (by lia),decide_eq_false (by lia)];rfl
   ·have hn:0<n:=by lia
    have h4:(z.length:Int)*n<=2 ^ 63-1:=by
     have h5:((z.length*n.toNat:Nat):Int)<=1000000:=by
      have:lim=1000000:=by unfold lim;exact Eq.refl _
      lia
     rw [Int.natCast_mul,Int.toNat_of_nonneg h0] at h5;lia
    have h6:=(Int.le_ediv_iff_mul_le hn).mpr h4;lia
   ·unfold Builtin.Str.tooLong;exact decide_eq_false (by lia)
  ·cases e
 ·have he:FZ a b=bB .mul a b:=by
   unfold FZ;split
   ·exact absurd ⟨_,_,rfl,rfl⟩ hs
   ·rfl
  rw [he] at e;exact aAb pins s σ H x y v u Q I rx ry ⟨a,b,d,p,q,e,k⟩
theorem part_of {v:Value} {o:Option Int} (h:IsPart v o):∃l:Option (Int×Tok),partValue l=v/\l.map (·.1)=o:=by
 cases h with
 | none=>exact ⟨none,rfl,rfl⟩
 | int i t=>exact ⟨some (i,t),rfl,rfl⟩
theorem aAj (hK:KFrag.K=X.K):SlR X (fun x lo hi H Q=>∃a d,Rep All H x a/\WX a lo hi=.ok d/\kR H d true Q):=by
 intro pins s σ H x v vl vu lo hi sl Q I rx hs pl pu ⟨a,d,p,e,k⟩;by_cases hz:∃z,a=.str z
 ·obtain ⟨z,rfl⟩:=hz;simp only [WX] at e;split at e
  ·rename_i hl;cases e;cases p;obtain ⟨t,rfl⟩:=rx;obtain ⟨l,e1,e2⟩:=part_of pl;obtain ⟨m,e3,e4⟩:=part_of pu;subst e1 e2 e3 e4;refine ⟨"str",_,F.slot_str_getitem.lookup,typeIs_str _ _ _,?_⟩;obtain ⟨o,ho,hc,hd⟩:=hs;refine wpAny_getItem_str_slice (l:=l) (u:=m) (st:=none) ⟨o,ho,hc,hd⟩ rfl ?_;have hle:(Txt.slice z (l.map (·.1)) (m.map (·.1))).length<=sizeLine:=Nat.le_trans (Txt.slice_le ..) (lD hl);have q:∀(t':Tok) (k2:Nat),EP X pins σ Q (.str (Txt.slice z (l.map (·.1)) (m.map (·.1))) t') {s with toks:=k2}:=fun t' k2=>⟨.str _,H,I.tok k2,⟨t',rfl⟩,k.str⟩
   show Made.post (if ((1:Int)==1&&(Builtin.Str.strSliceIndices (l.map (·.1)) (m.map (·.1)) 1 z.length).length==z.length)=true then .val (.str z t) else .str ⟨((Builtin.Str.strSliceIndices (l.map (·.1)) (m.map (·.1)) 1 z.length).filterMap (z.cps[·]?)).toArray⟩) _ s;unfold Txt.slice at hle q;split
   ·rename_i hh;have:=q t s.toks;rw [if_pos hh] at this;exact this
   ·rename_i hh;rw [if_neg hh] at hle;have:=q s.toks (s.toks+1);rw [if_neg hh] at this;exact ⟨hle,this⟩
  ·cases e
 ·have he:WX a lo hi=aC1 a lo hi:=by
   unfold WX;split
   ·exact absurd ⟨_,rfl⟩ hz
   ·rfl
  rw [he] at e;exact aD2 hK pins s σ H x v vl vu lo hi sl Q I rx hs pl pu ⟨a,d,p,e,k⟩
theorem S_ {e:Expr} {fe:FE} {re:Bool} {pos:Pos} {lo hi:Option Expr} {p2:Pos} {fl fh:List D->Res (Option Int)} (hK:KFrag.K=X.K) (he:PE X e (gE fe re)) (hl:PO X lo (gO fl)) (hh:PO X hi (gO fh)):PE X (.Subscript e (.Slice lo hi none p2) pos) (gE (aC4 fe fl fh) true):=
 PE.imp (PL (aAj hK) he hl hh) fun σ H Q ⟨ρ,d,E,h,q⟩=>by
  obtain ⟨x,h1,h⟩:=aU h;obtain ⟨l,h2,h⟩:=aU h;obtain ⟨u,h3,h⟩:=aU h;exact ⟨ρ,x,E,h1,fun v H1 s1 r1 _=>⟨ρ,l,E.same s1,h2,fun H2 s2=>⟨ρ,u,E.same (s1.trans s2),h3,fun H3 s3=>⟨x,d,r1.same (s2.trans s3),h,q.imp ((s1.trans s2).trans s3) id⟩⟩⟩⟩
theorem zJ {P:Addr->Prop} {H:Hp}:∀{xs:List V} {ds:List D} {its:List Value} {bs:List Bool},a_ P H xs ds->Vals xs its->o8 ds=some bs->its=bs.map Value.bool
 | [],[],[],_,_,_,h=>by cases h;rfl
 | _,_,_,_,.cons (d:=d) r t,.cons rv tv,h=>by
  cases d <;> simp only [o8] at h <;> (try (cases h;done))
  obtain ⟨ts,h1,h2⟩:=Option.map_eq_some_iff.mp h;cases r;cases rv;rw [zJ t tv h1,<-h2];rfl
theorem aAk (hc:X.calm=true):gY X (.builtin "all") (rs aC5 true):=by
 intro pins s σ H xs us Q I vr ⟨ds,d,r,e,k⟩;unfold aC5 at e;split at e
 ·split at e
  ·rename_i bs hbs;cases e;obtain ⟨vv,uu,rfl,rfl,r,v⟩:=fY r vr;obtain ⟨l,ys,rfl,hl,rr⟩:=r.fV (K:=X.K);cases v;obtain ⟨its,vr',pl⟩:=iJ I hl;have hb:=zJ rr vr' hbs;subst hb;have hlt:l<s.heap.objs.size:=by obtain ⟨_,e,_⟩:=pl;exact Heap.lt_size e
   refine call_all_walk (wpAny_pyIter_list pl ?_);refine ⟨_,_,_,_,_,_,fun i=>bs.getD i true,rfl,Walks.list (A:=X.A.in1) (I.ok.hd hc) _ l (Nat.ne_of_lt hlt) _,⟨⟨_,Heap.get?_push_size _ rfl,rfl,rfl⟩,pl.push _⟩,fun i v s' Q' E' hP hQ=>?_,fun h' tk hk=>?_⟩
   ·have hv:(bs.map Value.bool)[i]?=some v:=by simpa using hP
    rw [List.getElem?_map] at hv;cases hb:bs[i]? with
    | none=>rw [hb] at hv;cases hv
    | some b=>
     rw [hb] at hv;cases hv;have hQ:Q' (bs.getD i true) s':=hQ;rw [List.getD_eq_getElem?_getD,hb] at hQ;exact wpAny_truthy_bool hQ
   ·have e:(List.range (bs.map Value.bool).toArray.size).all (fun i=>bs.getD i true)=bs.all id:=by
     rw [List.size_toArray,List.length_map];have:bs=(List.range bs.length).map fun i=>bs.getD i true:=by
      apply List.ext_getElem
      ·simp
      ·intro i h1 h2;simp [h1]
     conv=>rhs;rw [this]
     rw [List.all_map];rfl
    rw [e];refine ⟨.bl _,H,I.kept fun b o e=>hk b o (fun hb=>?_) (Heap.get?_push_of_some _ e),rfl,k.bl⟩;rcases List.mem_cons.mp hb with rfl|hb
    ·exact absurd (Heap.lt_size e) (Nat.lt_irrefl _)
    ·cases hb
  ·cases e
 ·cases e
theorem Q0 {P:Program} {w:World} {K:PySem.W.Frag} {tg:Expr} (x:Str) (t:Tok) (it:Addr):Turn P w K tg (aD3 x) [it] it (fun i h=>h.IsStrIter it (strIterType x) x t i) where
 mem:=by simp
 obj:=fun i h st b hb=>by
  have e:b=it:=by simpa using hb
  subst e;obtain ⟨o,e,c,d⟩:=st;exact ⟨o,e,fun v z=>by rw [d] at z;cases z⟩
 keep:=fun i h h' st k=>by
  obtain ⟨o,e,r⟩:=st;exact ⟨o,k it (by simp) o e,r⟩
 item:=by
  intro Y hP hw hK hc i pins s σ H E I hf st hg;subst hP hw hK;obtain ⟨f0,f1,f2,f3,f4,f5⟩:=hf it (by simp);have hx:x.cps[i]?=some x.cps[i]:=Array.getElem?_eq_getElem hg;have fin:∀(h':Heap) (ty:String),(["enumerate", "zip", "dict_itemiterator", "dict_reverseitemiterator", "odict_iterator", "itertools.zip_longest", "itertools.pairwise"].contains ty=false)->strIterType x=ty->h'.IsStrIter it ty x t (i+1)->Heap.SameBut it s.heap h'->
    ∃u,some (Value.str ⟨#[x.cps[i]]⟩ s.toks)=some u/\wpAny (model Y.prog Y.w) Y.A (letOwnedTupleGo tg (.ref it) u) (fun _ s2=>∃v H',Inv Y pins σ H' s2/\RelV v u/\(aD3 x).yld i H v H'/\s2.heap.IsStrIter it (strIterType x) x t (i+1)/\∀b∈[it],H' b=none) E {s with heap:=h',toks:=s.toks+1}:=by
   intro h' ty hn hty st' sb;have I1:Inv Y pins σ H {s with heap:=h',toks:=s.toks+1}:=I.turned (fun b o hb e=>(sb.2 b hb).trans e) f0 f1 f3 f4 f5;obtain ⟨o,e,c,d⟩:=id st';exact ⟨_,rfl,PB (s:={s with heap:=h',toks:=s.toks+1}) e c d hn ⟨.str ⟨#[x.cps[i]]⟩,H,I1,⟨_,rfl⟩,⟨rfl,_,hx,rfl⟩,by rw [hty];exact st',fun b hb=>(hf b hb).1⟩⟩
  cases ha:x.cps.all (·<128)
  ·have hty:strIterType x = "str_iterator":=by simp [strIterType,ha]
   rw [hty] at st;exact wpAny_pyNext_wide_item st hx fun h' st' sb=>fin h' _ (by decide) hty st' sb
  ·have hty:strIterType x = "str_ascii_iterator":=by simp [strIterType,ha]
   rw [hty] at st;exact wpAny_pyNext_ascii_item st hx fun h' st' sb=>fin h' _ (by decide) hty st' sb
 done:=by
  intro Y hP hw hK hc i pins s σ H E I hf st hg;subst hP hw hK;obtain ⟨f0,f1,f2,f3,f4,f5⟩:=hf it (by simp);have hx:x.cps[i]?=none:=Array.getElem?_eq_none hg;cases ha:x.cps.all (·<128)
  ·have hty:strIterType x = "str_iterator":=by simp [strIterType,ha]
   rw [hty] at st;exact wpAny_pyNext_wide_end (I.ok.hd hc) st hx fun h' eb=>⟨rfl,I.turned (t':=s.toks) (fun b o hb e=>eb b o hb e) f0 f1 f3 f4 f5⟩
  ·have hty:strIterType x = "str_ascii_iterator":=by simp [strIterType,ha]
   rw [hty] at st;exact wpAny_pyNext_ascii_end (I.ok.hd hc) st hx fun h' eb=>⟨rfl,I.turned (t':=s.toks) (fun b o hb e=>eb b o hb e) f0 f1 f3 f4 f5⟩
 self:=fun _ _ _ _ _ st h=>by
  cases ha:x.cps.all (·<128)
  ·have hty:strIterType x = "str_iterator":=by simp [strIterType,ha]
   rw [hty] at st;exact wpAny_pyIter_striter_wide st h
  ·have hty:strIterType x = "str_ascii_iterator":=by simp [strIterType,ha]
   rw [hty] at st;exact wpAny_pyIter_striter_ascii st h
section
variable {tg l a:Expr} {fl fa:FE} {rl ra:Bool} {p pos:Pos}
theorem KZ {pins:List (Addr×Obj)} {s1:Shared} {σ:L2.St} {H1:Hp} {R:It->Hp->Prop} {v:V} {u:Value} {d:D} {items:List D} (I1:Inv X pins σ H1 s1) (r:Rep All H1 v d) (ru:RelV v u) (hi:uM d=.ok items)
  (q:∀J,(∀P:Addr->Prop,Rep P H1 v d->ItQ X.K P J H1 items)->R J H1):wpAny (model X.prog X.w) X.A (pyIter u) (PIE X pins σ tg R) X.xe s1:=by
 by_cases hz:∃z,d=.str z
 ·obtain ⟨z,rfl⟩:=hz;simp only [uM] at hi;split at hi
  ·cases hi;cases r;obtain ⟨t,rfl⟩:=ru;refine wpAny_pyIter_strU ?_;refine ⟨s1.heap.objs.size,[s1.heap.objs.size],_,_,H1,rfl,I1.kept (t':=s1.toks) fun b o e=>Heap.get?_push_of_some _ e,Q0 z t _,⟨_,Heap.get?_push_size _ rfl,rfl,rfl⟩,fun b hb=>?_,q _ fun P r=>.chs z rfl rfl⟩;have e:b=s1.heap.objs.size:=by simpa using hb
   subst e;exact I1.YK (Nat.le_refl _) (I1.hok.fresh (Nat.le_refl _))
  ·cases hi
 ·have he:uM d=oJ d:=by
   unfold uM;split
   ·exact absurd ⟨_,rfl⟩ hz
   ·rfl
  rw [he] at hi;exact y_ I1 r ru hi q
theorem mH (hl:PE X l (gE fl rl)):PI X tg l (gI X.K (dW fl rl)):=by
 intro pins s σ H R I ⟨ρ,items,k,E,h,q⟩;obtain ⟨d,h1,h⟩:=aU h;obtain ⟨its,h2,h⟩:=aU h;cases h;refine thn (hl pins s σ H _ I ⟨ρ,d,E,h1,fun v H1 s1 r1 n1=>(show (∃d',Rep All H1 v d/\d'=d/\∀J,(∀P:Addr->Prop,Rep P H1 v d->ItQ X.K P J H1 items)->R J H1) from ⟨d,r1,rfl,fun J hJ=>q J H1 s1 (hJ _ r1) fun hk=>hJ _ ?_⟩)⟩) fun u s1 ⟨v,H1,I1,ru,d',r1,e,q1⟩=>KZ I1 r1 ru h2 q1
 rw [Bool.or_eq_true] at hk;rcases hk with hk|hk
 ·exact n1 hk
 ·exact r1.bD hk
end
end
section
variable {X:Cx} {pos p:Pos} {x:Str} {k:Nat} {f:List D->Res D}
end
theorem aAl:bootBuiltins "all" = some (.builtin "all"):=by decide +kernel
end Mi
end
section
namespace Mi
open PySem L2
theorem bH:lim=1000000:=by unfold lim;exact Eq.refl _
theorem uN {n:Nat} {ρ:List D} (h:ρ.length=n):yL n ρ=ρ:=by
 subst h;apply List.ext_getElem
 ·simp [yL]
 ·intro i h1 h2;simp [yL,h2]
theorem cL {n:Nat} {f:List D->Res D} {ds:List D} (h:ds.length=n):j6 n f ds=f ds:=by
 unfold j6;rw [if_pos (by simp [h])]
theorem aP {f:D->D->Res D} {a b:FE} {ρ:List D} {x y z:D} (h1:a ρ=.ok x) (h2:b ρ=.ok y) (h3:f x y=.ok z):b2 f a b ρ=.ok z:=by
 unfold b2;rw [h1,Res.aK,h2,Res.aK,h3]
theorem cA {i:Nat} {f:FE} {ρ:List D} {d:D} (h:f ρ=.ok d):dZ false i f true ρ=.ok (.nx (ρ.set i d)):=by
 unfold dZ;rw [h,Res.aK];rfl
theorem WY {i:Nat} {f:FE} {ρ:List D} {d:D} (h:f ρ=.ok d) (hp:d.pure=true):dZ false i f false ρ=.ok (.nx (ρ.set i d)):=by
 unfold dZ;rw [h,Res.aK];simp only [hp,Bool.false_or,Bool.false_eq_true,if_false,if_true]
theorem jE {i:Nat} {f:FE} {ρ:List D} {d:D} (h:f ρ=.ok d) (hp:inner d=true):dZ true i f true ρ=.ok (.nx (ρ.set i d)):=by
 unfold dZ;rw [h,Res.aK];simp only [hp,Bool.and_self,if_true]
theorem aQ {f g:FS} {ρ ρ':List D} {r:Res Fl} (h1:f ρ=.ok (.nx ρ')) (h2:g ρ'=r):bU f g ρ=r:=by
 unfold bU;rw [h1,Res.aK];exact h2
theorem aAm {c:FT} {f g:FS} {ρ:List D} {k:Bool} {r:Res Fl} (h1:c ρ=.ok k) (h2:(if k then f ρ else g ρ)=r):sIf c f g ρ=r:=by
 unfold sIf;rw [h1,Res.aK];exact h2
theorem O5 {c:FT} {f g:FS} {ρ:List D} {r:Res Fl} (h1:c ρ=.ok true) (h2:f ρ=r):sIf c f g ρ=r:=aAm h1 (by rw [if_pos rfl];exact h2)
theorem F_ {c:FT} {f g:FS} {ρ:List D} {r:Res Fl} (h1:c ρ=.ok false) (h2:g ρ=r):sIf c f g ρ=r:=aAm h1 (by rw [if_neg (by simp)];exact h2)
theorem j9 {f:FE} {ρ:List D} {k:Bool} (h1:f ρ=.ok (.bl k)):bTB f ρ=.ok k:=by
 unfold bTB;rw [h1,Res.aK];rfl
theorem aAn {a b:FT} {ρ:List D} {r:Res Bool} (h1:a ρ=.ok true) (h2:b ρ=r):YS a b ρ=r:=by
 unfold YS;rw [h1,Res.aK,if_pos rfl,h2]
theorem aD6 {a b:FT} {ρ:List D} (h1:a ρ=.ok false):YS a b ρ=.ok false:=by
 unfold YS;rw [h1,Res.aK,if_neg (by simp)];rfl
theorem aB {a:FE} {b:FA} {ρ:List D} {x:D} {xs:List D} (h1:a ρ=.ok x) (h2:b ρ=.ok xs):aD a b ρ=.ok (x::xs):=by
 unfold aD;rw [h1,Res.aK,h2,Res.aK];rfl
theorem aV {f:List D->Res D} {a:FA} {ρ:List D} {xs:List D} {d:D} (h1:a ρ=.ok xs) (h2:f xs=.ok d):aY f a ρ=.ok d:=by
 unfold aY;rw [h1,Res.aK,h2]
theorem fO {a:FA} {ρ:List D} {xs:List D} (h:a ρ=.ok xs) (hl:xs.length<=lim):iY a ρ=.ok (.tup xs):=by
 unfold iY;rw [h,Res.aK,if_pos (decide_eq_true hl)];rfl
theorem gQ {f:FE} {ρ:List D} {d:D} {k:Bool} (h:f ρ=.ok d) (hp:(k||d.pure)=true):nA f k ρ=.ok (.rt d):=by
 unfold nA;rw [h,Res.aK,if_pos hp]
theorem uO {it:FI} {t:D->List D->Res (List D)} {body:FS} {ρ:List D} {xs:List D} {r:Res Fl} (h1:it ρ=.ok (xs,true)) (h2:tU t body xs ρ=r):O4 it t body ρ=r:=by
 unfold O4;rw [h1,Res.aK];exact h2
theorem W0 {i:Nat} {t:D->List D->Res (List D)} {body:FS} {ρ:List D} {d:D} {xs:List D} {r:Res Fl} (h1:aH i ρ=.ok d) (h2:oJ d=.ok xs) (h3:tU t body xs ρ=r):QG i t body ρ=r:=by
 unfold QG;rw [h1,Res.aK,h2,Res.aK];exact h3
theorem qP {f:FA} {ρ:List D} {n:Int} (h:f ρ=.ok [.int n]) (h1:0<=n) (h2:n<=1000000):iK f lW ρ=.ok ((List.range n.toNat).map fun (k:Nat)=>D.int (0+(k:Int)),true):=by
 unfold iK;rw [h,Res.aK];have:fH n=true:=by
  simp only [fH,Bool.and_eq_true,decide_eq_true_eq];lia
 simp only [lW,this,if_true]
theorem TF {i:Nat} {f g:FE} {ρ:List D} {kvs:List (D×D)} {k d:D} (h1:g ρ=.ok d) (h2:f ρ=.ok k) (h3:ρ.getD i .uDf=.dct kvs) (h4:kvs.length<lim) (h5:FQ kvs k=true) (h6:d.pure=true):aC2 i f g ρ=.ok (.nx (ρ.set i (.dct (putD kvs k d)))):=by
 unfold aC2;rw [h1,Res.aK,h2,Res.aK,h3];simp only [decide_eq_true h4,h5,h6,Bool.and_self,if_true]
theorem o9 {i:Nat} {f:FE} {ρ:List D} {xs:List D} {d:D} (h1:f ρ=.ok d) (h3:ρ.getD i .uDf=.lst xs) (h4:xs.length<lim) (h5:d.pure=true):tR i f ρ=.ok (.nx (ρ.set i (.lst (xs++[d])))):=by
 unfold tR;rw [h1,Res.aK,h3];simp only [decide_eq_true h4,h5,Bool.and_self,if_true]
theorem cQ {t:D->List D->Res (List D)} {body:FS} {x:D} {xs:List D} {ρ ρ1 ρ2:List D} {r:Res Fl} (h1:t x ρ=.ok ρ1) (h2:body ρ1=.ok (.nx ρ2)) (h3:tU t body xs ρ2=r):tU t body (x::xs) ρ=r:=by
 rw [tU,h1,Res.aK,h2,Res.aK];exact h3
theorem K1 (L:List D) (i:Int) (h0:0<=i) (h1:i<L.length):∃(h:i.toNat<L.length),getD (.lst L) (.int i)=.ok L[i.toNat]:=by
 have hlt:i.toNat<L.length:=by lia
 refine ⟨hlt,?_⟩;show Res.ofOpt ((ixD L.length i).bind fun j=>L[j]?)=_;unfold ixD;rw [if_pos h0,if_pos h1];simp only [Option.bind_some];rw [List.getElem?_eq_getElem hlt];rfl
theorem K3 (L:List D):uE [.lst L]=.ok (.int L.length):=rfl
theorem j_ {n:Nat} {it:FI} {t:D->Res (List D)} {c:FT} {f:FE} {k kk:Bool} {ρ:List D} {xs ys:List D} (h1:it ρ=.ok (xs,kk)) (h2:xs.length<=lim) (h3:m8 (lB n t c f k ρ) [] xs=.ok ys):fJ n it t c f k ρ=.ok (.lst ys):=by
 unfold fJ;rw [h1,Res.aK];simp only [decide_eq_true h2,if_true];rw [h3];rfl
theorem K4 {n:Nat} {c:FT} {f:FE} {k:Bool} {ρ acc:List D} {x y:D} {b:Bool} (hρ:ρ.length=n) (h1:c (ρ++[x])=.ok b) (h2:b=true->f (ρ++[x])=.ok y/\(k||y.pure)=true):lB n yM c f k ρ acc x=.ok (if b then acc++[y] else acc):=by
 unfold lB;show (do let ok <- c (yL n ρ++[x]);_)=_;rw [uN hρ,h1,Res.aK];cases b with
 | true=>
  obtain ⟨e1,e2⟩:=h2 rfl;rw [if_pos rfl,e1,Res.aK,if_pos e2,if_pos rfl];rfl
 | false=>
  rw [if_neg (by simp),if_neg (by simp)];rfl
theorem o_ {α:Type} (g:List D->D->Res (List D)) (d:α->D) (p:α->Bool) (y:α->D) (h:∀acc a,g acc (d a)=.ok (if p a then acc++[y a] else acc)):∀(xs:List α) (acc:List D),m8 g acc (xs.map d)=.ok (acc++(xs.filter p).map y)
 | [],acc=>by simp [m8]
 | x::xs,acc=>by
  rw [List.map_cons,m8,h];show m8 g _ _=_;rw [o_ g d p y h xs];by_cases hp:p x
  ·simp [hp]
  ·simp [hp]
theorem dX (a b:Int):bB .add (.int a) (.int b)=.ok (.int (a+b)):=rfl
theorem mX (a b:Int):bB .sub (.int a) (.int b)=.ok (.int (a-b)):=rfl
theorem aAo (a b:Int) (h:iV b=true):bB .mul (.int a) (.int b)=.ok (.int (a*b)):=by
 simp only [bB,h,Bool.or_true,if_true]
theorem W2 (a b:Int) (h:iV a=true):bB .mul (.int a) (.int b)=.ok (.int (a*b)):=by
 simp only [bB,h,Bool.true_or,if_true]
theorem iC (a b:Int) (h1:0<b) (h2:b<1073741824):bB .fdiv (.int a) (.int b)=.ok (.int (a / b)):=by
 simp only [bB,decide_eq_true h1,decide_eq_true h2,Bool.and_self,if_true]
theorem fP (a b:Int) (h1:0<b):bB .mod (.int a) (.int b)=.ok (.int (a % b)):=by
 simp only [bB,decide_eq_true h1,if_true]
theorem wC (a b:Str) (h:a.length+b.length<=lim):bB .add (.str a) (.str b)=.ok (.str (a++b)):=by
 simp only [bB,decide_eq_true h,if_true]
theorem wU (a b:List D) (h:a.length+b.length<=lim) (ha:D.aR a=true) (hb:D.aR b=true):bB .add (.lst a) (.lst b)=.ok (.lst (a++b)):=by
 simp only [bB,decide_eq_true h,ha,hb,Bool.and_self,if_true]
theorem uP (n:Nat) (h:n<=1000):bB .pow (.int 10) (.int n)=.ok (.int (10 ^ n)):=by
 have h1:decide ((0:Int)<=(n:Int))=true:=by simp
 have h2:decide ((n:Int)<=1000000)=true:=by simp;lia
 have h3:decide ((10:Int).natAbs<2 ^ 64)=true:=by decide
 simp only [bB,h1,h2,h3,Bool.and_self,if_true,Int.toNat_natCast]
theorem qQ (S:List Int):D.aR (S.map D.int)=true:=by
 induction S with
 | nil=>rfl
 | cons q Q ih=>rw [List.map_cons,D.aR,ih];rfl
end Mi
end
section
namespace Mi
open PySem L2 PySem.SeqAt PySem.Spec PyProof.Rows
section
variable {P:Program} {w:World} {K:PySem.W.Frag} {mg:Str->Option Value} {base:Heap} {N:List Str} {qual:Str} {scope:Scope} {f C:Addr} {cd:Value} {A:Around} {outer:List Env} {s:Shared} {H:Hp} {E:XK}
end
section
variable [KFrag]
end
end Mi
end
section
namespace Mi
open PySem L2 PySem.W PySem.SeqAt PySem.Spec PyProof.Rows PySem.Builtin PySem.Builtin.ObjectAttr PySem.Builtin.Getset_descriptor
section
variable {prog:Program} {w:World} {A:Around} {E:Value->Shared->Prop} {s:Shared} {K:Frag} {x C:Addr}
end
end Mi
end
section
namespace Mi
open PySem L2 PySem.W PySem.SeqAt PySem.Spec PyProof.Rows
section
variable {X:Cx} {pins:List (Addr×Obj)} {σ:L2.St} {H H1 H2:Hp} {s:Shared} {h h6:Heap} {a:Addr}
end
end Mi
end
section
namespace Mi
open PySem L2 PySem.W PySem.SeqAt PySem.Spec PyProof.Rows
variable [KFrag]
section
variable {X:Cx} {C:Addr} {i:Nat} {cs:List Addr} {b:Bool} {y:Str} {p np tpos pos:Pos} {es:List Expr} {kk:Nat} {ce:Expr} {v:V} {u:Value}
end
end Mi
end
section
namespace Mi
open PySem L2 PySem.SeqAt PySem.Spec PyProof.Rows
variable [KFrag]
section
variable {X:Cx} {a e:Expr} {es:List Expr} {p p2 pos pos2:Pos} {fs:FA} {rr:Bool}
end
section
variable {X:Cx} {own:Nat->Bool} {a b e:Expr} {pos:Pos} {fs:FA} {rr re:Bool} {fe:FE}
end
end Mi
end
section
namespace Mi
open PySem L2 PySem.SeqAt PySem.Spec PyProof.Rows
variable [KFrag]
section
variable {X:Cx} {pins:List (Addr×Obj)} {σ:L2.St} {H:Hp} {s:Shared} {a:Addr} {kvs:List (Key×V)}
end
noncomputable def aC6:HO->Bool
 | .tup _=>false
 | .frz _ (.lst _)=>false
 | _=>true
mutual
theorem zK {P:Addr->Prop} {H:Hp} {a:Addr} {u:HO} (ea:∀ob,H a=some ob->aC6 ob=true):∀{v:V} {d:D},Rep P H v d->d.pure=true->Rep P (upd H a u) v d
 | _,_,.non,_=>.non
 | _,_,.bl b,_=>.bl b
 | _,_,.int i,_=>.int i
 | _,_,.str x,_=>.str x
 | _,_,.tup (a:=b) e r,h=>.tup (by rw [bI (fun z=>by rw [z] at e;have:=ea _ e;cases this)];exact e) (jF ea r (by rw [D.pure] at h;exact h))
 | _,_,.lst _ _ _,h=>by rw [D.pure] at h;cases h
 | _,_,.frz e r,h=>.frz (e.imp (fun ⟨o,e⟩=>⟨o,by rw [bI (fun z=>by rw [z] at e;have:=ea _ e;cases this)];exact e⟩) id) (jF ea r (by rw [D.pure] at h;exact h))
 | _,_,.cel _ _ _,h=>by rw [D.pure] at h;cases h
 | _,_,.dK _ _ _ _,h=>by rw [D.pure] at h;cases h
 | _,_,.dT _ _ _ _,h=>by rw [D.pure] at h;cases h
 | _,_,.fdK _ _ _,h=>by rw [D.pure] at h;cases h
 | _,_,.fdT _ _ _,h=>by rw [D.pure] at h;cases h
theorem jF {P:Addr->Prop} {H:Hp} {a:Addr} {u:HO} (ea:∀ob,H a=some ob->aC6 ob=true):∀{v:List V} {d:List D},a_ P H v d->D.aR d=true->a_ P (upd H a u) v d
 | _,_,.nil,_=>.nil
 | _,_,.cons r t,h=>by
  rw [D.aR,Bool.and_eq_true] at h;exact .cons (zK ea r h.1) (jF ea t h.2)
end
section
variable {X:Cx} {scope:Scope} {x c:Str} {i n:Nat} {elt:Expr} {fe:FE} {re:Bool} {np ap cp cpos pos:Pos}
end
end Mi
end
section
namespace Mi
open PySem L2 PySem.SeqAt PySem.Spec PyProof.Rows AutoSeq1 MeetsSeq MeetsSeq2 MeetsSeq3
section
variable {P:Program} {w:World} {l b:Addr} {xs ys:Array Value} {n m:Nat} {dd de:Option Addr} {sl sm:Array (Option Value)} {e:Nat->Bool}
end
variable [KFrag]
section
variable {X:Cx} {pins:List (Addr×Obj)} {σ:L2.St} {H:Hp} {s:Shared}
end
end Mi
end
section
namespace Mi
open PySem L2 PySem.SeqAt PySem.Spec PyProof.Rows
variable [KFrag]
section
variable {P:Program} {w:World} {K:PySem.W.Frag} {mg:Str->Option Value} {base:Heap} {x qual:Str} {st:Stmt} {fad T:Addr} {its:Array Value} {fd:FuncData} {N ps:List Str} {k:Nat} {f:FS}
end
section
variable {X:Cx} {e ke:Expr} {es:List Expr} {pos p kp:Pos} {fs:FA} {rr re:Bool} {fk:FE} {x kw:Str} {k k' n:Nat} {df:D} {f:List D->Res D}
end
end Mi
end
section
namespace Mi
open PySem L2 PySem.SeqAt PySem.Spec PyProof.Rows
noncomputable def GC (c:FT) (body:FS):Nat->List D->Res Fl
 | 0,_=>.bad
 | n+1,ρ=>do
  let k <- c ρ
  if k then (do
   let r <- body ρ
   match r with
   | .nx ρ'=>GC c body n ρ'
   | .ct ρ'=>GC c body n ρ'
   | .bk ρ'=>.ok (.nx ρ')
   | .rt d=>.ok (.rt d))
  else .ok (.nx ρ)
noncomputable def aDw (c:FT) (body:FS):FS:=fun ρ=>GC c body 1000 ρ
variable [KFrag]
section
variable {X:Cx} {pos:Pos}
theorem aAp {own:Nat->Bool} {c:Expr} {body:List Stmt} {gc:FT} {fb:FS} (hp:PassesOwn (model X.prog X.w) X.A X.env X.xe) (hc:PT X c (gT gc)) (hb:PSs X body (tS own fb)):PS X (.While c body [] pos) (tS own (aDw gc fb)):=
 PS.imp (O_ hp hc hb) fun D σ H ⟨ρ,fl,E,h,q⟩=>by
 refine ⟨fun m σ' H'=>∃ρ' ,ES own H' σ' ρ'/\GC gc fb m ρ'=.ok fl/\kS own D σ' H' fl,⟨1000,ρ,E,h,q⟩,?_⟩;rintro m σ H ⟨ρ,E,h,q⟩;cases m with
 | zero=>cases h
 | succ m=>
  rw [GC] at h;obtain ⟨k,h1,h2⟩:=aU h;refine ⟨ρ,k,E.er,h1,fun H1 s=>?_⟩;cases k with
  | true=>
   rw [if_pos rfl];rw [if_pos rfl] at h2;obtain ⟨r,h3,h4⟩:=aU h2;refine ⟨fun σ' H'=>∃ρ',ES own H' σ' ρ'/\GC gc fb m ρ'=.ok fl/\kS own D σ' H' fl,fun σ' H' w=>⟨m,Nat.lt_succ_self m,w⟩,ρ,r,E.same s,h3,?_⟩;have q1:=q.step (.same s);cases r with
   | nx ρ'=>exact fun σ' H' ku E'=>⟨ρ',E',h4,q1.step ku⟩
   | ct ρ'=>exact fun σ' H' ku E'=>⟨ρ',E',h4,q1.step ku⟩
   | bk ρ'=>cases h4;exact fun σ' H' ku E'=>q1 σ' H' ku E'
   | rt d=>cases h4;exact q1
  | false=>
   rw [if_neg (by simp)];rw [if_neg (by simp)] at h2;cases h2;exact (q.step (.same s)) σ H1 (fun a o e n=>⟨e,n⟩) (E.same s)
end
end Mi
end
section
namespace Mi
open PySem L2 PySem.SeqAt PySem.Spec PyProof.Rows
variable [KFrag]
section
variable {X:Cx} {own:Nat->Bool} {e:Expr} {fe:FE} {re:Bool} {pos:Pos}
end
end Mi
end
section
namespace Mi
open PySem L2 PySem.SeqAt PySem.Spec PyProof.Rows
variable [KFrag]
section
variable {X:Cx} {pins:List (Addr×Obj)} {σ:L2.St} {H:Hp} {s:Shared} {a:Addr} {kvs:List (Key×V)}
end
end Mi
end
section
namespace Mi
open PySem L2 PySem.SeqAt PySem.Spec PyProof.Rows
variable [KFrag]
section
variable {X:Cx} {scope:Scope} {own:Nat->Bool} {x c y:Str} {i n iy:Nat} {elt cnd:Expr} {fe:FE} {gc:FT} {re o:Bool} {np cpos pos py pos2:Pos}
end
section
variable {own:Nat->Bool}
end
end Mi
end
section
namespace Wz
open PySem PySem.Spec
section
variable {prog:Program} {w:World} {A:Around} {E:Value->Shared->Prop} {s:Shared} {it t:Addr} {i:Nat} {xs:Array Value} {x:Value} {n:Nat} {dd:Option Addr} {sl:Array (Option Value)}
end
section
variable {z TI TO i1 i2 l1 l2:Addr} {o1 o2:Obj} {f0 f1 g0 g1 a b c d:Value} {k1 k2:Nat} {h h':Heap}
end
section
variable {prog:Program} {w:World} {A:Around} {E:Value->Shared->Prop} {s:Shared} {z TI TO i1 i2 l1 l2:Addr} {n1 n2:Nat} {d1 d2:Option Addr} {s1 s2:Array (Option Value)} {f0 f1 a b x y:Value} {k:Nat} {xs ys:Array Value}
end
end Wz
end
section
namespace Wz
open PySem PySem.Spec
section
variable {prog:Program} {w:World} {A:Around} {E:Value->Shared->Prop} {s:Shared} {z TI TO i1 i2 l1 l2:Addr} {n1 n2:Nat} {d1 d2:Option Addr} {s1 s2:Array (Option Value)} {f0 f1 a b x y:Value} {k:Nat} {xs ys:Array Value}
end
end Wz
end
section
namespace Wz
open PySem PySem.Spec
section
variable {prog:Program} {w:World} {A:Around} {E:Value->Shared->Prop} {s:Shared}
end
section
variable {prog:Program} {w:World} {A:Around} {E:Value->Shared->Prop} {hp:Heap} {g:Array GenState} {d:Drawn} {tk:Nat} {os:OsState} {a TI TO:Addr} {f0 f1:Value}
end
end Wz
end
section
namespace Wz
open PySem PySem.Spec
section
variable {prog:Program} {w:World} {A:Around} {E:Value->Shared->Prop} {s:Shared} {z TI TO i1 i2 l1 l2 d:Addr} {n1 n2:Nat} {d1 d2:Option Addr} {s1 s2:Array (Option Value)} {x y:Value} {k:Nat} {xs ys:Array Value}
end
section
variable {prog:Program} {w:World} {K:Type} [DecidableEq K] {knd:KeyKind prog w K} {A:Around} {R:Except Value Flow->Shared->Prop} {z TI TO i1 i2 l1 l2 d:Addr} {n1 n2:Nat} {d1 d2:Option Addr} {s1 s2:Array (Option Value)} {xs ys:Array Value} {ks:List K}
end
section
variable {prog:Program} {w:World} {K:Type} [DecidableEq K] {knd:KeyKind prog w K} {A:Around} {E:Value->Shared->Prop} {hp:Heap} {g:Array GenState} {dr:Drawn} {tk:Nat} {os:OsState} {z TI TO i1 i2 l1 l2:Addr} {n1 n2:Nat} {d1 d2:Option Addr} {s1 s2:Array (Option Value)} {xs ys:Array Value} {ks:List K}
end
end Wz
end
section
namespace Mi
open PySem L2 PySem.SeqAt PySem.Spec PyProof.Rows
variable [KFrag]
section
variable {X:Cx} {a b:Expr} {fs:FA} {rr:Bool} {p p2 pos pos2:Pos}
end
end Mi
end
section
namespace Mi
open PySem L2 PySem.SeqAt PySem.Spec PyProof.Rows
noncomputable def aC7:List D->Res D
 | [.bl b]=>.ok (.int (if b then 1 else 0))
 | [.int i]=>.ok (.int i)
 | _=>.bad
variable [KFrag]
theorem W3 {X:Cx}:gY X (.type "int") (rs aC7 true):=by
 intro pins s σ H xs us Q I vr ⟨ds,d,r,e,k⟩;unfold aC7 at e;split at e
 ·cases e;obtain ⟨vv,uu,rfl,rfl,r,v⟩:=fY r vr;cases r;cases v;exact call_int_bool ⟨.int _,H,I.tok _,⟨_,rfl⟩,k.int⟩
 ·cases e;obtain ⟨vv,uu,rfl,rfl,r,v⟩:=fY r vr;cases r;obtain ⟨t,rfl⟩:=v;exact call_int_int ⟨.int _,H,I,⟨_,rfl⟩,k.int⟩
 ·cases e
section
variable {X:Cx} {own:Nat->Bool} {e:Expr} {fe:FE} {re:Bool} {pos:Pos}
end
end Mi
end
section
namespace Ws
open PySem PySem.Spec PySem.Builtin PySem.Builtin.Str
end Ws
namespace Mi
open PySem L2 PySem.SeqAt PySem.Spec PyProof.Rows
variable [KFrag]
end Mi
end
section
namespace Ws
open PySem PySem.Spec PySem.Builtin PySem.SeqAt PyProof.Rows
section
variable {prog:Program} {w:World} {A:Around} {E:Value->Shared->Prop} {s:Shared}
end
end Ws
namespace Mi
open PySem L2 PySem.SeqAt PySem.Spec PyProof.Rows
variable [KFrag]
section
variable {X:Cx}
end
end Mi
end
section
namespace Mi
open PySem L2 PySem.W PySem.SeqAt PySem.Spec PyProof.Rows
section
variable {prog:Program} {w:World} {K:Type}
variable [DecidableEq K] (knd:HeapKind prog w K)
variable (d a:Addr)
end
section
variable [KFrag]
variable {X:Cx} {pos:Pos}
section
variable {own:Nat->Bool} {e:Expr} {fe:FE} {re:Bool}
end
end
end Mi
end
section
namespace Mi
open PySem L2 PySem.W PySem.SeqAt PySem.Spec PyProof.Rows
noncomputable def GD (h:Heap) (d:Addr) (es:Array DictEntry) (ep:Nat):Prop:=∃o,h.get? d=some o/\o.ExactDict/\o.data=.dict es ep
theorem GD.ty {s:Shared} {d:Addr} {es:Array DictEntry} {ep:Nat} (x:GD s.heap d es ep):s.TypeIs (.ref d) "dict":=let ⟨o,e,c,_⟩:=x;⟨o,e,c.1⟩
theorem GD.at {h h':Heap} {d:Addr} {es:Array DictEntry} {ep:Nat} (x:GD h d es ep) (k:∀o,h.get? d=some o->h'.get? d=some o):GD h' d es ep:=let ⟨o,e,r⟩:=x;⟨o,k o e,r⟩
section
variable {prog:Program} {w:World} {A:Around} {E:Value->Shared->Prop} {s:Shared} {d it:Addr} {es:Array DictEntry} {ep i:Nat}
theorem Q3 {Q:Value->Shared->Prop} (hd:(d==sysModules)=false) (x:GD s.heap d es ep) (q:Q (.ref s.heap.objs.size) {s with heap:=s.heap.push {cls:=.type "dict_keyiterator",data:=.fields #[.ref d,.int 0 0,.int es.size 0,.int ep 0]}}):wpAny (model prog w) A (pyIter (.ref d)) Q E s:=by
 have T:=x.ty;obtain ⟨o,e1,e2,e3⟩:=x;refine wpAny_pyIter_slot T F.slot_dict_iter (wpAny_call_entry F.slot_dict_iter T F.entry_dict_iter (?_:wpAny _ _ (Builtin.«dict.__iter__» _) _ _ _) (F.args_dict_iter_1 _));unfold Builtin.«dict.__iter__» Builtin.Dict.dictSlotNone Builtin.Dict.showsAll;refine wpAny_bind (wpAny_bind (wpAny_notOrdered_dict T (?_:wpAny _ _ (pure (Value.ref d)) _ _ s)));refine wpAny_pure (?_:wpAny _ _ ((if d==sysModules then _ else _) >>= _) _ _ s);rw [if_neg (by rw [hd];simp)];refine wpAny_bind (wpAny_pure (wpAny_bind (wpAny_dictEntries e1 e3 (wpAny_bind (wpAny_dictEpoch e1 e3 ?_)))));exact wpAny_bind (wpAny_newObj_type (wpAny_pure ⟨_,rfl, "dict_keyiterator",_,⟨_,Heap.get?_push_size _ rfl,rfl⟩,F.slot_dict_keyiterator_next.lookup,q⟩))
theorem Q4 {Q:Option Value->Shared->Prop} (y:s.heap.IsKeyIter it d i es.size ep) (x:GD s.heap d es ep) (hi:i<es.size) (q:∀h',h'.IsKeyIter it d (i+1) es.size ep->Heap.SameBut it s.heap h'->Q (some es[i].key) {s with heap:=h'}):wpAny (model prog w) A (pyNext (.ref it)) Q E s:=by
 have T:=y.typeIs;obtain ⟨o,o1,o2,o3⟩:=y;obtain ⟨od,e1,e2,e3⟩:=x;have own:Builtin.Dict_items.ownsTuple "dict_keyiterator" = false:=by decide
 unfold pyNext;refine wpAny_bind (wpAny_attempt (wpAny_callSpecial?_slot (name:=Str.ofString "__next__") T F.slot_dict_keyiterator_next (wpAny_call_entry F.slot_dict_keyiterator_next T F.entry_dict_keyiterator_next ?_ (F.args_dict_keyiterator_next_1 _))));refine wpAny_bind (wpAny_pure (wpAny_bind (wpAny_bind ?_)))
 first|refine wpAny_bind (wpAny_typeNameOfWhole_keyiter T (wpAny_pure (wpAny_bind (wpAny_fieldsOf o1 o3 ?_))))|refine wpAny_bind (wpAny_typeNameOf_keyiter T (wpAny_pure (wpAny_bind (wpAny_fieldsOf o1 o3 ?_))))
 rw [own];refine (?_:wpAny _ _ (ite ((Value.ref d==Value.none)=true) _ _) _ _ s);rw [if_neg (by intro z;cases z)];refine wpAny_bind (wpAny_pure (wpAny_bind (wpAny_dictEntries e1 e3 ?_)));rw [if_neg (by simp)];refine wpAny_bind (wpAny_pure (wpAny_bind (wpAny_dictEpoch e1 e3 ?_)));rw [if_neg (by simp)];refine wpAny_pure ?_;simp only [show ¬((i:Int)<0) from by lia,if_false,Int.toNat_natCast,Array.getElem?_eq_getElem hi];refine wpAny_bind ?_
 first|refine wpAny_bind (wpAny_typeNameOfWhole_keyiter T (wpAny_pure (wpAny_bind (wpAny_isOneOf_keyiter T ?_))))|refine wpAny_bind (wpAny_typeNameOf_keyiter T (wpAny_pure (wpAny_bind (wpAny_isOneOf_keyiter T ?_))))
 refine wpAny_bind (m:=setField (.ref it) 1 (rawInt ((i:Int)+1))) (wpAny_setField o1 o3 (by simp) ?_);have z:(s.heap.update it (Obj.mapFields (·.setIfInBounds 1 (rawInt ((i:Int)+1))))).IsKeyIter it d (i+1) es.size ep:=⟨_,Heap.get?_update_self _ o1 (Obj.isFreed_of_fields (Obj.data_mapFields o3 _)),(Obj.cls_mapFields ..).trans o2,by rw [Obj.data_mapFields o3];simp [rawInt]⟩
 refine wpAny_bind (wpAny_holding (wpAny_bind (wpAny_isOneOf_keyiter (s:={s with heap:=s.heap.update it (Obj.mapFields (·.setIfInBounds 1 (rawInt ((i:Int)+1))))}) z.typeIs (?_:wpAny _ _ (pure es[i].key) _ _ _))));exact wpAny_pure (wpAny_pure ⟨_,rfl,wpAny_pure (q _ z (Heap.SameBut.update ..))⟩)
theorem W4 {Q:Option Value->Shared->Prop} (hh:A.handled=none) (y:s.heap.IsKeyIter it d i es.size ep) (x:GD s.heap d es ep) (hi:es.size<=i) (q:∀h',Heap.ExtBut it s.heap h'->Q none {s with heap:=h'}):wpAny (model prog w) A (pyNext (.ref it)) Q E s:=by
 have T:=y.typeIs;obtain ⟨o,o1,o2,o3⟩:=y;obtain ⟨od,e1,e2,e3⟩:=x;have own:Builtin.Dict_items.ownsTuple "dict_keyiterator" = false:=by decide
 unfold pyNext;refine wpAny_bind (wpAny_attempt (wpAny_callSpecial?_slot (name:=Str.ofString "__next__") T F.slot_dict_keyiterator_next (wpAny_call_entry F.slot_dict_keyiterator_next T F.entry_dict_keyiterator_next ?_ (F.args_dict_keyiterator_next_1 _))));refine wpAny_bind (wpAny_pure (wpAny_bind (wpAny_bind ?_)))
 first|refine wpAny_bind (wpAny_typeNameOfWhole_keyiter T (wpAny_pure (wpAny_bind (wpAny_fieldsOf o1 o3 ?_))))|refine wpAny_bind (wpAny_typeNameOf_keyiter T (wpAny_pure (wpAny_bind (wpAny_fieldsOf o1 o3 ?_))))
 rw [own];refine (?_:wpAny _ _ (ite ((Value.ref d==Value.none)=true) _ _) _ _ s);rw [if_neg (by intro z;cases z)];refine wpAny_bind (wpAny_pure (wpAny_bind (wpAny_dictEntries e1 e3 ?_)));rw [if_neg (by simp)];refine wpAny_bind (wpAny_pure (wpAny_bind (wpAny_dictEpoch e1 e3 ?_)));rw [if_neg (by simp)];refine wpAny_pure ?_;simp only [show ¬((i:Int)<0) from by lia,if_false,Int.toNat_natCast,Array.getElem?_eq_none hi];refine wpAny_bind ?_
 first|refine wpAny_bind (wpAny_typeNameOfWhole_keyiter T (wpAny_pure ?_))|refine wpAny_bind (wpAny_typeNameOf_keyiter T (wpAny_pure ?_))
 refine wpAny_bind (m:=setField (.ref it) 0 .none) (wpAny_setField o1 o3 (by simp) (wpAny_bind (m:=newExc (.type "StopIteration") []) ?_));simp only [newExc,newTuple];refine wpAny_bind (wpAny_newObj_type (wpAny_bind (m:=firstArgMember _ _) (wpAny_of_eq (a:=Value.none) (by first|rfl|(simp only [firstArgMember];rfl)) (wpAny_newObj_type ?_ (by size_fits)))) (by size_fits));simp only [raiseNew];have hh':A.in1.handled=none:=hh;refine wpAny_bind (wpAny_handled ?hd);rw [hh'];refine wpAny_bind (wpAny_pure (wpAny_throw ?thrown));refine wpAny_bind (wpAny_isInstance (b:=true) (T := "StopIteration") ⟨_,Heap.get?_push_size _ rfl,rfl⟩ isSubtype_stop ?_);exact wpAny_pure (q _ (((Heap.SameBut.update ..).extBut.push _).push _))
theorem K5 (hh:A.handled=none) (I d:Addr) (hne:d≠I) (es:Array DictEntry) (ep:Nat):Walks prog w A I [I,d] [I] es.size (fun i v=>∃h:i<es.size,v=es[i].key) (fun i h=>h.IsKeyIter I d i es.size ep/\GD h d es ep) where
 sub:=fun b hb=>List.mem_cons.mpr (.inl (List.mem_singleton.mp hb))
 frame:=fun _ _ _ st hk=>⟨Heap.IsKeyIter.at st.1 fun o e=>hk I (by simp) o e,st.2.at fun o e=>hk d (by simp) o e⟩
 item:=fun i s Q E hi st hQ=>Q4 st.1 st.2 hi fun h' z sb=>hQ _ h' s.toks ⟨hi,rfl⟩ ⟨z,st.2.at fun o e=>sb.extBut d o hne e⟩ fun b o hb e=>sb.extBut b o (fun h=>hb (by simp [h])) e
 done:=fun s Q E st hQ=>W4 hh st.1 st.2 (Nat.le_refl _) fun h' ex=>hQ h' s.toks fun b o hb e=>ex b o (fun h=>hb (by simp [h])) e
 self:=fun _ _ _ _ at_ q=>wpAny_pyIter_keyiter at_.1 q
end
end Mi
end
section
namespace Mi
open PySem L2 PySem.W PySem.SeqAt PySem.Spec PyProof.Rows
section
variable {prog:Program} {w:World} {A:Around} {E:Value->Shared->Prop} {s:Shared} {r:Addr}
noncomputable def aD7 (s:Shared) (F:Array Value->Prop) (q:Result) (s':Shared):Prop:=∃(h':Heap) (tk:Nat) (acc:Array Value) (c:Nat),q=.ok (.ret (.ref s.heap.objs.size))/\s'={s with heap:=h',toks:=tk}/\(∀b o,s.heap.get? b=some o->h'.get? b=some o)/\h'.get? s.heap.objs.size=some {cls:=.type "list",dict:=none,data:=.seq acc c,slots:=#[]}/\F acc
theorem K6 {Q:List Value->Shared->Prop} {F:Array Value->Prop}
  (key:wpAny (model prog w) A.in1 (Builtin.List.listExtendWith (.ref s.heap.objs.size) (.ref r) (.ref s.heap.objs.size)) (fun fin s'=>match fin with|.done f=>aD7 s F (.ok f) s'|.again c'=>c'.quiet=true/\codeAny (model prog w) A c' (aD7 s F) s') (fun e s'=>aD7 s F (.error e) s') {s with heap:=s.heap.push {cls:=.type "list",data:=.seq ([]:List Value).toArray}})
  (q:∀h' tk acc,(∀b o,s.heap.get? b=some o->h'.get? b=some o)->s.heap.objs.size<=h'.objs.size->F acc->Q acc.toList {s with heap:=h',toks:=tk}):wpAny (model prog w) A (collect (.ref r)) Q E s:=by
 have last:∀{h':Heap} {tk:Nat} {acc:Array Value} {c:Nat},(∀b o,s.heap.get? b=some o->h'.get? b=some o)->h'.get? s.heap.objs.size=some {cls:=.type "list",dict:=none,data:=.seq acc c,slots:=#[]}->F acc->wpAny (model prog w) A (load s.heap.objs.size >>= fun o=>match o.data with|.seq xs _=>pure xs.toList|_=>unsupported "internal:collect") Q E {s with heap:=h',toks:=tk}:=fun kp at_ f=>wpAny_bind (wpAny_load at_ (wpAny_pure (q _ _ _ kp (Nat.le_of_lt (Heap.lt_size at_)) f)))
 unfold collect;refine wpAny_bind (wpAny_runValue (codeAny_builtin entry_proto_collect' (?_:wpAny _ _ (newList [] >>= fun l=>again (.builtin "list.__iadd__" ⟨[l,.ref r],[]⟩)) _ _ s)));rw [Around.under_plainId PySem.F.plain_proto_collect];refine wpAny_bind (wpAny_newObj_type (wpAny_pure ⟨plainId_quiet PySem.F.plain_list_iadd _,codeAny_builtin entry_list_iadd' (?_:wpAny _ _ (Builtin.List.listExtendWith _ _ _) _ _ _)⟩));rw [Around.under_plainId PySem.F.plain_list_iadd];refine wpAny_mono key (fun fin s' x=>?_) fun e s' ⟨_,_,_,_,z,_⟩=>nomatch z
 cases fin with
 | done f=>
  obtain ⟨h',tk,acc,c,e,rfl,kp,at_,f⟩:=x;cases e;exact last kp at_ f
 | again c1=>
  refine ⟨x.1,codeAny_mono x.2 fun p s2 y=>?_⟩;obtain ⟨h',tk,acc,c,rfl,rfl,kp,at_,f⟩:=y;exact last kp at_ f
theorem W5 {Q:List Value->Shared->Prop} {o:Obj} {its:Array Value} {n:Nat} (ho:s.heap.get? r=some o) (hc:o.cls=.type "tuple") (hd:o.data=.seq its n) (hz:its.size<=sizeLine)
  (q:∀h' tk,(∀b o,s.heap.get? b=some o->h'.get? b=some o)->s.heap.objs.size<=h'.objs.size->Q its.toList {s with heap:=h',toks:=tk}):wpAny (model prog w) A (collect (.ref r)) Q E s:=by
 have hS:=Heap.get?_push_size (h:=s.heap) (o:={cls:=.type "list",data:=.seq ([]:List Value).toArray}) rfl;obtain ⟨c,hc2⟩:∃c,((s.heap.push {cls:=.type "list",data:=.seq ([]:List Value).toArray}).update s.heap.objs.size (Obj.mapSeq (·++its))).get? s.heap.objs.size=some {cls:=.type "list",dict:=none,data:=.seq its c,slots:=#[]}:=by
  rw [Heap.get?_update_self (Obj.mapSeq (·++its)) hS rfl];simp only [Obj.mapSeq,Array.empty_append];exact ⟨_,rfl⟩
 refine K6 (F:=fun acc=>acc=its) (wpAny_extend_seq (hsz:=hz) (s:={s with heap:=s.heap.push {cls:=.type "list",data:=.seq ([]:List Value).toArray}}) _ r _ 0 (.inr rfl) hS (Heap.get?_push_of_some _ ho) hc hd ⟨_,s.toks,its,c,rfl,rfl,fun b o' hb=>?_,hc2,rfl⟩) fun h' tk acc kp sz e=>by rw [e];exact q h' tk kp sz
 exact (Heap.get?_update_other _ _ (Nat.ne_of_gt (Heap.lt_size hb))).trans ((Heap.get?_push_of_some _ hb))
theorem W6 {d:Addr} {es:Array DictEntry} {ep:Nat} (lo:(d==sysModules)=false):KdlSrc prog w "dict" d d es.size (fun i v=>∃h:i<es.size,v=es[i].key) (fun h=>GD h d es ep) where
 type:=fun _ x=>x.ty
 there:=fun h x=>by obtain ⟨o,e,_⟩:=x;exact ⟨Heap.lt_size e,Heap.lt_size e⟩
 keep:=fun _ _ x k=>x.at fun o e=>k d (.inl rfl) o e
 notList:=rfl
 notTuple:=rfl
 hint:=fun _ _ _ _ x q=>kdl_hint_dict x.ty q
 iter:=fun _ s hh x=>⟨_,_,fun _ _ q=>Q3 lo x q,K5 hh _ d (by obtain ⟨o,e,_⟩:=x;exact Nat.ne_of_lt (Heap.lt_size e)) es ep,⟨_,Heap.get?_push_size _ rfl,rfl,rfl⟩,x.at fun o e=>Heap.get?_push_of_some _ e⟩
theorem K7 {Q:List Value->Shared->Prop} {d:Addr} {es:Array DictEntry} {ep:Nat} (hh:A.handled=none) (lo:(d==sysModules)=false) (x:GD s.heap d es ep) (hz:es.size<=sizeLine)
  (q:∀h' tk,(∀b o,s.heap.get? b=some o->h'.get? b=some o)->s.heap.objs.size<=h'.objs.size->Q (es.toList.map (·.key)) {s with heap:=h',toks:=tk}):wpAny (model prog w) A (collect (.ref d)) Q E s:=by
 have lt:d<s.heap.objs.size:=by obtain ⟨o,e,_⟩:=x;exact Heap.lt_size e
 refine K6 (F:=fun acc=>acc.toList=es.toList.map (·.key)) (kdl_extend (W6 (prog:=prog) (w:=w) (es:=es) (ep:=ep) lo) hh (x.at fun o e=>Heap.get?_push_of_some _ e) s.heap.objs.size (Nat.ne_of_gt lt) (Nat.ne_of_gt lt) _ 0 (Heap.get?_push_size _ rfl) (fun h' tk acc c kp at_ it=>⟨h',tk,acc,c,rfl,rfl,fun b o e=>kp b o (Nat.ne_of_lt (Heap.lt_size e)) (Heap.get?_push_of_some _ e),at_,?_⟩) hz) fun h' tk acc kp sz e=>by rw [e];exact q h' tk kp sz
 refine List.ext_getElem? fun i=>?_
 by_cases hi:i<es.size
 ·obtain ⟨v,hv⟩:∃v,acc[i]?=some v:=⟨acc[i]'(by rw [it.1];exact hi),by simp [it.1,hi]⟩
  obtain ⟨_,e⟩:=it.2 i v hv;rw [Array.getElem?_toList,hv,e,List.getElem?_map,Array.getElem?_toList,Array.getElem?_eq_getElem hi];rfl
 ·rw [Array.getElem?_toList,Array.getElem?_eq_none (by rw [it.1];lia),List.getElem?_eq_none (by simpa using hi)]
end
noncomputable def sO:List D->Res D
 | [.dct kvs]=>if kvs.all (fun p=>isTup p.1)&&bF (VR kvs) then .ok (.lst (iW (VR kvs))) else .bad
 | [.tup xs]=>if bF xs then .ok (.lst (iW xs)) else .bad
 | ds=>iZ ds
variable [KFrag]
section
variable {X:Cx}
theorem aAq {H:Hp} {s:Shared} {pins:List (Addr×Obj)} {σ:L2.St} {a:Addr} {kvs:List (List Key×V)} (I:Inv X pins σ H s) (e:H a=some (.dT kvs)):∃(es:Array DictEntry) (ep:Nat) (xs:List (List Key×Addr×Value)),GD s.heap a es ep/\(a==sysModules)=false/\kvs.length<=sizeLine/\KT H kvs xs/\es.toList=xs.map (entryOfKey (tupleKind (cN X.prog X.w))):=by
 obtain ⟨z,hd,xs,rel,o,es,ep,h1,h2,h3,h4,_⟩:=HQ I.hok e;exact ⟨es,ep,xs,⟨o,h1,h2,h3⟩,hd,z,rel,h4⟩
theorem pA {H:Hp}:∀k:List Key,a_ All H (k.map kV) (k.map kD)
 | []=>.nil
 | .inl i::r=>.cons (.int i) (pA r)
 | .inr x::r=>.cons (.str x) (pA r)
theorem W7 {H:Hp} {P:Addr->Prop} {kvs:List (List Key×V)} {xs:List (List Key×Addr×Value)} (rel:KT H kvs xs):∀{ds:List (D×D)},lC P H kvs ds->Vals (xs.map fun x=>V.ref x.2.1) (xs.map fun x=>Value.ref x.2.1)/\a_ All H (xs.map fun x=>V.ref x.2.1) (VR ds):=by
 induction rel with
 | nil=>
  intro ds r;cases r;exact ⟨.nil,.nil⟩
 | @cons p q ps qs h t ih=>
  intro ds r;cases r with
  | cons r u=>
   obtain ⟨h1,h2⟩:=ih u;exact ⟨.cons rfl h1,.cons (.tup h.2.1 (pA _)) h2⟩
theorem DK (hc:X.calm=true) (hu:X.A.units+20<cLine):gY X (.builtin "sorted") (rs sO true):=by
 intro pins s σ H xs us Q I vr ⟨ds,d,r,e,k⟩;have fin:∀{ys:List D},bF ys=true->d=.lst (iW ys)->∀p xs',H p=none->a_ All H xs' (iW ys)->Q (.ref p) (upd H p (.lst xs')):=fun {ys} hl e p xs' hp r'=>by
  subst e;have sp:bZ H (upd H p (.lst xs')):=bZ.upd hp;exact k _ _ sp (.lst aL trivial (r'.same sp)) fun _=>.lst aL hp ((r'.bD (oV hl)).same sp)
 unfold sO at e;split at e
 ·rename_i kvs;split at e
  ·rename_i hl;rw [Bool.and_eq_true] at hl;cases e;obtain ⟨vv,uu,rfl,rfl,r,v⟩:=fY r vr;have key:∀{H':Hp} {a:Addr} {kk:List (List Key×V)},Inv X pins σ H' s->H' a=some (.dT kk)->lC All H' kk kvs->H'=H->vv=.ref a->wpAny (model X.prog X.w) X.A (call (.builtin "sorted") [.ref a]) (EP X pins σ Q) X.xe s:=fun {H' a kk} I' e rt eH _=>by
    subst eH;obtain ⟨es,ep,zs,raw,lo,hz,rel,he⟩:=aAq I' e;obtain ⟨r1,r2⟩:=W7 rel rt;have hl2:es.size=zs.length:=by rw [<-Array.length_toList,he,List.length_map]
    have hl3:kk.length=zs.length:=Paired.length rel;have keys:es.toList.map (·.key)=zs.map fun x=>Value.ref x.2.1:=by rw [he,List.map_map];rfl
    exact h_ I' hu r1 (by rw [List.length_map,<-hl3];exact hz) r2 hl.2 (fun Q' E' h=>K7 (I'.ok.hd hc) lo raw (by rw [hl2,<-hl3];exact hz) fun h1 tk kp sz=>by rw [keys];exact h h1 tk kp sz) (fin hl.2 rfl)
   cases r with
   | dK e _ rk _=>
    cases rk with
    | cons r t=>
     have:=hl.1;rw [List.all_cons,iB] at this;cases this
    | nil=>
     cases v;obtain ⟨_,lo,vs,rel,o,es,ep,e1,e2,e3,_,hp,_⟩:=BL I.hok e;have h0:vs.length=0:=by rw [<-rel.length];rfl
     have h1:es.toList=[]:=List.eq_nil_of_length_eq_zero (by rw [hp.length];exact h0);exact h_ I hu .nil (Nat.zero_le _) .nil hl.2 (fun Q' E' h=>K7 (I.ok.hd hc) lo ⟨o,e1,e2,e3⟩ (by rw [<-Array.length_toList,h1];exact Nat.zero_le _) fun h' tk kp sz=>by rw [h1];exact h h' tk kp sz) (fin hl.2 rfl)
   | dT e _ rt _=>
    cases v;exact key I e rt rfl rfl
  ·cases e
 ·rename_i ys;split at e
  ·rename_i hl;cases e;obtain ⟨vv,uu,rfl,rfl,r,v⟩:=fY r vr;cases r with
   | tup e rr=>
    cases v;obtain ⟨its,vr,o,ho,hc',n,hd⟩:=d8 I e;have hz:=I.hok _ _ e;exact h_ I hu vr (by rw [<-vr.length];exact hz.1) rr hl (fun Q' E' h=>W5 ho hc' hd (by rw [List.size_toArray,<-vr.length];exact hz.1) fun h1 tk kp sz=>by simpa using h h1 tk kp sz) (fin hl rfl)
  ·cases e
 ·exact lG hu pins s σ H xs us Q I vr ⟨_,d,r,e,k⟩
end
end Mi
end
section
namespace Mi
open PySem L2 PySem.SeqAt PySem.Spec PyProof.Rows
noncomputable abbrev FX:=List D->Res (D×List D)
noncomputable abbrev FXT:=List D->Res (Bool×List D)
noncomputable abbrev FXA:=List D->Res (List D×List D)
noncomputable def mJ:D->Option (List D)
 | .lst xs=>some xs
 | .cel _ xs=>some xs
 | _=>none
noncomputable def pU:D->List D->D
 | .cel a _,xs=>.cel a xs
 | _,xs=>.lst xs
noncomputable def j7 (k:Nat):Nat->Bool:=fun i=>decide (i<k)
open Classical in
noncomputable def ch1 (f:List D->Res D) (xs rest:List D):Res (D×List D):=
 if h:∃p:D×List D,∀b,f (.cel b xs::rest)=.ok (.tup [p.1,.cel b p.2]) then .ok h.choose else .bad
open Classical in
noncomputable def ch2 (f:List D->Res D) (xs ys:List D):Res (D×List D×List D):=
 if h:∃p:D×List D×List D,∀b c,b≠c->f [.cel b xs,.cel c ys]=.ok (.tup [p.1,.cel b p.2.1,.cel c p.2.2]) then .ok h.choose else .bad
theorem aAr {f:List D->Res D} {xs rest:List D} {p:D×List D} (h:ch1 f xs rest=.ok p):∀b,f (.cel b xs::rest)=.ok (.tup [p.1,.cel b p.2]):=by
 unfold ch1 at h;split at h
 ·rename_i e;cases h;exact e.choose_spec
 ·cases h
theorem uQ {f:List D->Res D} {xs rest xs':List D} {r:D} (h:∀b,f (.cel b xs::rest)=.ok (.tup [r,.cel b xs'])):ch1 f xs rest=.ok (r,xs'):=by
 have e:∃p:D×List D,∀b,f (.cel b xs::rest)=.ok (.tup [p.1,.cel b p.2]):=⟨(r,xs'),h⟩
 have q:ch1 f xs rest=.ok e.choose:=by unfold ch1;rw [dif_pos e]
 rw [q];have z:=e.choose_spec 0;rw [h 0] at z;injection z with z
 injection z with z
 injection z with z1 z2
 injection z2 with z2
 injection z2 with _ z2
 rw [z1,z2]
theorem TJ {f:List D->Res D} {xs ys:List D} {p:D×List D×List D} (h:ch2 f xs ys=.ok p):∀b c,b≠c->f [.cel b xs,.cel c ys]=.ok (.tup [p.1,.cel b p.2.1,.cel c p.2.2]):=by
 unfold ch2 at h;split at h
 ·rename_i e;cases h;exact e.choose_spec
 ·cases h
theorem aAs {f:List D->Res D} {xs ys xs' ys':List D} {r:D} (h:∀b c,b≠c->f [.cel b xs,.cel c ys]=.ok (.tup [r,.cel b xs',.cel c ys'])):ch2 f xs ys=.ok (r,xs',ys'):=by
 have e:∃p:D×List D×List D,∀b c,b≠c->f [.cel b xs,.cel c ys]=.ok (.tup [p.1,.cel b p.2.1,.cel c p.2.2]):=⟨(r,xs',ys'),h⟩
 have q:ch2 f xs ys=.ok e.choose:=by unfold ch2;rw [dif_pos e]
 rw [q];have z:=e.choose_spec 0 1 (by decide);rw [h 0 1 (by decide)] at z;injection z with z
 injection z with z
 injection z with z1 z2
 injection z2 with z2 z3
 injection z2 with _ z2
 injection z3 with z3
 injection z3 with _ z3
 rw [z1,z2,z3]
noncomputable def aD8 (k:Nat):Fl->Res D
 | .rt (.tup (d::ρ))=>.ok (.tup (d::ρ.take k))
 | .nx ρ=>.ok (.tup (.non::ρ.take k))
 | _=>.bad
noncomputable def fnX (k n m:Nat) (f:FS):List D->Res D:=fun ds=>do
 let r <- f (ds++List.replicate (m-n) .uDf)
 aD8 k r
noncomputable def cG (f:List D->Res D) (n i:Nat) (fs:FA):FX:=fun ρ=>do
 let rest <- fs ρ
 match mJ (ρ.getD i .uDf) with
 | some xs=>if decide (rest.length+1=n) then (do
   let p <- ch1 f xs rest
   if D.aR p.2 then .ok (p.1,ρ.set i (pU (ρ.getD i .uDf) p.2)) else .bad) else .bad
 | none=>.bad
noncomputable def qR (f:List D->Res D) (i j:Nat):FX:=fun ρ=>
 match mJ (ρ.getD i .uDf),mJ (ρ.getD j .uDf) with
 | some xs,some ys=>if i=j then .bad else do
   let p <- ch2 f xs ys
   if D.aR p.2.1&&D.aR p.2.2 then .ok (p.1,(ρ.set i (pU (ρ.getD i .uDf) p.2.1)).set j (pU (ρ.getD j .uDf) p.2.2)) else .bad
 | _,_=>.bad
noncomputable def sS (f:List D->Res D) (i:Nat) (fe:FE):FX:=fun ρ=>do
 let d <- fe ρ
 match mJ (ρ.getD i .uDf),d with
 | some xs,.lst ys=>if D.aR ys then (do
   let p <- ch2 f xs ys
   if D.aR p.2.1&&D.aR p.2.2 then .ok (p.1,ρ.set i (pU (ρ.getD i .uDf) p.2.1)) else .bad) else .bad
 | _,_=>.bad
noncomputable def x2L (f:D->D->Res D) (fa:FX) (fb:FE):FX:=fun ρ=>do
 let p <- fa ρ
 if p.1.pure then (do
  let y <- fb p.2
  let d <- f p.1 y
  if d.pure then .ok (d,p.2) else .bad) else .bad
noncomputable def x2R (f:D->D->Res D) (fa:FE) (fb:FX):FX:=fun ρ=>do
 let x <- fa ρ
 let p <- fb ρ
 let d <- f x p.1
 if d.pure then .ok (d,p.2) else .bad
noncomputable def x2N (f:D->D->Res D) (fa:FE) (fb:FX):FX:=fun ρ=>do
 let x <- fa ρ
 let p <- fb ρ
 let d <- f x p.1
 .ok (d,p.2)
noncomputable def xTB (f:FX):FXT:=fun ρ=>do
 let p <- f ρ
 let b <- asB p.1
 .ok (b,p.2)
noncomputable def aC8:FXA:=fun ρ=>.ok ([],ρ)
noncomputable def wV (f:FX) (g:FXA):FXA:=fun ρ=>do
 let p <- f ρ
 let q <- g p.2
 if p.1.pure then .ok (p.1::q.1,q.2) else .bad
noncomputable def uR (f:FE) (g:FXA):FXA:=fun ρ=>do
 let d <- f ρ
 let q <- g ρ
 if d.pure then .ok (d::q.1,q.2) else .bad
noncomputable def aC9 (f:FXA):FX:=fun ρ=>do
 let p <- f ρ
 if decide (p.1.length<=lim)&&D.aR p.1 then .ok (.lst p.1,p.2) else .bad
noncomputable def aAt (f:FXA):FX:=fun ρ=>do
 let p <- f ρ
 if decide (p.1.length<=lim)&&D.aR p.1 then .ok (.tup p.1,p.2) else .bad
noncomputable def fB (o:Bool) (i:Nat) (f:FX):FS:=fun ρ=>do
 let p <- f ρ
 if (if o then inner p.1 else true) then .ok (.nx (p.2.set i p.1)) else .bad
noncomputable def aAu (c:FXT) (f g:FS):FS:=fun ρ=>do
 let p <- c ρ
 if p.1 then f p.2 else g p.2
noncomputable def wW (i:Nat) (fk fv:FE):FS:=fun ρ=>do
 let d <- fv ρ
 let k <- fk ρ
 match mJ (ρ.getD i .uDf),k with
 | some xs,.int k=>if d.pure then (match ixD xs.length k with|some j=>.ok (.nx (ρ.set i (pU (ρ.getD i .uDf) (xs.set j d))))|none=>.bad) else .bad
 | _,_=>.bad
noncomputable def wX (i j:Nat) (f:FX):FS:=fun ρ=>do
 let p <- f ρ
 match mJ (ρ.getD i .uDf),mJ (p.2.getD i .uDf),p.1 with
 | some _,some xs,.int k=>if decide (0<=k)&&decide (k<=1000000) then (match xs[k.toNat]? with|some x=>.ok (.nx ((p.2.set i (pU (p.2.getD i .uDf) (xs.eraseIdx k.toNat))).set j x))|none=>.bad) else .bad
 | _,_,_=>.bad
noncomputable def bPu (f:FE):FE:=fun ρ=>do
 let d <- f ρ
 if d.pure then .ok d else .bad
noncomputable def isI:D->Bool
 | .int _=>true
 | _=>false
noncomputable def TQ:List D->Res (List D)
 | []=>.bad
 | .lst ys::xs=>if ys.all isI&&D.aR xs then .ok (.scr ys::xs) else .bad
 | x::xs=>if x.pure then (do let r <- TQ xs;.ok (x::r)) else .bad
noncomputable def aD9 (f:FE):FE:=fun ρ=>do
 let d <- f ρ
 match d with
 | .lst xs=>(do let r <- TQ xs;.ok (.lst r))
 | _=>.bad
noncomputable def xE (f:FE):FX:=fun ρ=>do
 let d <- f ρ
 if d.pure then .ok (d,ρ) else .bad
variable [KFrag]
section
variable {own:Nat->Bool}
theorem zL {P:Addr->Prop} {H:Hp} {a:Addr} {d:D} {xs:List D} (r:Rep P H (.ref a) d) (h:mJ d=some xs):∃vs,H a=some (.lst vs)/\P a/\a_ P H vs xs:=by
 cases d <;> simp only [mJ] at h <;> cases h <;> cases r
 ·exact ⟨_,by assumption,by assumption,by assumption⟩
 ·exact ⟨_,by assumption,by assumption,by assumption⟩
theorem K8 {P:Addr->Prop} {H:Hp} {v:V} {b:Nat} {xs:List D} (r:Rep P H v (.cel b xs)):v=.ref b:=by cases r;rfl
theorem zM {P P':Addr->Prop} {H H':Hp} {a:Addr} {d:D} {xs xs':List D} {vs':List V} (r:Rep P H (.ref a) d) (h:mJ d=some xs) (e:H' a=some (.lst vs')) (p:P' a) (r':a_ P' H' vs' xs'):Rep P' H' (.ref a) (pU d xs'):=by
 cases d <;> simp only [mJ] at h <;> cases h <;> cases r
 ·exact .lst e p r'
 ·exact .cel e p r'
theorem aAv {d:D} {xs:List D} (h:mJ d=some xs):inner d=D.aR xs:=by
 cases d <;> simp only [mJ] at h <;> cases h <;> rfl
theorem mK {d:D} {xs xs':List D} (h:mJ d=some xs):inner (pU d xs')=D.aR xs':=by
 cases d <;> simp only [mJ] at h <;> cases h <;> rfl
theorem aAw {d:D} {xs:List D} (h:mJ d=some xs):d≠.uDf:=fun z=>by subst z;cases h
theorem ES.W8 {H H':Hp} {σ:L2.St} {ρ:List D} {i:Nat} {a:Addr} {o:HO} {d:D} (E:ES own H σ ρ) (ho:own i=true) (hi:σ[i]?=some (some (.ref a))) (hk:∀b ob,H b=some ob->b≠a->H' b=some ob) (e:H' a=some o) (hm:FW o=true) (r:Rep All H' (.ref a) d) (hin:inner d=true) :
  ES own H' σ (ρ.set i d)/\KU own σ H σ H':=by
 have hOa:Own own σ a:=⟨i,ho,hi⟩
 obtain ⟨a',oa,ea,_,_,hHa,hma,huq⟩:=E.own i _ ho hi;cases ea;have k:KU own σ H σ H':=fun b ob e n=>⟨hk b ob e (fun z=>by subst z;exact n hOa),n⟩
 have hl:i<ρ.length:=by rw [<-E.len];exact (List.getElem?_eq_some_iff.mp hi).1
 refine ⟨⟨by simp [E.len],fun j hj=>?_,fun j w hj hw=>?_⟩,k⟩
 ·rw [cF] at hj ⊢;by_cases h:i=j/\i<ρ.length
  ·obtain ⟨rfl,_⟩:=h;exact ⟨_,hi,fun z=>by rw [ho] at z;cases z⟩
  ·rw [if_neg h] at hj ⊢;obtain ⟨w,h1,h2⟩:=E.at_ j hj;exact ⟨w,h1,fun hj=>k.rep E (h2 hj)⟩
 ·by_cases hij:i=j
  ·subst hij;rw [hi] at hw;cases hw;rw [cF,if_pos ⟨rfl,hl⟩];exact ⟨a,o,rfl,r,hin,e,hm,huq⟩
  ·rw [cF,if_neg fun z=>hij z.1];obtain ⟨b,ob,h1,h2,h3,h4,h5,h6⟩:=E.own j w hj hw;subst h1;have hba:b≠a:=fun z=>by subst z;exact hij (h6 i ho hi)
   refine ⟨b,ob,rfl,?_,h3,hk _ _ h4 hba,h5,h6⟩;refine (h2.j7 (P':=fun c=>c=b) h3 rfl).keep (fun c oc hc hp=>?_) fun _ _=>trivial
   refine hk _ _ hc fun z=>?_
   subst z;rcases hp with hp|hp
   ·exact hba hp.symm
   ·rw [hHa] at hc;cases hc;rw [hma] at hp;cases hp
noncomputable def NS (own:Nat->Bool) (ρ ρ':List D):Prop:=∀i,own i=false->ρ'.getD i .uDf=ρ.getD i .uDf
theorem NS.refl {ρ:List D}:NS own ρ ρ:=fun _ _=>rfl
theorem NS.trans {ρ ρ1 ρ2:List D} (a:NS own ρ ρ1) (b:NS own ρ1 ρ2):NS own ρ ρ2:=fun i h=>(b i h).trans (a i h)
theorem NS.set {ρ:List D} {i:Nat} {d:D} (ho:own i=true):NS own ρ (ρ.set i d):=fun j hj=>by
 rw [cF,if_neg];rintro ⟨rfl,_⟩;rw [ho] at hj;cases hj
noncomputable def kX (own:Nat->Bool) (σ:L2.St) (H:Hp) (ρ:List D) (d:D) (ρ':List D) (Q:VK):Prop:=∀v H',KU own σ H σ H'->ES own H' σ ρ'->NS own ρ ρ'->Rep (New H) H' v d->Q v H'
noncomputable def gX (own:Nat->Bool) (f:FX):TE:=fun σ H Q=>∃ρ d ρ',ES own H σ ρ/\f ρ=.ok (d,ρ')/\kX own σ H ρ d ρ' Q
noncomputable def gXT (own:Nat->Bool) (f:FXT):TT:=fun σ H Q=>∃ρ d ρ',ES own H σ ρ/\f ρ=.ok (d,ρ')/\∀H',KU own σ H σ H'->ES own H' σ ρ'->NS own ρ ρ'->Q d H'
noncomputable def gXA (own:Nat->Bool) (f:FXA):TA:=fun σ H Q=>∃ρ d ρ',ES own H σ ρ/\f ρ=.ok (d,ρ')/\∀vs H',KU own σ H σ H'->ES own H' σ ρ'->NS own ρ ρ'->a_ (New H) H' vs d->Q vs H'
noncomputable def gAO (own:Nat->Bool) (f:FA):TA:=fun σ H Q=>∃ρ ds,ES own H σ ρ/\f ρ=.ok ds/\∀vs H',bZ H H'->a_ (fun a=>¬Own own σ a) H' vs ds->Q vs H'
theorem wY {σ:L2.St} {H H1:Hp} {ρ1:List D} (k:KU own σ H σ H1) (E1:ES own H1 σ ρ1) {a:Addr} (h:H1 a=none):H a=none:=by
 cases q:H a with
 | none=>rfl
 | some o=>
  by_cases n:Own own σ a
  ·obtain ⟨o',e,_⟩:=E1.live n;rw [h] at e;cases e
  ·have:=(k a o q n).1;rw [h] at this;cases this
theorem pB {σ:L2.St} {H:Hp} {ρ:List D} (E:ES own H σ ρ) {a:Addr} (h:H a=none):¬Own own σ a:=fun n=>by
 obtain ⟨o',e,_⟩:=E.live n;rw [h] at e;cases e
theorem W9 {σ:L2.St} {H H1 H2:Hp} {ρ ρ1:List D} (E:ES own H σ ρ) (E1:ES own H1 σ ρ1) (k:KU own σ H1 σ H2):JQ (New H) H1 H2:=fun a o e hp=>by
 refine (k a o e ?_).1;rcases hp with hp|hp
 ·exact pB E hp
 ·intro n;obtain ⟨o',e',hm⟩:=E1.live n;rw [e] at e';cases e';rw [hp] at hm;cases hm
theorem Rep.ku {σ:L2.St} {H H1 H2:Hp} {ρ ρ1:List D} {v:V} {d:D} (r:Rep (New H) H1 v d) (E:ES own H σ ρ) (E1:ES own H1 σ ρ1) (k:KU own σ H1 σ H2):Rep (New H) H2 v d:=r.keep (W9 E E1 k) fun _ h=>h
theorem ES.aEu {H H':Hp} {σ:L2.St} {ρ ρ':List D} {i:Nat} {a:Addr} {o:HO} {d:D} (E:ES own H σ ρ) (k:KU own σ H σ H') (E':ES own H' σ ρ') (ns:NS own ρ ρ') (ho:own i=true) (hn:H a=none) (r:Rep All H' (.ref a) d) (hin:inner d=true) (ha:H' a=some o) (hm:FW o=true) :
  ES own H' (σ.set i (some (.ref a))) (ρ'.set i d)/\KU own σ H (σ.set i (some (.ref a))) H':=by
 have hO:∀b,H b≠none->¬Own own σ b->¬Own own (σ.set i (some (.ref a))) b:=fun b hb n ⟨j,hj,e⟩=>by
  by_cases hij:i=j
  ·subst hij;by_cases hl:i<σ.length
   ·rw [List.getElem?_set_self hl] at e;cases e;exact hb hn
   ·rw [List.getElem?_set,if_pos rfl,if_neg hl] at e;cases e
  ·rw [List.getElem?_set_ne hij] at e;exact n ⟨j,hj,e⟩
 have hna:¬Own own σ a:=pB E hn;refine ⟨⟨by simp [E'.len],fun j hj=>?_,fun j w hj hw=>?_⟩,fun b ob e n=>⟨(k b ob e n).1,hO b (by rw [e];simp) n⟩⟩
 ·rw [cF] at hj ⊢;by_cases h:i=j/\i<ρ'.length
  ·rw [if_pos h];obtain ⟨rfl,hl⟩:=h;exact ⟨.ref a,by rw [List.getElem?_set_self (by rw [E'.len];exact hl)],fun z=>by rw [ho] at z;cases z⟩
  ·rw [if_neg h] at hj ⊢;obtain ⟨w,h1,h2⟩:=E'.at_ j hj;by_cases hij:i=j
   ·subst hij;have:i<σ.length:=(List.getElem?_eq_some_iff.mp h1).1;rw [E'.len] at this;exact absurd ⟨rfl,this⟩ h
   ·refine ⟨w,by rw [List.getElem?_set_ne hij];exact h1,fun hoj=>?_⟩;rw [ns j hoj] at hj ⊢;obtain ⟨w',h1',h2'⟩:=E.at_ j hj;rw [h1] at h1';cases h1';exact (h2' hoj).dom.keep (fun c oc hc hp=>k.keep E c oc hc (hp.imp And.left id)) fun b ⟨n,hb⟩=>hO b hb n
 ·by_cases hij:i=j
  ·subst hij;have hl:i<σ.length:=by
    have:=(List.getElem?_eq_some_iff.mp hw).1;simpa using this
   rw [List.getElem?_set_self hl] at hw;cases hw;rw [cF,if_pos ⟨rfl,by rw [<-E'.len];exact hl⟩];refine ⟨a,o,rfl,r,hin,ha,hm,fun k hk hs=>?_⟩;by_cases hik:i=k
   ·exact hik.symm
   ·rw [List.getElem?_set_ne hik] at hs;exact absurd ⟨k,hk,hs⟩ hna
  ·rw [List.getElem?_set_ne hij] at hw;rw [cF,if_neg fun z=>hij z.1];obtain ⟨b,ob,h1,h2,h3,h4,h5,h6⟩:=E'.own j w hj hw;refine ⟨b,ob,h1,h2,h3,h4,h5,fun k hk hs=>?_⟩;by_cases hik:i=k
   ·subst hik;by_cases hl:i<σ.length
    ·rw [List.getElem?_set_self hl] at hs;cases hs;subst h1;exact absurd ⟨j,hj,hw⟩ hna
    ·rw [List.getElem?_set,if_pos rfl,if_neg hl] at hs;cases hs
   ·rw [List.getElem?_set_ne hik] at hs;exact h6 k hk hs
end
section
variable {own:Nat->Bool} {X:Cx} {a b c e:Expr} {pos pos':Pos} {fa fb fe:FE} {ra rb re:Bool} {xa xb xe:FX}
theorem aDa (ha:PE X a (gE fa ra)):PE X a (gX own (xE fa)):=PE.imp ha fun σ H Q ⟨ρ,d,ρ',E,h,q⟩=>by
 obtain ⟨x,h1,h⟩:=aU h;split at h
 ·rename_i hp;cases h;exact ⟨ρ,_,E.er,h1,fun v H' s r _=>q v H' (.same s) (E.same s) .refl (r.bD hp)⟩
 ·cases h
theorem aEv {f:D->D->Res D} {fr:Bool} {σ:L2.St} {H:Hp} {Q:VK} (h:gX own (x2L f xa fb) σ H Q):tOp (r2 f fr) (gX own xa) (gE fb rb) σ H Q:=by
 obtain ⟨ρ,d,ρ',E,h,q⟩:=h;obtain ⟨⟨x,ρ1⟩,h1,h⟩:=aU h;split at h
 ·rename_i hp;obtain ⟨y,h2,h⟩:=aU h;obtain ⟨z,h3,h⟩:=aU h;split at h
  ·rename_i hz;cases h;refine ⟨ρ,x,ρ1,E,h1,fun v H1 k1 E1 ns r1=>⟨ρ1,y,E1.er,h2,fun w H2 s2 r2 _=>⟨x,y,_,(r1.same s2).all,r2,h3,fun u H3 s3 r3 _=>?_⟩⟩⟩;exact q u H3 (k1.trans (.same (s2.trans s3))) (E1.same (s2.trans s3)) ns (r3.bD hz)
  ·cases h
 ·cases h
theorem W_ {o:CmpOp} {f:D->D->Res D} {fr:Bool} (ho:OpR X (compareOp o) (r2 f fr)) (ha:PE X a (gX own xa)) (hb:PE X b (gE fb rb)) (hm:behindInMarks o b=false):PT X (.Compare a [o] [b] pos) (gXT own (xTB (x2L f xa fb))):=
 PT.imp (G6 ho ha hb hm) fun σ H Q ⟨ρ,k,ρ',E,h,q⟩=>by
  obtain ⟨⟨d,ρ1⟩,h1,h2⟩:=aU h;obtain ⟨b,h3,h4⟩:=aU h2;cases h4;refine aEv ⟨ρ,d,_,E,h1,fun v H' k1 E1 ns r=>?_⟩;cases JX h3;cases r;exact ⟨_,rfl,q H' k1 E1 ns⟩
theorem aEw {f:D->D->Res D} {fr:Bool} {σ:L2.St} {H:Hp} {Q:VK} (h:gX own (x2R f fa xb) σ H Q):tOp (r2 f fr) (gE fa true) (gX own xb) σ H Q:=by
 obtain ⟨ρ,d,ρ',E,h,q⟩:=h;obtain ⟨x,h1,h⟩:=aU h;obtain ⟨⟨y,ρ1⟩,h2,h⟩:=aU h;obtain ⟨z,h3,h⟩:=aU h;split at h
 ·rename_i hz;cases h;refine ⟨ρ,x,E.er,h1,fun v H1 s1 r1 n1=>⟨ρ,y,ρ1,E.same s1,h2,fun w H2 k2 E2 ns r2=>⟨x,y,_,((n1 rfl).ku E (E.same s1) k2).all,r2.all,h3,fun u H3 s3 r3 _=>?_⟩⟩⟩;exact q u H3 ((KU.same s1).trans (k2.trans (.same s3))) (E2.same s3) ns (r3.bD hz)
 ·cases h
theorem TV {f:D->D->Res D} {fr:Bool} (ho:IxR X (r2 f fr)) (ha:PE X a (gE fa true)) (hb:PE X b (gX own xb)) (hs:q_ b):PE X (.Subscript a b pos) (gX own (x2R f fa xb)):=PE.imp (U8 ho ha hb hs) fun _ _ _=>aEw
theorem Q5 {σ:L2.St} {H:Hp} {ρ:List D} {i:Nat} {d:D} (E:ES own H σ ρ) (ho:own i=false) (h:aH i ρ=.ok d):∃v,σ[i]?=some (some v)/\Rep (fun a=>¬Own own σ a) H v d:=by
 obtain ⟨v,hv,r,e⟩:=E.er.var h;have hne:ρ.getD i .uDf≠.uDf:=fun z=>by
  rw [z] at e;subst e;exact Rep.uDf r
 obtain ⟨w,hw,hr⟩:=E.at_ i hne;rw [hv] at hw;cases hw;have r2:=hr ho;rw [e] at r2;exact ⟨v,hv,r2⟩
theorem aEx {i:Nat} {f:D->D->Res D} {fr:Bool} {σ:L2.St} {H:Hp} {Q:VK} (ho:own i=false) (h:gX own (x2R f (aH i) xb) σ H Q):tOp (r2 f fr) (aDo i) (gX own xb) σ H Q:=by
 obtain ⟨ρ,d,ρ',E,h,q⟩:=h;obtain ⟨x,h1,h⟩:=aU h;obtain ⟨⟨y,ρ1⟩,h2,h⟩:=aU h;obtain ⟨z,h3,h⟩:=aU h;obtain ⟨v,hv,rv⟩:=Q5 E ho h1;split at h
 ·rename_i hz;cases h;refine ⟨v,hv,ρ,y,ρ1,E,h2,fun w H2 k2 E2 ns r2=>⟨x,y,_,(k2.rep E rv).all,r2.all,h3,fun u H3 s3 r3 _=>?_⟩⟩;exact q u H3 (k2.trans (.same s3)) (E2.same s3) ns (r3.bD hz)
 ·cases h
theorem aAx {i:Nat} {x:Str} {pv:Pos} {f:D->D->Res D} {fr:Bool} (ho:IxR X (r2 f fr)) (hoi:own i=false) (hN:X.N[i]?=some x) (hv:Vis X.env.scope x) (hb:PE X b (gX own xb)) (hs:q_ b) (hd:(x==("__debug__" : Str))=false:=by decide) (hcd:(x==("__classdict__" : Str))=false:=by decide):PE X (.Subscript (.Name x pv) b pos) (gX own (x2R f (aH i) xb)):=PE.imp (U8 ho (eU hN hv hd hcd) hb hs) fun _ _ _=>aEx hoi
theorem XC {i:Nat} {x:Str} {pv:Pos} {o:Operator} {f:D->D->Res D} (ho:OpR X (binaryOp o) (r2 f true)) (hoi:own i=false) (hN:X.N[i]?=some x) (hv:Vis X.env.scope x) (hb:PE X b (gX own xb)) (hd:(x==("__debug__" : Str))=false:=by decide) (hcd:(x==("__classdict__" : Str))=false:=by decide):PE X (.BinOp (.Name x pv) o b pos) (gX own (x2N f (aH i) xb)):=
 PE.imp (ZK ho (eU hN hv hd hcd) hb) fun σ H Q ⟨ρ,d,ρ',E,h,q⟩=>by
 obtain ⟨x,h1,h⟩:=aU h;obtain ⟨⟨y,ρ1⟩,h2,h⟩:=aU h;obtain ⟨z,h3,h⟩:=aU h;obtain ⟨v,hv,rv⟩:=Q5 E hoi h1;cases h;refine ⟨v,hv,ρ,y,ρ1,E,h2,fun w H2 k2 E2 ns r2=>⟨x,y,_,(k2.rep E rv).all,r2.all,h3,fun u H3 s3 r3 n3=>?_⟩⟩;exact q u H3 (k2.trans (.same s3)) (E2.same s3) ns ((n3 rfl).mono fun a ha=>wY k2 E2 ha)
theorem TX:PA X [] (gXA own aC8):=PA.imp jV fun σ H Q ⟨ρ,ds,ρ',E,h,q⟩=>by cases h;exact q [] H (.same (bZ.refl H)) E .refl .nil
theorem wZ {es:List Expr} {f:FXA} (he:PE X e (gX own xe)) (hes:PA X es (gXA own f)) (hs:starEach (e::es) X.env=(false,eval e X.env)::starEach es X.env:=by rfl):PA X (e::es) (gXA own (wV xe f)):=PA.imp (cJ he hes hs) fun σ H Q ⟨ρ,ds,ρ',E,h,q⟩=>by
 obtain ⟨⟨x,ρ1⟩,h1,h⟩:=aU h;obtain ⟨⟨xs,ρ2⟩,h2,h⟩:=aU h;split at h
 ·rename_i hp;cases h;refine ⟨ρ,x,ρ1,E,h1,fun v H1 k1 E1 ns1 r1=>⟨ρ1,xs,ρ2,E1,h2,fun vs H2 k2 E2 ns2 r2=>q _ _ (k1.trans k2) E2 (ns1.trans ns2) (.cons (r1.ku E E1 k2) (r2.mono fun a ha=>wY k1 E1 ha))⟩⟩
 ·cases h
theorem Q6 {es:List Expr} {f:FXA} (he:PE X e (gE fe re)) (hes:PA X es (gXA own f)) (hs:starEach (e::es) X.env=(false,eval e X.env)::starEach es X.env:=by rfl):PA X (e::es) (gXA own (uR fe f)):=PA.imp (cJ he hes hs) fun σ H Q ⟨ρ,ds,ρ',E,h,q⟩=>by
 obtain ⟨x,h1,h⟩:=aU h;obtain ⟨⟨xs,ρ2⟩,h2,h⟩:=aU h;split at h
 ·rename_i hp;cases h;refine ⟨ρ,x,E.er,h1,fun v H1 s1 r1 _=>⟨ρ,xs,ρ2,E.same s1,h2,fun vs H2 k2 E2 ns2 r2=>?_⟩⟩;have rn:Rep (New H) H1 v x:=r1.bD hp;exact q _ _ ((KU.same s1).trans k2) E2 ns2 (.cons (rn.ku E (E.same s1) k2) (r2.mono fun a ha=>s1.free ha))
 ·cases h
theorem aAy {es:List Expr} {f:FXA} (h:PA X es (gXA own f)):PE X (.List es pos) (gX own (aC9 f)):=PE.imp (R3 h) fun σ H Q ⟨ρ,d,ρ',E,h,q⟩=>by
 obtain ⟨⟨xs,ρ1⟩,h1,h⟩:=aU h;split at h
 ·rename_i hl;cases h;rw [Bool.and_eq_true] at hl;refine ⟨ρ,xs,_,E,h1,fun vs H1 k1 E1 ns r1=>⟨?_,fun p hp=>?_⟩⟩
  ·rw [r1.length];exact Nat.le_trans (of_decide_eq_true hl.1) (by rw [sizeLine_eq];decide)
  ·have sp:bZ H1 (upd H1 p (.lst vs)):=bZ.upd hp;exact q _ _ (k1.trans (.same sp)) (E1.same sp) ns (.lst aL (wY k1 E1 hp) (r1.same sp))
 ·cases h
theorem aAz {es:List Expr} {f:FXA} {x1} (h:PA X es (gXA own f)):PE X (.Tuple es x1 pos) (gX own (aAt f)):=PE.imp (G7 h) fun σ H Q ⟨ρ,d,ρ',E,h,q⟩=>by
 obtain ⟨⟨xs,ρ1⟩,h1,h⟩:=aU h;split at h
 ·rename_i hl;cases h;rw [Bool.and_eq_true] at hl;refine ⟨ρ,xs,_,E,h1,fun vs H1 k1 E1 ns r1=>⟨?_,fun p hp=>?_⟩⟩
  ·rw [r1.length];exact Nat.le_trans (of_decide_eq_true hl.1) (by rw [sizeLine_eq];decide)
  ·have sp:bZ H1 (upd H1 p (.tup vs)):=bZ.upd hp;exact q _ _ (k1.trans (.same sp)) (E1.same sp) ns (.tup aL (r1.same sp))
 ·cases h
theorem zN {o:Bool} {i:Nat} {D':Ends} {σ:L2.St} {H:Hp} (ho:own i=o) (h:tS own (fB o i xe) D' σ H):aBw (gX own xe) (pP i) D' σ H:=by
 obtain ⟨ρ,fl,E,h,q⟩:=h;obtain ⟨⟨d,ρ1⟩,h1,h2⟩:=aU h;cases o with
 | true=>
  simp only [if_true] at h2;split at h2
  ·rename_i hk;cases h2;refine ⟨ρ,d,ρ1,E,h1,fun v H' k E1 ns r=>?_⟩;obtain ⟨a,ob,rfl,hn,ha,hm⟩:=S7 r hk;obtain ⟨E2,k2⟩:=E.aEu k E1 ns ho hn r.all hk ha hm;exact q _ H' k2 E2
  ·cases h2
 | false=>
  simp only [Bool.false_eq_true,if_false,if_true] at h2;cases h2;refine ⟨ρ,d,ρ1,E,h1,fun v H' k E1 ns r=>?_⟩;exact q _ H' (fun a ob e hn=>⟨(k a ob e hn).1,by rw [j8 ho];exact hn⟩) (E1.set ho (KD E r))
theorem gB {i:Nat} {x:Str} {o:Bool} (ho:own i=o) (hN:X.N.Nodup) (hi:X.N[i]?=some x) (hx:Loc X.env.scope x) (he:PE X e (gX own xe)) (hs:swapsWith e (some (.Name x pos')) pos.line X.env=pure false:=by rfl) (hf:X.fn x=true\/X.env.scope.names.lookup x=some .local:=by first|exact .inl rfl|exact .inr rfl|assumption) :
  PS X (.Assign [.Name x pos'] e pos) (tS own (fB o i xe)):=PS.imp (GZ hN hi hx he hs hf) fun _ _ _=>zN ho
theorem aDb {s1 s2:List Stmt} {f g:FS} {xc:FXT} (hc:PT X c (gXT own xc)) (ha:PSs X s1 (tS own f)) (hb:PSs X s2 (tS own g)):PS X (.If c s1 s2 pos) (tS own (aAu xc f g)):=PS.imp (ZF hc ha hb) fun D σ H ⟨ρ,fl,E,h,q⟩=>by
 obtain ⟨⟨k,ρ1⟩,h1,h2⟩:=aU h;refine ⟨ρ,k,ρ1,E,h1,fun H' ku E1 ns=>?_⟩;cases k with
 | true=>rw [if_pos rfl];rw [if_pos rfl] at h2;exact ⟨ρ1,fl,E1,h2,q.step ku⟩
 | false=>rw [if_neg (by simp)];rw [if_neg (by simp)] at h2;exact ⟨ρ1,fl,E1,h2,q.step ku⟩
end
end Mi
end
section
namespace Mi
open PySem L2 PySem.SeqAt PySem.Spec PyProof.Rows
variable [KFrag]
section
variable {own:Nat->Bool} {X:Cx} {a b c e:Expr} {pos pos':Pos} {fa fb fe:FE} {ra rb re:Bool} {xa xb xe:FX}
theorem kRt.new {D:Ends} {σ:L2.St} {H:Hp} {d0:Mi.D} {ρ':List Mi.D} (h:kRt own D σ H (.tup (d0::ρ'))) (hx:own rtX=true):∀v σ' H',KU own σ H σ' H'->ES own H' σ' ρ'->Rep (fun a=>(Own own σ a\/H a=none)/\∀i b xs,ρ'.getD i .uDf=.cel b xs->a≠b) H' v d0->D.rt v H':=by
 unfold kRt at h;rw [if_pos hx] at h;obtain ⟨d1,ρ1,e,g⟩:=h;cases e;exact g
theorem jG {σ:L2.St} {H:Hp} {ρ:List D} (E:ES own H σ ρ) {i b:Nat} {xs:List D} (h:ρ.getD i .uDf=.cel b xs):∃vs,σ[i]?=some (some (.ref b))/\H b=some (.lst vs):=by
 obtain ⟨v,h1,h2⟩:=E.er i (by rw [h];intro z;cases z);rw [h] at h2;cases h2 with
 | cel e _ _=>exact ⟨_,h1,e⟩
theorem w6 (he:PE X e (gE fe re)) (hx:own rtX=true:=by rfl):PS X (.Return (some e) pos) (tS own (BZ fe re)):=PS.imp (yD he) fun D σ H ⟨ρ,fl,E,h,q⟩=>by
 obtain ⟨d,h1,h2⟩:=aU h;split at h2
 ·rename_i hk;cases h2;refine ⟨ρ,d,E.er,h1,fun v H' s r n=>kRt.new q hx v σ H' (.same s) (E.same s) ?_⟩;rw [Bool.or_eq_true] at hk;rcases hk with hk|hk
  ·refine (n hk).mono fun a ha=>⟨.inr ha,fun i b xs hb z=>?_⟩
   obtain ⟨vs,_,e⟩:=jG E hb;subst z;rw [show H a=none from ha] at e;cases e
  ·exact r.bD hk
 ·cases h2
theorem nJ {i:Nat} {x:Str} (ho:own i=true) (hN:X.N[i]?=some x) (hv:Vis X.env.scope x) (hd:(x==("__debug__" : Str))=false:=by decide) (hcd:(x==("__classdict__" : Str))=false:=by decide) (hx:own rtX=true:=by rfl):PS X (.Return (some (.Name x pos')) pos) (tS own (oK i)):=
 PS.imp (yD (eU hN hv hd hcd)) fun D σ H ⟨ρ,fl,E,h,q⟩=>by
 obtain ⟨d,h1,h2⟩:=aU h;split at h2
 ·rename_i hc;cases h2;obtain ⟨v,hv,r,e⟩:=E.er.var h1;obtain ⟨a,o,rfl,r2,hin,_,_,huq⟩:=E.own i v ho hv;rw [e] at hin;refine ⟨_,hv,kRt.new q hx _ σ H (.same (bZ.refl H)) E (r.j7 hin ⟨.inl ⟨i,ho,hv⟩,fun j b xs hb z=>?_⟩)⟩;obtain ⟨vs,hj,eb⟩:=jG E hb;subst z;cases hoj:own j with
  | true=>
   have:=huq j hoj hj;subst this;rw [hb] at e;subst e;cases hc
  | false=>
   obtain ⟨w,hw,hr⟩:=E.at_ j (by rw [hb];intro z;cases z);have r3:=hr hoj;rw [hb] at r3;cases r3 with
   | cel e p r=>exact p ⟨i,ho,hv⟩
 ·cases h2
noncomputable def spV (k:Nat) (f:List D->Res D) (n:Nat):Sp:=fun vs H Q _=>∃ds d ds',ds.length=n/\vs.length=n/\ES (j7 k) H (vs.map some) ds/\(∀i,i<k->∃b xs xs',ds.getD i .uDf=.cel b xs/\ds'.getD i .uDf=.cel b xs')/\f ds=.ok (.tup (d::ds'))/\
 ∀v H',(∀a o,H a=some o->¬Own (j7 k) (vs.map some) a->H' a=some o)->(∀i v,i<k->vs[i]?=some v->Rep All H' v (ds'.getD i .uDf)/\inner (ds'.getD i .uDf)=true)->Rep (New H) H' v d->Q v H'
theorem XD {k:Nat} {f:List D->Res D} {n:Nat} {vs:List V} {H:Hp} {Q:VK} {E:XK} (h:spV k f n vs H Q E):vs.length=n:=by
 obtain ⟨ds,d,ds',h1,h2,_⟩:=h;exact h2
theorem uT {ρ:List D} {k i:Nat} (h:i<k):(ρ.take k).getD i .uDf=ρ.getD i .uDf:=by
 rw [List.getD_eq_getElem?_getD,List.getD_eq_getElem?_getD,List.getElem?_take,if_pos h]
theorem Q7 {k:Nat} {N ps:List Str} {f:FS} {vs:List V} {H:Hp} {Q:VK} {E:XK} (hx:own rtX=true) (hown:∀i,i<ps.length->own i=j7 k i) (hkn:k<=ps.length) (h0:spV k (fnX k ps.length N.length f) ps.length vs H Q E):tS own f {nx:=fun _ H'=>Q .non H',rt:=Q} (start N vs) H:=by
 obtain ⟨ds,d,ds',hl,hvl,E0,hc,h,q⟩:=h0;obtain ⟨fl,h1,h2⟩:=aU h;have hst:start N vs=vs.map some++List.replicate (N.length-ps.length) none:=by
  show vs.map some++List.replicate (N.length-vs.length) none=_;rw [hvl]
 have low:∀i,i<ps.length->(start N vs)[i]?=(vs.map some)[i]?:=fun i hi=>by rw [hst,List.getElem?_append_left (by simp [hvl,hi])]
 have high:∀i v,ps.length<=i->(start N vs)[i]?≠some (some v):=fun i v hi e=>by
  rw [hst,List.getElem?_append_right (by simp [hvl];lia),List.getElem?_replicate] at e;split at e <;> cases e
 have hO:∀a,Own own (start N vs) a↔Own (j7 k) (vs.map some) a:=fun a=>by
  constructor
  ·rintro ⟨i,hi,e⟩;by_cases hlt:i<ps.length
   ·exact ⟨i,by rw [<-hown i hlt];exact hi,by rw [<-low i hlt];exact e⟩
   ·exact absurd e (high i _ (by lia))
  ·rintro ⟨i,hi,e⟩;have hik:i<k:=by simpa [j7] using hi
   have hlt:i<ps.length:=by lia
   exact ⟨i,by rw [hown i hlt];exact hi,by rw [low i hlt];exact e⟩
 have hOf:(fun a=>¬Own own (start N vs) a)=fun a=>¬Own (j7 k) (vs.map some) a:=funext fun a=>by rw [hO]
 have gd:∀i,i<ps.length->(ds++List.replicate (N.length-ps.length) D.uDf).getD i .uDf=ds.getD i .uDf:=fun i hi=>by
  rw [List.getD_eq_getElem?_getD,List.getElem?_append_left (by lia),List.getD_eq_getElem?_getD]
 have ES0:ES own H (start N vs) (ds++List.replicate (N.length-ps.length) .uDf):=by
  refine ⟨by rw [hst];simp [hvl,hl],fun i hi=>?_,fun i v hi hv=>?_⟩
  ·have hlt:i<ps.length:=Nat.lt_of_not_le fun hge=>hi (by
    rw [List.getD_eq_getElem?_getD,List.getElem?_append_right (by lia),List.getElem?_replicate];split <;> rfl)
   rw [gd i hlt] at hi ⊢;obtain ⟨v,g1,g2⟩:=E0.at_ i hi;exact ⟨v,by rw [low i hlt];exact g1,fun ho=>by rw [hOf];exact g2 (by rw [<-hown i hlt];exact ho)⟩
  ·have hlt:i<ps.length:=Nat.lt_of_not_le fun hge=>high i v hge hv
   rw [low i hlt] at hv;rw [gd i hlt];obtain ⟨a,o,g1,g2,g3,g4,g5,g6⟩:=E0.own i v (by rw [<-hown i hlt];exact hi) hv;refine ⟨a,o,g1,g2,g3,g4,g5,fun j hj hs=>?_⟩;have hjl:j<ps.length:=Nat.lt_of_not_le fun hge=>high j _ hge hs
   exact g6 j (by rw [<-hown j hjl];exact hj) (by rw [<-low j hjl];exact hs)
 have fin:∀v σ' H' ρ',ds'=ρ'.take k->KU own (start N vs) H σ' H'->ES own H' σ' ρ'->Rep (New H) H' v d->Q v H':=fun v σ' H' ρ' ed ku E' r=>by
  refine q v H' (fun a o e n=>(ku a o e (by rw [hO];exact n)).1) (fun i w hi hw=>?_) r;have hlt:i<ps.length:=by lia
  obtain ⟨b,xs,xs',g1,g2⟩:=hc i hi;have hoi:own i=true:=by rw [hown i hlt];simp [j7,hi]
  have g3:ρ'.getD i .uDf=.cel b xs':=by rw [ed,uT hi] at g2;exact g2
  obtain ⟨vs0,z1,_⟩:=jG E0 g1;rw [List.getElem?_map,hw] at z1;cases z1;obtain ⟨w',z2,_⟩:=E'.at_ i (by rw [g3];intro z;cases z);obtain ⟨a,o,rfl,g4,g5,_⟩:=E'.own i w' hoi z2;rw [g3] at g4 g5;have:=K8 g4;cases this;rw [g2];exact ⟨g4,g5⟩
 refine ⟨_,fl,ES0,h1,?_⟩;cases fl with
 | nx ρ'=>
  simp only [aD8] at h2;injection h2 with h2
  injection h2 with h2
  injection h2 with z1 z2
  subst z1;exact fun σ' H' ku E'=>fin .non σ' H' ρ' z2.symm ku E' .non
 | bk ρ'=>cases h2
 | ct ρ'=>cases h2
 | rt d'=>
  show kRt own _ _ _ d';unfold kRt;rw [if_pos hx];unfold aD8 at h2;split at h2
  ·rename_i d1 ρ' heq;cases heq;injection h2 with h2
   injection h2 with h2
   injection h2 with z1 z2
   subst z1;refine ⟨_,_,rfl,fun v σ' H' ku E' r=>fin v σ' H' ρ' z2.symm ku E' (r.mono fun a ha=>?_)⟩;rcases ha.1 with ⟨i,hi,e⟩|hn
   ·exfalso;have hlt:i<ps.length:=Nat.lt_of_not_le fun hge=>high i _ hge e
    have hik:i<k:=by rw [hown i hlt] at hi;simpa [j7] using hi
    obtain ⟨b,xs,xs',g1,g2⟩:=hc i hik;obtain ⟨vs0,q1,_⟩:=jG E0 g1;rw [low i hlt,q1] at e;cases e;rw [<-z2,uT hik] at g2;exact ha.2 i _ xs' g2 rfl
   ·exact hn
  ·rename_i heq;cases heq
  ·cases h2
theorem aB0 {P:Program} {w:World} {K:PySem.W.Frag} {mg:Str->Option Value} {base:Heap} {x qual:Str} {st:Stmt} {fad:Addr} {fd:FuncData} {N ps:List Str} {k c:Nat} {f:FS} (F:Fun K x qual st fad fd) (S:bT N ps (aJ st)) (own:Nat->Bool) (hx:own rtX=true) (hown:∀i,i<ps.length->own i=j7 c i) (hkn:c<=ps.length)
  (hbody:∀(cdv:Value) (A:Around) (outer:List Env) (s:Shared) (H:Hp) (E:XK),lR k (A.deeper (envOfC qual (aJ st) s.heap.objs.size fad cdv))->PSs (O2 CX0 P w K mg base N qual (aJ st) fad cdv A outer s H E).nox (bK st) (tS own f)):yG P w K mg base CX0 (k+1) fad fd ps (spV c (fnX c ps.length N.length f) ps.length):=
 F.ok S (fun vs H Q E h=>XD h) fun cdv A outer s H vs Q E hr h=>⟨_,hbody cdv A outer s H E hr,Q7 hx hown hkn h⟩
noncomputable def pW (P:Program) (w:World) (K:PySem.W.Frag) (mg:Str->Option Value) (base:Heap) (k:Nat) (x:Str) (n c:Nat) (f:List D->Res D):Prop:=
 ∃(fad:Addr) (fd:FuncData) (ps:List Str),yG P w K mg base CX0 k fad fd ps (spV c f n)/\mg x=some (.ref fad)/\PySem.W.keepIn K (.ref fad)=true/\Binds K fd ps []
theorem mL {P:Program} {w:World} {K:PySem.W.Frag} {mg:Str->Option Value} {base:Heap} {x:Str} {k:Nat} {st:Stmt} {fad:Addr} {fd:FuncData} {N ps:List Str} {fs:FS} (c:Nat) (F:Fun K x x st fad fd) (hm:mg x=some (.ref fad)) (hb:Binds K fd ps []) (S:bT N ps (aJ st)) (own:Nat->Bool) (hown:∀i,i<ps.length->own i=j7 c i) (hkn:c<=ps.length)
  (hbody:∀(cdv:Value) (A:Around) (outer:List Env) (s:Shared) (H:Hp) (E:XK),lR k (A.deeper (envOfC x (aJ st) s.heap.objs.size fad cdv))->PSs (O2 CX0 P w K mg base N x (aJ st) fad cdv A outer s H E).nox (bK st) (tS own fs)) (hx:own rtX=true:=by rfl):pW P w K mg base (k+1) x ps.length c (fnX c ps.length N.length fs):=
 ⟨fad,fd,ps,aB0 F S own hx hown hkn hbody,hm,F.kp,hb⟩
theorem e_:PA X [] (gAO own aZ):=PA.imp jV fun σ H Q ⟨ρ,ds,E,h,q⟩=>by cases h;exact q [] H (bZ.refl H) .nil
theorem K9 {i:Nat} {x:Str} {es:List Expr} {f:FA} (ho:own i=false) (hN:X.N[i]?=some x) (hv:Vis X.env.scope x) (hes:PA X es (gAO own f)) (hd:(x==("__debug__" : Str))=false:=by decide) (hcd:(x==("__classdict__" : Str))=false:=by decide) (hs:starEach (.Name x pos::es) X.env=(false,eval (.Name x pos) X.env)::starEach es X.env:=by rfl):PA X (.Name x pos::es) (gAO own (aD (aH i) f)):=PA.imp (cJ (eU hN hv hd hcd) hes hs) fun σ H Q ⟨ρ,ds,E,h,q⟩=>by
 obtain ⟨x,h1,h⟩:=aU h;obtain ⟨xs,h2,h⟩:=aU h;cases h;obtain ⟨v,hv,rv⟩:=Q5 E ho h1;exact ⟨v,hv,ρ,xs,E,h2,fun vs H2 s2 r2=>q _ _ s2 (.cons (rv.same s2) r2)⟩
theorem jU {es:List Expr} {f:FA} (he:PE X e (gE fe re)) (hes:PA X es (gAO own f)) (hs:starEach (e::es) X.env=(false,eval e X.env)::starEach es X.env:=by rfl):PA X (e::es) (gAO own (aD (bPu fe) f)):=PA.imp (cJ he hes hs) fun σ H Q ⟨ρ,ds,E,h,q⟩=>by
 obtain ⟨x,h1,h⟩:=aU h;obtain ⟨xs,h2,h⟩:=aU h;cases h;obtain ⟨y,h3,h1⟩:=aU h1;split at h1
 ·rename_i hp;cases h1;exact ⟨ρ,_,E.er,h3,fun v H1 s1 r1 _=>⟨ρ,xs,E.same s1,h2,fun vs H2 s2 r2=>q _ _ (s1.trans s2) (.cons ((r1.bD hp).same s2) r2)⟩⟩
 ·cases h1
theorem aDc {H:Hp} {a:Addr} {xs:List D} {vs0:List V} {vs:List V} {rest:List D} (ha:H a=some (.lst vs0)) (ra:a_ All H vs0 xs) (hp:D.aR xs=true) (rs:a_ (fun b=>b≠a) H vs rest):ES (j7 1) H ((V.ref a::vs).map some) (.cel a xs::rest):=by
 have hO:∀b,Own (j7 1) ((V.ref a::vs).map some) b->b=a:=fun b ⟨j,hj,e⟩=>by
  have:j=0:=by simp [j7] at hj;lia
  subst this;simp at e;exact e.symm
 refine ⟨by simp [rs.length],fun i hi=>?_,fun i v hi hv=>?_⟩
 ·cases i with
  | zero=>exact ⟨.ref a,rfl,fun z=>by simp [j7] at z⟩
  | succ i=>
   have e:(D.cel a xs::rest).getD (i+1) .uDf=rest.getD i .uDf:=rfl;rw [e] at hi ⊢;cases hq:rest[i]? with
   | none=>rw [List.getD_eq_getElem?_getD,hq] at hi;exact absurd rfl hi
   | some d=>
    obtain ⟨v,g1,g2⟩:=rs.get hq;rw [List.getD_eq_getElem?_getD,hq];exact ⟨v,by simp [g1],fun _=>g2.mono fun b hb ho=>hb (hO b ho)⟩
 ·have:i=0:=by simp [j7] at hi;lia
  subst this;simp at hv;subst hv;exact ⟨a,.lst vs0,rfl,.cel ha trivial ra,hp,ha,rfl,fun j hj _=>by simp [j7] at hj;lia⟩
theorem aB1 {H:Hp} {a c:Addr} {xs ys:List D} {vs0 ws0:List V} (hac:a≠c) (ha:H a=some (.lst vs0)) (ra:a_ All H vs0 xs) (hp:D.aR xs=true) (hc:H c=some (.lst ws0)) (rc:a_ All H ws0 ys) (hq:D.aR ys=true):ES (j7 2) H ([V.ref a,V.ref c].map some) [.cel a xs,.cel c ys]:=by
 refine ⟨rfl,fun i hi=>?_,fun i v hi hv=>?_⟩
 ·match i,hi with
  | 0,_=>exact ⟨.ref a,rfl,fun z=>by simp [j7] at z⟩
  | 1,_=>exact ⟨.ref c,rfl,fun z=>by simp [j7] at z⟩
  | n+2,hi=>exact absurd rfl hi
 ·match i,hi,hv with
  | 0,_,hv=>
   simp at hv;subst hv;refine ⟨a,.lst vs0,rfl,.cel ha trivial ra,hp,ha,rfl,fun j hj hs=>?_⟩
   match j,hj,hs with
   | 0,_,_=>rfl
   | 1,_,hs=>simp at hs;exact absurd hs.symm hac
   | n+2,hj,_=>simp [j7] at hj;lia
  | 1,_,hv=>
   simp at hv;subst hv;refine ⟨c,.lst ws0,rfl,.cel hc trivial rc,hq,hc,rfl,fun j hj hs=>?_⟩
   match j,hj,hs with
   | 0,_,hs=>simp at hs;exact absurd hs hac
   | 1,_,_=>rfl
   | n+2,hj,_=>simp [j7] at hj;lia
  | n+2,hi,_=>simp [j7] at hi;lia
theorem jH {σ:L2.St} {H:Hp} {ρ:List D} {i:Nat} {xs:List D} (E:ES own H σ ρ) (ho:own i=true) (h:mJ (ρ.getD i .uDf)=some xs):∃a vs,σ[i]?=some (some (.ref a))/\H a=some (.lst vs)/\a_ All H vs xs/\D.aR xs=true/\Rep All H (.ref a) (ρ.getD i .uDf)/\∀b,ρ.getD i .uDf=.cel b xs->b=a:=by
 obtain ⟨a,o,hσ,r,hin,ha,hm⟩:=E.ownAt ho (aAw h);obtain ⟨vs,e,_,rr⟩:=zL r h;exact ⟨a,vs,hσ,e,rr,by rw [aAv h] at hin;exact hin,r,fun b hb=>by rw [hb] at r;have:=K8 r;cases this;rfl⟩
theorem zO {H H':Hp} {a:Addr} {d:D} {xs xs':List D} (r:Rep All H (.ref a) d) (h:mJ d=some xs) (r':Rep All H' (.ref a) (.cel a xs')):∃vs,H' a=some (.lst vs)/\Rep All H' (.ref a) (pU d xs'):=by
 obtain ⟨vs,e,_,rr⟩:=zL r' rfl;exact ⟨vs,e,zM r h e trivial rr⟩
theorem b_ {x y:Str} {p py:Pos} {es:List Expr} {fs:FA} {k k' n i:Nat} {f:List D->Res D} (C:pW X.prog X.w X.K X.mg X.base k x n 1 f) (hr:lR k' X.A) (hkk:k<=k') (hg:Gl X x) (ho:own i=true) (hN:X.N[i]?=some y) (hv:Vis X.env.scope y) (ha:PA X es (gAO own fs)) (hdb:(x==("__debug__" : Str))=false:=by decide) (hd:(y==("__debug__" : Str))=false:=by decide) (hcd:(y==("__classdict__" : Str))=false:=by decide)
  (he:starEach (.Name y py::es) X.env=(false,eval (.Name y py) X.env)::starEach es X.env:=by rfl) (hpl:(backTo pos (starEach es X.env)).any (·.1)=false:=by rfl):PE X (.Call (.Name x p) (.Name y py::es) [] pos) (gX own (cG f n i fs)):=by
 obtain ⟨fad,fd,ps,F,hm,hk,hb⟩:=C;refine PE.imp (qY F (hr.mono hkk) hg hm hk hb .nil QB (cJ (eU hN hv hd hcd) ha he) hdb he hpl) fun σ H Q ⟨ρ,d,ρ',E,h,q⟩=>?_
 obtain ⟨rest,h1,h⟩:=aU h;split at h
 ·rename_i xs hx;split at h
  ·rename_i hn;obtain ⟨⟨r0,xs'⟩,h2,h⟩:=aU h;split at h
   ·rename_i hp';cases h;obtain ⟨a,vs0,hσ,e0,rr0,hp0,rp0,_⟩:=jH E ho hx;refine ⟨_,hσ,ρ,rest,E,h1,fun vs H1 s1 rs=>?_⟩;have hOa:Own own σ a:=⟨i,ho,hσ⟩
    have hl:rest.length+1=n:=of_decide_eq_true hn;dsimp only;rw [List.append_nil];refine ⟨.cel a xs::rest,_,[.cel a xs'],by simp;lia,by simp [rs.length];lia,aDc (s1 _ _ e0) (rr0.same s1) hp0 (rs.mono fun b hb z=>by subst z;exact hb hOa),fun j hj=>?_,aAr h2 a,fun v H' k1 own1 rn=>?_⟩
    ·have:j=0:=by lia
     subst this;exact ⟨a,xs,xs',rfl,rfl⟩
    ·obtain ⟨r1,hin⟩:=own1 0 _ (by lia) rfl;have r1:Rep All H' (.ref a) (.cel a xs'):=r1;obtain ⟨vs1,e1,r2⟩:=zO (rp0.same s1) hx r1;have hk1:∀b ob,H1 b=some ob->b≠a->H' b=some ob:=fun b ob e n=>k1 b ob e fun ⟨j,hj,ej⟩=>by
      have:j=0:=by simp [j7] at hj;lia
      subst this;simp at ej;exact n ej.symm
     obtain ⟨E2,k2⟩:=(E.same s1).W8 ho hσ hk1 e1 rfl r2 (by rw [mK hx];exact hp');exact q v H' ((KU.same s1).trans k2) E2 (.set ho) (rn.mono fun b hb=>s1.free hb)
   ·cases h
  ·cases h
 ·cases h
theorem Q8 {x y z:Str} {p py pz:Pos} {k k' i j:Nat} {f:List D->Res D} (C:pW X.prog X.w X.K X.mg X.base k x 2 2 f) (hr:lR k' X.A) (hkk:k<=k') (hg:Gl X x) (ho:own i=true) (hN:X.N[i]?=some y) (hv:Vis X.env.scope y) (ho2:own j=true) (hN2:X.N[j]?=some z) (hv2:Vis X.env.scope z) (hdb:(x==("__debug__" : Str))=false:=by decide) (hd:(y==("__debug__" : Str))=false:=by decide) (hcd:(y==("__classdict__" : Str))=false:=by decide) (hd2:(z==("__debug__" : Str))=false:=by decide) (hcd2:(z==("__classdict__" : Str))=false:=by decide)
  (he:starEach [.Name y py,.Name z pz] X.env=(false,eval (.Name y py) X.env)::starEach [.Name z pz] X.env:=by rfl) (he2:starEach [.Name z pz] X.env=(false,eval (.Name z pz) X.env)::starEach [] X.env:=by rfl) (hpl:(backTo pos (starEach [.Name z pz] X.env)).any (·.1)=false:=by rfl):PE X (.Call (.Name x p) [.Name y py,.Name z pz] [] pos) (gX own (qR f i j)):=by
 obtain ⟨fad,fd,ps,F,hm,hk,hb⟩:=C;refine PE.imp (qY F (hr.mono hkk) hg hm hk hb .nil QB (cJ (eU hN hv hd hcd) (cJ (eU hN2 hv2 hd2 hcd2) jV he2) he) hdb he hpl) fun σ H Q ⟨ρ,d,ρ',E,h,q⟩=>?_
 unfold qR at h;split at h
 ·rename_i xs ys hx hy;split at h
  ·cases h
  ·rename_i hij;obtain ⟨⟨r0,xs',ys'⟩,h2,h⟩:=aU h;split at h
   ·rename_i hp';rw [Bool.and_eq_true] at hp';cases h;obtain ⟨a,vs0,hσ,e0,rr0,hp0,rp0,_⟩:=jH E ho hx;obtain ⟨c,ws0,hσ2,e02,rr02,hp02,rp02,_⟩:=jH E ho2 hy;have hac:a≠c:=fun z=>by
     subst z;obtain ⟨b,o,eb,_,_,_,_,huq⟩:=E.own i _ ho hσ;cases eb;exact hij (huq j ho2 hσ2).symm
    refine ⟨_,hσ,_,hσ2,?_⟩;show spV 2 f 2 [.ref a,.ref c] _ Q E0;refine ⟨[.cel a xs,.cel c ys],_,[.cel a xs',.cel c ys'],rfl,rfl,aB1 hac e0 rr0 hp0 e02 rr02 hp02,fun m hm=>?_,TJ h2 a c hac,fun v H' k1 own1 rn=>?_⟩
    ·match m,hm with
     | 0,_=>exact ⟨a,xs,xs',rfl,rfl⟩
     | 1,_=>exact ⟨c,ys,ys',rfl,rfl⟩
    ·obtain ⟨r1,_⟩:=own1 0 _ (by lia) rfl;obtain ⟨r2,_⟩:=own1 1 _ (by lia) rfl;have r1:Rep All H' (.ref a) (.cel a xs'):=r1;have r2:Rep All H' (.ref c) (.cel c ys'):=r2;obtain ⟨vs1,e1,r1'⟩:=zO rp0 hx r1;obtain ⟨ws1,e2,r2'⟩:=zO rp02 hy r2;have out:∀b ob,H b=some ob->b≠a->b≠c->H' b=some ob:=fun b ob e n n2=>k1 b ob e fun ⟨m,hm,em⟩=>by
      match m,hm,em with
      | 0,_,em=>simp at em;exact n em.symm
      | 1,_,em=>simp at em;exact n2 em.symm
      | m+2,hm,_=>simp [j7] at hm;lia
     -- by way of the heap in which only the first has changed
     have pa:∀(P:Addr->Prop),a_ P H' vs1 xs':=fun P=>by
      obtain ⟨vs,ev,_,rv⟩:=zL r1 rfl;rw [e1] at ev;cases ev;exact rv.bD hp'.1
     have hcE:H c=some (.lst ws0):=e02
     let Hm:Hp:=fun b=>if b=c then H b else H' b
     have hmc:Hm c=H c:=if_pos rfl;have hmn:∀b,b≠c->Hm b=H' b:=fun b n=>if_neg n
     have raM:Rep All Hm (.ref a) (pU (ρ.getD i .uDf) xs'):=by
      refine zM rp0 hx (vs':=vs1) (by rw [hmn a hac];exact e1) trivial ?_;refine (pa (fun _=>False)).keep (fun b ob eb hb=>?_) fun _ z=>z.elim
      rw [hmn b fun z=>?_]
      ·exact eb
      ·subst z;rw [e2] at eb;cases eb;rcases hb with hb|hb
       ·exact hb.elim
       ·cases hb
     obtain ⟨E1,k1'⟩:=E.W8 (H':=Hm) (o:=.lst vs1) ho hσ (fun b ob e n=>by
      by_cases hbc:b=c
      ·subst hbc;rw [hmc];exact e
      ·rw [hmn b hbc];exact out b ob e n hbc) (by rw [hmn a hac];exact e1) rfl raM (by rw [mK hx];exact hp'.1)
     obtain ⟨E2,k2'⟩:=E1.W8 (H':=H') (o:=.lst ws1) (d:=pU (ρ.getD j .uDf) ys') ho2 hσ2 (fun b ob e n=>by rw [hmn b n] at e;exact e) e2 rfl r2' (by rw [mK hy];exact hp'.2);exact q v H' (k1'.trans k2') E2 ((NS.set ho).trans (.set ho2)) rn
   ·cases h
 ·cases h
theorem K_ {x y:Str} {p py:Pos} {k k' i:Nat} {f:List D->Res D} (C:pW X.prog X.w X.K X.mg X.base k x 2 2 f) (hr:lR k' X.A) (hkk:k<=k') (hg:Gl X x) (ho:own i=true) (hN:X.N[i]?=some y) (hv:Vis X.env.scope y) (hE:PE X e (gE fe true)) (hdb:(x==("__debug__" : Str))=false:=by decide) (hd:(y==("__debug__" : Str))=false:=by decide) (hcd:(y==("__classdict__" : Str))=false:=by decide)
  (he:starEach [.Name y py,e] X.env=(false,eval (.Name y py) X.env)::starEach [e] X.env:=by rfl) (he2:starEach [e] X.env=(false,eval e X.env)::starEach [] X.env:=by rfl) (hpl:(backTo pos (starEach [e] X.env)).any (·.1)=false:=by rfl):PE X (.Call (.Name x p) [.Name y py,e] [] pos) (gX own (sS f i fe)):=by
 obtain ⟨fad,fd,ps,F,hm,hk,hb⟩:=C;refine PE.imp (qY F (hr.mono hkk) hg hm hk hb .nil QB (cJ (eU hN hv hd hcd) (cJ hE jV he2) he) hdb he hpl) fun σ H Q ⟨ρ,d,ρ',E,h,q⟩=>?_
 obtain ⟨de,h1,h⟩:=aU h;split at h
 ·rename_i xs ys hx;split at h
  ·rename_i hpy;obtain ⟨⟨r0,xs',ys'⟩,h2,h⟩:=aU h;split at h
   ·rename_i hp';rw [Bool.and_eq_true] at hp';cases h;obtain ⟨a,vs0,hσ,e0,rr0,hp0,rp0,_⟩:=jH E ho hx;refine ⟨_,hσ,ρ,_,E.er,h1,fun w H1 s1 rw1 nw=>?_⟩;obtain ⟨c,ec,hcn⟩:∃c,w=.ref c/\H c=none:=by
     have:=nw rfl;cases this with
     | lst e p r=>exact ⟨_,rfl,p⟩
    subst ec;obtain ⟨ws0,hc1,rc1⟩:=S8 rw1;have hac:a≠c:=fun z=>by subst z;rw [hcn] at e0;cases e0
    show spV 2 f 2 [.ref a,.ref c] _ Q E0;refine ⟨[.cel a xs,.cel c ys],_,[.cel a xs',.cel c ys'],rfl,rfl,aB1 hac (s1 _ _ e0) (rr0.same s1) hp0 hc1 rc1 hpy,fun m hm=>?_,TJ h2 a c hac,fun v H' k1 own1 rn=>?_⟩
    ·match m,hm with
     | 0,_=>exact ⟨a,xs,xs',rfl,rfl⟩
     | 1,_=>exact ⟨c,ys,ys',rfl,rfl⟩
    ·obtain ⟨r1,_⟩:=own1 0 _ (by lia) rfl;have r1:Rep All H' (.ref a) (.cel a xs'):=r1;obtain ⟨vs1,e1,r1'⟩:=zO (rp0.same s1) hx r1;obtain ⟨E2,k2⟩:=E.W8 (H':=H') ho hσ (fun b ob e n=>k1 b ob (s1 _ _ e) fun ⟨m,hm,em⟩=>by
      match m,hm,em with
      | 0,_,em=>simp at em;exact n em.symm
      | 1,_,em=>
       simp at em;subst em;rw [hcn] at e;cases e
      | m+2,hm,_=>simp [j7] at hm;lia) e1 rfl r1' (by rw [mK hx];exact hp'.1)
     exact q v H' k2 E2 (.set ho) (rn.mono fun b hb=>s1.free hb)
   ·cases h
  ·cases h
 ·cases h
end
end Mi
end
section
namespace Mi
open PySem L2 PySem.SeqAt PySem.Spec PyProof.Rows
noncomputable def xcf (f:FX):List D->List D->List D->Res (List D×List D)
 | acc,[],ρ=>.ok (acc,ρ)
 | acc,x::xs,ρ=>do
  let p <- f (ρ++[x])
  if p.1.pure then xcf f (acc++[p.1]) xs p.2.dropLast else .bad
noncomputable def LC (it:FI) (f:FX):FX:=fun ρ=>do
 let xs <- it ρ
 if xs.2&&decide (xs.1.length<=lim) then (do
  let p <- xcf f [] xs.1 ρ
  .ok (.lst p.1,p.2)) else .bad
noncomputable def aDx:D->D->D->D->Res D
 | .str a,.int i,.str b,.int j=>.ok (.dct (putD [(.str a,.int i)] (.str b) (.int j)))
 | _,_,_,_=>.bad
noncomputable def XF (k v l w:FE):FE:=fun ρ=>do
 let k <- k ρ
 let v <- v ρ
 let l <- l ρ
 let w <- w ρ
 aDx k v l w
variable [KFrag]
section
variable {own:Nat->Bool} {X:Cx} {a b c e:Expr} {pos pos':Pos} {fa fb fe:FE} {ra rb re:Bool} {xa xb xe:FX}
theorem xF {i:Nat} {x:Str} {p1:Pos} {value k:Expr} {fv fk:FE} {rv rk:Bool} (ho:own i=true) (hN:X.N[i]?=some x) (hvi:Vis X.env.scope x) (hk:PE X k (gE fk rk)) (hv:PE X value (gE fv rv)) (hs:swapsWith value (some (.Subscript (.Name x p1) k pos')) pos.line X.env=pure false:=by rfl) (hd:(x==("__debug__" : Str))=false:=by decide) (hcd:(x==("__classdict__" : Str))=false:=by decide) :
  PS X (.Assign [.Subscript (.Name x p1) k pos'] value pos) (tS own (wW i fk fv)):=by
 intro pins s σ H D' I ⟨ρ,fl,E,h,q⟩;obtain ⟨d,h0,h⟩:=aU h;obtain ⟨kd,h1,h2⟩:=aU h;split at h2
 ·rename_i xs kk hx;split at h2
  ·rename_i hp;split at h2
   ·rename_i j hj;cases h2;obtain ⟨a,vs,hσ,e0,rr,hin,rp,_⟩:=jH E ho hx;have pn:D.aR (xs.set j d)=true:=fL.mpr fun y hy=>by
     rcases List.mem_or_eq_of_mem_set hy with hy|hy
     ·exact fL.mp hin y hy
     ·subst hy;exact hp
    have go:∀{v:V} {H2:Hp},bZ H H2->Rep All H2 v d->D'.nx σ (upd H2 a (.lst (vs.set j v))):=fun {v H2} sm rv=>by
     have rn:a_ All (upd H2 a (.lst (vs.set j v))) (vs.set j v) (xs.set j d):=((rr.same sm).set rv j).upd pn (sm _ _ e0) rfl;obtain ⟨E2,k2⟩:=(E.same sm).W8 (H':=upd H2 a (.lst (vs.set j v))) (o:=.lst (vs.set j v)) (d:=pU (ρ.getD i .uDf) (xs.set j d)) ho hσ (fun b ob e n=>by rw [bI n];exact e) aL rfl (zM (rp.same sm) hx aL trivial rn) (by rw [mK hx];exact pn);exact q _ _ ((KU.same sm).trans k2) E2
    refine wpAny_Assign_Subscript (thn (hv pins s σ H (fun v H1=>bZ H H1/\Rep All H1 v d) I ⟨ρ,d,E.er,h0,fun v H1 s1 r1 _=>⟨s1,r1⟩⟩) fun u1 t1 ⟨v,H1,I1,rv1,sm1,rp1⟩=>
     thn (eU hN hvi hd hcd pins t1 σ H1 (fun w H2=>w=.ref a/\H2=H1) I1 ⟨_,hσ,rfl,rfl⟩) fun u2 t2 ⟨xx,H2,I2,rx,ex,eH⟩=>?_) hs
    subst ex;rw [eH] at I2;refine thn (hk pins t2 σ _ (fun w H3=>bZ H1 H3/\w=.int kk) I2 ⟨ρ,_,E.er.same sm1,h1,fun w H3 s3 r3 _=>⟨s3,by cases r3;rfl⟩⟩) fun u3 t3 ⟨y,H3,I3,ry,sm3,ey⟩=>?_
    subst ey;exact thn (set_list pins t3 σ H3 (.ref a) (.int kk) v u2 u3 u1 (fun H4=>D'.nx σ H4) I3 rx ry rv1 ⟨a,vs,kk,j,rfl,rfl,(sm1.trans sm3) _ _ e0,by rw [rr.length];exact hj,go (sm1.trans sm3) (rp1.same sm3)⟩) fun _ t4 ⟨H4,I4,q4⟩=>⟨σ,H4,I4,q4⟩
   ·cases h2
  ·cases h2
 ·cases h2
theorem TY {H:Hp}:∀{vs:List V} {ds:List D} (n:Nat),a_ All H vs ds->a_ All H (vs.eraseIdx n) (ds.eraseIdx n)
 | _,_,_,.nil=>.nil
 | _,_,0,.cons _ t=>t
 | _,_,n+1,.cons r t=>.cons r (TY n t)
theorem T3 {i j:Nat} {x y:Str} {p1 py apos cpos:Pos} (ho:own i=true) (hN:X.N[i]?=some x) (hv:Vis X.env.scope x) (hnd:X.N.Nodup) (hj:X.N[j]?=some y) (hy:Loc X.env.scope y) (hoj:own j=false) (he:PE X e (gX own xe)) (hd:(x==("__debug__" : Str))=false:=by decide) (hcd:(x==("__classdict__" : Str))=false:=by decide)
  (hbase:attributeBase (.Name x p1) "pop" X.env (eval (.Name x p1) X.env)=eval (.Name x p1) X.env:=by rfl)
  (hs1:starEach [e] X.env=(false,eval e X.env)::starEach [] X.env:=by rfl)
  (hfew:((backTo cpos (starEach [e] X.env)).all (fun x=>!x.1)&&(backToKw cpos (keywordEach [] X.env)).all (fun x=>x.1.isSome)
   && decide (([e]:List Expr).length+([]:List Keyword).length+(if ([]:List Keyword).isEmpty then 0 else 1)<30))=true:=by rfl)
  (hline:(apos.endLine==cpos.line)=true:=by rfl)
  (hs:swapsWith (.Call (.Attribute (.Name x p1) "pop" apos) [e] [] cpos) (some (.Name y py)) pos.line X.env=pure false:=by rfl) (hf:X.fn y=true\/X.env.scope.names.lookup y=some .local:=by first|exact .inl rfl|exact .inr rfl|assumption) :
  PS X (.Assign [.Name y py] (.Call (.Attribute (.Name x p1) "pop" apos) [e] [] cpos) pos) (tS own (wX i j xe)):=
 PS.imp (GZ hnd hj hy (Z7 PySem.F.plainAttrs_list PySem.F.slot_list_pop PySem.F.type_list_pop PN (eU hN hv hd hcd) (cJ he jV hs1) hbase hfew hline hs1 rfl) hs hf) fun D' σ H ⟨ρ,fl,E,h,q⟩=>by
 obtain ⟨⟨d,ρ1⟩,h1,h2⟩:=aU h;split at h2
 ·rename_i z0 xs k hx0 hx hk0;have hk0:d=.int k:=hk0;subst hk0;split at h2
  ·rename_i hk;rw [Bool.and_eq_true,decide_eq_true_eq,decide_eq_true_eq] at hk;split at h2
   ·rename_i dx hdx;cases h2;obtain ⟨a,vs0,hσ,e0,rr0,hin0,rp0,_⟩:=jH E ho hx0;refine ⟨_,hσ,.inl ⟨rfl,vs0,.of e0⟩,ρ,_,ρ1,E,h1,fun u H' k1 E1 ns ru=>?_⟩;cases ru;obtain ⟨a',vs,hσ',hl,rr,hin,rp,_⟩:=jH E1 ho hx;rw [hσ] at hσ';cases hσ';obtain ⟨v,hvx,rv⟩:=rr.get hdx;have hlt:k.toNat<vs.length:=(List.getElem?_eq_some_iff.mp hvx).1;refine ⟨a,vs,k,k.toNat,v,rfl,rfl,hl,by lia,by lia,?_,hvx,?_⟩
    ·unfold seqIndex?;have h3:¬k<0:=by lia
     have h4:k<vs.length:=by lia
     first
      | (simp only [h3,if_false,hk.1,h4,and_self,if_true];done)
      | (simp [h3,hk.1,h4];done)
      | (simp [h3,hk.1,h4,hlt])
    ·have pall:∀y∈xs,y.pure=true:=fun y hy=>fL.mp hin y hy
     have pdx:dx.pure=true:=pall dx (List.mem_of_getElem? hdx);have pe:D.aR (xs.eraseIdx k.toNat)=true:=fL.mpr fun y hy=>pall y (List.mem_of_mem_eraseIdx hy)
     have rn:a_ All (upd H' a (.lst (vs.eraseIdx k.toNat))) (vs.eraseIdx k.toNat) (xs.eraseIdx k.toNat):=(TY k.toNat rr).upd pe hl rfl;obtain ⟨E2,k2⟩:=E1.W8 (H':=upd H' a (.lst (vs.eraseIdx k.toNat))) (o:=.lst (vs.eraseIdx k.toNat)) (d:=pU (ρ1.getD i .uDf) (xs.eraseIdx k.toNat)) ho hσ (fun b ob e n=>by rw [bI n];exact e) aL rfl (zM rp hx aL trivial rn) (by rw [mK hx];exact pe);have r1:=(a_.cons rv .nil).upd (o:=.lst (vs.eraseIdx k.toNat)) (by rw [D.aR,pdx];rfl) hl rfl;cases r1 with
     | cons r1 _=>
      have E3:=E2.set hoj (v:=v) (d:=dx) (r1.bD pdx);exact q _ _ ((k1.trans k2).trans fun b ob eb nb=>⟨eb,by rw [j8 hoj];exact nb⟩) E3
   ·cases h2
  ·cases h2
 ·cases h2
theorem DN {pins:List (Addr×Obj)} {σ:L2.St} {H:Hp} {s:Shared} {a:Addr} {vs:List V} (I:Inv X pins σ H s) (e:H a=some (.lst vs)):∃o,Inv X pins σ (upd H a (.frz o (.lst vs))) s:=by
 obtain ⟨its,n,r,ho,hz⟩:=I.lst e;refine ⟨_,I.write (t':=s.toks) (x:=a) (e:=a) (h':=s.heap) (o:=.frz _ (.lst vs)) (by rw [e];trivial) (.inl rfl) (fun _ _ _ q=>q) ⟨_,ho⟩ ⟨ho,hz,its,n,r,ho⟩⟩
theorem LK {ys:List D} (h:ys.all isI=true):D.aR ys=true:=fL.mpr fun y hy=>by
 have:=List.all_eq_true.mp h y hy;cases y <;> first|rfl|cases this
theorem T4 {H H':Hp}:∀{xs r:List D} {vs:List V},TQ xs=.ok r->a_ (New H) H' vs xs->∃b ws,H b=none/\H' b=some (.lst ws)/\D.aR r=true/\(∃(k:Nat) (ys:List D),vs[k]?=some (V.ref b)/\a_ (New H) H' ws ys/\ys.all isI=true)/\∀o,a_ (fun c=>H c=none) (upd H' b (.frz o (.lst ws))) vs r
 | [],r,vs,h,_=>by cases h
 | x::xs,r,_,h,.cons (v:=v) (vs:=vs) rx t=>by
  by_cases hl:∃ys,x=.lst ys
  ·obtain ⟨ys,rfl⟩:=hl;simp only [TQ] at h;split at h
   ·rename_i hp;rw [Bool.and_eq_true] at hp;cases h;have hpi:=LK hp.1;cases rx with
    | @lst b ws _ e p rr=>
     have hne:∀ob,H' b=some ob->aC6 ob=true:=fun ob z=>by rw [e] at z;cases z;rfl
     refine ⟨b,ws,p,e,by rw [D.aR,Bool.and_eq_true];exact ⟨hpi,hp.2⟩,⟨0,ys,rfl,rr,hp.1⟩,fun o=>.cons (.frz (.inl ⟨o,aL⟩) ((jF hne rr hpi).bD hpi)) ((jF hne t hp.2).bD hp.2)⟩
   ·cases h
  ·have h':(if x.pure then (do let r <- TQ xs;.ok (x::r)) else .bad)=Res.ok r:=by
    cases x <;> first|exact h|exact absurd ⟨_,rfl⟩ hl
   split at h'
   ·rename_i hp;obtain ⟨r',h1,h2⟩:=aU h';cases h2;obtain ⟨b,ws,g1,g2,g3,⟨k,ys,g5,g6,g7⟩,g4⟩:=T4 h1 t;have hne:∀ob,H' b=some ob->aC6 ob=true:=fun ob z=>by rw [g2] at z;cases z;rfl
    exact ⟨b,ws,g1,g2,by rw [D.aR,Bool.and_eq_true];exact ⟨hp,g3⟩,⟨k+1,ys,by simpa using g5,g6,g7⟩,fun o=>.cons ((zK hne rx hp).bD hp) (g4 o)⟩
   ·cases h'
theorem aB2 (ha:PE X a (gE fa true)):PE X a (gE (aD9 fa) true):=by
 intro pins s σ H Q I ⟨ρ,d,E,h,q⟩;obtain ⟨x,h1,h⟩:=aU h;split at h
 ·rename_i xs;obtain ⟨r,h2,h⟩:=aU h;cases h;refine thn (ha pins s σ H (fun v H'=>bZ H H'/\Rep (New H) H' v (.lst xs)) I ⟨ρ,_,E,h1,fun v H' sm rr n=>⟨sm,n rfl⟩⟩) fun u s' ⟨v,H',I',rv,sm,rn⟩=>?_
  cases rn with
  | @lst a vs _ e p rr=>
   obtain ⟨b,ws,g1,g2,g3,⟨k,ys,g5,g6,g7⟩,g4⟩:=T4 h2 rr;have hab:a≠b:=fun z=>by
    subst z;rw [e] at g2;cases g2;obtain ⟨d,hd,rd⟩:=g6.at g5;have:=List.all_eq_true.mp g7 d (List.mem_of_getElem? hd);cases d <;> first|(cases this;done)|(cases rd;done)
   obtain ⟨o,I2⟩:=DN I' g2;have s2:bZ H (upd H' b (.frz o (.lst ws))):=fun c oc hc=>by
    rw [bI (fun z=>by subst z;rw [g1] at hc;cases hc)];exact sm c oc hc
   have e2:upd H' b (.frz o (.lst ws)) a=some (.lst vs):=by rw [bI hab];exact e
   exact ⟨.ref a,_,I2,rv,q _ _ s2 (.lst e2 trivial (g4 o).all) fun _=>.lst e2 p (g4 o)⟩
 ·cases h
theorem XH {k1 k2 v1 v2:Expr} {g1 g2 h1 h2:FE} {r1 r2 r3 r4:Bool} (hk1:PE X k1 (gE g1 r1)) (hv1:PE X v1 (gE h1 r2)) (hk2:PE X k2 (gE g2 r3)) (hv2:PE X v2 (gE h2 r4)):PE X (.Dict [some k1,some k2] [v1,v2] pos) (gE (XF g1 h1 g2 h2) true):=
 PE.imp (VF (yI hk1 hv1 (yI hk2 hv2 VD)) rfl rfl (by simp) (Nat.le_of_ble_eq_true rfl)) fun σ H Q ⟨ρ,d,E,h,q⟩=>by
 obtain ⟨a1,e1,hA⟩:=aU h;obtain ⟨a2,e2,hB⟩:=aU hA;obtain ⟨a3,e3,hC⟩:=aU hB;obtain ⟨a4,e4,hD⟩:=aU hC;clear h hA hB hC;unfold aDx at hD;split at hD
 ·rename_i x i y j;cases hD;intro p hp;have s0:bZ H (upd H p (.dK [])):=bZ.upd hp;refine ⟨ρ,_,E.same s0,e1,fun w1 H1 s1 q1 _=>?_⟩;cases q1;refine ⟨ρ,_,(E.same s0).same s1,e2,fun w2 H2 s2 q2 _=>?_⟩;cases q2;refine ⟨ρ,_,((E.same s0).same s1).same s2,e3,fun w3 H3 s3 q3 _=>?_⟩;cases q3;refine ⟨ρ,_,(((E.same s0).same s1).same s2).same s3,e4,fun w4 H4 s4 q4 _=>?_⟩;cases q4;have sm:bZ (upd H p (.dK [])) H4:=((s1.trans s2).trans s3).trans s4;refine ⟨sm _ _ aL,[(.inr x,.int i),(.inr y,.int j)],rfl,Nat.le_of_ble_eq_true rfl,?_⟩;have sf:bZ H (upd H4 p (.dK (nY [] [(Sum.inr x,V.int i),(Sum.inr y,V.int j)]))):=fun b o e=>by
   rw [bI (cT e hp)];exact sm b o (s0 b o e)
  have rk:∀P:Addr->Prop,lO P (upd H4 p (.dK (nY [] [(Sum.inr x,V.int i),(Sum.inr y,V.int j)]))) (putK [(Sum.inr x,V.int i)] (Sum.inr y) (V.int j)) (putD [(.str x,.int i)] (.str y) (.int j)):=fun P=>nG (k:=.inr y) (.int j) (.cons (k:=.inr x) (.int i) .nil) (by simp)
  have nd:((putK [(Sum.inr x,V.int i)] (Sum.inr y:Key) (V.int j)).map (·.1)).Nodup:=jD (by simp);exact q _ _ sf (.dK aL trivial (rk All) nd) fun _=>.dK aL hp (rk _) nd
 ·cases hD
theorem ES.aEy {H H5:Hp} {σ:L2.St} {ρ ρ5:List D} {p:Addr} {o:HO} {vs:List V} (E:ES own H σ ρ) (k:KU own σ H σ H5) (E5:ES own H5 σ ρ5) (ns:NS own ρ ρ5) (hp:H p=none) (e5:H5 p=some (.lst vs)):ES own (upd H5 p o) σ ρ5/\KU own σ H σ (upd H5 p o):=by
 have k':KU own σ H σ (upd H5 p o):=fun b ob e n=>⟨by rw [bI (cT e hp)];exact (k b ob e n).1,n⟩
 refine ⟨⟨E5.len,fun j hj=>?_,fun j w hj hw=>?_⟩,k'⟩
 ·obtain ⟨w,h1,h2⟩:=E5.at_ j hj;refine ⟨w,h1,fun hoj=>?_⟩;rw [ns j hoj] at hj ⊢;obtain ⟨w',h1',h2'⟩:=E.at_ j hj;rw [h1] at h1';cases h1';exact k'.rep E (h2' hoj)
 ·obtain ⟨b,ob,h1,h2,h3,h4,h5,h6⟩:=E5.own j w hj hw;subst h1;have hbp:b≠p:=fun z=>by subst z;exact pB E hp ⟨j,hj,hw⟩
  refine ⟨b,ob,rfl,?_,h3,by rw [bI hbp];exact h4,h5,h6⟩;refine (h2.j7 (P':=fun c=>c=b) h3 rfl).keep (fun c oc hc hq=>?_) fun _ _=>trivial
  rw [bI]
  ·exact hc
  ·intro z;subst z;rcases hq with hq|hq
   ·exact hbp hq.symm
   ·rw [e5] at hc;cases hc;cases hq
theorem ES.snoc {H:Hp} {σ:L2.St} {ρ:List D} {x:V} {d:D} (E:ES own H σ ρ) (ho:own σ.length=false) (r:Rep (fun a=>¬Own own σ a) H x d):ES own H (σ++[some x]) (ρ++[d])/\∀a,Own own (σ++[some x]) a↔Own own σ a:=by
 have hO:∀a,Own own (σ++[some x]) a↔Own own σ a:=fun a=>by
  constructor
  ·rintro ⟨i,hi,e⟩;by_cases hl:i<σ.length
   ·exact ⟨i,hi,by rw [List.getElem?_append_left hl] at e;exact e⟩
   ·by_cases hq:i=σ.length
    ·subst hq;rw [ho] at hi;cases hi
    ·rw [List.getElem?_append_right (by lia)] at e;rw [List.getElem?_eq_none (by simp;lia)] at e;cases e
  ·rintro ⟨i,hi,e⟩;exact ⟨i,hi,by rw [List.getElem?_append_left (List.getElem?_eq_some_iff.mp e).1];exact e⟩
 have hOf:(fun a=>¬Own own (σ++[some x]) a)=fun a=>¬Own own σ a:=funext fun a=>by rw [hO]
 refine ⟨⟨by simp [E.len],fun i hi=>?_,fun i v hi hv=>?_⟩,hO⟩
 ·rw [hOf];by_cases hl:i<σ.length
  ·have e:(ρ++[d]).getD i .uDf=ρ.getD i .uDf:=by rw [List.getD_eq_getElem?_getD,List.getElem?_append_left (by rw [<-E.len];exact hl),List.getD_eq_getElem?_getD]
   rw [e] at hi ⊢;obtain ⟨v,h1,h2⟩:=E.at_ i hi;exact ⟨v,by rw [List.getElem?_append_left hl];exact h1,h2⟩
  ·by_cases hq:i=σ.length
   ·subst hq;have e:(ρ++[d]).getD σ.length .uDf=d:=by rw [E.len];simp
    rw [e];exact ⟨x,by simp,fun _=>r⟩
   ·exfalso;apply hi;rw [List.getD_eq_getElem?_getD,List.getElem?_eq_none (by simp;rw [<-E.len];lia)];rfl
 ·have hl:i<σ.length:=Nat.lt_of_not_le fun hge=>by
   by_cases hq:i=σ.length
   ·subst hq;rw [ho] at hi;cases hi
   ·rw [List.getElem?_eq_none (by simp;lia)] at hv;cases hv
  rw [List.getElem?_append_left hl] at hv;have e:(ρ++[d]).getD i .uDf=ρ.getD i .uDf:=by rw [List.getD_eq_getElem?_getD,List.getElem?_append_left (by rw [<-E.len];exact hl),List.getD_eq_getElem?_getD]
  rw [e];obtain ⟨b,ob,h1,h2,h3,h4,h5,h6⟩:=E.own i v hi hv;refine ⟨b,ob,h1,h2,h3,h4,h5,fun j hj hs=>?_⟩;have hjl:j<σ.length:=Nat.lt_of_not_le fun hge=>by
   by_cases hq:j=σ.length
   ·subst hq;rw [ho] at hj;cases hj
   ·rw [List.getElem?_eq_none (by simp;lia)] at hs;cases hs
  exact h6 j hj (by rw [List.getElem?_append_left hjl] at hs;exact hs)
theorem ES.aB3 {H:Hp} {σ:L2.St} {ρ:List D} {x:Option V} (E:ES own H (σ++[x]) ρ) (hO:∀a,Own own (σ++[x]) a↔Own own σ a):ES own H σ ρ.dropLast:=by
 have hl:ρ.length=σ.length+1:=by rw [<-E.len];simp
 have gd:∀i,i<σ.length->ρ.dropLast.getD i .uDf=ρ.getD i .uDf:=fun i hi=>by
  rw [List.getD_eq_getElem?_getD,List.getD_eq_getElem?_getD,List.getElem?_dropLast,if_pos (by lia)]
 have hOf:(fun a=>¬Own own (σ++[x]) a)=fun a=>¬Own own σ a:=funext fun a=>by rw [hO]
 refine ⟨by simp [hl],fun i hi=>?_,fun i v hi hv=>?_⟩
 ·have hlt:i<σ.length:=Nat.lt_of_not_le fun hge=>hi (by rw [List.getD_eq_getElem?_getD,List.getElem?_eq_none (by simp;lia)];rfl)
  rw [gd i hlt] at hi ⊢;obtain ⟨v,h1,h2⟩:=E.at_ i hi;rw [hOf] at h2;exact ⟨v,by rw [List.getElem?_append_left hlt] at h1;exact h1,h2⟩
 ·have hlt:i<σ.length:=(List.getElem?_eq_some_iff.mp hv).1;rw [gd i hlt];obtain ⟨b,ob,h1,h2,h3,h4,h5,h6⟩:=E.own i v hi (by rw [List.getElem?_append_left hlt];exact hv);exact ⟨b,ob,h1,h2,h3,h4,h5,fun j hj hs=>h6 j hj (by rw [List.getElem?_append_left (List.getElem?_eq_some_iff.mp hs).1];exact hs)⟩
theorem DP {K:PySem.W.Frag} {it:FI} {f:FX} {n:Nat} (ho:own n=false) {σ:L2.St} {H:Hp} {Q:VK} (hn:σ.length=n) (h:gX own (LC it f) σ H Q) :
  JS (gI K it) (pP n) (fun _ H Q=>Q true H) (gX own f) 1 σ H Q:=by
 obtain ⟨ρ,d,ρ',E,h,q⟩:=h;obtain ⟨⟨items,kk⟩,h1,h⟩:=aU h;split at h
 ·rename_i hk;rw [Bool.and_eq_true] at hk;obtain ⟨⟨ys,ρf⟩,h2,h⟩:=aU h;cases h;refine ⟨ρ,items,kk,E.er,h1,fun J H1 s1 _ hJ p hp=>?_⟩;have hp0:H p=none:=s1.free hp;have hJ1:ItQ K (fun a=>¬Own own σ a) J H1 items:=(hJ hk.1).keep (fun _ _ e _=>e) fun a ha=>pB E ha
  have E1:ES own H1 σ ρ:=E.same s1;refine ⟨fun i n' vs H'=>n'=items.length-i/\i<=items.length/\H' p=some (.lst vs)/\KU own σ H1 σ H'/\∃acc ρc,acc.length<=i/\D.aR acc=true/\a_ (fun _=>False) H' vs acc/\ES own H' σ ρc/\NS own ρ ρc/\xcf f acc (items.drop i) ρc=.ok (ys,ρf),⟨items.length,?_⟩,?_⟩
  ·exact ⟨rfl,Nat.zero_le _,aL,.same (bZ.upd hp),[],ρ,Nat.zero_le _,rfl,.nil,E1.same (bZ.upd hp),.refl,h2⟩
  ·rintro i n' vs H' ⟨rfl,hi,hH,ku,acc,ρc,hal,hpa,racc,Ec,ns,hf⟩;refine ⟨hH,?_⟩;have hJ':ItQ K (fun a=>¬Own own σ a) J H' items:=hJ1.ku ku E1;rcases Nat.lt_or_ge i items.length with hlt|hge
   ·refine .inr ?_;have e:items[i]?=some items[i]:=List.getElem?_eq_getElem hlt;obtain ⟨g1,g2⟩:=hJ'.go e;have hl1:items.length<=lim:=of_decide_eq_true hk.2;refine ⟨g1,?_,fun x H2 hy=>?_⟩
    ·rw [racc.length];exact Nat.lt_of_le_of_lt hal (Nat.lt_of_lt_of_le hlt (Nat.le_trans hl1 (by rw [sizeLine_eq];decide)))
    ·obtain ⟨sH,rx⟩:=g2 x H2 hy;have es:(σ++List.replicate 1 none).set n (some x)=σ++[some x]:=by
      subst hn;simp
     show Ext _ ((σ++List.replicate 1 none).set n (some x))/\_;rw [es];rw [List.drop_eq_getElem_cons hlt] at hf;obtain ⟨⟨y,ρ2⟩,hfy,hf⟩:=aU hf;split at hf
     ·rename_i hpy;have Ec2:=Ec.same sH;obtain ⟨E2,hO⟩:=Ec2.snoc (by rw [hn];exact ho) rx;refine ⟨⟨by simp,fun j v hv=>?_⟩,?_⟩
      ·by_cases hj:j<σ.length
       ·rw [List.getElem?_append_left hj] at hv ⊢;exact hv
       ·rw [List.getElem?_append_right (by lia),List.getElem?_replicate] at hv;split at hv <;> cases hv
      ·dsimp only;rw [if_pos rfl];refine ⟨_,y,ρ2,E2,hfy,fun w H5 k5 E5 ns5 r5=>?_⟩;have k5':KU own σ H2 σ H5:=fun b ob eb nb=>⟨(k5 b ob eb (by rw [hO];exact nb)).1,nb⟩
       have hpn:¬Own own σ p:=pB E hp0;have hp5:H5 p=some (.lst vs):=(k5' p _ (sH p _ hH) hpn).1;have E5':ES own H5 σ ρ2.dropLast:=E5.aB3 hO;have hlc:ρc.length=σ.length:=Ec.len.symm;have nsc:NS own ρ ρ2.dropLast:=fun j hj=>by
        by_cases hjl:j<σ.length
        ·have hl2:ρ2.length=σ.length+1:=by rw [<-E5.len];simp
         rw [<-ns j hj,List.getD_eq_getElem?_getD,List.getElem?_dropLast,if_pos (by lia),<-List.getD_eq_getElem?_getD,ns5 j hj,List.getD_eq_getElem?_getD,List.getElem?_append_left (by lia),<-List.getD_eq_getElem?_getD]
        ·rw [List.getD_eq_getElem?_getD,List.getElem?_eq_none (by rw [<-E5'.len];lia),List.getD_eq_getElem?_getD,List.getElem?_eq_none (by rw [<-E.len];lia)]
       have ku5:KU own σ H1 σ H5:=ku.trans ((KU.same sH).trans k5');obtain ⟨E6,k6⟩:=E1.aEy (o:=.lst (vs++[w])) ku5 E5' nsc hp hp5;refine ⟨hp5,items.length-(i+1),by lia,rfl,hlt,aL,k6,acc++[y],ρ2.dropLast,?_,?_,?_,E6,nsc,hf⟩
       ·rw [List.length_append,List.length_singleton];lia
       ·rw [oY,hpa];simp [D.aR,hpy]
       ·have hpk:JQ (fun _=>False) H2 H5:=fun c oc hc hq=>by
         refine (k5' c oc hc fun nn=>?_).1;obtain ⟨o',e',hm⟩:=Ec2.live nn;rw [hc] at e';cases e';rcases hq with hq|hq
         ·exact hq
         ·rw [hm] at hq;cases hq
        have r1:a_ (fun _=>False) H5 vs acc:=(racc.same sH).keep hpk fun _ z=>z
        have r2:a_ (fun _=>False) H5 (vs++[w]) (acc++[y]):=r1.snoc (r5.bD hpy);exact r2.keep (o6 hp5 rfl) fun _ z=>z
     ·cases hf
   ·refine .inl ⟨hJ'.stop hge,?_⟩;rw [List.drop_eq_nil_of_le hge] at hf;cases hf;exact q _ _ ((KU.same s1).trans ku) Ec ns (.lst hH hp0 (racc.mono fun _ z=>z.elim))
 ·cases h
theorem XJ {scope:Scope} {elt iter:Expr} {tg:Expr} {it:FI} {f:FX} {n:Nat} {cn y:Str} {py pos2:Pos} {iy:Nat} {o:Bool} (S:dN X.N X.env.scope scope [cn]) (hn:X.N.length=n) (hcalm:X.calm=true) (hon:own n=false) (hi:PI X tg iter (gI X.K it)) (hg:∀y,PG (mkC X scope [cn] y) tg (pP n)) (he:∀y,PE (mkC X scope [cn] y) elt (gX own f))
  (hs:∀x,foldedSetIterable iter X.env x=pure x) (ho:own iy=o) (hNn:X.N.Nodup) (hiy:X.N[iy]?=some y) (hxy:Loc X.env.scope y) (hfy:X.fn y=true\/X.env.scope.names.lookup y=some .local) (hsw:swapsWith (.ListComp elt [⟨tg,iter,[],0⟩] scope pos) (some (.Name y py)) pos2.line X.env=pure true) :
  PS X (.Assign [.Name y py] (.ListComp elt [⟨tg,iter,[],0⟩] scope pos) pos2) (tS own (fB o iy (LC it f))):=by
 intro pins s σ H D I h;refine zE S hcalm hi (fun X' cc=>by obtain ⟨y,rfl⟩:=lH cc;exact hg y) (fun X' cc=>by obtain ⟨y,rfl⟩:=lH cc;exact he y) hs hNn hiy hxy hfy hsw pins s σ H D I ?_;exact DP hon (I.len.trans hn) (zN ho h)
end
end Mi
end
section
namespace Mi
open PySem L2 PySem.SeqAt PySem.Spec PyProof.Rows
noncomputable def aB4:D->Res D
 | .non=>.ok (.bl false)
 | .bl _=>.ok (.bl false)
 | .int _=>.ok (.bl false)
 | .str _=>.ok (.bl false)
 | .dct _=>.ok (.bl false)
 | .tup _=>.ok (.bl true)
 | .lst _=>.ok (.bl true)
 | _=>.bad
noncomputable def LQ:List D->Res D
 | [.scr xs]=>if D.aR xs then .ok (.lst xs) else .bad
 | _=>.bad
noncomputable def aB5 (i:Nat) (t:D->List D->Res (List D)) (body:FS):FS:=fun ρ=>do
 let d <- aH i ρ
 match d with
 | .scr xs=>tU t body xs ρ
 | _=>.bad
variable [KFrag]
section
variable {X:Cx} {a:Expr} {fa:FE} {ra:Bool} {pos p p1 p2 p3:Pos}
noncomputable def rTL:List V->Hp->VK->Prop:=fun xs H Q=>∃v d k tp,xs=[v,.ref tp]/\Rep All H v d/\H tp=some (.tup [.ty "tuple",.ty "list"])/\aB4 d=.ok (.bl k)/\Q (.bl k) H
theorem XM:gY X (.builtin "isinstance") rTL:=by
 intro pins s σ H xs us Q I vr ⟨v,d,k,tp,e,r,et,h,q⟩;subst e;cases vr with
 | cons rv vt=>
  cases vt with
  | cons rt vt=>
   cases vt;cases rt;obtain ⟨_,its,ri,o,ho,hoc,n,hod⟩:=I.hok tp _ et;have e2:its=[.type "tuple",.type "list"]:=by
    cases ri with
    | cons a ri=>cases ri with
     | cons b ri=>cases ri;cases a;cases b;rfl
   subst e2;obtain ⟨c1,d1,dt,sl⟩:=o;replace hod:=congrArg Prod.fst hod;dsimp only at hoc hod;subst hoc hod;have q':∀tk,(fun u s'=>EP X pins σ Q u s') (.bool k) {s with toks:=tk}:=fun tk=>⟨.bl k,H,I.tok tk,rfl,q⟩
   cases r with
   | non=>cases rv;cases h;exact PySem.W.kia_tup PySem.W.kitx_none I.kIn trivial ho rfl (by intro z;cases z) q'
   | bl b=>cases rv;cases h;exact PySem.W.kia_tup PySem.W.kitx_bool I.kIn trivial ho rfl (by intro z;cases z) q'
   | int b=>obtain ⟨tt,rfl⟩:=rv;cases h;exact PySem.W.kia_tup PySem.W.kitx_int I.kIn trivial ho rfl (by intro z;cases z) q'
   | str b=>obtain ⟨tt,rfl⟩:=rv;cases h;exact PySem.W.kia_tup PySem.W.kitx_str I.kIn trivial ho rfl (by intro z;cases z) q'
   | tup e rr=>
    cases rv;cases h;obtain ⟨its,vr,o,ho2,hc,_⟩:=d8 I e;exact PySem.W.kia_tup PySem.W.kitx_tuple I.kIn ⟨o,ho2,hc⟩ ho rfl (by intro z;cases z) q'
   | lst e p rr=>
    cases rv;cases h;obtain ⟨its,vr,o,ho2,hc,_⟩:=iJ I (.of e);exact PySem.W.kia_tup PySem.W.kitx_list I.kIn ⟨o,ho2,hc⟩ ho rfl (by intro z;cases z) q'
   | dK e p rr n=>
    cases rv;cases h;obtain ⟨_,_,_,_,o,_,_,ho2,hx,_⟩:=BL I.hok e;exact PySem.W.kia_tup PySem.W.kitx_dict I.kIn ⟨o,ho2,hx.1⟩ ho rfl (by intro z;cases z) q'
   | dT e p rr n=>
    cases rv;cases h;obtain ⟨_,_,_,_,o,_,_,ho2,hx,_⟩:=HQ I.hok e;exact PySem.W.kia_tup PySem.W.kitx_dict I.kIn ⟨o,ho2,hx.1⟩ ho rfl (by intro z;cases z) q'
   | frz e rr=>cases h
   | fdK e rr n=>cases h
   | fdT e rr n=>cases h
   | cel e p rr=>cases h
theorem LR {kk} (ha:PE X a (gE fa ra)) (hg:Gl X "isinstance") (hm:X.mg "isinstance" = none) (hv:bootBuiltins "isinstance" = some (.builtin "isinstance")) (g1:Gl X "tuple") (m1:X.mg "tuple" = none) (g2:Gl X "list") (m2:X.mg "list" = none)
  (he:starEach [a,.Tuple [.Name "tuple" p1,.Name "list" p2] kk p3] X.env=(false,eval a X.env)::starEach [.Tuple [.Name "tuple" p1,.Name "list" p2] kk p3] X.env:=by rfl) (he2:starEach [.Tuple [.Name "tuple" p1,.Name "list" p2] kk p3] X.env=(false,eval (.Tuple [.Name "tuple" p1,.Name "list" p2] kk p3) X.env)::starEach [] X.env:=by rfl)
  (he3:starEach [.Name "tuple" p1,.Name "list" p2] X.env=(false,eval (.Name "tuple" p1) X.env)::starEach [.Name "list" p2] X.env:=by rfl) (he4:starEach [.Name "list" p2] X.env=(false,eval (.Name "list" p2) X.env)::starEach [] X.env:=by rfl)
  (hpl:(backTo pos (starEach [.Tuple [.Name "tuple" p1,.Name "list" p2] kk p3] X.env)).any (·.1)=false:=by rfl):PE X (.Call (.Name "isinstance" p) [a,.Tuple [.Name "tuple" p1,.Name "list" p2] kk p3] [] pos) (gE (b1 aB4 fa) true):=
 PE.imp (qZ XM hg hm hv (cJ ha (cJ (G7 (cJ (vY g1 m1 fZ (v:=.ty "tuple") rfl (by decide) (by decide)) (cJ (vY g2 m2 KQ (v:=.ty "list") rfl (by decide) (by decide)) jV he4) he3)) jV he2) he) (by decide) (by decide) he hpl) fun σ H Q ⟨ρ,d,E,h,q⟩=>by
  obtain ⟨x,h1,h⟩:=aU h;refine ⟨ρ,x,E,h1,fun v H1 s1 r1 _=>⟨by rw [sizeLine_eq];decide,fun tp htp=>?_⟩⟩;obtain ⟨k,rfl⟩:∃k,d=.bl k:=by cases x <;> simp only [aB4] at h <;> first|(cases h;done)|(cases h;exact ⟨_,rfl⟩)
  have sp:bZ H1 (upd H1 tp (.tup [.ty "tuple",.ty "list"])):=bZ.upd htp;exact ⟨v,x,k,tp,rfl,r1.same sp,aL,h,(q.imp (s1.trans sp) id).bl⟩
theorem Q9 (hK:KFrag.K=X.K):gY X (.type "list") (rs LQ true):=by
 intro pins s σ H xs us Q I vr ⟨ds,d,r,e,k⟩;unfold LQ at e;split at e
 ·split at e
  ·rename_i hl;cases e;obtain ⟨vv,uu,rfl,rfl,r,v⟩:=fY r vr;cases r with
   | @frz l ys _ ee rr=>
    cases v;refine t8 pins s σ H [.ref l] [.ref l] Q I (.cons rfl .nil) ⟨l,ys,rfl,.inl (ee.sq hK),fun p hp=>?_⟩;have sp:bZ H (upd H p (.lst ys)):=bZ.upd hp;exact k _ _ sp (.lst aL trivial (rr.same sp)) fun _=>.lst aL hp ((rr.bD hl).same sp)
  ·cases e
 ·cases e
theorem aB6 {tg:Expr} {i:Nat} {x:Str} (hK:KFrag.K=X.K) (hN:X.N[i]?=some x) (hv:Vis X.env.scope x) (hd:(x==("__debug__" : Str))=false:=by decide) (hcd:(x==("__classdict__" : Str))=false:=by decide) :
  PI X tg (.Name x pos) (fun σ H R=>∃v items,σ[i]?=some (some v)/\Rep All H v (.scr items)/\∀J,(∀P:Addr->Prop,Rep P H v (.scr items)->ItQ X.K P J H items)->R J H):=by
 intro pins s σ H R I ⟨v,items,hσ,r,q⟩;refine thn (eU (pos:=pos) hN hv hd hcd pins s σ H (fun w H1=>w=v/\H1=H) I ⟨v,hσ,rfl,rfl⟩) fun u s1 ⟨w,H1,I1,ru,e1,e2⟩=>?_
 subst e1 e2;cases r with
 | @frz a xs _ ee rr=>
  cases ru;obtain ⟨its,rv,p,hz⟩:=I1.list (ee.sq hK);refine wpAny_pyIter_list p.isList ?_;refine ⟨s1.heap.objs.size,[s1.heap.objs.size],_,_,H1,rfl,I1.kept (t':=s1.toks) fun b o e=>Heap.get?_push_of_some _ e,nR a _,⟨_,Heap.get?_push_size _ rfl,rfl,rfl⟩,fun b hb=>?_,q _ fun P r=>.scr a hK rfl r⟩;have e:b=s1.heap.objs.size:=by simpa using hb
  subst e;exact I1.YK (Nat.le_refl _) (I1.hok.fresh (Nat.le_refl _))
theorem XN {own:Nat->Bool} {tg:Expr} {body:List Stmt} {g:TG} {t:D->List D->Res (List D)} {i:Nat} {x:Str} {px:Pos} {fb:FS} (hK:KFrag.K=X.K) (ho:own i=false) (hp:PassesOwn (model X.prog X.w) X.A X.env X.xe) (hc:X.calm=true) (hN:X.N[i]?=some x) (hv:Vis X.env.scope x) (ht:TgS own g t) (hg:PG X tg g) (hb:PSs X body (tS own fb))
  (hs:∀z,foldedSetIterable (.Name x px) X.env z=pure z:=by intro _;rfl) (hd:(x==("__debug__" : Str))=false:=by decide) (hcd:(x==("__classdict__" : Str))=false:=by decide):PS X (.For tg (.Name x px) body [] pos) (tS own (aB5 i t fb)):=PS.imp (yF hp hc (aB6 hK hN hv hd hcd) hg hb hs) fun D' σ H ⟨ρ,fl,E,h,q⟩=>by
 obtain ⟨d,h1,h⟩:=aU h;split at h
 ·rename_i items;obtain ⟨v,hv,r⟩:=Q5 E ho h1;exact ⟨v,items,hv,r.all,fun J hJ=>sG ht E (hJ _ r) h q⟩
 ·cases h
theorem aDd (ha:PE X a (gE fa ra)):PE X a (gE (bPu fa) true):=PE.imp ha fun σ H Q ⟨ρ,d,E,h,q⟩=>by
 obtain ⟨x,h1,h⟩:=aU h;split at h
 ·rename_i hp;cases h;exact ⟨ρ,_,E,h1,fun v H' s r _=>q v H' s r fun _=>r.bD hp⟩
 ·cases h
end
end Mi
end
section
namespace Mi
open PySem L2 PySem.SeqAt PySem.Spec PyProof.Rows
noncomputable def forL (a i:Nat) (t:D->List D->Res (List D)) (body:FS):Nat->Nat->List D->Res Fl
 | 0,_,_=>.bad
 | n+1,k,ρ=>match ρ.getD i .uDf with
  | .cel a' ys=>if a'=a then (match ys[k]? with
   | none=>.ok (.nx ρ)
   | some x=>do
    let ρ1 <- t x ρ
    let r <- body ρ1
    match r with
    | .nx ρ'=>forL a i t body n (k+1) ρ'
    | .ct ρ'=>forL a i t body n (k+1) ρ'
    | _=>.bad) else .bad
  | _=>.bad
open Classical in
noncomputable def uU (i:Nat) (t:D->List D->Res (List D)) (body:FS):FS:=fun ρ=>match ρ.getD i .uDf with
 | .lst xs=>if h:∃p:List D×List D,i<p.1.length/\∀a,forL a i t body 10000 0 (ρ.set i (.cel a xs))=.ok (.nx (p.1.set i (.cel a p.2))) then .ok (.nx (h.choose.1.set i (.lst h.choose.2))) else .bad
 | _=>.bad
theorem XQ {i:Nat} {t:D->List D->Res (List D)} {body:FS} {ρ xs:List D} {r:Fl} (hx:ρ.getD i .uDf=.lst xs) (h:uU i t body ρ=.ok r):∃(ρ' xs':List D),i<ρ'.length/\r=.nx (ρ'.set i (.lst xs'))/\∀a,forL a i t body 10000 0 (ρ.set i (.cel a xs))=.ok (.nx (ρ'.set i (.cel a xs'))):=by
 unfold uU at h;rw [hx] at h;dsimp only at h;split at h
 ·rename_i e;cases h;exact ⟨_,_,e.choose_spec.1,rfl,e.choose_spec.2⟩
 ·cases h
theorem XR {i:Nat} {t:D->List D->Res (List D)} {body:FS} {ρ xs ρ' xs':List D} (hx:ρ.getD i .uDf=.lst xs) (hl:i<ρ'.length) (h:∀a,forL a i t body 10000 0 (ρ.set i (.cel a xs))=.ok (.nx (ρ'.set i (.cel a xs')))):uU i t body ρ=.ok (.nx (ρ'.set i (.lst xs'))):=by
 have e:∃p:List D×List D,i<p.1.length/\∀a,forL a i t body 10000 0 (ρ.set i (.cel a xs))=.ok (.nx (p.1.set i (.cel a p.2))):=⟨(ρ',xs'),hl,h⟩
 have q:uU i t body ρ=.ok (.nx (e.choose.1.set i (.lst e.choose.2))):=by
  unfold uU;rw [hx];dsimp only;rw [dif_pos e]
 rw [q];obtain ⟨z1,z2⟩:=e.choose_spec;have z:=z2 0;rw [h 0] at z;injection z with z
 injection z with z
 have g1:=congrArg (fun l:List D=>l.getD i .uDf) z;simp only [List.getD_eq_getElem?_getD,List.getElem?_set_self hl,List.getElem?_set_self z1,Option.getD_some] at g1;injection g1 with _ g1
 have g2:=congrArg (fun l:List D=>l.set i (.lst xs')) z;simp only [List.set_set] at g2;rw [<-g1,<-g2]
variable [KFrag]
section
variable {own:Nat->Bool} {X:Cx} {pos:Pos}
theorem ES.cel {H:Hp} {σ:L2.St} {ρ:List D} {i:Nat} {a:Addr} {d:D} (E:ES own H σ ρ) (ho:own i=true) (hi:σ[i]?=some (some (.ref a))) (r:Rep All H (.ref a) d) (hin:inner d=true):ES own H σ (ρ.set i d):=by
 obtain ⟨a',o,e,_,_,h1,h2,_⟩:=E.own i _ ho hi;cases e;exact (E.W8 (H':=H) (o:=o) (d:=d) ho hi (fun b ob e _=>e) h1 h2 r hin).1
theorem aB7 {tg:Expr} {i:Nat} {x:Str} (hN:X.N[i]?=some x) (hv:Vis X.env.scope x) (hd:(x==("__debug__" : Str))=false:=by decide) (hcd:(x==("__classdict__" : Str))=false:=by decide) :
  PI X tg (.Name x pos) (fun σ H R=>∃a vs,σ[i]?=some (some (.ref a))/\H a=some (.lst vs)/\R (Itl X.K a) H):=by
 intro pins s σ H R I ⟨a,vs,hσ,e,q⟩;refine thn (eU (pos:=pos) hN hv hd hcd pins s σ H (fun w H1=>w=.ref a/\H1=H) I ⟨_,hσ,rfl,rfl⟩) fun u s1 ⟨w,H1,I1,ru,e1,e2⟩=>?_
 subst e1 e2;cases ru;obtain ⟨its,rv,p,hz⟩:=I1.list (.inl (.inl e));refine wpAny_pyIter_list p.isList ?_;refine ⟨s1.heap.objs.size,[s1.heap.objs.size],_,_,H1,rfl,I1.kept (t':=s1.toks) fun b o e=>Heap.get?_push_of_some _ e,nR a _,⟨_,Heap.get?_push_size _ rfl,rfl,rfl⟩,fun b hb=>?_,q⟩;have e:b=s1.heap.objs.size:=by simpa using hb
 subst e;exact I1.YK (Nat.le_refl _) (I1.hok.fresh (Nat.le_refl _))
theorem XS {tg:Expr} {body:List Stmt} {g:TG} {t:D->List D->Res (List D)} {i:Nat} {x:Str} {px:Pos} {fb:FS} (ho:own i=true) (hp:PassesOwn (model X.prog X.w) X.A X.env X.xe) (hc:X.calm=true) (hN:X.N[i]?=some x) (hv:Vis X.env.scope x) (ht:TgS own g t) (hg:PG X tg g) (hb:PSs X body (tS own fb))
  (hs:∀z,foldedSetIterable (.Name x px) X.env z=pure z:=by intro _;rfl) (hd:(x==("__debug__" : Str))=false:=by decide) (hcd:(x==("__classdict__" : Str))=false:=by decide):PS X (.For tg (.Name x px) body [] pos) (tS own (uU i t fb)):=PS.imp (yF hp hc (aB7 hN hv hd hcd) hg hb hs) fun D' σ H ⟨ρ,fl,E,h,q⟩=>by
 have hx:∃xs,ρ.getD i .uDf=.lst xs:=by
  unfold uU at h;split at h
  ·exact ⟨_,by assumption⟩
  ·cases h
 obtain ⟨xs,hx⟩:=hx;obtain ⟨ρp,xs',hlp,rfl,hf⟩:=XQ hx h;obtain ⟨a,vs,hσ,e0,rr,hin,rp,_⟩:=jH E ho (xs:=xs) (by rw [hx];rfl);refine ⟨a,vs,hσ,e0,?_⟩;have E0:ES own H σ (ρ.set i (.cel a xs)):=E.cel ho hσ (.cel e0 trivial rr) hin;refine ⟨fun k m σ' H'=>∃ρ',ES own H' σ' ρ'/\forL a i t fb m k ρ'=.ok (.nx (ρp.set i (.cel a xs')))/\kS own D' σ' H' (.nx (ρp.set i (.lst xs'))),⟨10000,_,E0,hf a,q⟩,?_⟩;rintro k m σ' H' ⟨ρ',E',hf',q'⟩;cases m with
 | zero=>cases hf'
 | succ m=>
  rw [forL] at hf';split at hf'
  ·rename_i a' ys hy;split at hf'
   ·rename_i ea;subst ea;obtain ⟨ws,hσ',eb⟩:=jG E' hy;obtain ⟨b,o,eb2,rb,hin',hb1,hb2,_⟩:=E'.own i _ ho hσ';cases eb2;rw [hy] at rb hin';obtain ⟨vs',e1,_,rr'⟩:=zL rb rfl;split at hf'
    ·rename_i hk;injection hf' with hf'
     injection hf' with hf'
     subst hf';refine .inl ⟨⟨vs',.inl (.inl e1),by rw [rr'.length];exact List.getElem?_eq_none_iff.mp hk⟩,?_⟩;have g1:(ρp.set i (D.cel a' xs')).getD i .uDf=.cel a' xs':=by rw [List.getD_eq_getElem?_getD,List.getElem?_set_self hlp];rfl
     rw [g1] at hy;cases hy;have E2:ES own H' σ' ((ρp.set i (D.cel a' xs')).set i (.lst xs')):=E'.cel ho hσ' (.lst e1 trivial rr') hin';rw [List.set_set] at E2;exact q' σ' H' (fun b o e n=>⟨e,n⟩) E2
    ·rename_i dx hk;refine .inr ?_;obtain ⟨v,h1,h2⟩:=rr'.get hk;have pdx:dx.pure=true:=fL.mp hin' dx (List.mem_of_getElem? hk);obtain ⟨ρ1,g1,hf2⟩:=aU hf';obtain ⟨r,g2,hf3⟩:=aU hf2;refine ⟨⟨vs',v,.inl (.inl e1),h1⟩,fun σ2 H2=>∃ρ',ES own H2 σ2 ρ'/\forL a' i t fb m (k+1) ρ'=.ok (.nx (ρp.set i (.cel a' xs')))/\kS own D' σ2 H2 (.nx (ρp.set i (.lst xs'))),fun σ2 H2 w=>⟨m,Nat.lt_succ_self m,w⟩,fun x H2 hy2=>?_⟩;obtain ⟨rfl,hyl⟩:=hy2;have hv2:=hyl vs' (.inl (.inl e1));rw [h1] at hv2;cases hv2;refine ht v dx ρ' ρ1 σ' H2 _ E' (h2.bD pdx) g1 fun σ2 E2 hO=>?_
     have k0:KU own σ' H2 σ2 H2:=fun a o e n=>⟨e,by rw [hO];exact n⟩
     refine ⟨ρ1,r,E2,g2,?_⟩;cases r with
     | nx ρ2=>exact fun σ3 H3 k3 E3=>⟨ρ2,E3,hf3,(q'.step k0).step k3⟩
     | ct ρ2=>exact fun σ3 H3 k3 E3=>⟨ρ2,E3,hf3,(q'.step k0).step k3⟩
     | bk ρ2=>cases hf3
     | rt d=>cases hf3
   ·cases hf'
  ·cases hf'
end
end Mi
end
section
local macro_rules | `(tactic| trivial) => `(tactic| first | exact Or.inl rfl | exact Or.inr rfl | exact Or.inr (Or.inl rfl) | exact Or.inr (Or.inr rfl))
namespace Lk21
open PySem L2 Mi PySem.W
noncomputable def top (i:Nat):Stmt:=PySem.Challenge.pw_hookmill_k21_turned.main.body.getD i (.Pass ⟨0,0,0,0⟩)
noncomputable abbrev d_:Stmt:=top 9
noncomputable def xG:Nat->Bool:=fun i=>false
noncomputable def xH:FS:=bU (dZ false 1 (bC (.int 90001)) true) (bU (aB5 0 (tg1 2) (dZ false 1 (b2 (bB .mod) (b2 (bB .add) (b2 FZ (aH 1) (bC (.int 69069))) (aH 2)) (bC (.int 1000000007))) true)) (nA (wG (aD (bC (.int 0)) (aD (bPu (aH 1)) (aD (aY LQ (aD (aH 0) (aZ))) (aZ))))) true))
noncomputable def fQ:List D->Res D:=fnS 1 3 xH
noncomputable abbrev eE:Stmt:=top 10
noncomputable def xJ:Nat->Bool:=fun i=>i==0||i==1000000
noncomputable def xK:FS:=bU (wW 0 (bC (.int 0)) (b2 (bB .add) (b2 getD (aH 0) (bC (.int 0))) (bC (.int 1)))) (bU (sIf (bTB (b2 (d7 (.ord .le)) (b2 getD (aH 0) (bC (.int 0))) (aY uE (aD (b2 getD (aH 0) (bC (.int 2))) (aZ))))) (BZ (b2 (bB .mod) (b2 getD (b2 getD (aH 0) (bC (.int 2))) (b2 (bB .sub) (b2 getD (aH 0) (bC (.int 0))) (bC (.int 1)))) (aH 1)) true) (pO)) (bU (wW 0 (bC (.int 1)) (b2 (bB .mod) (b2 (bB .add) (b2 (bB .add) (b2 FZ (b2 getD (aH 0) (bC (.int 1))) (b2 getD (aH 0) (bC (.int 1)))) (b2 FZ (bC (.int 7)) (b2 getD (aH 0) (bC (.int 0))))) (bC (.int 11))) (bC (.int 1000000007)))) (BZ (b2 (bB .mod) (b2 (bB .fdiv) (b2 getD (aH 0) (bC (.int 1))) (bC (.int 3))) (aH 1)) true)))
noncomputable def aN:List D->Res D:=fnX 1 2 2 xK
noncomputable abbrev dD:Stmt:=top 11
noncomputable def uV:Nat->Bool:=fun i=>i==0||i==7||i==1000000
noncomputable def uW:FS:=bU (dZ false 2 (bC (.str "abcdefghijklmnopqrstuvwxyz")) true) (bU (fB false 3 (cG aN 2 0 (aD (bPu (b2 (bB .pow) (bC (.int 10)) (bC (.int 15)))) (aZ)))) (bU (dZ false 4 (b2 (bB .add) (bC (.int 1)) (b2 (bB .mod) (aH 3) (bC (.int 8)))) true) (bU (dZ false 5 (b2 (bB .mod) (b2 (bB .fdiv) (aH 3) (bC (.int 8))) (aH 4)) true) (bU (dZ false 6 (b2 (bB .mod) (b2 (bB .fdiv) (aH 3) (bC (.int 64))) (bC (.int 3))) true) (bU (dZ true 7 (wG (aZ)) true) (bU (O4 (iK (aD (aH 1) (aZ)) lW) (tg1 8) (bU (dZ false 9 (b2 (bB .fdiv) (aH 3) (bC (.int 192))) true) (bU (dZ false 10 (bC (.str "")) true) (bU (O4 (iK (aD (aH 4) (aZ)) lW) (tg1 11) (bU (dZ false 12 (b2 FZ (aH 8) (aY aC7 (aD (aA0 (b2 (d7 .eq) (aH 11) (aH 5)) (b2 (d7 .eq) (aH 6) (bC (.int 2)))) (aZ)))) true) (bU (dZ false 10 (b2 (bB .add) (aH 10) (b2 getD (aH 2) (b2 (bB .mod) (b2 (bB .add) (aH 9) (aH 12)) (bC (.int 26))))) true) (dZ false 9 (b2 (bB .fdiv) (aH 9) (bC (.int 26))) true)))) (bU (sIf (bTB (b2 (d7 .eq) (aH 6) (bC (.int 1)))) (dZ false 10 (aC4 (aH 10) (JD) (wH (b2 (bB .add) (b2 (bB .add) (aH 5) (bC (.int 1))) (b2 (bB .mod) (aH 8) (b2 (bB .sub) (aH 4) (aH 5)))))) true) (pO)) (tR 7 (aH 10))))))) (oK 7)))))))
noncomputable def eV:List D->Res D:=fnX 1 2 13 uW
noncomputable abbrev dF:Stmt:=top 12
noncomputable def uX:Nat->Bool:=fun i=>i==0||i==4||i==1000000
noncomputable def uY:FS:=bU (fB false 2 (cG aN 2 0 (aD (bPu (b2 (bB .pow) (bC (.int 10)) (bC (.int 6)))) (aZ)))) (bU (dZ false 3 (b2 getD (wG (aD (bC (.int 3)) (aD (bC (.int 4)) (aD (bC (.int 3)) (aD (bC (.int 7)) (aZ)))))) (b2 (bB .mod) (aH 2) (bC (.int 4)))) false) (bU (dZ false 2 (b2 (bB .fdiv) (aH 2) (bC (.int 4))) true) (bU (dZ true 4 (XF (b2 getD (aH 1) (bC (.int 0))) (bC (.int 0)) (b2 getD (aH 1) (bC (.int 1))) (b2 (bB .add) (bC (.int 1)) (b2 (bB .mod) (aH 2) (b2 (bB .sub) (aH 3) (bC (.int 1)))))) true) (bU (O4 (dW (aC4 (aH 1) (wH (bC (.int 2))) (JD)) true) (tg1 5) (bU (dZ false 2 (b2 (bB .fdiv) (aH 2) (aH 3)) true) (aC2 4 (aH 5) (b2 (bB .mod) (aH 2) (aH 3))))) (oK 4)))))
noncomputable def gC:List D->Res D:=fnX 1 2 6 uY
noncomputable abbrev cH:Stmt:=top 13
noncomputable def pX:Nat->Bool:=fun i=>i==0||i==4||i==1000000
noncomputable def pY:FS:=bU (fB false 2 (cG aN 2 0 (aD (bPu (b2 (bB .pow) (bC (.int 10)) (bC (.int 57)))) (aZ)))) (bU (fB false 3 (x2R getD (wG (aD (bC (.int 1)) (aD (bC (.int 3)) (aD (bC (.int 1000)) (aD (b2 (bB .pow) (bC (.int 10)) (bC (.int 57))) (aZ)))))) (cG aN 2 0 (aD (bPu (bC (.int 4))) (aZ))))) (bU (dZ true 4 (wG (aZ)) true) (bU (dZ false 5 (bC (.int 0)) true) (bU (O4 (iK (aD (aH 1) (aZ)) lW) (tg1 6) (bU (dZ false 5 (b2 (bB .add) (b2 (bB .add) (aH 5) (bC (.int 1))) (b2 (bB .mod) (b2 (bB .fdiv) (aH 2) (b2 (bB .add) (aH 6) (bC (.int 1)))) (aH 3))) true) (tR 4 (aH 5)))) (oK 4)))))
noncomputable def eQ:List D->Res D:=fnX 1 2 7 pY
noncomputable abbrev eF:Stmt:=top 14
noncomputable def xM:Nat->Bool:=fun i=>i==0||i==1||i==2||i==1000000
noncomputable def xN:FS:=bU (dZ true 2 (wG (aZ)) true) (bU (aDw (bTB (b2 (d7 (.ord .gt)) (aY uE (aD (aH 1) (aZ))) (bC (.int 1)))) (bU (wX 1 3 (xE (bC (.int 0)))) (bU (wX 1 4 (cG aN 2 0 (aD (bPu (aY uE (aD (aH 1) (aZ)))) (aZ)))) (tR 2 (iY (aD (aY (cO .lt) (aD (aH 3) (aD (aH 4) (aZ)))) (aD (aY (cO .gt) (aD (aH 3) (aD (aH 4) (aZ)))) (aZ)))))))) (oK 2))
noncomputable def eG:List D->Res D:=fnX 2 2 5 xN
noncomputable abbrev cI:Stmt:=top 15
noncomputable def DQ:Nat->Bool:=fun i=>i==0||i==6||i==10||i==1000000
noncomputable def DR:FS:=bU (fB false 5 (cG eQ 2 0 (aD (bPu (b2 (bB .add) (aH 3) (bC (.int 1)))) (aZ)))) (bU (fB true 6 (LC (iK (aD (aH 3) (aZ)) lW) (aAt (uR (b2 getD (aH 5) (aH 13)) (wV (x2R getD (aH 2) (cG aN 2 0 (aD (bPu (aY uE (aD (aH 2) (aZ)))) (aZ)))) (aC8)))))) (bU (dZ false 7 (fJ 13 (iK (aD (aH 4) (aZ)) lW) yM (fU) (iY (aD (bC (.int 0)) (aD (aH 13) (aZ)))) false) true) (bU (uU 6 (tgN [8,9]) (dZ false 7 (b2 (bB .add) (aH 7) (fJ 13 (iK (aD (bC (.int 1)) (aD (b2 (bB .add) (b2 getD (aH 1) (aH 9)) (bC (.int 1))) (aZ))) BX) yM (fU) (iY (aD (aH 8) (aD (aH 13) (aZ)))) false)) true)) (bU (sIf (bTB (b2 (d7 .eq) (b2 (bB .mod) (b2 (bB .add) (aY uE (aD (aH 7) (aZ))) (aH 3)) (bC (.int 2))) (bC (.int 1)))) (tR 6 (iY (aD (b2 getD (aH 5) (aH 3)) (aD (b2 getD (aH 2) (bC (.int 0))) (aZ))))) (pO)) (bU (dZ true 10 (fJ 13 (dW (aH 6) false) (JF 2) (fU) (iY (aD (aH 13) (aD (bC (.int 0)) (aZ)))) false) true) (bU (dZ false 11 (wG (aZ)) true) (bU (aAu (xTB (x2L (d7 (.ord .gt)) (cG aN 2 0 (aD (bPu (bC (.int 3))) (aZ))) (bC (.int 0)))) (fB false 11 (qR eG 0 10)) (pO)) (bU (fB false 11 (x2N (bB .add) (aH 11) (sS eG 0 (b2 (bB .add) (aH 10) (aH 7))))) (bU (fB false 12 (x2R getD (wG (aD (bC (.int 0)) (aD (bC (.int 0)) (aD (bC (.int 1)) (aD (bC (.int 7)) (aD (b2 (bB .pow) (bC (.int 10)) (bC (.int 57))) (aZ))))))) (cG aN 2 0 (aD (bPu (bC (.int 5))) (aZ))))) (BZ (iY (aD (aY oG (aD (aH 6) (aZ))) (aD (aY oG (aD (aY iZ (aD (aH 11) (aZ))) (aZ))) (aD (aH 12) (aZ))))) false))))))))))
noncomputable def jP:List D->Res D:=fnX 1 5 13 DR
noncomputable abbrev cZ:Stmt:=top 4
noncomputable def xO:Nat->Bool:=fun i=>false
noncomputable def xP:FS:=nA (aY uE (aD (fJ 1 (dW (aH 0) false) yM (bTB (b2 (d7 .eq) (b2 getD (aH 1) (bC (.int 0))) (bC (.int 0)))) (aH 1) false) (aZ))) true
noncomputable def iD:List D->Res D:=fnS 1 1 xP
noncomputable abbrev gR:Stmt:=top 3
noncomputable def L_:Nat->Bool:=fun i=>i==1
noncomputable def MF:FS:=bU (dZ true 1 (wG (aZ)) true) (bU (QG 0 (tgN [2,3]) (bU (tR 1 (aH 2)) (tR 1 (aH 3)))) (aA1 1))
noncomputable def lL:List D->Res D:=fnS 1 4 MF
noncomputable abbrev DW:Stmt:=top 1
noncomputable def aDe:Nat->Bool:=fun i=>false
noncomputable def aDf:FS:=nA (aY (j6 1 iD) (aD (aY (j6 1 lL) (aD (b2 getD (aH 0) (bC (.int 1))) (aZ))) (aZ))) true
noncomputable def Q_:List D->Res D:=fnS 1 1 aDf
noncomputable abbrev eN:Stmt:=top 2
noncomputable def DX:Nat->Bool:=fun i=>false
noncomputable def DY:FS:=bU (dZ false 3 (fJ 4 (dW (aH 1) false) (JF 2) (fU) (iY (aD (aY (cO .lt) (aD (aH 4) (aD (aH 5) (aZ)))) (aD (aY (cO .gt) (aD (aH 4) (aD (aH 5) (aZ)))) (aZ)))) false) true) (nA (iY (aD (aY oG (aD (aY sO (aD (aH 0) (aZ))) (aZ))) (aD (aY oG (aD (aY iZ (aD (aH 3) (aZ))) (aZ))) (aD (aH 2) (aZ))))) false)
noncomputable def jQ:List D->Res D:=fnS 3 4 DY
noncomputable abbrev dG:Stmt:=top 7
noncomputable def uZ:Nat->Bool:=fun i=>false
noncomputable def mY:FS:=bU (sIf (bTB (b2 (d7 .ne) (b2 getD (aH 0) (bC (.int 0))) (bC (.int 0)))) (nA (aH 0) false) (pO)) (bU (sIf (bTB (b2 (d7 (.ord .lt)) (b2 getD (aH 0) (bC (.int 1))) (aH 1))) (nA (iY (aD (bC (.int 0)) (aD (b2 (bB .sub) (b2 (bB .add) (b2 getD (aH 0) (bC (.int 1))) (aH 2)) (aH 1)) (aZ)))) true) (pO)) (nA (iY (aD (bC (.int 0)) (aD (b2 (bB .sub) (b2 getD (aH 0) (bC (.int 1))) (aH 1)) (aZ)))) true))
noncomputable def b7:List D->Res D:=fnS 3 3 mY
noncomputable abbrev iG:Stmt:=top 6
noncomputable def RB:Nat->Bool:=fun i=>false
noncomputable def RC:FS:=bU (dZ false 2 (aY (j6 1 Q_) (aD (aH 0) (aZ))) true) (bU (dZ false 3 (fJ 4 (dW (b2 getD (aH 0) (bC (.int 1))) false) (JF 2) (fU) (iY (aD (aY (j6 3 b7) (aD (aH 4) (aD (aH 1) (aD (aH 2) (aZ))))) (aD (aY (j6 3 b7) (aD (aH 5) (aD (aH 1) (aD (aH 2) (aZ))))) (aZ)))) true) true) (nA (aY (j6 3 jQ) (aD (b2 getD (aH 0) (bC (.int 0))) (aD (aH 3) (aD (b2 getD (aH 0) (bC (.int 2))) (aZ))))) true))
noncomputable def dY:List D->Res D:=fnS 2 4 RC
noncomputable abbrev dH:Stmt:=top 17
noncomputable def u0:Nat->Bool:=fun i=>false
noncomputable def mZ:FS:=bU (sIf (YS (bTB (b2 (d7 .eq) (b2 getD (aH 0) (bC (.int 0))) (bC (.int 0)))) (bTB (b2 (d7 (.ord .lt)) (b2 getD (aH 0) (bC (.int 1))) (aH 1)))) (nA (iY (aD (bC (.int 0)) (aD (b2 (bB .add) (b2 (bB .sub) (aH 2) (aH 1)) (b2 getD (aH 0) (bC (.int 1)))) (aZ)))) true) (pO)) (bU (sIf (bTB (b2 (d7 .eq) (b2 getD (aH 0) (bC (.int 0))) (bC (.int 0)))) (nA (iY (aD (bC (.int 0)) (aD (b2 (bB .sub) (b2 getD (aH 0) (bC (.int 1))) (aH 1)) (aZ)))) true) (pO)) (nA (aH 0) false))
noncomputable def cR:List D->Res D:=fnS 3 3 mZ
noncomputable abbrev dB:Stmt:=top 16
noncomputable def pC:Nat->Bool:=fun i=>false
noncomputable def pF (rr:List D->Res D):FS:=bU (sIf (bTr (b1 aB4 (aH 1))) (bU (sIf (bOr (bTB (b2 (d7 .ne) (b1 (oH .tuple) (aH 0)) (b1 (oH .tuple) (aH 1)))) (YQ (bTr (b1 aB4 (aH 0))))) (nA (bC (.bl false)) true) (pO)) (bU (sIf (bTB (b2 (d7 .ne) (aY uE (aD (aH 0) (aZ))) (aY uE (aD (aH 1) (aZ))))) (nA (bC (.bl false)) true) (pO)) (nA (aY aC5 (aD (fJ 2 (iK (aD (aY uE (aD (aH 1) (aZ))) (aZ)) lW) yM (fU) (aY (j6 2 rr) (aD (b2 getD (aH 0) (aH 2)) (aD (b2 getD (aH 1) (aH 2)) (aZ)))) true) (aZ))) true))) (pO)) (bU (sIf (bOr (bTr (b1 (oH .bool) (aH 1))) (bTr (b1 (oH .bool) (aH 0)))) (nA (rO (b1 (oH .bool) (aH 1)) (rO (b1 (oH .bool) (aH 0)) (b2 (d7 .eq) (aH 0) (aH 1)))) true) (pO)) (bU (sIf (bTr (b1 (oH .int) (aH 1))) (nA (rO (b1 (oH .int) (aH 0)) (b2 (d7 .eq) (aH 0) (aH 1))) true) (pO)) (bU (sIf (bTr (b1 (oH .str) (aH 1))) (nA (rO (b1 (oH .str) (aH 0)) (b2 (d7 .eq) (aH 0) (aH 1))) true) (pO)) (nA (rO (b2 (d7 .isN) (aH 0) (bC .non)) (b2 (d7 .isN) (aH 1) (bC .non))) true))))
noncomputable def bO:Nat->List D->Res D
 | 0=>fnS 2 2 aDv
 | m+1=>fnS 2 2 (pF (bO m))
noncomputable abbrev sV:Stmt:=top 18
noncomputable def o_law:Nat->Bool:=fun i=>i==1||i==4||i==8
noncomputable def aDg:FS:=bU (dZ true 1 (aD9 (aY (j6 1 fQ) (aD (aH 0) (aZ)))) true) (bU (fB false 2 (cG eV 2 1 (aD (bPu (bC (.int 4))) (aZ)))) (bU (fB false 3 (cG gC 2 1 (aD (aH 2) (aZ)))) (bU (fB true 4 (aC9 (wV (cG aN 2 1 (aD (bPu (bC (.int 10))) (aZ))) (wV (cG aN 2 1 (aD (bPu (bC (.int 9))) (aZ))) (aC8))))) (bU (fB false 5 (cG aN 2 1 (aD (bPu (bC (.int 8))) (aZ)))) (bU (sIf (bTB (b2 (d7 (.ord .lt)) (aH 5) (bC (.int 2)))) (wW 4 (aH 5) (b2 getD (wG (aD (bC (.int 30)) (aD (bC (.int 40)) (aZ)))) (aH 5))) (pO)) (bU (fB false 6 (cG jP 5 1 (aD (aH 3) (aD (aH 2) (aD (bPu (b2 getD (aH 4) (bC (.int 0)))) (aD (bPu (b2 getD (aH 4) (bC (.int 1)))) (aZ))))))) (bU (fB false 7 (cG aN 2 1 (aD (bPu (b2 (bB .add) (b2 getD (aH 4) (bC (.int 1))) (bC (.int 1)))) (aZ)))) (bU (dZ true 8 (wG (aZ)) true) (bU (O4 (dW (b2 getD (aH 6) (bC (.int 1))) false) (tgN [9,10]) (bU (dZ false 9 (aY (j6 3 cR) (aD (aH 9) (aD (aH 7) (aD (b2 getD (aH 4) (bC (.int 1))) (aZ))))) true) (bU (dZ false 10 (aY (j6 3 cR) (aD (aH 10) (aD (aH 7) (aD (b2 getD (aH 4) (bC (.int 1))) (aZ))))) true) (tR 8 (iY (aD (aY (cO .lt) (aD (aH 9) (aD (aH 10) (aZ)))) (aD (aY (cO .gt) (aD (aH 9) (aD (aH 10) (aZ)))) (aZ)))))))) (bU (dZ false 11 (aY (j6 2 dY) (aD (aH 6) (aD (aH 7) (aZ)))) true) (bU (sIf (YQ (bTr (aY (j6 2 (bO 6)) (aD (aH 11) (aD (iY (aD (b2 getD (aH 6) (bC (.int 0))) (aD (aY oG (aD (aY iZ (aD (aH 8) (aZ))) (aZ))) (aD (b2 getD (aH 6) (bC (.int 2))) (aZ))))) (aZ)))))) (nA (bC (.bl false)) true) (pO)) (bU (sIf (YQ (bTr (aY (j6 2 (bO 6)) (aD (aY (j6 2 dY) (aD (aH 11) (aD (b2 (bB .sub) (b2 getD (aH 4) (bC (.int 1))) (aH 7)) (aZ)))) (aD (aH 6) (aZ)))))) (nA (bC (.bl false)) true) (pO)) (nA (rO (aY (j6 2 (bO 6)) (aD (aY (j6 2 dY) (aD (aH 6) (aD (bC (.int 0)) (aZ)))) (aD (aH 6) (aZ)))) (aY (j6 2 (bO 6)) (aD (aY (j6 2 dY) (aD (aH 6) (aD (b2 getD (aH 4) (bC (.int 1))) (aZ)))) (aD (aH 6) (aZ))))) true)))))))))))))
noncomputable def D_:List D->Res D:=fnS 1 12 aDg
theorem u5:bT (["script", "state", "cell"]:List Str) ["script"] (aJ d_):=⟨rfl,rfl,rfl,by decide +kernel,rfl,by decide +kernel,by decide +kernel⟩
theorem sW [KFrag] {P:Program} {w:World} {K:Frag} {mg:Str->Option Value} {base:Heap} {fad:Addr} {fd:FuncData} (hK:KFrag.K=K) (B:Bt mg)  (F:Fun K "_law_hand" "_law_hand" d_ fad fd) (hm:mg "_law_hand" = some (.ref fad)):gP P w K mg base 1 "_law_hand" 1 fQ:=by
 have sc:=u5;refine jX (ps:=["script"]) (N:=(["script", "state", "cell"]:List Str)) (k:=0) F hm (F.binds fun _ _ _ _ _ _ us hl=>match us,hl with|[_],_=>rfl) sc xG (by decide) (by decide) fun cdv A outer s H E hr=>?_
 have hu:=vR hr;exact aF (bW (i:=1) (o:=false) rfl sc.nd rfl (by trivial) (aG)) (aF (XN (i:=0) hK rfl PassesOwn.never rfl rfl (by trivial) (o7 (i:=2) rfl) (bR (i:=2) sc.nd rfl (by trivial)) (aW (bW (i:=1) (o:=false) rfl sc.nd rfl (by trivial) (bJ fX (bJ cU (bJ sJ (aA (i:=1)) (aG)) (aA (i:=2))) (aG))))) (aW (cX (jA (aC (aG) (aC (aDd (aA (i:=1))) (aC (fM (Q9 hK) (by rfl) B.list KQ (aC (aA (i:=0)) (aO))) (aO))))))))
theorem u9:bT (["hand", "many"]:List Str) ["hand", "many"] (aJ eE):=⟨rfl,rfl,rfl,by decide +kernel,rfl,by decide +kernel,by decide +kernel⟩
theorem sX [KFrag] {P:Program} {w:World} {K:Frag} {mg:Str->Option Value} {base:Heap} {fad:Addr} {fd:FuncData} (hK:KFrag.K=K) (B:Bt mg)  (F:Fun K "_law_draw" "_law_draw" eE fad fd) (hm:mg "_law_draw" = some (.ref fad)):pW P w K mg base 1 "_law_draw" 2 1 aN:=by
 have sc:=u9;refine mL (ps:=["hand", "many"]) (N:=(["hand", "many"]:List Str)) (k:=0) 1 F hm (F.binds fun _ _ _ _ _ _ us hl=>match us,hl with|[_,_],_=>rfl) sc xJ (by decide) (by decide) fun cdv A outer s H E hr=>?_
 have hu:=vR hr;exact aF (xF (i:=0) rfl rfl (by trivial) (aG) (bJ cU (bY (bQ hK hu) (aA (i:=0)) (aG) (fun _ _=>rfl)) (aG))) (aF (jT (gK (aCz hu) (bY (bQ hK hu) (aA (i:=0)) (aG) (fun _ _=>rfl)) (bN (lE hK) (by rfl) B.len lJ (aC (bY (bQ hK hu) (aA (i:=0)) (aG) (fun _ _=>rfl)) (aO))) (cW _)) (aW (w6 (bJ fX (bY (bQ hK hu) (bY (bQ hK hu) (aA (i:=0)) (aG) (fun _ _=>rfl)) (bJ mR (bY (bQ hK hu) (aA (i:=0)) (aG) (fun _ _=>rfl)) (aG)) (fun _ _=>rfl)) (aA (i:=1))))) (cP)) (aF (xF (i:=0) rfl rfl (by trivial) (aG) (bJ fX (bJ cU (bJ cU (bJ sJ (bY (bQ hK hu) (aA (i:=0)) (aG) (fun _ _=>rfl)) (bY (bQ hK hu) (aA (i:=0)) (aG) (fun _ _=>rfl))) (bJ sJ (aG) (bY (bQ hK hu) (aA (i:=0)) (aG) (fun _ _=>rfl)))) (aG)) (aG))) (aW (w6 (bJ fX (bJ jB (bY (bQ hK hu) (aA (i:=0)) (aG) (fun _ _=>rfl)) (aG)) (aA (i:=1)))))))
theorem sY:bT (["hand", "many", "letters", "number", "size", "at", "style", "names", "k", "rest", "name", "j", "shift"]:List Str) ["hand", "many"] (aJ dD):=⟨rfl,rfl,rfl,by decide +kernel,rfl,by decide +kernel,by decide +kernel⟩
theorem pZ [KFrag] {P:Program} {w:World} {K:Frag} {mg:Str->Option Value} {base:Heap} {fad:Addr} {fd:FuncData} (hK:KFrag.K=K) (B:Bt mg) (c__law_draw:pW P w K mg base 1 "_law_draw" 2 1 aN) (F:Fun K "_law_names" "_law_names" dD fad fd) (hm:mg "_law_names" = some (.ref fad)):pW P w K mg base 2 "_law_names" 2 1 eV:=by
 have sc:=sY;refine mL (ps:=["hand", "many"]) (N:=(["hand", "many", "letters", "number", "size", "at", "style", "names", "k", "rest", "name", "j", "shift"]:List Str)) (k:=1) 1 F hm (F.binds fun _ _ _ _ _ _ us hl=>match us,hl with|[_,_],_=>rfl) sc uV (by decide) (by decide) fun cdv A outer s H E hr=>?_
 have hu:=vR hr;exact aF (bW (i:=2) (o:=false) rfl sc.nd rfl (by trivial) (SJ)) (aF (gB (i:=3) (o:=false) rfl sc.nd rfl (by trivial) (b_ (i:=0) c__law_draw hr (by decide) (by rfl) rfl rfl (by trivial) (jU (bJ uG (aG) (aG)) (e_)))) (aF (bW (i:=4) (o:=false) rfl sc.nd rfl (by trivial) (bJ cU (aG) (bJ fX (aA (i:=3)) (aG)))) (aF (bW (i:=5) (o:=false) rfl sc.nd rfl (by trivial) (bJ fX (bJ jB (aA (i:=3)) (aG)) (aA (i:=4)))) (aF (bW (i:=6) (o:=false) rfl sc.nd rfl (by trivial) (bJ fX (bJ jB (aA (i:=3)) (aG)) (aG))) (aF (bW (i:=7) (o:=true) rfl sc.nd rfl (by trivial) (jA (aO))) (aF (uL PassesOwn.never rfl (mG (by rfl) B.range (aC (aA (i:=1)) (aO))) (o7 (i:=8) rfl) (bR (i:=8) sc.nd rfl (by trivial)) (aF (bW (i:=9) (o:=false) rfl sc.nd rfl (by trivial) (bJ jB (aA (i:=3)) (aG))) (aF (bW (i:=10) (o:=false) rfl sc.nd rfl (by trivial) (SJ)) (aF (uL PassesOwn.never rfl (mG (by rfl) B.range (aC (aA (i:=4)) (aO))) (o7 (i:=11) rfl) (bR (i:=11) sc.nd rfl (by trivial)) (aF (bW (i:=12) (o:=false) rfl sc.nd rfl (by trivial) (bJ sJ (aA (i:=8)) (fM W3 (by rfl) B.int KR (aC (aCy (oU (pR hu) (aA (i:=11)) (aA (i:=5)) (cW _)) (qL (oU (pR hu) (aA (i:=6)) (aG) (cW _)))) (aO))))) (aF (bW (i:=10) (o:=false) rfl sc.nd rfl (by trivial) (bJ cU (aA (i:=10)) (bY (bQ hK hu) (aA (i:=2)) (bJ fX (bJ cU (aA (i:=9)) (aA (i:=12))) (aG)) (fun _ _=>rfl)))) (aW (bW (i:=9) (o:=false) rfl sc.nd rfl (by trivial) (bJ jB (aA (i:=9)) (aG))))))) (aF (jT (gK (pR hu) (aA (i:=6)) (aG) (cW _)) (aW (bW (i:=10) (o:=false) rfl sc.nd rfl (by trivial) (S_ hK (aA (i:=10)) (J5) (J6 (bJ cU (bJ cU (aA (i:=5)) (aG)) (bJ fX (aA (i:=8)) (bJ mR (aA (i:=4)) (aA (i:=5))))))))) (cP)) (aW (oZ (i:=7) rfl rfl (by trivial) (aA (i:=10))))))))) (aW (nJ (i:=7) rfl rfl (by trivial)))))))))
theorem sZ:bT (["hand", "names", "number", "most", "stock", "name"]:List Str) ["hand", "names"] (aJ dF):=⟨rfl,rfl,rfl,by decide +kernel,rfl,by decide +kernel,by decide +kernel⟩
theorem p6 [KFrag] {P:Program} {w:World} {K:Frag} {mg:Str->Option Value} {base:Heap} {fad:Addr} {fd:FuncData} (hK:KFrag.K=K) (B:Bt mg) (c__law_draw:pW P w K mg base 1 "_law_draw" 2 1 aN) (F:Fun K "_law_stock" "_law_stock" dF fad fd) (hm:mg "_law_stock" = some (.ref fad)):pW P w K mg base 2 "_law_stock" 2 1 gC:=by
 have sc:=sZ;refine mL (ps:=["hand", "names"]) (N:=(["hand", "names", "number", "most", "stock", "name"]:List Str)) (k:=1) 1 F hm (F.binds fun _ _ _ _ _ _ us hl=>match us,hl with|[_,_],_=>rfl) sc uX (by decide) (by decide) fun cdv A outer s H E hr=>?_
 have hu:=vR hr;exact aF (gB (i:=2) (o:=false) rfl sc.nd rfl (by trivial) (b_ (i:=0) c__law_draw hr (by decide) (by rfl) rfl rfl (by trivial) (jU (bJ uG (aG) (aG)) (e_)))) (aF (bW (i:=3) (o:=false) rfl sc.nd rfl (by trivial) (bY (bQ hK hu) (jA (aC (aG) (aC (aG) (aC (aG) (aC (aG) (aO)))))) (bJ fX (aA (i:=2)) (aG)) (fun _ _=>rfl))) (aF (bW (i:=2) (o:=false) rfl sc.nd rfl (by trivial) (bJ jB (aA (i:=2)) (aG))) (aF (bW (i:=4) (o:=true) rfl sc.nd rfl (by trivial) (XH (bY (bQ hK hu) (aA (i:=1)) (aG) (fun _ _=>rfl)) (aG) (bY (bQ hK hu) (aA (i:=1)) (aG) (fun _ _=>rfl)) (bJ cU (aG) (bJ fX (aA (i:=2)) (bJ mR (aA (i:=3)) (aG)))))) (aF (uL PassesOwn.never rfl (mH (S_ hK (aA (i:=1)) (J6 (aG)) (J5))) (o7 (i:=5) rfl) (bR (i:=5) sc.nd rfl (by trivial)) (aF (bW (i:=2) (o:=false) rfl sc.nd rfl (by trivial) (bJ jB (aA (i:=2)) (aA (i:=3)))) (aW (aAh (i:=4) hu rfl rfl (by trivial) (aA (i:=5)) (bJ fX (aA (i:=2)) (aA (i:=3))))))) (aW (nJ (i:=4) rfl rfl (by trivial)))))))
theorem pG:bT (["hand", "many", "number", "gap", "numbers", "last", "k"]:List Str) ["hand", "many"] (aJ cH):=⟨rfl,rfl,rfl,by decide +kernel,rfl,by decide +kernel,by decide +kernel⟩
theorem m9 [KFrag] {P:Program} {w:World} {K:Frag} {mg:Str->Option Value} {base:Heap} {fad:Addr} {fd:FuncData} (hK:KFrag.K=K) (B:Bt mg) (c__law_draw:pW P w K mg base 1 "_law_draw" 2 1 aN) (F:Fun K "_law_numbers" "_law_numbers" cH fad fd) (hm:mg "_law_numbers" = some (.ref fad)):pW P w K mg base 2 "_law_numbers" 2 1 eQ:=by
 have sc:=pG;refine mL (ps:=["hand", "many"]) (N:=(["hand", "many", "number", "gap", "numbers", "last", "k"]:List Str)) (k:=1) 1 F hm (F.binds fun _ _ _ _ _ _ us hl=>match us,hl with|[_,_],_=>rfl) sc pX (by decide) (by decide) fun cdv A outer s H E hr=>?_
 have hu:=vR hr;exact aF (gB (i:=2) (o:=false) rfl sc.nd rfl (by trivial) (b_ (i:=0) c__law_draw hr (by decide) (by rfl) rfl rfl (by trivial) (jU (bJ uG (aG) (aG)) (e_)))) (aF (gB (i:=3) (o:=false) rfl sc.nd rfl (by trivial) (TV (bQ hK hu) (jA (aC (aG) (aC (aG) (aC (aG) (aC (bJ uG (aG) (aG)) (aO)))))) (b_ (i:=0) c__law_draw hr (by decide) (by rfl) rfl rfl (by trivial) (jU (aG) (e_))) (fun _ _=>rfl))) (aF (bW (i:=4) (o:=true) rfl sc.nd rfl (by trivial) (jA (aO))) (aF (bW (i:=5) (o:=false) rfl sc.nd rfl (by trivial) (aG)) (aF (uL PassesOwn.never rfl (mG (by rfl) B.range (aC (aA (i:=1)) (aO))) (o7 (i:=6) rfl) (bR (i:=6) sc.nd rfl (by trivial)) (aF (bW (i:=5) (o:=false) rfl sc.nd rfl (by trivial) (bJ cU (bJ cU (aA (i:=5)) (aG)) (bJ fX (bJ jB (aA (i:=2)) (bJ cU (aA (i:=6)) (aG))) (aA (i:=3))))) (aW (oZ (i:=4) rfl rfl (by trivial) (aA (i:=5)))))) (aW (nJ (i:=4) rfl rfl (by trivial)))))))
theorem u_:bT (["hand", "left", "ties", "one", "other"]:List Str) ["hand", "left"] (aJ eF):=⟨rfl,rfl,rfl,by decide +kernel,rfl,by decide +kernel,by decide +kernel⟩
theorem tB [KFrag] {P:Program} {w:World} {K:Frag} {mg:Str->Option Value} {base:Heap} {fad:Addr} {fd:FuncData} (hK:KFrag.K=K) (B:Bt mg) (c__law_draw:pW P w K mg base 1 "_law_draw" 2 1 aN) (F:Fun K "_law_ties" "_law_ties" eF fad fd) (hm:mg "_law_ties" = some (.ref fad)):pW P w K mg base 2 "_law_ties" 2 2 eG:=by
 have sc:=u_;refine mL (ps:=["hand", "left"]) (N:=(["hand", "left", "ties", "one", "other"]:List Str)) (k:=1) 2 F hm (F.binds fun _ _ _ _ _ _ us hl=>match us,hl with|[_,_],_=>rfl) sc xM (by decide) (by decide) fun cdv A outer s H E hr=>?_
 have hu:=vR hr;exact aF (bW (i:=2) (o:=true) rfl sc.nd rfl (by trivial) (jA (aO))) (aF (aAp PassesOwn.never (gK (aAc hu) (bN (lE hK) (by rfl) B.len lJ (aC (aA (i:=1)) (aO))) (aG) (cW _)) (aF (T3 (i:=1) (j:=3) rfl rfl (by trivial) sc.nd rfl (by trivial) rfl (aDa (aG))) (aF (T3 (i:=1) (j:=4) rfl rfl (by trivial) sc.nd rfl (by trivial) rfl (b_ (i:=0) c__law_draw hr (by decide) (by rfl) rfl rfl (by trivial) (jU (bN (lE hK) (by rfl) B.len lJ (aC (aA (i:=1)) (aO))) (e_)))) (aW (oZ (i:=2) rfl rfl (by trivial) (fK (aC (bN (J7 hu (by rfl)) (by rfl) B.min KJ (aC (aA (i:=3)) (aC (aA (i:=4)) (aO)))) (aC (bN (J8 hu (by rfl)) (by rfl) B.max KN (aC (aA (i:=3)) (aC (aA (i:=4)) (aO)))) (aO))))))))) (aW (nJ (i:=2) rfl rfl (by trivial))))
theorem xQ:bT (["hand", "stock", "names", "many", "brim", "numbers", "pieces", "hooks", "number", "name", "chiefs", "ties", "rings"]:List Str) ["hand", "stock", "names", "many", "brim"] (aJ cI):=⟨rfl,rfl,rfl,by decide +kernel,rfl,by decide +kernel,by decide +kernel⟩
theorem vA [KFrag] {P:Program} {w:World} {K:Frag} {mg:Str->Option Value} {base:Heap} {fad:Addr} {fd:FuncData} (hK:KFrag.K=K) (B:Bt mg) (c__law_numbers:pW P w K mg base 2 "_law_numbers" 2 1 eQ) (c__law_draw:pW P w K mg base 1 "_law_draw" 2 1 aN) (c__law_ties:pW P w K mg base 2 "_law_ties" 2 2 eG) (F:Fun K "_law_net" "_law_net" cI fad fd) (hm:mg "_law_net" = some (.ref fad)):pW P w K mg base 3 "_law_net" 5 1 jP:=by
 have sc:=xQ;refine mL (ps:=["hand", "stock", "names", "many", "brim"]) (N:=(["hand", "stock", "names", "many", "brim", "numbers", "pieces", "hooks", "number", "name", "chiefs", "ties", "rings"]:List Str)) (k:=2) 1 F hm (F.binds fun _ _ _ _ _ _ us hl=>match us,hl with|[_,_,_,_,_],_=>rfl) sc DQ (by decide) (by decide) fun cdv A outer s H E hr=>?_
 have hu:=vR hr
 exact aF (gB (i:=5) (o:=false) rfl sc.nd rfl (by trivial) (b_ (i:=0) c__law_numbers hr (by decide) (by rfl) rfl rfl (by trivial) (jU (bJ cU (aA (i:=3)) (aG)) (e_)))) (aF (XJ (cn := "k") (show dN (["hand", "stock", "names", "many", "brim", "numbers", "pieces", "hooks", "number", "name", "chiefs", "ties", "rings"]:List Str) (aJ cI) _ (["k"]:List Str) from ⟨rfl,by decide +kernel,by decide +kernel,by decide +kernel,by decide +kernel,by decide +kernel,by decide +kernel⟩) (n:=13) rfl rfl rfl (mG (by rfl) B.range (aC (aA (i:=3)) (aO))) (fun _=>bR (i:=13) (show ((List.map (g_ (["k"]:List Str)) (["hand", "stock", "names", "many", "brim", "numbers", "pieces", "hooks", "number", "name", "chiefs", "ties", "rings"]:List Str)++(["k"]:List Str)):List Str).Nodup from by decide +kernel) rfl (by trivial)) (fun _=>aAz (Q6 (bY (bQ hK hu) (aA (i:=5)) (aA (i:=13)) (fun _ _=>rfl)) (wZ (aAx (i:=2) (bQ hK hu) rfl rfl (by trivial) (b_ (i:=0) c__law_draw hr (by decide) (by rfl) rfl rfl (by trivial) (jU (bN (lE hK) (by rfl) B.len lJ (aC (aA (i:=2)) (aO))) (e_))) (fun _ _=>rfl)) (TX)))) (fun _=>rfl) (iy:=6) (o:=true) rfl sc.nd rfl (by trivial) (Or.inl rfl) (by with_unfolding_all rfl)) (aF (nH (ownN:=(["k"]:List Str)) (show dN (["hand", "stock", "names", "many", "brim", "numbers", "pieces", "hooks", "number", "name", "chiefs", "ties", "rings"]:List Str) (aJ cI) _ (["k"]:List Str) from ⟨rfl,by decide +kernel,by decide +kernel,by decide +kernel,by decide +kernel,by decide +kernel,by decide +kernel⟩) (n:=13) (m:=1) rfl rfl rfl (mG (by rfl) B.range (aC (aA (i:=4)) (aO))) (rZ 13) (fun _=>bR (i:=13) (show ((List.map (g_ (["k"]:List Str)) (["hand", "stock", "names", "many", "brim", "numbers", "pieces", "hooks", "number", "name", "chiefs", "ties", "rings"]:List Str)++(["k"]:List Str)):List Str).Nodup from by decide +kernel) rfl (by trivial)) (fun _=>fK (aC (aG) (aC (aA (i:=13)) (aO)))) (fun _=>rfl) (iy:=7) (o:=false) rfl sc.nd rfl (by trivial) (Or.inl rfl) (by with_unfolding_all rfl)) (aF (XS (i:=6) rfl PassesOwn.never rfl rfl (by trivial) (wR _ (is:=[8,9]) (by decide)) (qD rfl (cY (bR (i:=8) sc.nd rfl (by trivial)) (cY (bR (i:=9) sc.nd rfl (by trivial)) (lQ)))) (aW (bW (i:=7) (o:=false) rfl sc.nd rfl (by trivial) (bJ cU (aA (i:=7)) (zH (ownN:=(["hook"]:List Str)) (show dN (["hand", "stock", "names", "many", "brim", "numbers", "pieces", "hooks", "number", "name", "chiefs", "ties", "rings"]:List Str) (aJ cI) _ (["hook"]:List Str) from ⟨rfl,by decide +kernel,by decide +kernel,by decide +kernel,by decide +kernel,by decide +kernel,by decide +kernel⟩) (n:=13) (m:=1) rfl rfl rfl (WL (by rfl) B.range (aC (aG) (aC (bJ cU (bY (bQ hK hu) (aA (i:=1)) (aA (i:=9)) (fun _ _=>rfl)) (aG)) (aO)))) (rZ 13) (fun _=>bR (i:=13) (show ((List.map (g_ (["hook"]:List Str)) (["hand", "stock", "names", "many", "brim", "numbers", "pieces", "hooks", "number", "name", "chiefs", "ties", "rings"]:List Str)++(["hook"]:List Str)):List Str).Nodup from by decide +kernel) rfl (by trivial)) (fun _=>fK (aC (aA (i:=8)) (aC (aA (i:=13)) (aO)))) (fun _=>rfl)))))) (aF (jT (gK (pR hu) (bJ fX (bJ cU (bN (lE hK) (by rfl) B.len lJ (aC (aA (i:=7)) (aO))) (aA (i:=3))) (aG)) (aG) (cW _)) (aW (oZ (i:=6) rfl rfl (by trivial) (fK (aC (bY (bQ hK hu) (aA (i:=5)) (aA (i:=3)) (fun _ _=>rfl)) (aC (bY (bQ hK hu) (aA (i:=2)) (aG) (fun _ _=>rfl)) (aO)))))) (cP)) (aF (nH (ownN:=(["number", "name"]:List Str)) (show dN (["hand", "stock", "names", "many", "brim", "numbers", "pieces", "hooks", "number", "name", "chiefs", "ties", "rings"]:List Str) (aJ cI) _ (["number", "name"]:List Str) from ⟨rfl,by decide +kernel,by decide +kernel,by decide +kernel,by decide +kernel,by decide +kernel,by decide +kernel⟩) (n:=13) (m:=2) rfl rfl rfl (mH (aA (i:=6))) (wQ _ 13 2) (fun _=>qD rfl (cY (bR (i:=13) (show ((List.map (g_ (["number", "name"]:List Str)) (["hand", "stock", "names", "many", "brim", "numbers", "pieces", "hooks", "number", "name", "chiefs", "ties", "rings"]:List Str)++(["number", "name"]:List Str)):List Str).Nodup from by decide +kernel) rfl (by trivial)) (cY (bR (i:=14) (show ((List.map (g_ (["number", "name"]:List Str)) (["hand", "stock", "names", "many", "brim", "numbers", "pieces", "hooks", "number", "name", "chiefs", "ties", "rings"]:List Str)++(["number", "name"]:List Str)):List Str).Nodup from by decide +kernel) rfl (by trivial)) (lQ)))) (fun _=>fK (aC (aA (i:=13)) (aC (aG) (aO)))) (fun _=>rfl) (iy:=10) (o:=true) rfl sc.nd rfl (by trivial) (Or.inl rfl) (by with_unfolding_all rfl)) (aF (bW (i:=11) (o:=false) rfl sc.nd rfl (by trivial) (jA (aO))) (aF (aDb (W_ (aAc hu) (b_ (i:=0) c__law_draw hr (by decide) (by rfl) rfl rfl (by trivial) (jU (aG) (e_))) (aG) (cW _)) (aW (gB (i:=11) (o:=false) rfl sc.nd rfl (by trivial) (Q8 (i:=0) (j:=10) c__law_ties hr (by decide) (by rfl) rfl rfl (by trivial) rfl rfl (by trivial)))) (cP)) (aF (gB (i:=11) (o:=false) rfl sc.nd rfl (by trivial) (XC (i:=11) cU rfl rfl (by trivial) (K_ (i:=0) c__law_ties hr (by decide) (by rfl) rfl rfl (by trivial) (bJ cU (aA (i:=10)) (aA (i:=7)))))) (aF (gB (i:=12) (o:=false) rfl sc.nd rfl (by trivial) (TV (bQ hK hu) (jA (aC (aG) (aC (aG) (aC (aG) (aC (aG) (aC (bJ uG (aG) (aG)) (aO))))))) (b_ (i:=0) c__law_draw hr (by decide) (by rfl) rfl rfl (by trivial) (jU (aG) (e_))) (fun _ _=>rfl))) (aW (w6 (fK (aC (fM lF (by rfl) B.tuple fZ (aC (aA (i:=6)) (aO))) (aC (fM lF (by rfl) B.tuple fZ (aC (bN (lG hu) (by rfl) B.sorted lK (aC (aA (i:=11)) (aO))) (aO))) (aC (aA (i:=12)) (aO))))))))))))))))
theorem vB:bT (["ends"]:List Str) ["ends"] (aJ cZ):=⟨rfl,rfl,rfl,by decide +kernel,rfl,by decide +kernel,by decide +kernel⟩
theorem tD [KFrag] {P:Program} {w:World} {K:Frag} {mg:Str->Option Value} {base:Heap} {fad:Addr} {fd:FuncData} (hK:KFrag.K=K) (B:Bt mg)  (F:Fun K "rim_among" "rim_among" cZ fad fd) (hm:mg "rim_among" = some (.ref fad)):gP P w K mg base 1 "rim_among" 1 iD:=by
 have sc:=vB;refine jX (ps:=["ends"]) (N:=(["ends"]:List Str)) (k:=0) F hm (F.binds fun _ _ _ _ _ _ us hl=>match us,hl with|[_],_=>rfl) sc xO (by decide) (by decide) fun cdv A outer s H E hr=>?_
 have hu:=vR hr;exact aW (cX (bN (lE hK) (by rfl) B.len lJ (aC (DG (ownN:=(["end"]:List Str)) (show dN (["ends"]:List Str) (aJ cZ) _ (["end"]:List Str) from ⟨rfl,by decide +kernel,by decide +kernel,by decide +kernel,by decide +kernel,by decide +kernel,by decide +kernel⟩) (n:=1) (m:=1) rfl rfl rfl (mH (aA (i:=0))) (rZ 1) (fun _=>bR (i:=1) (show ((List.map (g_ (["end"]:List Str)) (["ends"]:List Str)++(["end"]:List Str)):List Str).Nodup from by decide +kernel) rfl (by trivial)) (fun _=>gK (pR hu) (bY (bQ hK hu) (aA (i:=1)) (aG) (fun _ _=>rfl)) (aG) (cW _)) (fun _=>aA (i:=1)) (fun _=>rfl)) (aO))))
theorem EY:bT (["ties", "ends", "one", "other"]:List Str) ["ties"] (aJ gR):=⟨rfl,rfl,rfl,by decide +kernel,rfl,by decide +kernel,by decide +kernel⟩
theorem xR [KFrag] {P:Program} {w:World} {K:Frag} {mg:Str->Option Value} {base:Heap} {fad:Addr} {fd:FuncData} (hK:KFrag.K=K) (B:Bt mg)  (F:Fun K "ends_of" "ends_of" gR fad fd) (hm:mg "ends_of" = some (.ref fad)):gP P w K mg base 1 "ends_of" 1 lL:=by
 have sc:=EY;refine jX (ps:=["ties"]) (N:=(["ties", "ends", "one", "other"]:List Str)) (k:=0) F hm (F.binds fun _ _ _ _ _ _ us hl=>match us,hl with|[_],_=>rfl) sc L_ (by decide) (by decide) fun cdv A outer s H E hr=>?_
 have hu:=vR hr;exact aF (bW (i:=1) (o:=true) rfl sc.nd rfl (by trivial) (jA (aO))) (aF (WR (i:=0) rfl PassesOwn.never rfl rfl (by trivial) (wR _ (is:=[2,3]) (by decide)) (qD rfl (cY (bR (i:=2) sc.nd rfl (by trivial)) (cY (bR (i:=3) sc.nd rfl (by trivial)) (lQ)))) (aF (oZ (i:=1) rfl rfl (by trivial) (aA (i:=2))) (aW (oZ (i:=1) rfl rfl (by trivial) (aA (i:=3)))))) (aW (WP (i:=1) rfl rfl (by trivial))))
theorem aB8:bT (["net"]:List Str) ["net"] (aJ DW):=⟨rfl,rfl,rfl,by decide +kernel,rfl,by decide +kernel,by decide +kernel⟩
theorem XX [KFrag] {P:Program} {w:World} {K:Frag} {mg:Str->Option Value} {base:Heap} {fad:Addr} {fd:FuncData} (hK:KFrag.K=K) (B:Bt mg) (c_ends_of:gP P w K mg base 1 "ends_of" 1 lL) (c_rim_among:gP P w K mg base 1 "rim_among" 1 iD) (F:Fun K "rim" "rim" DW fad fd) (hm:mg "rim" = some (.ref fad)):gP P w K mg base 2 "rim" 1 Q_:=by
 have sc:=aB8;refine jX (ps:=["net"]) (N:=(["net"]:List Str)) (k:=1) F hm (F.binds fun _ _ _ _ _ _ us hl=>match us,hl with|[_],_=>rfl) sc aDe (by decide) (by decide) fun cdv A outer s H E hr=>?_
 have hu:=vR hr;exact aW (cX (bV c_rim_among hr (by decide) (by rfl) (aC (bV c_ends_of hr (by decide) (by rfl) (aC (bY (bQ hK hu) (aA (i:=0)) (aG) (fun _ _=>rfl)) (aO))) (aO))))
theorem xT:bT (["pieces", "ties", "rings", "rows"]:List Str) ["pieces", "ties", "rings"] (aJ eN):=⟨rfl,rfl,rfl,by decide +kernel,rfl,by decide +kernel,by decide +kernel⟩
theorem vC [KFrag] {P:Program} {w:World} {K:Frag} {mg:Str->Option Value} {base:Heap} {fad:Addr} {fd:FuncData} (hK:KFrag.K=K) (B:Bt mg)  (F:Fun K "arranged" "arranged" eN fad fd) (hm:mg "arranged" = some (.ref fad)):gP P w K mg base 1 "arranged" 3 jQ:=by
 have sc:=xT;refine jX (ps:=["pieces", "ties", "rings"]) (N:=(["pieces", "ties", "rings", "rows"]:List Str)) (k:=0) F hm (F.binds fun _ _ _ _ _ _ us hl=>match us,hl with|[_,_,_],_=>rfl) sc DX (by decide) (by decide) fun cdv A outer s H E hr=>?_
 have hu:=vR hr;exact aF (nH (ownN:=(["one", "other"]:List Str)) (show dN (["pieces", "ties", "rings", "rows"]:List Str) (aJ eN) _ (["one", "other"]:List Str) from ⟨rfl,by decide +kernel,by decide +kernel,by decide +kernel,by decide +kernel,by decide +kernel,by decide +kernel⟩) (n:=4) (m:=2) rfl rfl rfl (mH (aA (i:=1))) (wQ _ 4 2) (fun _=>qD rfl (cY (bR (i:=4) (show ((List.map (g_ (["one", "other"]:List Str)) (["pieces", "ties", "rings", "rows"]:List Str)++(["one", "other"]:List Str)):List Str).Nodup from by decide +kernel) rfl (by trivial)) (cY (bR (i:=5) (show ((List.map (g_ (["one", "other"]:List Str)) (["pieces", "ties", "rings", "rows"]:List Str)++(["one", "other"]:List Str)):List Str).Nodup from by decide +kernel) rfl (by trivial)) (lQ)))) (fun _=>fK (aC (bN (J7 hu (by rfl)) (by rfl) B.min KJ (aC (aA (i:=4)) (aC (aA (i:=5)) (aO)))) (aC (bN (J8 hu (by rfl)) (by rfl) B.max KN (aC (aA (i:=4)) (aC (aA (i:=5)) (aO)))) (aO)))) (fun _=>rfl) (iy:=3) (o:=false) rfl sc.nd rfl (by trivial) (Or.inl rfl) (by with_unfolding_all rfl)) (aW (cX (fK (aC (fM lF (by rfl) B.tuple fZ (aC (bN (DK (by rfl) hu) (by rfl) B.sorted lK (aC (aA (i:=0)) (aO))) (aO))) (aC (fM lF (by rfl) B.tuple fZ (aC (bN (lG hu) (by rfl) B.sorted lK (aC (aA (i:=3)) (aO))) (aO))) (aC (aA (i:=2)) (aO)))))))
theorem tE:bT (["end", "m", "bound"]:List Str) ["end", "m", "bound"] (aJ dG):=⟨rfl,rfl,rfl,by decide +kernel,rfl,by decide +kernel,by decide +kernel⟩
theorem p7 [KFrag] {P:Program} {w:World} {K:Frag} {mg:Str->Option Value} {base:Heap} {fad:Addr} {fd:FuncData} (hK:KFrag.K=K) (B:Bt mg)  (F:Fun K "turned_end" "turned_end" dG fad fd) (hm:mg "turned_end" = some (.ref fad)):gP P w K mg base 1 "turned_end" 3 b7:=by
 have sc:=tE;refine jX (ps:=["end", "m", "bound"]) (N:=(["end", "m", "bound"]:List Str)) (k:=0) F hm (F.binds fun _ _ _ _ _ _ us hl=>match us,hl with|[_,_,_],_=>rfl) sc uZ (by decide) (by decide) fun cdv A outer s H E hr=>?_
 have hu:=vR hr;exact aF (jT (gK (V7 hu) (bY (bQ hK hu) (aA (i:=0)) (aG) (fun _ _=>rfl)) (aG) (cW _)) (aW (cX (aA (i:=0)))) (cP)) (aF (jT (gK (V8 hu) (bY (bQ hK hu) (aA (i:=0)) (aG) (fun _ _=>rfl)) (aA (i:=1)) (cW _)) (aW (cX (fK (aC (aG) (aC (bJ mR (bJ cU (bY (bQ hK hu) (aA (i:=0)) (aG) (fun _ _=>rfl)) (aA (i:=2))) (aA (i:=1))) (aO)))))) (cP)) (aW (cX (fK (aC (aG) (aC (bJ mR (bY (bQ hK hu) (aA (i:=0)) (aG) (fun _ _=>rfl)) (aA (i:=1))) (aO)))))))
theorem MJ:bT (["net", "m", "bound", "ties"]:List Str) ["net", "m"] (aJ iG):=⟨rfl,rfl,rfl,by decide +kernel,rfl,by decide +kernel,by decide +kernel⟩
theorem E_ [KFrag] {P:Program} {w:World} {K:Frag} {mg:Str->Option Value} {base:Heap} {fad:Addr} {fd:FuncData} (hK:KFrag.K=K) (B:Bt mg) (c_rim:gP P w K mg base 2 "rim" 1 Q_) (c_turned_end:gP P w K mg base 1 "turned_end" 3 b7) (c_arranged:gP P w K mg base 1 "arranged" 3 jQ) (F:Fun K "turned" "turned" iG fad fd) (hm:mg "turned" = some (.ref fad)):gP P w K mg base 3 "turned" 2 dY:=by
 have sc:=MJ;refine jX (ps:=["net", "m"]) (N:=(["net", "m", "bound", "ties"]:List Str)) (k:=2) F hm (F.binds fun _ _ _ _ _ _ us hl=>match us,hl with|[_,_],_=>rfl) sc RB (by decide) (by decide) fun cdv A outer s H E hr=>?_
 have hu:=vR hr;exact aF (bW (i:=2) (o:=false) rfl sc.nd rfl (by trivial) (bV c_rim hr (by decide) (by rfl) (aC (aA (i:=0)) (aO)))) (aF (nH (ownN:=(["one", "other"]:List Str)) (show dN (["net", "m", "bound", "ties"]:List Str) (aJ iG) _ (["one", "other"]:List Str) from ⟨rfl,by decide +kernel,by decide +kernel,by decide +kernel,by decide +kernel,by decide +kernel,by decide +kernel⟩) (n:=4) (m:=2) rfl rfl rfl (mH (bY (bQ hK hu) (aA (i:=0)) (aG) (fun _ _=>rfl))) (wQ _ 4 2) (fun _=>qD rfl (cY (bR (i:=4) (show ((List.map (g_ (["one", "other"]:List Str)) (["net", "m", "bound", "ties"]:List Str)++(["one", "other"]:List Str)):List Str).Nodup from by decide +kernel) rfl (by trivial)) (cY (bR (i:=5) (show ((List.map (g_ (["one", "other"]:List Str)) (["net", "m", "bound", "ties"]:List Str)++(["one", "other"]:List Str)):List Str).Nodup from by decide +kernel) rfl (by trivial)) (lQ)))) (fun _=>fK (aC (bV c_turned_end hr (by decide) (by rfl) (aC (aA (i:=4)) (aC (aA (i:=1)) (aC (aA (i:=2)) (aO))))) (aC (bV c_turned_end hr (by decide) (by rfl) (aC (aA (i:=5)) (aC (aA (i:=1)) (aC (aA (i:=2)) (aO))))) (aO)))) (fun _=>rfl) (iy:=3) (o:=false) rfl sc.nd rfl (by trivial) (Or.inl rfl) (by with_unfolding_all rfl)) (aW (cX (bV c_arranged hr (by decide) (by rfl) (aC (bY (bQ hK hu) (aA (i:=0)) (aG) (fun _ _=>rfl)) (aC (aA (i:=3)) (aC (bY (bQ hK hu) (aA (i:=0)) (aG) (fun _ _=>rfl)) (aO))))))))
theorem tG:bT (["end", "m", "brim"]:List Str) ["end", "m", "brim"] (aJ dH):=⟨rfl,rfl,rfl,by decide +kernel,rfl,by decide +kernel,by decide +kernel⟩
theorem p8 [KFrag] {P:Program} {w:World} {K:Frag} {mg:Str->Option Value} {base:Heap} {fad:Addr} {fd:FuncData} (hK:KFrag.K=K) (B:Bt mg)  (F:Fun K "_law_moved" "_law_moved" dH fad fd) (hm:mg "_law_moved" = some (.ref fad)):gP P w K mg base 1 "_law_moved" 3 cR:=by
 have sc:=tG;refine jX (ps:=["end", "m", "brim"]) (N:=(["end", "m", "brim"]:List Str)) (k:=0) F hm (F.binds fun _ _ _ _ _ _ us hl=>match us,hl with|[_,_,_],_=>rfl) sc u0 (by decide) (by decide) fun cdv A outer s H E hr=>?_
 have hu:=vR hr;exact aF (jT (PW.pt (aA9 (gK (pR hu) (bY (bQ hK hu) (aA (i:=0)) (aG) (fun _ _=>rfl)) (aG) (cW _)) (V6 (gK (V8 hu) (bY (bQ hK hu) (aA (i:=0)) (aG) (fun _ _=>rfl)) (aA (i:=1)) (cW _))))) (aW (cX (fK (aC (aG) (aC (bJ cU (bJ mR (aA (i:=2)) (aA (i:=1))) (bY (bQ hK hu) (aA (i:=0)) (aG) (fun _ _=>rfl))) (aO)))))) (cP)) (aF (jT (gK (pR hu) (bY (bQ hK hu) (aA (i:=0)) (aG) (fun _ _=>rfl)) (aG) (cW _)) (aW (cX (fK (aC (aG) (aC (bJ mR (bY (bQ hK hu) (aA (i:=0)) (aG) (fun _ _=>rfl)) (aA (i:=1))) (aO)))))) (cP)) (aW (cX (aA (i:=0)))))
theorem vD:bT (["found", "due"]:List Str) ["found", "due"] (aJ dB):=⟨rfl,rfl,rfl,by decide +kernel,rfl,by decide +kernel,by decide +kernel⟩
theorem tH [KFrag] {P:Program} {w:World} {K:Frag} {mg:Str->Option Value} {base:Heap} {fad:Addr} {fd:FuncData} (hK:KFrag.K=K) (B:Bt mg)  (F:Fun K "_law_same" "_law_same" dB fad fd) (hm:mg "_law_same" = some (.ref fad)):∀m:Nat,gP P w K mg base (m+1) "_law_same" 2 (bO m):=by
 have sc:=vD;intro m;induction m with
 | zero=>
  refine jX (ps:=["found", "due"]) (N:=(["found", "due"]:List Str)) (k:=0) F hm (F.binds fun _ _ _ _ _ _ us hl=>match us,hl with|[_,_],_=>rfl) sc pC (by decide) (by decide) fun cdv A outer s H E hr=>?_
  exact WW
 | succ m ih=>
  have c__law_same:=ih;refine jX (ps:=["found", "due"]) (N:=(["found", "due"]:List Str)) (k:=m+1) F hm (F.binds fun _ _ _ _ _ _ us hl=>match us,hl with|[_,_],_=>rfl) sc pC (by decide) (by decide) fun cdv A outer s H E hr=>?_
  have hu:=vR hr;exact aF (jT (mQ (LR (aA (i:=1)) (by rfl) B.isi bG (by rfl) B.tuple (by rfl) B.list)) (aF (jT (PW.pt (aAa (gK (V7 hu) (jW .tuple (aA (i:=0)) (by rfl) B.isi bG (by rfl) B.tuple fZ) (jW .tuple (aA (i:=1)) (by rfl) B.isi bG (by rfl) B.tuple fZ) (cW _)) (SQ (JW (mQ (LR (aA (i:=0)) (by rfl) B.isi bG (by rfl) B.tuple (by rfl) B.list)))))) (aW (cX (QQ))) (cP)) (aF (jT (gK (V7 hu) (bN (lE hK) (by rfl) B.len lJ (aC (aA (i:=0)) (aO))) (bN (lE hK) (by rfl) B.len lJ (aC (aA (i:=1)) (aO))) (cW _)) (aW (cX (QQ))) (cP)) (aW (cX (bN (aAk (by rfl)) (by rfl) B.all aAl (aC (zH (ownN:=(["k"]:List Str)) (show dN (["found", "due"]:List Str) (aJ dB) _ (["k"]:List Str) from ⟨rfl,by decide +kernel,by decide +kernel,by decide +kernel,by decide +kernel,by decide +kernel,by decide +kernel⟩) (n:=2) (m:=1) rfl rfl rfl (mG (by rfl) B.range (aC (bN (lE hK) (by rfl) B.len lJ (aC (aA (i:=1)) (aO))) (aO))) (rZ 2) (fun _=>bR (i:=2) (show ((List.map (g_ (["k"]:List Str)) (["found", "due"]:List Str)++(["k"]:List Str)):List Str).Nodup from by decide +kernel) rfl (by trivial)) (fun _=>bV c__law_same hr (Nat.le_refl _) (by rfl) (aC (bY (bQ hK hu) (aA (i:=0)) (aA (i:=2)) (fun _ _=>rfl)) (aC (bY (bQ hK hu) (aA (i:=1)) (aA (i:=2)) (fun _ _=>rfl)) (aO)))) (fun _=>rfl)) (aO))))))) (cP)) (aF (jT (PW.pt (aAa (mQ (jW .bool (aA (i:=1)) (by rfl) B.isi bG (by rfl) B.bool sI)) (SQ (mQ (jW .bool (aA (i:=0)) (by rfl) B.isi bG (by rfl) B.bool sI))))) (aW (cX (qM (jW .bool (aA (i:=1)) (by rfl) B.isi bG (by rfl) B.bool sI) (qM (jW .bool (aA (i:=0)) (by rfl) B.isi bG (by rfl) B.bool sI) (qL (oU (pR hu) (aA (i:=0)) (aA (i:=1)) (cW _))))))) (cP)) (aF (jT (mQ (jW .int (aA (i:=1)) (by rfl) B.isi bG (by rfl) B.int KR)) (aW (cX (qM (jW .int (aA (i:=0)) (by rfl) B.isi bG (by rfl) B.int KR) (qL (oU (pR hu) (aA (i:=0)) (aA (i:=1)) (cW _)))))) (cP)) (aF (jT (mQ (jW .str (aA (i:=1)) (by rfl) B.isi bG (by rfl) B.str S9)) (aW (cX (qM (jW .str (aA (i:=0)) (by rfl) B.isi bG (by rfl) B.str S9) (qL (oU (pR hu) (aA (i:=0)) (aA (i:=1)) (cW _)))))) (cP)) (aW (cX (qM (oU SX (aA (i:=0)) (SM) (cW _)) (qL (oU SX (aA (i:=1)) (SM) (cW _)))))))))
theorem aB9:bT (["script", "hand", "names", "stock", "size", "style", "net", "m", "ties", "one", "other", "found"]:List Str) ["script"] (aJ sV):=⟨rfl,rfl,rfl,by decide +kernel,rfl,by decide +kernel,by decide +kernel⟩
theorem aBa [KFrag] {P:Program} {w:World} {K:Frag} {mg:Str->Option Value} {base:Heap} {fad:Addr} {fd:FuncData} (hK:KFrag.K=K) (B:Bt mg) (c__law_hand:gP P w K mg base 1 "_law_hand" 1 fQ) (c__law_names:pW P w K mg base 2 "_law_names" 2 1 eV) (c__law_stock:pW P w K mg base 2 "_law_stock" 2 1 gC) (c__law_draw:pW P w K mg base 1 "_law_draw" 2 1 aN) (c__law_net:pW P w K mg base 3 "_law_net" 5 1 jP) (c__law_moved:gP P w K mg base 1 "_law_moved" 3 cR) (c_turned:gP P w K mg base 3 "turned" 2 dY) (c__law_same:gP P w K mg base 7 "_law_same" 2 (bO 6)) (F:Fun K "law" "law" sV fad fd):yG P w K mg base CX0 8 fad fd ["script"] (spD D_ 1):=by
 have sc:=aB9;refine aAi (ps:=["script"]) (N:=(["script", "hand", "names", "stock", "size", "style", "net", "m", "ties", "one", "other", "found"]:List Str)) (k:=7) F sc o_law (by decide) (by decide) fun cdv A outer s H E hr=>?_
 have hu:=vR hr
 exact aF (bW (i:=1) (o:=true) rfl sc.nd rfl (by trivial) (aB2 (bV c__law_hand hr (by decide) (by rfl) (aC (aA (i:=0)) (aO))))) (aF (gB (i:=2) (o:=false) rfl sc.nd rfl (by trivial) (b_ (i:=1) c__law_names hr (by decide) (by rfl) rfl rfl (by trivial) (jU (aG) (e_)))) (aF (gB (i:=3) (o:=false) rfl sc.nd rfl (by trivial) (b_ (i:=1) c__law_stock hr (by decide) (by rfl) rfl rfl (by trivial) (K9 (i:=2) rfl rfl (by trivial) (e_)))) (aF (gB (i:=4) (o:=true) rfl sc.nd rfl (by trivial) (aAy (wZ (b_ (i:=1) c__law_draw hr (by decide) (by rfl) rfl rfl (by trivial) (jU (aG) (e_))) (wZ (b_ (i:=1) c__law_draw hr (by decide) (by rfl) rfl rfl (by trivial) (jU (aG) (e_))) (TX))))) (aF (gB (i:=5) (o:=false) rfl sc.nd rfl (by trivial) (b_ (i:=1) c__law_draw hr (by decide) (by rfl) rfl rfl (by trivial) (jU (aG) (e_)))) (aF (jT (gK (V8 hu) (aA (i:=5)) (aG) (cW _)) (aW (xF (i:=4) rfl rfl (by trivial) (aA (i:=5)) (bY (bQ hK hu) (jA (aC (aG) (aC (aG) (aO)))) (aA (i:=5)) (fun _ _=>rfl)))) (cP)) (aF (gB (i:=6) (o:=false) rfl sc.nd rfl (by trivial) (b_ (i:=1) c__law_net hr (by decide) (by rfl) rfl rfl (by trivial) (K9 (i:=3) rfl rfl (by trivial) (K9 (i:=2) rfl rfl (by trivial) (jU (bY (bQ hK hu) (aA (i:=4)) (aG) (fun _ _=>rfl)) (jU (bY (bQ hK hu) (aA (i:=4)) (aG) (fun _ _=>rfl)) (e_))))))) (aF (gB (i:=7) (o:=false) rfl sc.nd rfl (by trivial) (b_ (i:=1) c__law_draw hr (by decide) (by rfl) rfl rfl (by trivial) (jU (bJ cU (bY (bQ hK hu) (aA (i:=4)) (aG) (fun _ _=>rfl)) (aG)) (e_)))) (aF (bW (i:=8) (o:=true) rfl sc.nd rfl (by trivial) (jA (aO))) (aF (uL PassesOwn.never rfl (mH (bY (bQ hK hu) (aA (i:=6)) (aG) (fun _ _=>rfl))) (wR _ (is:=[9,10]) (by decide)) (qD rfl (cY (bR (i:=9) sc.nd rfl (by trivial)) (cY (bR (i:=10) sc.nd rfl (by trivial)) (lQ)))) (aF (bW (i:=9) (o:=false) rfl sc.nd rfl (by trivial) (bV c__law_moved hr (by decide) (by rfl) (aC (aA (i:=9)) (aC (aA (i:=7)) (aC (bY (bQ hK hu) (aA (i:=4)) (aG) (fun _ _=>rfl)) (aO)))))) (aF (bW (i:=10) (o:=false) rfl sc.nd rfl (by trivial) (bV c__law_moved hr (by decide) (by rfl) (aC (aA (i:=10)) (aC (aA (i:=7)) (aC (bY (bQ hK hu) (aA (i:=4)) (aG) (fun _ _=>rfl)) (aO)))))) (aW (oZ (i:=8) rfl rfl (by trivial) (fK (aC (bN (J7 hu (by rfl)) (by rfl) B.min KJ (aC (aA (i:=9)) (aC (aA (i:=10)) (aO)))) (aC (bN (J8 hu (by rfl)) (by rfl) B.max KN (aC (aA (i:=9)) (aC (aA (i:=10)) (aO)))) (aO))))))))) (aF (bW (i:=11) (o:=false) rfl sc.nd rfl (by trivial) (bV c_turned hr (by decide) (by rfl) (aC (aA (i:=6)) (aC (aA (i:=7)) (aO))))) (aF (jT (JW (mQ (bV c__law_same hr (by decide) (by rfl) (aC (aA (i:=11)) (aC (fK (aC (bY (bQ hK hu) (aA (i:=6)) (aG) (fun _ _=>rfl)) (aC (fM lF (by rfl) B.tuple fZ (aC (bN (lG hu) (by rfl) B.sorted lK (aC (aA (i:=8)) (aO))) (aO))) (aC (bY (bQ hK hu) (aA (i:=6)) (aG) (fun _ _=>rfl)) (aO))))) (aO)))))) (aW (cX (QQ))) (cP)) (aF (jT (JW (mQ (bV c__law_same hr (by decide) (by rfl) (aC (bV c_turned hr (by decide) (by rfl) (aC (aA (i:=11)) (aC (bJ mR (bY (bQ hK hu) (aA (i:=4)) (aG) (fun _ _=>rfl)) (aA (i:=7))) (aO)))) (aC (aA (i:=6)) (aO)))))) (aW (cX (QQ))) (cP)) (aW (cX (qM (bV c__law_same hr (by decide) (by rfl) (aC (bV c_turned hr (by decide) (by rfl) (aC (aA (i:=6)) (aC (aG) (aO)))) (aC (aA (i:=6)) (aO)))) (qL (bV c__law_same hr (by decide) (by rfl) (aC (bV c_turned hr (by decide) (by rfl) (aC (aA (i:=6)) (aC (bY (bQ hK hu) (aA (i:=4)) (aG) (fun _ _=>rfl)) (aO)))) (aC (aA (i:=6)) (aO))))))))))))))))))))
theorem aBb {l:OpenLaw} {w:World} {K:Frag} {h:Heap} {mg:Str->Option Value} {fa:Addr} (X:K.In h) (G:h.Ns mainGlobals mg) (hfa:mg "law" = some (.ref fa))
  {f0:Addr} {oc0 kV0 dc0 pm0 cd0 ct0:Value} {od0 an0:Option Addr} {sl0:Array (Option Value)} (a0:nsIn K mainGlobals "_law_hand" = some (some (.ref f0))) (l0:K.lookup f0=some ⟨oc0,od0,.func (fnOf "_law_hand" "_law_hand" (b8 d_) (bK d_) (aJ d_) .none kV0 dc0 pm0 an0 cd0 ct0),sl0⟩) (c0:codeIn K cd0 "_law_hand" = true) (k0:keepIn K (.ref f0)=true)
  {f1:Addr} {oc1 kV1 dc1 pm1 cd1 ct1:Value} {od1 an1:Option Addr} {sl1:Array (Option Value)} (a1:nsIn K mainGlobals "_law_draw" = some (some (.ref f1))) (l1:K.lookup f1=some ⟨oc1,od1,.func (fnOf "_law_draw" "_law_draw" (b8 eE) (bK eE) (aJ eE) .none kV1 dc1 pm1 an1 cd1 ct1),sl1⟩) (c1:codeIn K cd1 "_law_draw" = true) (k1:keepIn K (.ref f1)=true)
  {f2:Addr} {oc2 kV2 dc2 pm2 cd2 ct2:Value} {od2 an2:Option Addr} {sl2:Array (Option Value)} (a2:nsIn K mainGlobals "_law_names" = some (some (.ref f2))) (l2:K.lookup f2=some ⟨oc2,od2,.func (fnOf "_law_names" "_law_names" (b8 dD) (bK dD) (aJ dD) .none kV2 dc2 pm2 an2 cd2 ct2),sl2⟩) (c2:codeIn K cd2 "_law_names" = true) (k2:keepIn K (.ref f2)=true)
  {f3:Addr} {oc3 kV3 dc3 pm3 cd3 ct3:Value} {od3 an3:Option Addr} {sl3:Array (Option Value)} (a3:nsIn K mainGlobals "_law_stock" = some (some (.ref f3))) (l3:K.lookup f3=some ⟨oc3,od3,.func (fnOf "_law_stock" "_law_stock" (b8 dF) (bK dF) (aJ dF) .none kV3 dc3 pm3 an3 cd3 ct3),sl3⟩) (c3:codeIn K cd3 "_law_stock" = true) (k3:keepIn K (.ref f3)=true)
  {f4:Addr} {oc4 kV4 dc4 pm4 cd4 ct4:Value} {od4 an4:Option Addr} {sl4:Array (Option Value)} (a4:nsIn K mainGlobals "_law_numbers" = some (some (.ref f4))) (l4:K.lookup f4=some ⟨oc4,od4,.func (fnOf "_law_numbers" "_law_numbers" (b8 cH) (bK cH) (aJ cH) .none kV4 dc4 pm4 an4 cd4 ct4),sl4⟩) (c4:codeIn K cd4 "_law_numbers" = true) (k4:keepIn K (.ref f4)=true)
  {f5:Addr} {oc5 kV5 dc5 pm5 cd5 ct5:Value} {od5 an5:Option Addr} {sl5:Array (Option Value)} (a5:nsIn K mainGlobals "_law_ties" = some (some (.ref f5))) (l5:K.lookup f5=some ⟨oc5,od5,.func (fnOf "_law_ties" "_law_ties" (b8 eF) (bK eF) (aJ eF) .none kV5 dc5 pm5 an5 cd5 ct5),sl5⟩) (c5:codeIn K cd5 "_law_ties" = true) (k5:keepIn K (.ref f5)=true)
  {f6:Addr} {oc6 kV6 dc6 pm6 cd6 ct6:Value} {od6 an6:Option Addr} {sl6:Array (Option Value)} (a6:nsIn K mainGlobals "_law_net" = some (some (.ref f6))) (l6:K.lookup f6=some ⟨oc6,od6,.func (fnOf "_law_net" "_law_net" (b8 cI) (bK cI) (aJ cI) .none kV6 dc6 pm6 an6 cd6 ct6),sl6⟩) (c6:codeIn K cd6 "_law_net" = true) (k6:keepIn K (.ref f6)=true)
  {f7:Addr} {oc7 kV7 dc7 pm7 cd7 ct7:Value} {od7 an7:Option Addr} {sl7:Array (Option Value)} (a7:nsIn K mainGlobals "rim_among" = some (some (.ref f7))) (l7:K.lookup f7=some ⟨oc7,od7,.func (fnOf "rim_among" "rim_among" (b8 cZ) (bK cZ) (aJ cZ) .none kV7 dc7 pm7 an7 cd7 ct7),sl7⟩) (c7:codeIn K cd7 "rim_among" = true) (k7:keepIn K (.ref f7)=true)
  {f8:Addr} {oc8 kV8 dc8 pm8 cd8 ct8:Value} {od8 an8:Option Addr} {sl8:Array (Option Value)} (a8:nsIn K mainGlobals "ends_of" = some (some (.ref f8))) (l8:K.lookup f8=some ⟨oc8,od8,.func (fnOf "ends_of" "ends_of" (b8 gR) (bK gR) (aJ gR) .none kV8 dc8 pm8 an8 cd8 ct8),sl8⟩) (c8:codeIn K cd8 "ends_of" = true) (k8:keepIn K (.ref f8)=true)
  {f9:Addr} {oc9 kV9 dc9 pm9 cd9 ct9:Value} {od9 an9:Option Addr} {sl9:Array (Option Value)} (a9:nsIn K mainGlobals "rim" = some (some (.ref f9))) (l9:K.lookup f9=some ⟨oc9,od9,.func (fnOf "rim" "rim" (b8 DW) (bK DW) (aJ DW) .none kV9 dc9 pm9 an9 cd9 ct9),sl9⟩) (c9:codeIn K cd9 "rim" = true) (k9:keepIn K (.ref f9)=true)
  {f10:Addr} {oc10 kV10 dc10 pm10 cd10 ct10:Value} {od10 an10:Option Addr} {sl10:Array (Option Value)} (a10:nsIn K mainGlobals "arranged" = some (some (.ref f10))) (l10:K.lookup f10=some ⟨oc10,od10,.func (fnOf "arranged" "arranged" (b8 eN) (bK eN) (aJ eN) .none kV10 dc10 pm10 an10 cd10 ct10),sl10⟩) (c10:codeIn K cd10 "arranged" = true) (k10:keepIn K (.ref f10)=true)
  {f11:Addr} {oc11 kV11 dc11 pm11 cd11 ct11:Value} {od11 an11:Option Addr} {sl11:Array (Option Value)} (a11:nsIn K mainGlobals "turned_end" = some (some (.ref f11))) (l11:K.lookup f11=some ⟨oc11,od11,.func (fnOf "turned_end" "turned_end" (b8 dG) (bK dG) (aJ dG) .none kV11 dc11 pm11 an11 cd11 ct11),sl11⟩) (c11:codeIn K cd11 "turned_end" = true) (k11:keepIn K (.ref f11)=true)
  {f12:Addr} {oc12 kV12 dc12 pm12 cd12 ct12:Value} {od12 an12:Option Addr} {sl12:Array (Option Value)} (a12:nsIn K mainGlobals "turned" = some (some (.ref f12))) (l12:K.lookup f12=some ⟨oc12,od12,.func (fnOf "turned" "turned" (b8 iG) (bK iG) (aJ iG) .none kV12 dc12 pm12 an12 cd12 ct12),sl12⟩) (c12:codeIn K cd12 "turned" = true) (k12:keepIn K (.ref f12)=true)
  {f13:Addr} {oc13 kV13 dc13 pm13 cd13 ct13:Value} {od13 an13:Option Addr} {sl13:Array (Option Value)} (a13:nsIn K mainGlobals "_law_moved" = some (some (.ref f13))) (l13:K.lookup f13=some ⟨oc13,od13,.func (fnOf "_law_moved" "_law_moved" (b8 dH) (bK dH) (aJ dH) .none kV13 dc13 pm13 an13 cd13 ct13),sl13⟩) (c13:codeIn K cd13 "_law_moved" = true) (k13:keepIn K (.ref f13)=true)
  {f14:Addr} {oc14 kV14 dc14 pm14 cd14 ct14:Value} {od14 an14:Option Addr} {sl14:Array (Option Value)} (a14:nsIn K mainGlobals "_law_same" = some (some (.ref f14))) (l14:K.lookup f14=some ⟨oc14,od14,.func (fnOf "_law_same" "_law_same" (b8 dB) (bK dB) (aJ dB) .none kV14 dc14 pm14 an14 cd14 ct14),sl14⟩) (c14:codeIn K cd14 "_law_same" = true) (k14:keepIn K (.ref f14)=true)
  {f15:Addr} {oc15 kV15 dc15 pm15 cd15 ct15:Value} {od15 an15:Option Addr} {sl15:Array (Option Value)} (a15:nsIn K mainGlobals "law" = some (some (.ref f15))) (l15:K.lookup f15=some ⟨oc15,od15,.func (fnOf "law" "law" (b8 sV) (bK sV) (aJ sV) .none kV15 dc15 pm15 an15 cd15 ct15),sl15⟩) (c15:codeIn K cd15 "law" = true) (k15:keepIn K (.ref f15)=true) (z_len:nsIn K mainGlobals "len" = some none) (z_min:nsIn K mainGlobals "min" = some none) (z_max:nsIn K mainGlobals "max" = some none) (z_list:nsIn K mainGlobals "list" = some none) (z_tuple:nsIn K mainGlobals "tuple" = some none) (z_sorted:nsIn K mainGlobals "sorted" = some none) (z_range:nsIn K mainGlobals "range" = some none) (z_isinstance:nsIn K mainGlobals "isinstance" = some none) (z_int:nsIn K mainGlobals "int" = some none) (z_bool:nsIn K mainGlobals "bool" = some none) (z_str:nsIn K mainGlobals "str" = some none) (z_dict:nsIn K mainGlobals "dict" = some none) (z_all:nsIn K mainGlobals "all" = some none) (z_enumerate:nsIn K mainGlobals "enumerate" = some none) (z_sum:nsIn K mainGlobals "sum" = some none) (z_zip:nsIn K mainGlobals "zip" = some none) (z_abs:nsIn K mainGlobals "abs" = some none) (z_reversed:nsIn K mainGlobals "reversed" = some none) :
  ∃fd:FuncData,(∀(s:Shared) (v:Value),BindsTo s fd ⟨[v],[]⟩ [("script",v)])/\∀base:Heap,K.In base->base.Ns mainGlobals mg->yG l.prog w K mg base CX0 8 fa fd ["script"] (@spD ⟨K⟩ D_ 1):=by
 have e:=hfa.symm.trans (mg_of X G a15);cases e
 letI:KFrag:=⟨K⟩
 have B:Bt mg:=⟨mg_none_of X G z_len,mg_none_of X G z_min,mg_none_of X G z_max,mg_none_of X G z_list,mg_none_of X G z_tuple,mg_none_of X G z_sorted,mg_none_of X G z_range,mg_none_of X G z_isinstance,mg_none_of X G z_int,mg_none_of X G z_bool,mg_none_of X G z_str,mg_none_of X G z_dict,mg_none_of X G z_all,mg_none_of X G z_enumerate,mg_none_of X G z_sum,mg_none_of X G z_zip,mg_none_of X G z_abs,mg_none_of X G z_reversed⟩
 refine ⟨fnOf "law" "law" (b8 sV) (bK sV) (aJ sV) .none kV15 dc15 pm15 an15 cd15 ct15,fun s v=>.of_eq rfl,fun base _ _=>?_⟩;have h__law_hand:=sW (P:=l.prog) (w:=w) (base:=base) rfl B  (eZ (st:=d_) l0 c0 k0) (mg_of X G a0);have h__law_draw:=sX (P:=l.prog) (w:=w) (base:=base) rfl B  (eZ (st:=eE) l1 c1 k1) (mg_of X G a1);have h__law_names:=pZ (P:=l.prog) (w:=w) (base:=base) rfl B h__law_draw (eZ (st:=dD) l2 c2 k2) (mg_of X G a2);have h__law_stock:=p6 (P:=l.prog) (w:=w) (base:=base) rfl B h__law_draw (eZ (st:=dF) l3 c3 k3) (mg_of X G a3);have h__law_numbers:=m9 (P:=l.prog) (w:=w) (base:=base) rfl B h__law_draw (eZ (st:=cH) l4 c4 k4) (mg_of X G a4);have h__law_ties:=tB (P:=l.prog) (w:=w) (base:=base) rfl B h__law_draw (eZ (st:=eF) l5 c5 k5) (mg_of X G a5);have h__law_net:=vA (P:=l.prog) (w:=w) (base:=base) rfl B h__law_numbers h__law_draw h__law_ties (eZ (st:=cI) l6 c6 k6) (mg_of X G a6);have h_rim_among:=tD (P:=l.prog) (w:=w) (base:=base) rfl B  (eZ (st:=cZ) l7 c7 k7) (mg_of X G a7);have h_ends_of:=xR (P:=l.prog) (w:=w) (base:=base) rfl B  (eZ (st:=gR) l8 c8 k8) (mg_of X G a8);have h_rim:=XX (P:=l.prog) (w:=w) (base:=base) rfl B h_ends_of h_rim_among (eZ (st:=DW) l9 c9 k9) (mg_of X G a9);have h_arranged:=vC (P:=l.prog) (w:=w) (base:=base) rfl B  (eZ (st:=eN) l10 c10 k10) (mg_of X G a10);have h_turned_end:=p7 (P:=l.prog) (w:=w) (base:=base) rfl B  (eZ (st:=dG) l11 c11 k11) (mg_of X G a11);have h_turned:=E_ (P:=l.prog) (w:=w) (base:=base) rfl B h_rim h_turned_end h_arranged (eZ (st:=iG) l12 c12 k12) (mg_of X G a12);have h__law_moved:=p8 (P:=l.prog) (w:=w) (base:=base) rfl B  (eZ (st:=dH) l13 c13 k13) (mg_of X G a13);have h__law_same:=tH (P:=l.prog) (w:=w) (base:=base) rfl B  (eZ (st:=dB) l14 c14 k14) (mg_of X G a14) 6;exact aBa rfl B h__law_hand h__law_names h__law_stock h__law_draw h__law_net h__law_moved h_turned h__law_same (eZ (st:=sV) l15 c15 k15)
theorem walk {l:OpenLaw} {q:Program} {loose:List Str} {XP:(Str->Option Value)->Heap->Prop} {YP:World->Heap->Prop} {d:DefRec} {K:Params->Frag} (main:∀ns:List Int,ns.length<=63->D_ [.scr (ns.map D.int)]=.ok (.bl true)) (hn:l.most=some 63) (hdf:d.params.defaults=[])
  (hY:∀(w:World) (h:Heap),YP w h->(K w.params).In h)
  (F:∀(w:World) (mg:Str->Option Value) (fa:Addr) (h:Heap),(K w.params).In h->h.Ns mainGlobals mg->mg d.name=some (.ref fa)->
   ∃fd:FuncData,(∀(s:Shared) (u:Value),BindsTo s fd ⟨[u],[]⟩ [("script",u)])/\∀base:Heap,(K w.params).In base->base.Ns mainGlobals mg->yG l.prog w (K w.params) mg base CX0 8 fa fd ["script"] (@spD ⟨K w.params⟩ D_ 1)) :
  WalkO q loose XP YP l.row.toRowW d [] (fun f vs=>PySem.call f vs):=
 L2.VG (n:=63) (k:=8) (x := "script") (CX:=fun _=>CX0) (sp:=fun w=>@spD ⟨K w.params⟩ D_ 1) hn (by decide) hdf ⟨rfl,by decide,by decide⟩ hY F (fun w H a ns hl hO hS=>KY main hl hO hS) fun _ _ _ _ _ z=>z
end Lk21
end
section
namespace Lk21
open PySem L2 Mi
noncomputable abbrev Pt:=Int×Int
noncomputable def enP (p:Pt):D:=.tup [.int p.1,.int p.2]
noncomputable abbrev Tie:=Pt×Pt
noncomputable def bL (t:Tie):D:=.tup [enP t.1,enP t.2]
noncomputable def okD (d:D):Res D:=match d with|.uDf=>.bad|d=>.ok d
theorem MK (i:Nat) (ρ:List D):aH i ρ=okD (ρ.getD i .uDf):=rfl
noncomputable def ltP (p q:Pt):Prop:=p.1<q.1\/p.1=q.1/\p.2<q.2
noncomputable instance (p q:Pt):Decidable (ltP p q):=by unfold ltP;infer_instance
theorem vG (p q:Pt):cM .lt (enP p) (enP q)=some (decide (ltP p q)):=by
 obtain ⟨a,b⟩:=p;obtain ⟨c,d⟩:=q;by_cases h1:a=c <;> by_cases h2:b=d <;> simp [enP,cM,cC,eqD,h1,h2,fD.int,fD.nat,ltP]
theorem MN (p q:Pt):cM .gt (enP p) (enP q)=some (decide (ltP q p)):=by
 obtain ⟨a,b⟩:=p;obtain ⟨c,d⟩:=q;by_cases h1:a=c
 ·by_cases h2:b=d <;> simp [enP,cM,cC,eqD,h1,h2,fD.int,fD.nat,ltP]
 ·simp [enP,cM,cC,eqD,h1,fD.int];simp only [ltP];lia
noncomputable def ends (T:List Tie):List Pt:=T.flatMap fun t=>[t.1,t.2]
noncomputable abbrev Pc:=Int×Str
noncomputable def pcD (c:Pc):D:=.tup [.int c.1,.str c.2]
theorem z2:decide ((2:Nat)<=lim)=true:=rfl
noncomputable def gH (Q:List Pc) (T:List Tie) (r:Int):D:=.tup [.tup (Q.map pcD),.tup (T.map bL),.int r]
theorem zP (Q:List Pc):(D.tup (Q.map pcD)).pure=true:=by
 show D.aR (Q.map pcD)=true;induction Q with
 | nil=>rfl
 | cons q Q ih=>rw [List.map_cons,D.aR,ih];rfl
theorem pH (T:List Tie):(D.tup (T.map bL)).pure=true:=by
 show D.aR (T.map bL)=true;induction T with
 | nil=>rfl
 | cons q Q ih=>rw [List.map_cons,D.aR,ih];rfl
theorem MP (l:List Pt):D.aR (l.map enP)=true:=by
 induction l with
 | nil=>rfl
 | cons q Q ih=>rw [List.map_cons,D.aR,ih];rfl
noncomputable def MT:D->Tie
 | .tup [.tup [.int a,.int b],.tup [.int c,.int d]]=>((a,b),(c,d))
 | _=>((0,0),(0,0))
theorem pI (t:Tie):MT (bL t)=t:=rfl
noncomputable def gJ (U:List Tie):List Tie:=(iW (U.map bL)).map MT
theorem dI (U:List Tie):(gJ U).Perm U:=by
 have h:=(d9 (U.map bL)).map MT;rw [List.map_map] at h;have e:U.map (MT ∘ bL)=U:=by
  conv=>rhs;rw [<-List.map_id U]
  exact List.map_congr_left fun t _=>pI t
 rw [e] at h;exact h
theorem M3 (U:List Tie):(gJ U).map bL=iW (U.map bL):=by
 unfold gJ;rw [List.map_map]
 conv=>rhs;rw [<-List.map_id (iW (U.map bL))]
 refine List.map_congr_left fun d hd=>?_
 obtain ⟨t,_,rfl⟩:=List.mem_map.mp ((d9 (U.map bL)).mem_iff.mp hd);rfl
theorem X3 (s t:Tie):∃k,cM .lt (bL s) (bL t)=some k:=by
 have e:cM .lt (bL s) (bL t)=(if eqD (enP s.1) (enP t.1) then (if eqD (enP s.2) (enP t.2) then some (fD.lt.nat 0 0) else cM .lt (enP s.2) (enP t.2)) else cM .lt (enP s.1) (enP t.1)):=rfl;rw [e,vG,vG];split
 ·split
  ·exact ⟨_,rfl⟩
  ·exact ⟨_,rfl⟩
 ·exact ⟨_,rfl⟩
theorem pJ (U:List Tie):bF (U.map bL)=true:=by
 unfold bF;refine List.all_eq_true.mpr fun d hd=>?_
 obtain ⟨t,ht,rfl⟩:=List.mem_map.mp hd;have hk:dJ ((U.map bL).headD .non)=5:=by
  cases U with
  | nil=>cases ht
  | cons u U=>rfl
 have h5:dJ (bL t)=5:=rfl;have hp:(bL t).plain=true:=rfl;have hq:(bL t).bM bA=true:=rfl;rw [hk,h5,hp,hq];refine List.all_eq_true.mpr fun b hb=>?_
 obtain ⟨u,_,rfl⟩:=List.mem_map.mp hb;obtain ⟨k,e⟩:=X3 t u;rw [e];rfl
theorem tK (U:List Tie):iZ [.lst (U.map bL)]=.ok (.lst ((gJ U).map bL)):=by
 show (if bF (U.map bL) then Res.ok (D.lst (iW (U.map bL))) else .bad)=_;rw [pJ,if_pos rfl,M3]
noncomputable def LeT (s t:Tie):Prop:=leE (bL s) (bL t)=true
theorem gD (U:List Tie):(gJ U).Pairwise LeT:=by
 have h:=i_ (U.map bL);rw [<-M3,List.pairwise_map] at h;exact h
theorem M4:∀{xs ys:List Tie},xs.map bL=ys.map bL->xs=ys
 | [],[],_=>rfl
 | x::xs,y::ys,h=>by
  rw [List.map_cons,List.map_cons,List.cons.injEq] at h;have e:=congrArg MT h.1;rw [pI,pI] at e;rw [e,M4 h.2]
 | [],_::_,h=>by cases h
 | _::_,[],h=>by cases h
theorem eq_of_sorted {U V:List Tie} (h:U.Perm V) (h1:U.Pairwise LeT) (h2:V.Pairwise LeT):U=V:=by
 refine M4 (oM (fun d hd=>?_) (h.map bL) (List.pairwise_map.mpr h1) (List.pairwise_map.mpr h2));obtain ⟨t,_,rfl⟩:=List.mem_map.mp hd;rfl
theorem tL {U:List Tie} (h:U.Pairwise LeT):gJ U=U:=eq_of_sorted (dI U) (gD U) h
theorem RD {U V:List Tie} (h:U.Perm V):gJ U=gJ V:=eq_of_sorted ((dI U).trans (h.trans (dI V).symm)) (gD U) (gD V)
theorem X4 (a b:Int):eqD (.int a) (.int b)=(a==b):=rfl
theorem T5 (a b:Pc):∃k,cM .lt (pcD a) (pcD b)=some k/\(a.1≠b.1->k=decide (a.1<b.1)):=by
 have e:cM .lt (pcD a) (pcD b)=(if eqD (.int a.1) (.int b.1) then (if eqD (.str a.2) (.str b.2) then some (fD.lt.nat 0 0) else some (fD.lt.str a.2 b.2)) else some (fD.lt.int a.1 b.1)):=rfl;rw [e,X4];by_cases h:a.1=b.1
 ·rw [if_pos (by simp [h])];split
  ·exact ⟨_,rfl,fun z=>absurd h z⟩
  ·exact ⟨_,rfl,fun z=>absurd h z⟩
 ·rw [if_neg (by simp [h])];exact ⟨_,rfl,fun _=>rfl⟩
theorem p_ (U:List Pc):bF (U.map pcD)=true:=by
 unfold bF;refine List.all_eq_true.mpr fun d hd=>?_
 obtain ⟨t,ht,rfl⟩:=List.mem_map.mp hd;have hk:dJ ((U.map pcD).headD .non)=3:=by
  cases U with
  | nil=>cases ht
  | cons u U=>rfl
 have h5:dJ (pcD t)=3:=rfl;have hp:(pcD t).plain=true:=rfl;have hq:(pcD t).bM bA=true:=rfl;rw [hk,h5,hp,hq];refine List.all_eq_true.mpr fun b hb=>?_
 obtain ⟨u,_,rfl⟩:=List.mem_map.mp hb;obtain ⟨k,e,_⟩:=T5 t u;rw [e];rfl
noncomputable def LtN (a b:Pc):Prop:=a.1<b.1
theorem RG {U:List Pc} (h:U.Pairwise LtN):iZ [.lst (U.map pcD)]=.ok (.lst (U.map pcD)):=by
 show (if bF (U.map pcD) then Res.ok (D.lst (iW (U.map pcD))) else .bad)=_;rw [p_,if_pos rfl]
 congr 2
 refine oM (fun d hd=>?_) (d9 _) (i_ _) (List.pairwise_map.mpr (h.imp fun {a b} hab=>?_))
 ·obtain ⟨t,_,rfl⟩:=List.mem_map.mp ((d9 (U.map pcD)).mem_iff.mp hd);rfl
 ·have hab:a.1<b.1:=hab;obtain ⟨k,e,hk⟩:=T5 b a;have e1:=wJ (pcD b) (pcD a) k rfl rfl e;rw [hk (by lia),decide_eq_false (by lia)] at e1;unfold leE;rw [<-e1];rfl
theorem qT (T:List Tie):D.aR (T.map bL)=true:=pH T
theorem M5 (T:List Pc):D.aR (T.map pcD)=true:=zP T
theorem zQ (Q:List Pc) (V:List Tie) (r:Int):(gH Q V r).pure=true:=by
 show ((D.tup (Q.map pcD)).pure&&((D.tup (V.map bL)).pure&&(true&&true)))=true;rw [zP,pH];rfl
structure Wf (Q:List Pc) (T:List Tie):Prop where
 qs:Q.Pairwise LtN
 qpos:∀pc∈Q,0<pc.1
 lt:∀t∈T,ltP t.1 t.2
 nn:∀t∈T,0<=t.1.1/\0<=t.2.1
 srt:T.Pairwise LeT
end Lk21
end
section
namespace Lk21
open PySem L2 Mi
theorem jJ {f:List D->Res D} {n i:Nat} {fs:FA} {ρ rest h h':List D} {r:D} (h1:fs ρ=.ok rest) (h2:mJ (ρ.getD i .uDf)=some h) (h3:rest.length+1=n) (h4:ch1 f h rest=.ok (r,h')) (h5:D.aR h'=true) {ρ':List D} (he:ρ.set i (pU (ρ.getD i .uDf) h')=ρ'):cG f n i fs ρ=.ok (r,ρ'):=by
 subst he;unfold cG;rw [h1,Res.aK,h2];dsimp only;rw [if_pos (decide_eq_true h3),h4,Res.aK];dsimp only;rw [if_pos h5]
theorem iH {i:Nat} {f:FX} {ρ ρ':List D} {d:D} (h:f ρ=.ok (d,ρ')) {ρ2:List D} (he:ρ'.set i d=ρ2):fB false i f ρ=.ok (.nx ρ2):=by
 subst he;unfold fB;rw [h];rfl
theorem zR {i:Nat} {f:FX} {ρ ρ':List D} {d:D} (h:f ρ=.ok (d,ρ')) (hi:inner d=true) {ρ2:List D} (he:ρ'.set i d=ρ2):fB true i f ρ=.ok (.nx ρ2):=by
 subst he;unfold fB;rw [h,Res.aK];dsimp only;rw [if_pos rfl,if_pos hi]
theorem qU {f g:FS} {ρ:List D} {d:D} (h:f ρ=.ok (.rt d)):bU f g ρ=.ok (.rt d):=by
 unfold bU;rw [h];rfl
theorem pK {i:Nat} {fk fv:FE} {ρ xs:List D} {d:D} {k:Int} {j:Nat} (h1:fv ρ=.ok d) (h2:fk ρ=.ok (.int k)) (h3:mJ (ρ.getD i .uDf)=some xs) (hp:d.pure=true) (hj:ixD xs.length k=some j) {ρ':List D} (he:ρ.set i (pU (ρ.getD i .uDf) (xs.set j d))=ρ'):wW i fk fv ρ=.ok (.nx ρ'):=by
 subst he;unfold wW;rw [h1,Res.aK,h2,Res.aK,h3];dsimp only;rw [if_pos hp,hj]
theorem xU {f:FE} {ρ:List D} {d:D} {k:Bool} (h:f ρ=.ok d) (hp:(k||d.pure)=true):BZ f k ρ=.ok (.rt (.tup (d::ρ))):=by
 unfold BZ;rw [h,Res.aK,if_pos hp]
theorem nM {i:Nat} {ρ:List D} {d:D} (h:aH i ρ=.ok d) (hp:d.R8=true):oK i ρ=.ok (.rt (.tup (d::ρ))):=by
 unfold oK;rw [h,Res.aK,if_pos hp]
theorem aDh {f:FE} {ρ:List D} {d:D} (h:f ρ=.ok d) (hp:d.pure=true):xE f ρ=.ok (d,ρ):=by
 unfold xE;rw [h,Res.aK,if_pos hp]
theorem jK {f:FE} {ρ:List D} {d:D} (h:f ρ=.ok d) (hp:d.pure=true):bPu f ρ=.ok d:=by
 unfold bPu;rw [h,Res.aK,if_pos hp]
theorem M6 {i j:Nat} {f:FX} {ρ ρ1 xs0 xs:List D} {k:Int} {x:D} (h1:f ρ=.ok (.int k,ρ1)) (h0:mJ (ρ.getD i .uDf)=some xs0) (h2:mJ (ρ1.getD i .uDf)=some xs) (hk0:0<=k) (hk1:k<=1000000) (hx:xs[k.toNat]?=some x) {ρ':List D} (he:(ρ1.set i (pU (ρ1.getD i .uDf) (xs.eraseIdx k.toNat))).set j x=ρ'):wX i j f ρ=.ok (.nx ρ'):=by
 subst he;unfold wX;rw [h1,Res.aK];dsimp only;rw [h0,h2];dsimp only;rw [if_pos (by rw [decide_eq_true hk0,decide_eq_true hk1];rfl),hx]
theorem aBc {f:D->D->Res D} {fa:FX} {fb:FE} {ρ ρ1:List D} {x y d:D} (h1:fa ρ=.ok (x,ρ1)) (hp:x.pure=true) (h2:fb ρ1=.ok y) (h3:f x y=.ok d) (hd:d.pure=true):x2L f fa fb ρ=.ok (d,ρ1):=by
 unfold x2L;rw [h1,Res.aK];dsimp only;rw [if_pos hp,h2,Res.aK,h3,Res.aK,if_pos hd]
theorem M7 {f:D->D->Res D} {fa:FE} {fb:FX} {ρ ρ1:List D} {x y d:D} (h1:fa ρ=.ok x) (h2:fb ρ=.ok (y,ρ1)) (h3:f x y=.ok d) (hd:d.pure=true):x2R f fa fb ρ=.ok (d,ρ1):=by
 unfold x2R;rw [h1,Res.aK,h2,Res.aK];dsimp only;rw [h3,Res.aK,if_pos hd]
theorem aBd {f:D->D->Res D} {fa:FE} {fb:FX} {ρ ρ1:List D} {x y d:D} (h1:fa ρ=.ok x) (h2:fb ρ=.ok (y,ρ1)) (h3:f x y=.ok d):x2N f fa fb ρ=.ok (d,ρ1):=by
 unfold x2N;rw [h1,Res.aK,h2,Res.aK];dsimp only;rw [h3,Res.aK]
theorem aBe {f:FX} {ρ ρ1:List D} {b:Bool} (h:f ρ=.ok (.bl b,ρ1)):xTB f ρ=.ok (b,ρ1):=by
 unfold xTB;rw [h];rfl
theorem T6 {c:FXT} {f g:FS} {ρ ρ1:List D} {k:Bool} {r:Res Fl} (h1:c ρ=.ok (k,ρ1)) (h2:(if k then f ρ1 else g ρ1)=r):aAu c f g ρ=r:=by
 unfold aAu;rw [h1];exact h2
theorem tM {f:FX} {g:FXA} {ρ ρ1 ρ2:List D} {x:D} {xs:List D} (h1:f ρ=.ok (x,ρ1)) (h2:g ρ1=.ok (xs,ρ2)) (hp:x.pure=true):wV f g ρ=.ok (x::xs,ρ2):=by
 unfold wV;rw [h1,Res.aK];dsimp only;rw [h2,Res.aK];dsimp only;rw [if_pos hp]
theorem M8 {f:FE} {g:FXA} {ρ ρ2:List D} {x:D} {xs:List D} (h1:f ρ=.ok x) (h2:g ρ=.ok (xs,ρ2)) (hp:x.pure=true):uR f g ρ=.ok (x::xs,ρ2):=by
 unfold uR;rw [h1,Res.aK,h2,Res.aK,if_pos hp]
theorem X5 {f:FXA} {ρ ρ1 xs:List D} (h:f ρ=.ok (xs,ρ1)) (hl:xs.length<=lim) (hp:D.aR xs=true):aC9 f ρ=.ok (.lst xs,ρ1):=by
 unfold aC9;rw [h,Res.aK];dsimp only;rw [if_pos (by rw [decide_eq_true hl,hp];rfl)]
theorem X6 {f:FXA} {ρ ρ1 xs:List D} (h:f ρ=.ok (xs,ρ1)) (hl:xs.length<=lim) (hp:D.aR xs=true):aAt f ρ=.ok (.tup xs,ρ1):=by
 unfold aAt;rw [h,Res.aK];dsimp only;rw [if_pos (by rw [decide_eq_true hl,hp];rfl)]
theorem pL {k n m:Nat} {f:FS} {ds:List D} {d:D} {ρ:List D} (h:f (ds++List.replicate (m-n) .uDf)=.ok (.rt (.tup (d::ρ)))):fnX k n m f ds=.ok (.tup (d::ρ.take k)):=by
 unfold fnX;rw [h];rfl
theorem xV (a b:Int) (h:iV b=true):FZ (.int a) (.int b)=.ok (.int (a*b)):=by
 show bB .mul (.int a) (.int b)=_;exact aAo a b h
theorem RJ (a b:Int) (h:iV a=true):FZ (.int a) (.int b)=.ok (.int (a*b)):=by
 show bB .mul (.int a) (.int b)=_;exact W2 a b h
theorem M9 (a:Int) (h1:-10000000000<=a) (h2:a<=10000000000):iV a=true:=by
 unfold iV;rw [Bool.and_eq_true,decide_eq_true_eq,decide_eq_true_eq];lia
theorem T7 (a b:Int):d7 (.ord .le) (.int a) (.int b)=.ok (.bl (decide (a<=b))):=rfl
theorem qK (a b:Int):d7 (.ord .lt) (.int a) (.int b)=.ok (.bl (decide (a<b))):=rfl
theorem cmp_gt (a b:Int):d7 (.ord .gt) (.int a) (.int b)=.ok (.bl (decide (b<a))):=rfl
theorem kE (a b:Int):d7 .eq (.int a) (.int b)=.ok (.bl (a==b)):=rfl
theorem xW (a b:Int):d7 .ne (.int a) (.int b)=.ok (.bl (!(a==b))):=rfl
noncomputable def hd (c s:Int) (ns:List Int):List D:=[.int c,.int s,.scr (ns.map D.int)]
theorem X7 (ns:List Int) (i:Int) (h0:0<=i) (h1:i<ns.length):∃n,getD (.scr (ns.map D.int)) (.int i)=.ok (.int n):=by
 have hl:i.toNat<ns.length:=by lia
 refine ⟨ns[i.toNat],?_⟩;show Res.ofOpt ((ixD (ns.map D.int).length i).bind fun j=>(ns.map D.int)[j]?)=_;unfold ixD;rw [if_pos h0,List.length_map,if_pos h1];simp [hl]
structure Hand (ns:List Int) (h:List D):Prop where
 ex:∃c s:Int,h=hd c s ns/\0<=c/\0<=s/\s<1000000007
theorem Hand.aR {ns:List Int} {h:List D} (H:Hand ns h):D.aR h=true:=by
 obtain ⟨c,s,rfl,_⟩:=H.ex;show (true&&(true&&((D.scr (ns.map D.int)).pure&&true)))=true;rw [show (D.scr (ns.map D.int)).pure=D.aR (ns.map D.int) by rw [D.pure],qQ];rfl
theorem X8 (ns:List Int) {h:List D} (H:Hand ns h) {m:Int} (hm:0<m):∃(r:Int) (h':List D),Hand ns h'/\0<=r/\r<m/\∀b,aN [.cel b h,.int m]=.ok (.tup [.int r,.cel b h']):=by
 obtain ⟨c,s,rfl,hc,hs0,hs1⟩:=H.ex;by_cases hle:c+1<=ns.length
 ·obtain ⟨n,hn⟩:=X7 ns (c+1-1) (by lia) (by lia);refine ⟨n % m,hd (c+1) s ns,⟨⟨c+1,s,rfl,by lia,hs0,hs1⟩⟩,Int.emod_nonneg _ (by lia),Int.emod_lt_of_pos _ hm,fun b=>?_⟩;refine pL (ρ:=[.cel b (hd (c+1) s ns),.int m]) ?_;refine aQ (ρ':=[.cel b (hd (c+1) s ns),.int m]) (pK (j:=0) (xs:=hd c s ns) (d:=.int (c+1)) (aP (x:=.int c) (aP rfl rfl rfl) rfl (dX _ _)) rfl rfl rfl rfl rfl) (qU ?_);refine O5 (j9 (aP (x:=.int (c+1)) (y:=.int (ns.map D.int).length) (aP rfl rfl rfl) (aV (aB (aP rfl rfl rfl) rfl) rfl) ?_)) ?_
  ·rw [T7,List.length_map,decide_eq_true hle]
  ·exact xU (aP (x:=.int n) (aP (x:=.scr (ns.map D.int)) (y:=.int (c+1-1)) (aP rfl rfl rfl) (aP (x:=.int (c+1)) (aP rfl rfl rfl) rfl (mX _ _)) hn) rfl (fP _ _ hm)) rfl
 ·have hs2:iV s=true:=M9 s (by lia) (by lia)
  let s':=(s*s+7*(c+1)+11) % 1000000007
  have hs'0:0<=s':=Int.emod_nonneg _ (by lia);have hs'1:s'<1000000007:=Int.emod_lt_of_pos _ (by lia);refine ⟨s' / 3 % m,hd (c+1) s' ns,⟨⟨c+1,s',rfl,by lia,hs'0,hs'1⟩⟩,Int.emod_nonneg _ (by lia),Int.emod_lt_of_pos _ hm,fun b=>?_⟩;refine pL (ρ:=[.cel b (hd (c+1) s' ns),.int m]) ?_;refine aQ (ρ':=[.cel b (hd (c+1) s ns),.int m]) (pK (j:=0) (xs:=hd c s ns) (d:=.int (c+1)) (aP (x:=.int c) (aP rfl rfl rfl) rfl (dX _ _)) rfl rfl rfl rfl rfl) ?_;refine aQ (ρ':=[.cel b (hd (c+1) s ns),.int m]) (F_ (j9 (aP (x:=.int (c+1)) (y:=.int (ns.map D.int).length) (aP rfl rfl rfl) (aV (aB (aP rfl rfl rfl) rfl) rfl) ?_)) rfl) ?_
  ·rw [T7,List.length_map,decide_eq_false hle]
  ·refine aQ (ρ':=[.cel b (hd (c+1) s' ns),.int m]) (pK (j:=1) (xs:=hd (c+1) s ns) (d:=.int s') (aP (x:=.int (s*s+7*(c+1)+11)) (aP (x:=.int (s*s+7*(c+1))) (aP (x:=.int (s*s)) (y:=.int (7*(c+1))) (aP (x:=.int s) (y:=.int s) (aP rfl rfl rfl) (aP rfl rfl rfl) (xV _ _ hs2)) (aP (x:=.int 7) (y:=.int (c+1)) rfl (aP rfl rfl rfl) (RJ _ _ rfl)) (dX _ _)) rfl (dX _ _)) rfl (fP _ _ (by lia))) rfl rfl rfl rfl rfl) ?_;exact xU (aP (x:=.int (s' / 3)) (aP (x:=.int s') (aP rfl rfl rfl) rfl (iC _ _ (by lia) (by lia))) rfl (fP _ _ hm)) rfl
theorem eY (ns:List Int) {h:List D} (H:Hand ns h) {m:Int} (hm:0<m):∃(r:Int) (h':List D),Hand ns h'/\0<=r/\r<m/\ch1 aN h [.int m]=.ok (.int r,h'):=by
 obtain ⟨r,h',H',h0,h1,e⟩:=X8 ns H hm;exact ⟨r,h',H',h0,h1,uQ e⟩
theorem vH {ns:List Int} {i:Nat} {fs:FA} {ρ h h':List D} {m r:Int} (H':Hand ns h') (e:ch1 aN h [.int m]=.ok (.int r,h')) (h1:fs ρ=.ok [.int m]) (h2:mJ (ρ.getD i .uDf)=some h) {ρ':List D} (he:ρ.set i (pU (ρ.getD i .uDf) h')=ρ'):cG aN 2 i fs ρ=.ok (.int r,ρ'):=jJ h1 h2 rfl e H'.aR he
theorem lM {ns:List Int} {i j:Nat} {fs:FA} {g:FS} {ρ ρ2 h h':List D} {m r:Int} {R:Res Fl} (H':Hand ns h') (e:ch1 aN h [.int m]=.ok (.int r,h')) (h1:fs ρ=.ok [.int m]) (h2:mJ (ρ.getD i .uDf)=some h) (he:(ρ.set i (pU (ρ.getD i .uDf) h')).set j (.int r)=ρ2) (hg:g ρ2=R):bU (fB false j (cG aN 2 i fs)) g ρ=R:=
 aQ (iH (vH H' e h1 h2 rfl) he) hg
end Lk21
end
section
namespace Lk21
open PySem L2 Mi
noncomputable def tx (cs:List Nat):Str:=⟨cs.toArray⟩
theorem qW (cs:List Nat):(tx cs).length=cs.length:=by
 show cs.toArray.size=_;simp
theorem aBf (a b:List Nat):tx a++tx b=tx (a++b):=by
 show (⟨a.toArray++b.toArray⟩:Str)=⟨(a++b).toArray⟩
 congr 1
 simp
theorem aBg {a b:List Nat} (h:tx a=tx b):a=b:=by
 unfold tx at h;injection h with h
 have:=congrArg Array.toList h;simpa using this
noncomputable def abc:Str := "abcdefghijklmnopqrstuvwxyz"
theorem aBh:∀i,i<26->abc.cps.toList[i]?=some (97+i):=by decide +kernel
theorem letter (i:Int) (h0:0<=i) (h1:i<26):getD (.str abc) (.int i)=.ok (.str (tx [97+i.toNat])):=by
 have hl:decide (abc.length<=lim)=true:=by decide +kernel
 have h26:abc.cps.toList.length=26:=by decide +kernel
 have hix:ixD abc.cps.toList.length i=some i.toNat:=by
  unfold ixD;rw [if_pos h0,h26,if_pos (by lia)]
 show (if decide (abc.length<=lim) then Res.ofOpt (((ixD abc.cps.toList.length i).bind fun j=>abc.cps.toList[j]?).map fun c=>D.str ⟨#[c]⟩) else .bad)=_;rw [hl,if_pos rfl,hix];simp only [Option.bind_some];rw [aBh _ (by lia)];rfl
theorem RK (cs:List Nat) (a:Nat) (h:a<=cs.length):Txt.slice (tx cs) none (some (a:Int))=tx (cs.take a):=by
 have e:Builtin.Str.strSliceIndices none (some (a:Int)) 1 (tx cs).length=Builtin.Str.strSliceIndices (some ((0:Nat):Int)) (some (a:Int)) 1 (tx cs).length:=by
  simp only [Builtin.Str.strSliceIndices];have e0:max (0:Int) (min (if ((0:Nat):Int)<0 then ((0:Nat):Int)+((tx cs).length:Int) else ((0:Nat):Int)) ((tx cs).length:Int))=0:=by
   rw [if_neg (by lia)];lia
  simp only [show (1:Int) > 0 from by decide,if_true,e0]
 unfold Txt.slice;rw [e];split
 ·rename_i hw;rw [StrLaws.strSliceIndices_plain (by lia) (by rw [qW];lia),qW] at hw;have:a=cs.length:=by
   simp at hw;lia
  rw [this,List.take_of_length_le (Nat.le_refl _)]
 ·rw [StrLaws.sliced_plain (tx cs) (by lia) (by rw [qW];lia)];unfold tx
  congr 1
noncomputable def X_:FS:=(bU (dZ false 12 (b2 FZ (aH 8) (aY aC7 (aD (aA0 (b2 (d7 .eq) (aH 11) (aH 5)) (b2 (d7 .eq) (aH 6) (bC (.int 2)))) (aZ)))) true) (bU (dZ false 10 (b2 (bB .add) (aH 10) (b2 getD (aH 2) (b2 (bB .mod) (b2 (bB .add) (aH 9) (aH 12)) (bC (.int 26))))) true) (dZ false 9 (b2 (bB .fdiv) (aH 9) (bC (.int 26))) true)))
noncomputable def aDi:FS:=(bU (dZ false 9 (b2 (bB .fdiv) (aH 3) (bC (.int 192))) true) (bU (dZ false 10 (bC (.str "")) true) (bU (O4 (iK (aD (aH 4) (aZ)) lW) (tg1 11) X_) (bU (sIf (bTB (b2 (d7 .eq) (aH 6) (bC (.int 1)))) (dZ false 10 (aC4 (aH 10) (JD) (wH (b2 (bB .add) (b2 (bB .add) (aH 5) (bC (.int 1))) (b2 (bB .mod) (aH 8) (b2 (bB .sub) (aH 4) (aH 5)))))) true) (pO)) (tR 7 (aH 10))))))
noncomputable def m5 (r:Int):Nat->Int
 | 0=>r
 | j+1=>m5 r j / 26
theorem aBi {a b:FE} {ρ:List D} {x y:Bool} (h1:a ρ=.ok (.bl x)) (h2:b ρ=.ok (.bl y)):aA0 a b ρ=.ok (.bl (x||y)):=by
 unfold aA0;rw [h1];cases x
 ·exact h2
 ·rfl
noncomputable def st0 (hD:D) (ab:Str) (num sz at_ st:Int) (NM:List D) (k:Int) (rest:Int) (nm:Str) (x y:D):List D:=[hD,.int 4,.str ab,.int num,.int sz,.int at_,.int st,.lst NM,.int k,.int rest,.str nm,x,y]
theorem M_ {num sz st k r0:Int} {a:Nat} {NM:List D} (hk0:0<=k) (hk1:k<=3) (ha:a<10):∀(n j:Nat) (cs:List Nat) (x y:D),cs.length=j->j+n<=10->(a<j->cs[a]?=some (97+((m5 r0 a+k) % 26).toNat))->
  ∃(cs':List Nat) (x' y':D),cs'.length=j+n/\(a<j+n->cs'[a]?=some (97+((m5 r0 a+k) % 26).toNat))/\∀hD:D,tU (tg1 11) X_ ((List.range' j n).map fun (j:Nat)=>D.int (0+(j:Int))) (st0 hD abc num sz a st NM k (m5 r0 j) (tx cs) x y)=.ok (.nx (st0 hD abc num sz a st NM k (m5 r0 (j+n)) (tx cs') x' y'))
 | 0,j,cs,x,y,hl,_,hc=>⟨cs,x,y,hl,hc,fun _=>rfl⟩
 | n+1,j,cs,x,y,hl,hn,hc=>by
  let sh:Int:=k*(if ((0+(j:Int))==(a:Int))||(st==2) then 1 else 0)
  have hsh:iV (if ((0+(j:Int))==(a:Int))||(st==2) then (1:Int) else 0)=true:=by split <;> rfl
  have hm0:0<=(m5 r0 j+sh) % 26:=by lia
  have hm1:(m5 r0 j+sh) % 26<26:=by lia
  obtain ⟨cs',x',y',g1,g2,g3⟩:=M_ (num:=num) (sz:=sz) (st:=st) (r0:=r0) (NM:=NM) hk0 hk1 ha n (j+1) (cs++[97+((m5 r0 j+sh) % 26).toNat]) (.int (0+(j:Int))) (.int sh) (by simp [hl]) (by lia) (fun h=>by
   by_cases haj:a<j
   ·rw [List.getElem?_append_left (by lia)];exact hc haj
   ·have haj:a=j:=by lia
    subst haj;rw [List.getElem?_append_right (by lia),hl];simp only [Nat.sub_self,List.getElem?_cons_zero];have:sh=k:=by
     show k*(if ((0+(a:Int))==(a:Int))||(st==2) then 1 else 0)=k;rw [if_pos (by simp)];lia
    rw [this])
  refine ⟨cs',x',y',by lia,fun h=>g2 (by lia),fun hD=>?_⟩;rw [List.range'_succ,List.map_cons];rw [show j+(n+1)=j+1+n by lia];refine cQ (ρ1:=st0 hD abc num sz a st NM k (m5 r0 j) (tx cs) (.int (0+(j:Int))) y) rfl ?_ (g3 hD);refine aQ (ρ':=st0 hD abc num sz a st NM k (m5 r0 j) (tx cs) (.int (0+(j:Int))) (.int sh)) (cA (aP (x:=.int k) rfl (aV (aB (aBi (aP rfl rfl (kE _ _)) (aP rfl rfl (kE _ _))) rfl) rfl) (xV _ _ hsh))) ?_;refine aQ (ρ':=st0 hD abc num sz a st NM k (m5 r0 j) (tx (cs++[97+((m5 r0 j+sh) % 26).toNat])) (.int (0+(j:Int))) (.int sh)) (cA (aP (x:=.str (tx cs)) (y:=.str (tx [97+((m5 r0 j+sh) % 26).toNat])) rfl (aP (x:=.str abc) (y:=.int ((m5 r0 j+sh) % 26)) rfl (aP (x:=.int (m5 r0 j+sh)) (aP rfl rfl (dX _ _)) rfl (fP _ _ (by lia))) (letter _ hm0 hm1)) ?_)) ?_
  ·rw [wC _ _ (by rw [qW,qW,bH];simp;lia),aBf]
  ·exact cA (aP (x:=.int (m5 r0 j)) rfl rfl (iC _ _ (by lia) (by lia)))
theorem nO {num sz st k:Int} {a:Nat} {NM:List D} {rD nD x y:D} (hk0:0<=k) (hk1:k<=3) (hs0:0<sz) (hs1:sz<=8) (ha:(a:Int)<sz) (hN:NM.length<100) :
  ∃(cs:List Nat) (r':Int) (x' y':D),cs.length<=8/\cs[a]?=some (97+((m5 (num / 192) a+k) % 26).toNat)/\∀hD:D,aDi [hD,.int 4,.str abc,.int num,.int sz,.int a,.int st,.lst NM,.int k,rD,nD,x,y]=.ok (.nx (st0 hD abc num sz a st (NM++[.str (tx cs)]) k r' (tx cs) x' y')):=by
 obtain ⟨cs,x1,y1,g1,g2,g3⟩:=M_ (num:=num) (sz:=sz) (st:=st) (r0:=num / 192) (NM:=NM) (a:=a) hk0 hk1 (by lia) sz.toNat 0 [] x y rfl (by lia) (fun h=>by lia);rw [Nat.zero_add] at g1 g2 g3;have hca:=g2 (by lia);have e0:(List.range sz.toNat).map (fun (k:Nat)=>D.int (0+(k:Int)))=(List.range' 0 sz.toNat).map fun (j:Nat)=>D.int (0+(j:Int)):=by rw [List.range_eq_range']
 have f1:∀hD:D,dZ false 9 (b2 (bB .fdiv) (aH 3) (bC (.int 192))) true [hD,.int 4,.str abc,.int num,.int sz,.int a,.int st,.lst NM,.int k,rD,nD,x,y]=.ok (.nx [hD,.int 4,.str abc,.int num,.int sz,.int a,.int st,.lst NM,.int k,.int (num / 192),nD,x,y]):=fun hD=>cA (aP (x:=.int num) rfl rfl (iC _ _ (by lia) (by lia)))
 have f2:∀hD:D,dZ false 10 (bC (.str "")) true [hD,.int 4,.str abc,.int num,.int sz,.int a,.int st,.lst NM,.int k,.int (num / 192),nD,x,y]=.ok (.nx (st0 hD abc num sz a st NM k (num / 192) (tx []) x y)):=fun hD=>cA rfl
 have f3:∀hD:D,O4 (iK (aD (aH 4) (aZ)) lW) (tg1 11) X_ (st0 hD abc num sz a st NM k (num / 192) (tx []) x y)=.ok (.nx (st0 hD abc num sz a st NM k (m5 (num / 192) sz.toNat) (tx cs) x1 y1)):=fun hD=>uO (qP (n:=sz) (aB rfl rfl) (by lia) (by lia)) (by rw [e0];exact g3 hD)
 have app:∀(hD:D) (cs1:List Nat),tR 7 (aH 10) (st0 hD abc num sz a st NM k (m5 (num / 192) sz.toNat) (tx cs1) x1 y1)=.ok (.nx (st0 hD abc num sz a st (NM++[.str (tx cs1)]) k (m5 (num / 192) sz.toNat) (tx cs1) x1 y1)):=fun hD cs1=>o9 (xs:=NM) (d:=.str (tx cs1)) rfl rfl (by rw [bH];lia) rfl
 by_cases hst:st=1
 ·let w:Nat:=a+1+(k % (sz-a)).toNat
  have hk2:0<=k % (sz-a):=Int.emod_nonneg _ (by lia);have hk3:k % (sz-a)<sz-a:=Int.emod_lt_of_pos _ (by lia);have hw:w<=cs.length:=by lia
  refine ⟨cs.take w,m5 (num / 192) sz.toNat,x1,y1,by rw [List.length_take];lia,by rw [List.getElem?_take,if_pos (by lia)];exact hca,fun hD=>?_⟩;refine aQ (f1 hD) (aQ (f2 hD) (aQ (f3 hD) (aQ (ρ':=st0 hD abc num sz a st NM k (m5 (num / 192) sz.toNat) (tx (cs.take w)) x1 y1) (O5 (j9 (aP rfl rfl ?_)) (cA ?_)) (app hD _))))
  ·show d7 .eq (.int st) (.int 1)=_;rw [kE,hst];rfl
  ·have e1:b2 (bB .add) (b2 (bB .add) (aH 5) (bC (.int 1))) (b2 (bB .mod) (aH 8) (b2 (bB .sub) (aH 4) (aH 5))) (st0 hD abc num sz a st NM k (m5 (num / 192) sz.toNat) (tx cs) x1 y1)=.ok (.int (a+1+k % (sz-a))):=aP (x:=.int (a+1)) (aP rfl rfl (dX _ _)) (aP (x:=.int k) (y:=.int (sz-a)) rfl (aP rfl rfl (mX _ _)) (fP _ _ (by lia))) (dX _ _);have e2:((a:Int)+1+k % (sz-a))=(w:Int):=by
    show _=((a+1+(k % (sz-a)).toNat:Nat):Int);lia
   rw [e2] at e1;show (do let x <- aH 10 _;let l <- JD _;let h <- wH _ _;WX x l h)=_;have e3:wH (b2 (bB .add) (b2 (bB .add) (aH 5) (bC (.int 1))) (b2 (bB .mod) (aH 8) (b2 (bB .sub) (aH 4) (aH 5)))) (st0 hD abc num sz a st NM k (m5 (num / 192) sz.toNat) (tx cs) x1 y1)=.ok (some (w:Int)):=by
    unfold wH;rw [e1];rfl
   rw [e3];show WX (.str (tx cs)) none (some (w:Int))=_;show (if decide ((tx cs).length<=lim) then Res.ok (D.str (Txt.slice (tx cs) none (some (w:Int)))) else .bad)=_;rw [if_pos (by rw [qW,bH];exact decide_eq_true (by lia)),RK _ _ hw]
 ·refine ⟨cs,m5 (num / 192) sz.toNat,x1,y1,by lia,hca,fun hD=>?_⟩;refine aQ (f1 hD) (aQ (f2 hD) (aQ (f3 hD) (aQ (F_ (j9 (aP rfl rfl ?_)) rfl) (app hD _))));show d7 .eq (.int st) (.int 1)=_;rw [kE]
  congr 2
  exact beq_eq_false_iff_ne.mpr hst
structure Nms (N:List Str):Prop where
 ex:∃a b c d:Str,N=[a,b,c,d]/\a≠b/\a≠c/\a≠d
theorem RL (ns:List Int) {h:List D} (H:Hand ns h):∃(N:List Str) (h':List D),Hand ns h'/\Nms N/\∀b,eV [.cel b h,.int 4]=.ok (.tup [.lst (N.map D.str),.cel b h']):=by
 obtain ⟨num,h',H',hn0,hn1,e⟩:=eY ns H (m:=10 ^ 15) (by decide)
 let sz:Int:=1+num % 8
 have hs0:0<sz:=by show 0<1+num % 8;lia
 have hs1:sz<=8:=by show 1+num % 8<=8;lia
 let a:Nat:=(num / 8 % sz).toNat
 have ha0:0<=num / 8 % sz:=Int.emod_nonneg _ (by lia);have ha1:num / 8 % sz<sz:=Int.emod_lt_of_pos _ hs0;have hac:(a:Int)=num / 8 % sz:=by show (((num / 8 % sz).toNat:Nat):Int)=_;lia
 let st:Int:=num / 64 % 3
 obtain ⟨cs0,r0,x0,y0,l0,a0,e0⟩:=nO (num:=num) (sz:=sz) (st:=st) (k:=0) (a:=a) (NM:=[]) (rD:=.uDf) (nD:=.uDf) (x:=.uDf) (y:=.uDf) (by lia) (by lia) hs0 hs1 (by lia) (by simp);obtain ⟨cs1,r1,x1,y1,l1,a1,e1⟩:=nO (num:=num) (sz:=sz) (st:=st) (k:=1) (a:=a) (NM:=[.str (tx cs0)]) (rD:=.int r0) (nD:=.str (tx cs0)) (x:=x0) (y:=y0) (by lia) (by lia) hs0 hs1 (by lia) (by simp);obtain ⟨cs2,r2,x2,y2,l2,a2,e2⟩:=nO (num:=num) (sz:=sz) (st:=st) (k:=2) (a:=a) (NM:=[.str (tx cs0),.str (tx cs1)]) (rD:=.int r1) (nD:=.str (tx cs1)) (x:=x1) (y:=y1) (by lia) (by lia) hs0 hs1 (by lia) (by simp);obtain ⟨cs3,r3,x3,y3,l3,a3,e3⟩:=nO (num:=num) (sz:=sz) (st:=st) (k:=3) (a:=a) (NM:=[.str (tx cs0),.str (tx cs1),.str (tx cs2)]) (rD:=.int r2) (nD:=.str (tx cs2)) (x:=x2) (y:=y2) (by lia) (by lia) hs0 hs1 (by lia) (by simp);have dif:∀(cs:List Nat) (k:Int),1<=k->k<=3->cs[a]?=some (97+((m5 (num / 192) a+k) % 26).toNat)->tx cs0≠tx cs:=fun cs k h1 h2 hc z=>by
  have:=aBg z;subst this;rw [a0] at hc;injection hc with hc
  lia
 refine ⟨[tx cs0,tx cs1,tx cs2,tx cs3],h',H',⟨⟨_,_,_,_,rfl,dif cs1 1 (by lia) (by lia) a1,dif cs2 2 (by lia) (by lia) a2,dif cs3 3 (by lia) (by lia) a3⟩⟩,fun b=>?_⟩;refine pL (ρ:=st0 (.cel b h') abc num sz a st [.str (tx cs0),.str (tx cs1),.str (tx cs2),.str (tx cs3)] 3 r3 (tx cs3) x3 y3) ?_;refine aQ (ρ':=[.cel b h,.int 4,.str abc,.uDf,.uDf,.uDf,.uDf,.uDf,.uDf,.uDf,.uDf,.uDf,.uDf]) (cA rfl) ?_;refine lM (ρ2:=[.cel b h',.int 4,.str abc,.int num,.uDf,.uDf,.uDf,.uDf,.uDf,.uDf,.uDf,.uDf,.uDf]) H' e (aB (jK (aP rfl rfl (uP 15 (by lia))) rfl) rfl) rfl rfl ?_;refine aQ (ρ':=[.cel b h',.int 4,.str abc,.int num,.int sz,.uDf,.uDf,.uDf,.uDf,.uDf,.uDf,.uDf,.uDf]) (cA (aP (y:=.int (num % 8)) rfl (aP rfl rfl (fP _ _ (by lia))) (dX _ _))) ?_;refine aQ (ρ':=[.cel b h',.int 4,.str abc,.int num,.int sz,.int a,.uDf,.uDf,.uDf,.uDf,.uDf,.uDf,.uDf]) (cA (aP (x:=.int (num / 8)) (y:=.int sz) (aP rfl rfl (iC _ _ (by lia) (by lia))) rfl (by rw [hac];exact fP _ _ hs0))) ?_;refine aQ (ρ':=[.cel b h',.int 4,.str abc,.int num,.int sz,.int a,.int st,.uDf,.uDf,.uDf,.uDf,.uDf,.uDf]) (cA (aP (x:=.int (num / 64)) (aP rfl rfl (iC _ _ (by lia) (by lia))) rfl (fP _ _ (by lia)))) ?_;refine aQ (ρ':=[.cel b h',.int 4,.str abc,.int num,.int sz,.int a,.int st,.lst [],.uDf,.uDf,.uDf,.uDf,.uDf]) (jE rfl rfl) ?_;refine aQ (ρ':=st0 (.cel b h') abc num sz a st [.str (tx cs0),.str (tx cs1),.str (tx cs2),.str (tx cs3)] 3 r3 (tx cs3) x3 y3) (uO (qP (n:=4) (aB rfl rfl) (by lia) (by lia)) ?_) (nM rfl rfl);exact cQ rfl (e0 _) (cQ rfl (e1 _) (cQ rfl (e2 _) (cQ rfl (e3 _) rfl)))
theorem RM (ns:List Int) {h:List D} (H:Hand ns h):∃(N:List Str) (h':List D),Hand ns h'/\Nms N/\ch1 eV h [.int 4]=.ok (.lst (N.map D.str),h'):=by
 obtain ⟨N,h',H',hN,e⟩:=RL ns H;exact ⟨N,h',H',hN,uQ e⟩
end Lk21
end
section
namespace Lk21
open PySem L2 Mi
theorem xX (a b:Str):eqD (.str a) (.str b)=(a==b):=rfl
theorem vI {d:D} {k:Str} (h:eqD d (.str k)=true):d=.str k:=by
 cases d <;> simp [eqD] at h
 rw [h]
theorem nP (k q:Str) (w:D):∀kvs:List (D×D),cD (putD kvs (.str k) w) (.str q)=if k=q then some w else cD kvs (.str q)
 | []=>by
  show (if eqD (.str k) (.str q) then some w else none)=_;rw [xX];by_cases h:k=q
  ·simp [h]
  ·simp [h,cD]
 | (k',v)::r=>by
  rw [putD];by_cases h1:eqD k' (.str k)=true
  ·have:=vI h1;subst this;rw [if_pos h1,cD,cD,xX];by_cases h:k=q
   ·simp [h]
   ·simp [h]
  ·rw [if_neg h1,cD,cD,nP k q w r];by_cases h2:eqD k' (.str q)=true
   ·have:=vI h2;subst this;rw [if_pos h2,if_pos h2];have:k≠q:=fun z=>by subst z;exact h1 h2
    rw [if_neg this]
   ·rw [if_neg h2,if_neg h2]
theorem vJ {d:D} {k:D} (hd:d.pure=true):∀{ds:List (D×D)},D.aR (ds.map (·.2))=true->D.aR ((putD ds k d).map (·.2))=true
 | [],_=>by simp [putD,D.aR,hd]
 | (q,w)::r,h=>by
  rw [List.map_cons,D.aR,Bool.and_eq_true] at h;rw [putD];split
  ·rw [List.map_cons,D.aR,Bool.and_eq_true];exact ⟨hd,h.2⟩
  ·rw [List.map_cons,D.aR,Bool.and_eq_true];exact ⟨h.1,vJ hd h.2⟩
theorem NB {a:FA} {ρ:List D} {xs:List D} (h:a ρ=.ok xs) (hl:xs.length<=lim):wG a ρ=.ok (.lst xs):=by
 unfold wG;rw [h,Res.aK,if_pos (decide_eq_true hl)];rfl
noncomputable def aCa (kvs:List (D×D)):Prop:=∀p∈kvs,∃s:Str,p.1=.str s
theorem tO {kvs:List (D×D)} (h:aCa kvs) (k:Str) (w:D):aCa (putD kvs (.str k) w)/\(putD kvs (.str k) w).length<=kvs.length+1:=by
 induction kvs with
 | nil=>
  refine ⟨fun p hp=>?_,by simp [putD]⟩;have hp:p∈[((.str k:D),w)]:=hp;rcases List.mem_singleton.mp hp with rfl
  exact ⟨k,rfl⟩
 | cons q kvs ih=>
  obtain ⟨i1,i2⟩:=ih fun p hp=>h p (List.mem_cons_of_mem _ hp)
  obtain ⟨k',v⟩:=q;rw [putD];split
  ·refine ⟨fun p hp=>?_,by simp⟩;rcases List.mem_cons.mp hp with rfl|hp
   ·exact h (k',v) (List.mem_cons_self ..)
   ·exact h p (List.mem_cons_of_mem _ hp)
  ·refine ⟨fun p hp=>?_,by simp;lia⟩;rcases List.mem_cons.mp hp with rfl|hp
   ·exact h (k',v) (List.mem_cons_self ..)
   ·exact i1 p hp
theorem zT {kvs:List (D×D)} (h:aCa kvs) (k:Str):FQ kvs (.str k)=true:=by
 unfold FQ;rw [Bool.and_eq_true];refine ⟨rfl,List.all_eq_true.mpr fun p hp=>?_⟩;obtain ⟨s,e⟩:=h p hp;rw [e];rfl
structure Stk (N:List Str) (kvs:List (D×D)):Prop where
 look:∀x∈N,∃v:Int,cD kvs (.str x)=some (.int v)/\0<=v/\v<=6
 zero:∀x,N.head?=some x->cD kvs (.str x)=some (.int 0)
theorem YB (r:Int) (h0:0<=r) (h1:r<4):∃q:Int,getD (.lst [.int 3,.int 4,.int 3,.int 7]) (.int r)=.ok (.int q)/\3<=q/\q<=7:=by
 have:r=0\/r=1\/r=2\/r=3:=by lia
 rcases this with rfl|rfl|rfl|rfl
 ·exact ⟨3,rfl,by lia,by lia⟩
 ·exact ⟨4,rfl,by lia,by lia⟩
 ·exact ⟨3,rfl,by lia,by lia⟩
 ·exact ⟨7,rfl,by lia,by lia⟩
theorem RN (ns:List Int) {h:List D} (H:Hand ns h) {N:List Str} (hN:Nms N):∃(kvs:List (D×D)) (h':List D),Hand ns h'/\Stk N kvs/\ch1 gC h [.lst (N.map D.str)]=.ok (.dct kvs,h'):=by
 obtain ⟨num,h',H',hn0,hn1,e⟩:=eY ns H (m:=10 ^ 6) (by decide);obtain ⟨a,b,c,d,rfl,hab,hac,had⟩:=hN.ex;obtain ⟨q,hq,hq0,hq1⟩:=YB (num % 4) (by lia) (by lia)
 let v1:Int:=1+num / 4 % (q-1)
 have hv1:0<=num / 4 % (q-1)/\num / 4 % (q-1)<q-1:=⟨Int.emod_nonneg _ (by lia),Int.emod_lt_of_pos _ (by lia)⟩
 let n2:Int:=num / 4 / q
 let n3:Int:=n2 / q
 have hv2:0<=n2 % q/\n2 % q<q:=⟨Int.emod_nonneg _ (by lia),Int.emod_lt_of_pos _ (by lia)⟩
 have hv3:0<=n3 % q/\n3 % q<q:=⟨Int.emod_nonneg _ (by lia),Int.emod_lt_of_pos _ (by lia)⟩
 let k1:List (D×D):=putD [(.str a,.int 0)] (.str b) (.int v1)
 let k2:=putD k1 (.str c) (.int (n2 % q))
 let k3:=putD k2 (.str d) (.int (n3 % q))
 have hk0:aCa [((.str a:D),(.int 0:D))]:=fun p hp=>by rcases List.mem_singleton.mp hp with rfl;exact ⟨a,rfl⟩
 have hk1:=tO hk0 b (.int v1);have hk2:=tO hk1.1 c (.int (n2 % q));have hk3:=tO hk2.1 d (.int (n3 % q));have l1:k1.length<=2:=hk1.2;have l2:k2.length<=3:=Nat.le_trans hk2.2 (by show k1.length+1<=3;lia);have base:∀x:Str,cD [((.str a:D),(.int 0:D))] (.str x)=if a=x then some (.int 0) else none:=fun x=>by
  show (if eqD (.str a) (.str x) then some (D.int 0) else none)=_;rw [xX];by_cases h:a=x
  ·simp [h]
  ·simp [h]
 have lk:∀x:Str,cD k3 (.str x)=if d=x then some (.int (n3 % q)) else if c=x then some (.int (n2 % q)) else if b=x then some (.int v1) else if a=x then some (.int 0) else none:=fun x=>by
  show cD (putD k2 (.str d) (.int (n3 % q))) (.str x)=_;rw [nP];show (if d=x then _ else cD (putD k1 (.str c) (.int (n2 % q))) (.str x))=_;rw [nP];show (if d=x then _ else if c=x then _ else cD (putD [(.str a,.int 0)] (.str b) (.int v1)) (.str x))=_;rw [nP,base]
 refine ⟨k3,h',H',⟨fun x hx=>?_,fun x hx=>?_⟩,uQ fun b'=>?_⟩
 ·rw [lk];by_cases h1:d=x
  ·rw [if_pos h1];exact ⟨_,rfl,by lia,by lia⟩
  ·rw [if_neg h1];by_cases h2:c=x
   ·rw [if_pos h2];exact ⟨_,rfl,by lia,by lia⟩
   ·rw [if_neg h2];by_cases h3:b=x
    ·rw [if_pos h3];exact ⟨_,rfl,by show 0<=1+_;lia,by show 1+_<=6;lia⟩
    ·rw [if_neg h3];have:a=x:=by
      simp only [List.mem_cons,List.not_mem_nil,or_false] at hx;rcases hx with rfl|rfl|rfl|rfl
      ·rfl
      ·exact absurd rfl h3
      ·exact absurd rfl h2
      ·exact absurd rfl h1
     rw [if_pos this];exact ⟨_,rfl,by lia,by lia⟩
 ·have:a=x:=by simpa using hx
  subst this;rw [lk,if_neg (Ne.symm had),if_neg (Ne.symm hac),if_neg (Ne.symm hab),if_pos rfl]
 ·refine pL (ρ:=[.cel b' h',.lst ([a,b,c,d].map D.str),.int n3,.int q,.dct k3,.str d]) ?_;refine lM (ρ2:=[.cel b' h',.lst ([a,b,c,d].map D.str),.int num,.uDf,.uDf,.uDf]) H' e (aB (jK (aP rfl rfl (uP 6 (by lia))) rfl) rfl) rfl rfl ?_;refine aQ (ρ':=[.cel b' h',.lst ([a,b,c,d].map D.str),.int num,.int q,.uDf,.uDf]) (WY (aP (x:=.lst [.int 3,.int 4,.int 3,.int 7]) (y:=.int (num % 4)) rfl (aP rfl rfl (fP _ _ (by lia))) hq) rfl) ?_;refine aQ (ρ':=[.cel b' h',.lst ([a,b,c,d].map D.str),.int (num / 4),.int q,.uDf,.uDf]) (cA (aP rfl rfl (iC _ _ (by lia) (by lia)))) ?_;refine aQ (ρ':=[.cel b' h',.lst ([a,b,c,d].map D.str),.int (num / 4),.int q,.dct k1,.uDf]) (jE ?_ (vJ rfl rfl)) ?_
  ·have g1:b2 (bB .add) (bC (.int 1)) (b2 (bB .mod) (aH 2) (b2 (bB .sub) (aH 3) (bC (.int 1)))) [.cel b' h',.lst ([a,b,c,d].map D.str),.int (num / 4),.int q,.uDf,.uDf]=.ok (.int v1):=aP (y:=.int (num / 4 % (q-1))) rfl (aP (x:=.int (num / 4)) (y:=.int (q-1)) rfl (aP rfl rfl (mX _ _)) (fP _ _ (by lia))) (dX _ _);unfold XF;rw [show b2 getD (aH 1) (bC (.int 0)) [.cel b' h',.lst ([a,b,c,d].map D.str),.int (num / 4),.int q,.uDf,.uDf]=.ok (.str a) from rfl,show b2 getD (aH 1) (bC (.int 1)) [.cel b' h',.lst ([a,b,c,d].map D.str),.int (num / 4),.int q,.uDf,.uDf]=.ok (.str b) from rfl,g1];rfl
  ·refine aQ (ρ':=[.cel b' h',.lst ([a,b,c,d].map D.str),.int n3,.int q,.dct k3,.str d]) (uO (xs:=[.str c,.str d]) rfl ?_) (nM rfl rfl);refine cQ (ρ1:=[.cel b' h',.lst ([a,b,c,d].map D.str),.int (num / 4),.int q,.dct k1,.str c]) (ρ2:=[.cel b' h',.lst ([a,b,c,d].map D.str),.int n2,.int q,.dct k2,.str c]) rfl ?_ (cQ (ρ1:=[.cel b' h',.lst ([a,b,c,d].map D.str),.int n2,.int q,.dct k2,.str d]) (ρ2:=[.cel b' h',.lst ([a,b,c,d].map D.str),.int n3,.int q,.dct k3,.str d]) rfl ?_ rfl)
   ·refine aQ (ρ':=[.cel b' h',.lst ([a,b,c,d].map D.str),.int n2,.int q,.dct k1,.str c]) (cA (aP (x:=.int (num / 4)) (y:=.int q) rfl rfl (iC _ _ (by lia) (by lia)))) ?_;exact TF (kvs:=k1) (k:=.str c) (d:=.int (n2 % q)) (aP (x:=.int n2) (y:=.int q) rfl rfl (fP _ _ (by lia))) rfl rfl (by rw [bH];lia) (zT hk1.1 c) rfl
   ·refine aQ (ρ':=[.cel b' h',.lst ([a,b,c,d].map D.str),.int n3,.int q,.dct k2,.str d]) (cA (aP (x:=.int n2) (y:=.int q) rfl rfl (iC _ _ (by lia) (by lia)))) ?_;exact TF (kvs:=k2) (k:=.str d) (d:=.int (n3 % q)) (aP (x:=.int n3) (y:=.int q) rfl rfl (fP _ _ (by lia))) rfl rfl (by rw [bH];lia) (zT hk2.1 d) rfl
theorem aBj (r:Int) (h0:0<=r) (h1:r<4):∃q:Int,getD (.lst [.int 1,.int 3,.int 1000,.int (10 ^ 57)]) (.int r)=.ok (.int q)/\0<q:=by
 have:r=0\/r=1\/r=2\/r=3:=by lia
 rcases this with rfl|rfl|rfl|rfl
 ·exact ⟨1,rfl,by lia⟩
 ·exact ⟨3,rfl,by lia⟩
 ·exact ⟨1000,rfl,by lia⟩
 ·exact ⟨10 ^ 57,rfl,by decide⟩
noncomputable def Up (L:List Int):Prop:=L.Pairwise (·<·)/\∀x∈L,0<x
noncomputable def aDj:FS:=(bU (dZ false 5 (b2 (bB .add) (b2 (bB .add) (aH 5) (bC (.int 1))) (b2 (bB .mod) (b2 (bB .fdiv) (aH 2) (b2 (bB .add) (aH 6) (bC (.int 1)))) (aH 3))) true) (tR 4 (aH 5)))
theorem zU {m num gap:Int} (hg:0<gap):∀(n j:Nat) (L:List Int) (last:Int) (x:D),L.length=j->j+n<=1000->Up L->(∀y∈L,y<=last)->0<=last->
  ∃(L':List Int) (last':Int) (x':D),L'.length=j+n/\Up L'/\∀hD:D,tU (tg1 6) aDj ((List.range' j n).map fun (j:Nat)=>D.int (0+(j:Int))) [hD,.int m,.int num,.int gap,.lst (L.map D.int),.int last,x]=.ok (.nx [hD,.int m,.int num,.int gap,.lst (L'.map D.int),.int last',x'])
 | 0,j,L,last,x,hl,_,hu,_,_=>⟨L,last,x,hl,hu,fun _=>rfl⟩
 | n+1,j,L,last,x,hl,hn,hu,hm,h0=>by
  let s:Int:=last+1+num / ((0+(j:Int))+1) % gap
  have hs0:0<=num / ((0+(j:Int))+1) % gap:=Int.emod_nonneg _ (by lia);have hs:last<s:=by show last<last+1+_;lia
  obtain ⟨L',last',x',g1,g2,g3⟩:=zU (m:=m) (num:=num) hg n (j+1) (L++[s]) s (.int (0+(j:Int))) (by simp [hl]) (by lia) ⟨List.pairwise_append.mpr ⟨hu.1,List.pairwise_singleton _ _,fun y hy z hz=>by
   have:=hm y hy;rcases List.mem_singleton.mp hz with rfl
   lia⟩,fun y hy=>by
   rcases List.mem_append.mp hy with hy|hy
   ·exact hu.2 y hy
   ·rcases List.mem_singleton.mp hy with rfl
    lia⟩ (fun y hy=>by
   rcases List.mem_append.mp hy with hy|hy
   ·have:=hm y hy;lia
   ·rcases List.mem_singleton.mp hy with rfl
    exact Int.le_refl _) (by lia)
  refine ⟨L',last',x',by lia,g2,fun hD=>?_⟩;rw [List.range'_succ,List.map_cons];refine cQ (ρ1:=[hD,.int m,.int num,.int gap,.lst (L.map D.int),.int last,.int (0+(j:Int))]) rfl ?_ (g3 hD);refine aQ (ρ':=[hD,.int m,.int num,.int gap,.lst (L.map D.int),.int s,.int (0+(j:Int))]) (cA (aP (x:=.int (last+1)) (y:=.int (num / ((0+(j:Int))+1) % gap)) (aP rfl rfl (dX _ _)) (aP (x:=.int (num / ((0+(j:Int))+1))) (y:=.int gap) (aP (x:=.int num) (y:=.int ((0+(j:Int))+1)) rfl (aP rfl rfl (dX _ _)) (iC _ _ (by lia) (by lia))) rfl (fP _ _ hg)) (dX _ _))) ?_;have:=o9 (i:=4) (f:=aH 5) (ρ:=[hD,.int m,.int num,.int gap,.lst (L.map D.int),.int s,.int (0+(j:Int))]) (xs:=L.map D.int) (d:=.int s) rfl rfl (by rw [List.length_map,bH];lia) rfl;rw [this];simp
theorem FJ (ns:List Int) {h:List D} (H:Hand ns h) {m:Int} (h0:0<=m) (h1:m<=100):∃(L:List Int) (h':List D),Hand ns h'/\Up L/\(L.length:Int)=m/\ch1 eQ h [.int m]=.ok (.lst (L.map D.int),h'):=by
 obtain ⟨num,h2,H2,hn0,hn1,e⟩:=eY ns H (m:=10 ^ 57) (by decide);obtain ⟨g,h3,H3,hg0,hg1,e3⟩:=eY ns H2 (m:=4) (by decide);obtain ⟨gap,hg,hgp⟩:=aBj g hg0 hg1;obtain ⟨L,last,x,l1,l2,l3⟩:=zU (m:=m) (num:=num) hgp m.toNat 0 [] 0 .uDf rfl (by lia) ⟨List.Pairwise.nil,fun x hx=>by cases hx⟩ (fun x hx=>by cases hx) (by lia);rw [Nat.zero_add] at l1;refine ⟨L,h3,H3,l2,by lia,uQ fun b=>?_⟩;refine pL (ρ:=[.cel b h3,.int m,.int num,.int gap,.lst (L.map D.int),.int last,x]) ?_;refine lM (ρ2:=[.cel b h2,.int m,.int num,.uDf,.uDf,.uDf,.uDf]) H2 e (aB (jK (aP rfl rfl (uP 57 (by lia))) rfl) rfl) rfl rfl ?_;refine aQ (ρ':=[.cel b h3,.int m,.int num,.int gap,.uDf,.uDf,.uDf]) (iH (ρ':=[.cel b h3,.int m,.int num,.uDf,.uDf,.uDf,.uDf]) (M7 (x:=.lst [.int 1,.int 3,.int 1000,.int (10 ^ 57)]) (y:=.int g) ?_ (vH H3 e3 ?_ ?_ ?_) hg rfl) rfl) ?_
 ·have:b2 (bB .pow) (bC (.int 10)) (bC (.int 57)) [.cel b h2,.int m,.int num,.uDf,.uDf,.uDf,.uDf]=.ok (.int (10 ^ 57)):=aP rfl rfl (uP 57 (by lia));exact NB (aB rfl (aB rfl (aB rfl (aB this rfl)))) (by rw [bH];decide)
 ·exact aB (jK rfl rfl) rfl
 ·rfl
 ·rfl
 ·refine aQ (ρ':=[.cel b h3,.int m,.int num,.int gap,.lst [],.uDf,.uDf]) (jE rfl rfl) ?_;refine aQ (ρ':=[.cel b h3,.int m,.int num,.int gap,.lst [],.int 0,.uDf]) (cA rfl) ?_;refine aQ (ρ':=[.cel b h3,.int m,.int num,.int gap,.lst (L.map D.int),.int last,x]) (uO (qP (n:=m) (aB rfl rfl) h0 (by lia)) ?_) (nM rfl rfl);rw [List.range_eq_range'];exact l3 _
end Lk21
end
section
namespace Lk21
open PySem L2 Mi
theorem FN (o:fD) (a b:Pt) (r:Pt->Pt->Prop) [∀x y,Decidable (r x y)] (h:∀x y,cM o (enP x) (enP y)=some (decide (r x y))):cO o [enP a,enP b]=.ok (enP (if r b a then b else a)):=by
 show jR o [enP a,enP b]=_;have hall:([enP a,enP b].all fun x=>x.bM bA&&[enP a,enP b].all fun y=>(cM o x y).isSome)=true:=by
  simp only [List.all_cons,List.all_nil,h,Option.isSome_some,Bool.and_true];rfl
 rw [jR,if_pos hall];simp only [List.foldl_cons,List.foldl_nil,h,Option.getD_some];by_cases hr:r b a
 ·simp [hr]
 ·simp [hr]
noncomputable def mk2 (p q:Pt):Tie:=(if ltP q p then q else p,if ltP p q then q else p)
theorem aBk (p q:Pt):¬ltP (mk2 p q).2 (mk2 p q).1:=by
 unfold mk2;dsimp only;by_cases h1:ltP q p
 ·rw [if_pos h1];have:¬ltP p q:=fun z=>by unfold ltP at h1 z;lia
  rw [if_neg this];exact this
 ·rw [if_neg h1];by_cases h2:ltP p q
  ·rw [if_pos h2];exact h1
  ·rw [if_neg h2];intro z;unfold ltP at z;lia
theorem RP {p q:Pt} (h1:¬ltP p q) (h2:¬ltP q p):p=q:=by
 obtain ⟨a,b⟩:=p;obtain ⟨c,d⟩:=q;unfold ltP at h1 h2;simp only at h1 h2;have:a=c:=by lia
 have:b=d:=by lia
 subst_vars
 rfl
theorem zV (p q:Pt):[(mk2 p q).1,(mk2 p q).2].Perm [p,q]:=by
 unfold mk2;dsimp only;by_cases h1:ltP q p
 ·rw [if_pos h1];have:¬ltP p q:=fun z=>by unfold ltP at h1 z;lia
  rw [if_neg this];exact List.Perm.swap _ _ _
 ·rw [if_neg h1];by_cases h2:ltP p q
  ·rw [if_pos h2]
  ·rw [if_neg h2,RP h2 h1]
theorem NK {t:Tie} (h:¬ltP t.2 t.1):mk2 t.1 t.2=t:=by
 unfold mk2;rw [if_neg h];by_cases h2:ltP t.1 t.2
 ·rw [if_pos h2]
 ·rw [if_neg h2];have:=RP h2 h;obtain ⟨p,q⟩:=t;simp only at this;subst this;rfl
noncomputable def aBl:FT:=(bTB (b2 (d7 (.ord .gt)) (aY uE (aD (aH 1) (aZ))) (bC (.int 1))))
noncomputable def aDk:FS:=(bU (wX 1 3 (xE (bC (.int 0)))) (bU (wX 1 4 (cG aN 2 0 (aD (bPu (aY uE (aD (aH 1) (aZ)))) (aZ)))) (tR 2 (iY (aD (aY (cO .lt) (aD (aH 3) (aD (aH 4) (aZ)))) (aD (aY (cO .gt) (aD (aH 3) (aD (aH 4) (aZ)))) (aZ)))))))
theorem RQ {c:FT} {body:FS} {n:Nat} {ρ ρ':List D} {r:Res Fl} (h1:c ρ=.ok true) (h2:body ρ=.ok (.nx ρ')) (h3:GC c body n ρ'=r):GC c body (n+1) ρ=r:=by
 rw [GC,h1,Res.aK,if_pos rfl,h2];exact h3
theorem YC {c:FT} {body:FS} {n:Nat} {ρ:List D} (h1:c ρ=.ok false):GC c body (n+1) ρ=.ok (.nx ρ):=by
 rw [GC,h1];rfl
theorem vK {α β:Type} (f:α->β):∀(l:List α) (k:Nat),(l.map f).eraseIdx k=(l.eraseIdx k).map f
 | [],k=>by simp
 | x::l,0=>rfl
 | x::l,k+1=>by simp [vK f l k]
theorem ends_app (U V:List Tie):ends (U++V)=ends U++ends V:=by unfold ends;rw [List.flatMap_append]
theorem qX {α:Type}:∀(l:List α) (k:Nat) (x:α),l[k]?=some x->l.Perm (x::l.eraseIdx k)
 | [],k,x,h=>by simp at h
 | y::l,0,x,h=>by
  simp at h;subst h;exact List.Perm.refl _
 | y::l,k+1,x,h=>by
  have:=qX l k x (by simpa using h);simp only [List.eraseIdx_cons_succ];exact (List.Perm.cons y this).trans (List.Perm.swap _ _ _)
noncomputable def OkT (U:List Tie):Prop:=∀t∈U,¬ltP t.2 t.1
theorem vL (ns:List Int):∀(n:Nat) (left:List Pt) (U:List Tie) (h:List D) (x y:D),left.length<=2*n->left.length+U.length<=10000->OkT U->Hand ns h->
  ∃(h':List D) (left':List Pt) (U':List Tie) (x' y':D),Hand ns h'/\left'.length<=1/\(ends U'++left').Perm (ends U++left)/\OkT U'/\U'.length<=U.length+left.length/\∀(b c fuel:Nat),n<fuel->GC aBl aDk fuel [.cel b h,.cel c (left.map enP),.lst (U.map bL),x,y]=.ok (.nx [.cel b h',.cel c (left'.map enP),.lst (U'.map bL),x',y'])
 | n,left,U,h,x,y,hn,hl,hU,H=>by
  have cond:∀b c:Nat,aBl [.cel b h,.cel c (left.map enP),.lst (U.map bL),x,y]=.ok (decide (1<left.length)):=fun b c=>by
   refine j9 (aP (x:=.int (left.map enP).length) (y:=.int 1) (aV (aB rfl rfl) rfl) rfl ?_);rw [cmp_gt,List.length_map]
   congr 2
   by_cases hh:1<left.length
   ·rw [decide_eq_true hh,decide_eq_true (by lia)]
   ·rw [decide_eq_false hh,decide_eq_false (by lia)]
  by_cases h1:1<left.length
  ·match n,left,hn,h1 with
   | n+1,p::rest,hn,h1=>
    have hr0:0<rest.length:=by simpa using h1
    obtain ⟨k,h2,H2,hk0,hk1,e⟩:=eY ns H (m:=(rest.length:Int)) (by lia);have hkn:k.toNat<rest.length:=by lia
    have hq:rest[k.toNat]?=some rest[k.toNat]:=List.getElem?_eq_getElem hkn;have hlen:(rest.eraseIdx k.toNat).length=rest.length-1:=by rw [List.length_eraseIdx,if_pos hkn]
    simp only [List.length_cons] at hn hl;obtain ⟨h',left',U',x',y',H',l1,pm,ok,ul,ev⟩:=vL ns n (rest.eraseIdx k.toNat) (U++[mk2 p rest[k.toNat]]) h2 (enP p) (enP rest[k.toNat]) (by lia) (by rw [List.length_append,List.length_singleton];lia) (fun t ht=>by
     rcases List.mem_append.mp ht with ht|ht
     ·exact hU t ht
     ·rcases List.mem_singleton.mp ht with rfl
      exact aBk _ _) H2
    refine ⟨h',left',U',x',y',H',l1,pm.trans ?_,ok,by rw [List.length_append,List.length_singleton] at ul;simp only [List.length_cons];lia,fun b c fuel hf=>?_⟩
    ·rw [ends_app,List.append_assoc];refine List.Perm.append_left _ ?_;have e1:ends [mk2 p rest[k.toNat]]=[(mk2 p rest[k.toNat]).1,(mk2 p rest[k.toNat]).2]:=rfl;rw [e1];have e2:=qX rest k.toNat _ hq;refine ((zV p rest[k.toNat]).append_right _).trans ?_;exact List.Perm.cons p e2.symm
    ·obtain ⟨f,rfl⟩:∃f,fuel=f+1:=⟨fuel-1,by lia⟩
     refine RQ (ρ':=[.cel b h2,.cel c ((rest.eraseIdx k.toNat).map enP),.lst ((U++[mk2 p rest[k.toNat]]).map bL),enP p,enP rest[k.toNat]]) ?_ ?_ (ev b c f (by lia))
     ·rw [cond,decide_eq_true h1]
     ·refine aQ (ρ':=[.cel b h,.cel c (rest.map enP),.lst (U.map bL),enP p,y]) (M6 (xs0:=(p::rest).map enP) (xs:=(p::rest).map enP) (ρ1:=[.cel b h,.cel c ((p::rest).map enP),.lst (U.map bL),x,y]) (k:=0) (x:=enP p) (aDh rfl rfl) rfl rfl (by lia) (by lia) rfl rfl) ?_;refine aQ (ρ':=[.cel b h2,.cel c ((rest.eraseIdx k.toNat).map enP),.lst (U.map bL),enP p,enP rest[k.toNat]]) (M6 (xs0:=rest.map enP) (xs:=rest.map enP) (ρ1:=[.cel b h2,.cel c (rest.map enP),.lst (U.map bL),enP p,y]) (k:=k) (x:=enP rest[k.toNat]) (vH H2 e ?_ rfl rfl) rfl rfl hk0 (by lia) ?_ ?_) ?_
      ·refine aB (jK (aV (xs:=[.cel c (rest.map enP)]) (aB rfl rfl) ?_) rfl) rfl;show Res.ok (D.int (rest.map enP).length)=_;rw [List.length_map]
      ·rw [List.getElem?_map,hq];rfl
      ·show [D.cel b h2,D.cel c ((rest.map enP).eraseIdx k.toNat),D.lst (U.map bL),enP p,enP rest[k.toNat]]=_;rw [vK]
      ·have:=o9 (i:=2) (f:=iY (aD (aY (cO .lt) (aD (aH 3) (aD (aH 4) (aZ)))) (aD (aY (cO .gt) (aD (aH 3) (aD (aH 4) (aZ)))) (aZ)))) (ρ:=[.cel b h2,.cel c ((rest.eraseIdx k.toNat).map enP),.lst (U.map bL),enP p,enP rest[k.toNat]]) (xs:=U.map bL) (d:=bL (mk2 p rest[k.toNat])) (fO (aB (aV (aB rfl (aB rfl rfl)) (FN .lt p rest[k.toNat] ltP vG)) (aB (aV (aB rfl (aB rfl rfl)) (FN .gt p rest[k.toNat] (fun a b=>ltP b a) MN)) rfl)) (by rw [bH];simp)) rfl (by rw [List.length_map,bH];lia) rfl;rw [this];simp
   | 0,p::rest,hn,h1=>simp at hn
   | _,[],_,h1=>simp at h1
  ·refine ⟨h,left,U,x,y,H,by lia,List.Perm.refl _,hU,by lia,fun b c fuel hf=>?_⟩;obtain ⟨f,rfl⟩:∃f,fuel=f+1:=⟨fuel-1,by lia⟩
   exact YC (by rw [cond,decide_eq_false h1])
 termination_by n=>n
theorem NP (ns:List Int) {h:List D} (H:Hand ns h) (left:List Pt) (hl:left.length<=1900):∃(U:List Tie) (h':List D) (left':List Pt),Hand ns h'/\left'.length<=1/\(ends U++left').Perm left/\OkT U/\U.length<=2000/\ch2 eG h (left.map enP)=.ok (.lst (U.map bL),h',left'.map enP):=by
 obtain ⟨h',left',U',x',y',H',l1,pm,ok,ul,ev⟩:=vL ns 950 left [] h .uDf .uDf (by lia) (by simp;lia) (fun t ht=>by cases ht) H;refine ⟨U',h',left',H',l1,pm,ok,by simp at ul;lia,aAs fun b c _=>?_⟩;refine pL (ρ:=[.cel b h',.cel c (left'.map enP),.lst (U'.map bL),x',y']) ?_;refine aQ (ρ':=[.cel b h,.cel c (left.map enP),.lst [],.uDf,.uDf]) (jE rfl rfl) ?_;exact aQ (ev b c 1000 (by lia)) (nM rfl rfl)
end Lk21
end
section
namespace Lk21
open PySem L2 Mi
theorem NQ (L:List Int) (i:Nat) (h:i<L.length):getD (.lst (L.map D.int)) (.int (0+(i:Int)))=.ok (.int L[i]):=by
 obtain ⟨hl,e⟩:=K1 (L.map D.int) (0+(i:Int)) (by lia) (by rw [List.length_map];lia);rw [e];have:(0+(i:Int)).toNat=i:=by lia
 simp [this]
theorem gG (N:List Str) (r:Int) (h0:0<=r) (h1:r<N.length):∃s,s∈N/\getD (.lst (N.map D.str)) (.int r)=.ok (.str s):=by
 obtain ⟨hl,e⟩:=K1 (N.map D.str) r h0 (by rw [List.length_map];lia);rw [List.length_map] at hl;refine ⟨N[r.toNat],List.getElem_mem _,?_⟩;rw [e];simp
theorem gU {n:Nat} {t:D->Res (List D)} {c:FT} {f:FE} {k:Bool} {ρ acc bs:List D} {x y:D} (hρ:ρ.length=n) (ht:t x=.ok bs) (h1:c (ρ++bs)=.ok true) (h2:f (ρ++bs)=.ok y) (hp:(k||y.pure)=true):lB n t c f k ρ acc x=.ok (acc++[y]):=by
 unfold lB;rw [ht,Res.aK,uN hρ,h1,Res.aK,if_pos rfl,h2,Res.aK,if_pos hp];rfl
theorem jL {α:Type} (g:List D->D->Res (List D)) (d:α->D) (y:α->D) (h:∀acc a,g acc (d a)=.ok (acc++[y a])) (xs:List α):m8 g [] (xs.map d)=.ok (xs.map y):=by
 have:=o_ g d (fun _=>true) y (fun acc a=>by rw [h acc a];rfl) xs [];rw [this,List.filter_eq_self.mpr (fun _ _=>rfl)];rfl
noncomputable def r0 (hD:D) (kvs:List (D×D)) (N:List Str) (many brim:Int) (L:List Int):List D:=[hD,.dct kvs,.lst (N.map D.str),.int many,.int brim,.lst (L.map D.int),.uDf,.uDf,.uDf,.uDf,.uDf,.uDf,.uDf]
noncomputable def pf:FX:=(aAt (uR (b2 getD (aH 5) (aH 13)) (wV (x2R getD (aH 2) (cG aN 2 0 (aD (bPu (aY uE (aD (aH 2) (aZ)))) (aZ)))) (aC8))))
theorem pM (ns:List Int) {kvs:List (D×D)} {N:List Str} {many brim:Int} {L:List Int} (hN:0<N.length):∀(n j:Nat) (P:List Pc) (h:List D),P.length=j->j+n<=L.length->P.map (·.1)=L.take j->(∀pc∈P,pc.2∈N)->Hand ns h->
  ∃(P':List Pc) (h':List D),Hand ns h'/\P'.length=j+n/\P'.map (·.1)=L.take (j+n)/\(∀pc∈P',pc.2∈N)/\∀b:Nat,xcf pf (P.map pcD) ((List.range' j n).map fun (j:Nat)=>D.int (0+(j:Int))) (r0 (.cel b h) kvs N many brim L)=.ok (P'.map pcD,r0 (.cel b h') kvs N many brim L)
 | 0,j,P,h,hl,_,hp,hn,H=>⟨P,h,H,hl,hp,hn,fun _=>rfl⟩
 | n+1,j,P,h,hl,hjn,hp,hn,H=>by
  obtain ⟨k,h2,H2,hk0,hk1,e⟩:=eY ns H (m:=(N.length:Int)) (by lia);obtain ⟨s,hs,gs⟩:=gG N k hk0 hk1;have hj:j<L.length:=by lia
  obtain ⟨P',h',H',l1,l2,l3,ev⟩:=pM ns (kvs:=kvs) (many:=many) (brim:=brim) (L:=L) hN n (j+1) (P++[(L[j],s)]) h2 (by simp [hl]) (by lia) (by rw [List.map_append,hp,List.take_add_one,List.getElem?_eq_getElem hj];rfl) (fun pc hpc=>by
   rcases List.mem_append.mp hpc with hpc|hpc
   ·exact hn pc hpc
   ·rcases List.mem_singleton.mp hpc with rfl
    exact hs) H2
  refine ⟨P',h',H',by lia,by rw [l2];congr 1;lia,l3,fun b=>?_⟩;rw [List.range'_succ,List.map_cons];have st:pf (r0 (.cel b h) kvs N many brim L++[.int (0+(j:Int))])=.ok (pcD (L[j],s),r0 (.cel b h2) kvs N many brim L++[.int (0+(j:Int))]):=by
   refine X6 (M8 (x:=.int L[j]) (aP (x:=.lst (L.map D.int)) (y:=.int (0+(j:Int))) rfl rfl (NQ L j hj)) (tM (x:=.str s) (ρ1:=r0 (.cel b h2) kvs N many brim L++[.int (0+(j:Int))]) (M7 (x:=.lst (N.map D.str)) (y:=.int k) rfl (vH H2 e ?_ rfl rfl) gs rfl) rfl rfl) rfl) (by rw [bH];simp) rfl;refine aB (jK (aV (xs:=[.lst (N.map D.str)]) (aB rfl rfl) ?_) rfl) rfl;rw [K3,List.length_map]
  rw [xcf,st,Res.aK];dsimp only;rw [if_pos (show (pcD (L[j],s)).pure=true from rfl)];have:=ev b;rw [List.map_append] at this;exact this
noncomputable def zW (n:Nat):List Pt:=(List.range n).map fun (k:Nat)=>((0:Int),(0+(k:Int)))
theorem NT {ρ:List D} {n:Int} (hρ:ρ.length=13) (h4:aH 4 ρ=.ok (.int n)) (h0:0<=n) (h1:n<=1000):fJ 13 (iK (aD (aH 4) (aZ)) lW) yM (fU) (iY (aD (bC (.int 0)) (aD (aH 13) (aZ)))) false ρ=.ok (.lst ((zW n.toNat).map enP)):=by
 refine j_ (qP (n:=n) (aB h4 rfl) h0 (by lia)) (by simp [bH];lia) ?_;have:=jL (lB 13 yM fU (iY (aD (bC (.int 0)) (aD (aH 13) (aZ)))) false ρ) (fun k:Nat=>D.int (0+(k:Int))) (fun k:Nat=>enP ((0:Int),0+(k:Int))) (fun acc k=>by
  have hv:aH 13 (ρ++[.int (0+(k:Int))])=.ok (.int (0+(k:Int))):=by
   rw [MK,List.getD_eq_getElem?_getD,List.getElem?_append_right (by lia),hρ];rfl
  exact gU hρ rfl rfl (fO (aB rfl (aB hv rfl)) (by rw [bH];simp)) rfl) (List.range n.toNat)
 rw [this];unfold zW;rw [List.map_map];rfl
noncomputable def sides (a:Int) (v:Nat):List Pt:=(List.range v).map fun (k:Nat)=>(a,1+(k:Int))
noncomputable def hbody:FS:=(dZ false 7 (b2 (bB .add) (aH 7) (fJ 13 (iK (aD (bC (.int 1)) (aD (b2 (bB .add) (b2 getD (aH 1) (aH 9)) (bC (.int 1))) (aZ))) BX) yM (fU) (iY (aD (aH 8) (aD (aH 13) (aZ)))) false)) true)
theorem YD {f:FA} {ρ:List D} {v:Int} (h:f ρ=.ok [.int 1,.int (v+1)]) (h1:0<=v) (h2:v<=1000):iK f BX ρ=.ok ((List.range v.toNat).map fun (k:Nat)=>D.int (1+(k:Int)),true):=by
 unfold iK;rw [h,Res.aK];show (if fH 1&&fH (v+1) then Res.ok ((List.range (v+1-1).toNat).map fun (k:Nat)=>D.int (1+(k:Int)),true) else .bad)=_;have e:fH (v+1)=true:=by
  unfold fH;rw [Bool.and_eq_true,decide_eq_true_eq,decide_eq_true_eq];lia
 rw [if_pos (by rw [e];rfl)]
 congr 4
 lia
theorem NZ {a i:Nat} {t:D->List D->Res (List D)} {body:FS} {n k:Nat} {ρ ys:List D} (h1:ρ.getD i .uDf=.cel a ys) (h2:ys[k]?=none):forL a i t body (n+1) k ρ=.ok (.nx ρ):=by
 rw [forL,h1];dsimp only;rw [if_pos rfl,h2]
theorem N5 {a i:Nat} {t:D->List D->Res (List D)} {body:FS} {n k:Nat} {ρ ρ1 ρ2 ys:List D} {x:D} {r:Res Fl} (h1:ρ.getD i .uDf=.cel a ys) (h2:ys[k]?=some x) (h3:t x ρ=.ok ρ1) (h4:body ρ1=.ok (.nx ρ2)) (h5:forL a i t body n (k+1) ρ2=r):forL a i t body (n+1) k ρ=r:=by
 rw [forL,h1];dsimp only;rw [if_pos rfl,h2];dsimp only;rw [h3,Res.aK,h4];exact h5
noncomputable def r1 (hD:D) (kvs:List (D×D)) (N:List Str) (many brim:Int) (L:List Int) (pD:D) (K:List Pt) (x y:D):List D:=[hD,.dct kvs,.lst (N.map D.str),.int many,.int brim,.lst (L.map D.int),pD,.lst (K.map enP),x,y,.uDf,.uDf,.uDf]
theorem RT {kvs:List (D×D)} {s:Str} {d:D} (h:cD kvs (.str s)=some d):getD (.dct kvs) (.str s)=.ok d:=by
 show (if keyOk (.str s) then Res.ofOpt (cD kvs (.str s)) else .bad)=_;rw [show keyOk (.str s)=true from rfl,if_pos rfl,h];rfl
theorem eX (K:List Pt):D.aR (K.map enP)=true:=MP K
theorem vM {kvs:List (D×D)} {N:List Str} {many brim:Int} {L:List Int} {P:List Pc} (hS:Stk N kvs) (hP:∀pc∈P,pc.2∈N/\0<pc.1):∀(n j:Nat) (K:List Pt) (x y:D),j+n=P.length->K.length+7*n<=10000->
  ∃(S:List Pt) (x' y':D),(∀p∈S,0<p.1)/\S.length<=6*n/\∀(hD:D) (a fuel:Nat),n<fuel->forL a 6 (tgN [8,9]) hbody fuel j (r1 hD kvs N many brim L (.cel a (P.map pcD)) K x y)=.ok (.nx (r1 hD kvs N many brim L (.cel a (P.map pcD)) (K++S) x' y'))
 | 0,j,K,x,y,hj,hl=>by
  refine ⟨[],x,y,fun p hp=>(by cases hp),by simp,fun hD a fuel hf=>?_⟩;obtain ⟨f,rfl⟩:∃f,fuel=f+1:=⟨fuel-1,by lia⟩
  rw [NZ (ys:=P.map pcD) rfl (List.getElem?_eq_none (by rw [List.length_map];lia)),List.append_nil]
 | n+1,j,K,x,y,hj,hl=>by
  have hjl:j<P.length:=by lia
  obtain ⟨hs,hp⟩:=hP P[j] (List.getElem_mem _);obtain ⟨v,hv,hv0,hv1⟩:=hS.look P[j].2 hs;obtain ⟨S,x',y',g1,g2,g3⟩:=vM (many:=many) (brim:=brim) (L:=L) hS hP n (j+1) (K++sides P[j].1 v.toNat) (.int P[j].1) (.str P[j].2) (by lia) (by rw [List.length_append];simp [sides];lia);refine ⟨sides P[j].1 v.toNat++S,x',y',fun p hpm=>?_,by rw [List.length_append];simp [sides];lia,fun hD a fuel hf=>?_⟩
  ·rcases List.mem_append.mp hpm with hpm|hpm
   ·unfold sides at hpm;obtain ⟨k,_,rfl⟩:=List.mem_map.mp hpm;exact hp
   ·exact g1 p hpm
  ·obtain ⟨f,rfl⟩:∃f,fuel=f+1:=⟨fuel-1,by lia⟩
   have g3':=g3 hD a f (by lia);rw [List.append_assoc] at g3';refine N5 (ys:=P.map pcD) (x:=pcD P[j]) (ρ1:=r1 hD kvs N many brim L (.cel a (P.map pcD)) K (.int P[j].1) (.str P[j].2)) (ρ2:=r1 hD kvs N many brim L (.cel a (P.map pcD)) (K++sides P[j].1 v.toNat) (.int P[j].1) (.str P[j].2)) rfl (by rw [List.getElem?_map,List.getElem?_eq_getElem hjl];rfl) rfl ?_ g3';have hcomp:fJ 13 (iK (aD (bC (.int 1)) (aD (b2 (bB .add) (b2 getD (aH 1) (aH 9)) (bC (.int 1))) (aZ))) BX) yM (fU) (iY (aD (aH 8) (aD (aH 13) (aZ)))) false (r1 hD kvs N many brim L (.cel a (P.map pcD)) K (.int P[j].1) (.str P[j].2))=.ok (.lst ((sides P[j].1 v.toNat).map enP)):=by
    refine j_ (YD (v:=v) (aB rfl (aB (aP (x:=.int v) (aP (x:=.dct kvs) (y:=.str P[j].2) rfl rfl (RT hv)) rfl (dX _ _)) rfl)) hv0 (by lia)) (by simp [bH];lia) ?_;have:=jL (lB 13 yM fU (iY (aD (aH 8) (aD (aH 13) (aZ)))) false (r1 hD kvs N many brim L (.cel a (P.map pcD)) K (.int P[j].1) (.str P[j].2))) (fun k:Nat=>D.int (1+(k:Int))) (fun k:Nat=>enP (P[j].1,1+(k:Int))) (fun acc k=>gU rfl rfl rfl (fO (aB rfl (aB rfl rfl)) (by rw [bH];simp)) rfl) (List.range v.toNat);rw [this];unfold sides;rw [List.map_map];rfl
   have:=cA (i:=7) (aP (x:=.lst (K.map enP)) (y:=.lst ((sides P[j].1 v.toNat).map enP)) (a:=aH 7) (ρ:=r1 hD kvs N many brim L (.cel a (P.map pcD)) K (.int P[j].1) (.str P[j].2)) rfl hcomp (wU _ _ (by rw [List.length_map,List.length_map,bH];simp [sides];lia) (eX _) (eX _)));rw [<-List.map_append] at this;exact this
end Lk21
end
section
namespace Lk21
open PySem L2 Mi
theorem RV {it:FI} {f:FX} {ρ ρ' xs ys:List D} (h1:it ρ=.ok (xs,true)) (h2:xs.length<=lim) (h3:xcf f [] xs ρ=.ok (ys,ρ')):LC it f ρ=.ok (.lst ys,ρ'):=by
 unfold LC;rw [h1,Res.aK];dsimp only;rw [if_pos (by rw [decide_eq_true h2];rfl),h3];rfl
theorem N6 {f:List D->Res D} {i j:Nat} {ρ xs ys xs' ys':List D} {r:D} (h1:mJ (ρ.getD i .uDf)=some xs) (h2:mJ (ρ.getD j .uDf)=some ys) (hij:i≠j) (h3:ch2 f xs ys=.ok (r,xs',ys')) (h4:D.aR xs'=true) (h5:D.aR ys'=true) {ρ':List D} (he:(ρ.set i (pU (ρ.getD i .uDf) xs')).set j (pU (ρ.getD j .uDf) ys')=ρ'):qR f i j ρ=.ok (r,ρ'):=by
 subst he;unfold qR;rw [h1,h2];dsimp only;rw [if_neg hij,h3,Res.aK];dsimp only;rw [if_pos (by rw [h4,h5];rfl)]
theorem FP {f:List D->Res D} {i:Nat} {fe:FE} {ρ xs ys xs' ys':List D} {r:D} (h0:fe ρ=.ok (.lst ys)) (h1:mJ (ρ.getD i .uDf)=some xs) (h2:D.aR ys=true) (h3:ch2 f xs ys=.ok (r,xs',ys')) (h4:D.aR xs'=true) (h5:D.aR ys'=true) {ρ':List D} (he:ρ.set i (pU (ρ.getD i .uDf) xs')=ρ'):sS f i fe ρ=.ok (r,ρ'):=by
 subst he;unfold sS;rw [h0,Res.aK,h1];dsimp only;rw [if_pos h2,h3,Res.aK];dsimp only;rw [if_pos (by rw [h4,h5];rfl)]
theorem RW (r:Int) (h0:0<=r) (h1:r<5):∃q:Int,getD (.lst [.int 0,.int 0,.int 1,.int 7,.int (10 ^ 57)]) (.int r)=.ok (.int q):=by
 have:r=0\/r=1\/r=2\/r=3\/r=4:=by lia
 rcases this with rfl|rfl|rfl|rfl|rfl
 ·exact ⟨0,rfl⟩
 ·exact ⟨0,rfl⟩
 ·exact ⟨1,rfl⟩
 ·exact ⟨7,rfl⟩
 ·exact ⟨10 ^ 57,rfl⟩
theorem T8 {P:List Pc} {L:List Int} (h:P.map (·.1)=L.take P.length) (hu:Up L):P.Pairwise LtN/\∀pc∈P,0<pc.1:=by
 have h1:(P.map (·.1)).Pairwise (·<·):=by rw [h];exact hu.1.sublist (List.take_sublist _ _)
 have h2:P.Pairwise (fun a b=>a.1<b.1):=List.pairwise_map.mp h1;refine ⟨h2,fun pc hpc=>?_⟩;have:pc.1∈P.map (·.1):=List.mem_map_of_mem hpc;rw [h] at this;exact hu.2 _ (List.mem_of_mem_take this)
theorem nQ:∀U:List Tie,(ends U).length=2*U.length
 | []=>rfl
 | t::U=>by
  show (t.1::t.2::ends U).length=_;simp only [List.length_cons,nQ U];lia
noncomputable def chiefs (P:List Pc):List Pt:=P.map fun pc=>(pc.1,0)
theorem xY {ρ:List D} {P:List Pc} (hρ:ρ.length=13) (h6:aH 6 ρ=.ok (.lst (P.map pcD))) (hl:P.length<=1000):fJ 13 (dW (aH 6) false) (JF 2) (fU) (iY (aD (aH 13) (aD (bC (.int 0)) (aZ)))) false ρ=.ok (.lst ((chiefs P).map enP)):=by
 have hi:dW (aH 6) false ρ=.ok (P.map pcD,false||(D.lst (P.map pcD)).pure):=by
  unfold dW;rw [h6];rfl
 refine j_ hi (by rw [List.length_map,bH];lia) ?_;have:=jL (lB 13 (JF 2) fU (iY (aD (aH 13) (aD (bC (.int 0)) (aZ)))) false ρ) pcD (fun pc=>enP (pc.1,0)) (fun acc pc=>by
  have hv:aH 13 (ρ++[.int pc.1,.str pc.2])=.ok (.int pc.1):=by
   rw [MK,List.getD_eq_getElem?_getD,List.getElem?_append_right (by lia),hρ];rfl
  exact gU (bs:=[.int pc.1,.str pc.2]) hρ rfl rfl (fO (aB hv (aB rfl rfl)) (by rw [bH];simp)) rfl) P
 rw [this];unfold chiefs;rw [List.map_map];rfl
structure aBm (brim:Nat) (P:List Pc) (T:List Tie):Prop where
 up:P.Pairwise LtN
 ok:OkT T
 srt:T.Pairwise LeT
 rim:∃S:List Pt,(∀p∈S,0<p.1)/\(ends T).Perm (zW brim++S)
 sm:T.length<=5000
 pl:P.length<=1000
theorem aBn (ns:List Int) {h:List D} (H:Hand ns h) {N:List Str} {kvs:List (D×D)} (hN:0<N.length) (hS:Stk N kvs) {many brim:Int} (hm0:0<=many) (hm1:many<=30) (hb0:0<=brim) (hb1:brim<=40) :
  ∃(P:List Pc) (T:List Tie) (r:Int) (h':List D),Hand ns h'/\aBm brim.toNat P T/\ch1 jP h [.dct kvs,.lst (N.map D.str),.int many,.int brim]=.ok (gH P T r,h'):=by
 obtain ⟨L,h1,H1,hu,hL,e1⟩:=FJ ns H (m:=many+1) (by lia) (by lia);obtain ⟨P,h2,H2,p1,p2,p3,ev2⟩:=pM ns (kvs:=kvs) (N:=N) (many:=many) (brim:=brim) (L:=L) hN many.toNat 0 [] h1 rfl (by lia) rfl (fun pc hpc=>by cases hpc) H1;rw [Nat.zero_add] at p1 p2;have hup:=T8 (P:=P) (L:=L) (by rw [p2,p1]) hu;obtain ⟨S,x8,x9,s1,s2,ev3⟩:=vM (many:=many) (brim:=brim) (L:=L) (P:=P) hS (fun pc hpc=>⟨p3 pc hpc,hup.2 pc hpc⟩) P.length 0 (zW brim.toNat) .uDf .uDf (by lia) (by simp [zW];lia);have hKl:(zW brim.toNat++S).length<=40+6*30:=by rw [List.length_append];simp [zW];lia
 have hKs:∃K:List Pt,K=zW brim.toNat++S:=⟨_,rfl⟩
 obtain ⟨K,hK⟩:=hKs;rw [<-hK] at hKl ev3
 -- one piece more where the ends are odd
 obtain ⟨s0,hs0,gs0⟩:=gG N 0 (by lia) (by lia);have hmL:many.toNat<L.length:=by lia
 have odd:∃P2:List Pc,P2.map (·.1)=L.take P2.length/\P2.length<=31/\(K.length+P2.length) % 2=0/\∀hD:D,sIf (bTB (b2 (d7 .eq) (b2 (bB .mod) (b2 (bB .add) (aY uE (aD (aH 7) (aZ))) (aH 3)) (bC (.int 2))) (bC (.int 1)))) (tR 6 (iY (aD (b2 getD (aH 5) (aH 3)) (aD (b2 getD (aH 2) (bC (.int 0))) (aZ))))) (pO) (r1 hD kvs N many brim L (.lst (P.map pcD)) K x8 x9)=.ok (.nx (r1 hD kvs N many brim L (.lst (P2.map pcD)) K x8 x9)):=by
  have cond:∀hD:D,bTB (b2 (d7 .eq) (b2 (bB .mod) (b2 (bB .add) (aY uE (aD (aH 7) (aZ))) (aH 3)) (bC (.int 2))) (bC (.int 1))) (r1 hD kvs N many brim L (.lst (P.map pcD)) K x8 x9)=.ok (((K.length:Int)+many) % 2==1):=fun hD=>by
   refine j9 (aP (x:=.int (((K.length:Int)+many) % 2)) (y:=.int 1) (aP (x:=.int ((K.length:Int)+many)) (y:=.int 2) (aP (x:=.int (K.length:Int)) (y:=.int many) (aV (xs:=[.lst (K.map enP)]) (aB rfl rfl) (by rw [K3,List.length_map])) rfl (dX _ _)) rfl (fP _ _ (by lia))) rfl (kE _ _))
  by_cases hodd:((K.length:Int)+many) % 2=1
  ·refine ⟨P++[(L[many.toNat],s0)],?_,by rw [List.length_append,List.length_singleton];lia,by rw [List.length_append,List.length_singleton];lia,fun hD=>?_⟩
   ·rw [List.map_append,List.length_append,List.length_singleton,p2,p1,List.take_add_one,List.getElem?_eq_getElem hmL];rfl
   ·refine O5 (by rw [cond,hodd];rfl) ?_;have g:getD (.lst (L.map D.int)) (.int many)=.ok (.int L[many.toNat]):=by
     have:=NQ L many.toNat hmL;rwa [show (0+(many.toNat:Int))=many by lia] at this
    have:=o9 (i:=6) (f:=iY (aD (b2 getD (aH 5) (aH 3)) (aD (b2 getD (aH 2) (bC (.int 0))) (aZ)))) (ρ:=r1 hD kvs N many brim L (.lst (P.map pcD)) K x8 x9) (xs:=P.map pcD) (d:=pcD (L[many.toNat],s0)) (fO (aB (aP (x:=.lst (L.map D.int)) (y:=.int many) rfl rfl g) (aB (aP (x:=.lst (N.map D.str)) (y:=.int 0) rfl rfl gs0) rfl)) (by rw [bH];simp)) rfl (by rw [List.length_map,bH];lia) rfl;rw [this,List.map_append];rfl
  ·refine ⟨P,by rw [p2,p1],by lia,by lia,fun hD=>F_ (by rw [cond];congr 1;exact beq_eq_false_iff_ne.mpr hodd) rfl⟩
 obtain ⟨P2,q1,q2,q3,ev4⟩:=odd;have hup2:=T8 q1 hu;obtain ⟨d3,h3,H3,hd0,hd1,e3⟩:=eY ns H2 (m:=3) (by lia);have hcl:(chiefs P2).length=P2.length:=by simp [chiefs]
 -- the chief hooks first,or not
 have fst:∃(U1:List Tie) (C:List Pt) (h4:List D),Hand ns h4/\(ends U1++C).Perm (chiefs P2)/\OkT U1/\U1.length<=2000/\∀b:Nat,aAu (xTB (x2L (d7 (.ord .gt)) (cG aN 2 0 (aD (bPu (bC (.int 3))) (aZ))) (bC (.int 0)))) (fB false 11 (qR eG 0 10)) (pO) [.cel b h2,.dct kvs,.lst (N.map D.str),.int many,.int brim,.lst (L.map D.int),.lst (P2.map pcD),.lst (K.map enP),x8,x9,.lst ((chiefs P2).map enP),.lst [],.uDf]=.ok (.nx [.cel b h4,.dct kvs,.lst (N.map D.str),.int many,.int brim,.lst (L.map D.int),.lst (P2.map pcD),.lst (K.map enP),x8,x9,.lst (C.map enP),.lst (U1.map bL),.uDf]):=by
  have cond:∀b:Nat,xTB (x2L (d7 (.ord .gt)) (cG aN 2 0 (aD (bPu (bC (.int 3))) (aZ))) (bC (.int 0))) [.cel b h2,.dct kvs,.lst (N.map D.str),.int many,.int brim,.lst (L.map D.int),.lst (P2.map pcD),.lst (K.map enP),x8,x9,.lst ((chiefs P2).map enP),.lst [],.uDf]=.ok (decide (0<d3),[.cel b h3,.dct kvs,.lst (N.map D.str),.int many,.int brim,.lst (L.map D.int),.lst (P2.map pcD),.lst (K.map enP),x8,x9,.lst ((chiefs P2).map enP),.lst [],.uDf]):=fun b=>by
   refine aBe (aBc (x:=.int d3) (y:=.int 0) (vH H3 e3 ?_ ?_ ?_) rfl rfl (cmp_gt _ _) rfl)
   ·exact aB (jK rfl rfl) rfl
   ·rfl
   ·rfl
  by_cases hd:0<d3
  ·obtain ⟨U1,h4,C,H4,c1,c2,c3,c4,e4⟩:=NP ns H3 (chiefs P2) (by lia);refine ⟨U1,C,h4,H4,c2,c3,c4,fun b=>T6 (cond b) ?_⟩;rw [decide_eq_true hd,if_pos rfl];refine iH (ρ':=[.cel b h4,.dct kvs,.lst (N.map D.str),.int many,.int brim,.lst (L.map D.int),.lst (P2.map pcD),.lst (K.map enP),x8,x9,.lst (C.map enP),.lst [],.uDf]) (N6 (xs:=h3) (ys:=(chiefs P2).map enP) ?_ ?_ (by decide) e4 H4.aR (eX _) ?_) rfl <;> rfl
  ·refine ⟨[],chiefs P2,h3,H3,List.Perm.refl _,fun t ht=>(by cases ht),by simp,fun b=>T6 (cond b) ?_⟩;rw [decide_eq_false hd,if_neg (by simp)];rfl
 obtain ⟨U1,C,h4,H4,c2,c3,c4,ev5⟩:=fst;have hC:(ends U1++C).length=P2.length:=by rw [c2.length_eq,hcl]
 rw [List.length_append,nQ] at hC;obtain ⟨U2,h5,R,H5,r1',r2,r3,r4,e5⟩:=NP ns H4 (C++K) (by rw [List.length_append];lia);have hR:R=[]:=by
  have:=r2.length_eq;rw [List.length_append,List.length_append,nQ] at this;exact List.length_eq_zero_iff.mp (by lia)
 subst hR;rw [List.append_nil] at r2;obtain ⟨d6,h6,H6,g0,g1,e6⟩:=eY ns H5 (m:=5) (by lia);obtain ⟨rg,hrg⟩:=RW d6 g0 g1
 let T0:=U1++U2
 refine ⟨P2,gJ T0,rg,h6,H6,⟨hup2.1,fun t ht=>?_,gD _,⟨chiefs P2++S,fun p hp=>?_,?_⟩,?_,by lia⟩,uQ fun b=>?_⟩
 ·rcases List.mem_append.mp ((dI T0).mem_iff.mp ht) with ht|ht
  ·exact c3 t ht
  ·exact r3 t ht
 ·rcases List.mem_append.mp hp with hp|hp
  ·obtain ⟨pc,hpc,rfl⟩:=List.mem_map.mp hp;exact hup2.2 pc hpc
  ·exact s1 p hp
 ·have e1:(ends (gJ T0)).Perm (ends T0):=by unfold ends;exact (dI T0).flatMap_right _
  refine e1.trans ?_;show (ends (U1++U2)).Perm _;rw [ends_app];refine (r2.append_left _).trans ?_;rw [<-List.append_assoc];refine (c2.append_right _).trans ?_;rw [hK];rw [<-List.append_assoc,<-List.append_assoc];exact (List.perm_append_comm).append_right _
 ·rw [(dI T0).length_eq];show (U1++U2).length<=5000;rw [List.length_append];lia
 ·refine pL (ρ:=[.cel b h6,.dct kvs,.lst (N.map D.str),.int many,.int brim,.lst (L.map D.int),.lst (P2.map pcD),.lst (K.map enP),x8,x9,.lst (C.map enP),.lst (T0.map bL),.int rg]) ?_;refine aQ (ρ':=r0 (.cel b h1) kvs N many brim L) (iH (ρ':=[.cel b h1,.dct kvs,.lst (N.map D.str),.int many,.int brim,.uDf,.uDf,.uDf,.uDf,.uDf,.uDf,.uDf,.uDf]) (jJ (rest:=[.int (many+1)]) ?_ ?_ rfl e1 H1.aR ?_) rfl) ?_
  ·exact aB (jK (aP rfl rfl (dX _ _)) rfl) rfl
  ·rfl
  ·rfl
  refine aQ (ρ':=[.cel b h2,.dct kvs,.lst (N.map D.str),.int many,.int brim,.lst (L.map D.int),.lst (P.map pcD),.uDf,.uDf,.uDf,.uDf,.uDf,.uDf]) (zR (d:=.lst (P.map pcD)) (ρ':=r0 (.cel b h2) kvs N many brim L) ?_ (M5 P) rfl) ?_
  ·have ev:=ev2 b;rw [<-List.range_eq_range'] at ev;exact RV (qP (n:=many) (aB rfl rfl) hm0 (by lia)) (by simp [bH];lia) ev
  refine aQ (ρ':=r1 (.cel b h2) kvs N many brim L (.lst (P.map pcD)) (zW brim.toNat) .uDf .uDf) (cA (NT (n:=brim) rfl rfl hb0 (by lia))) ?_;refine aQ (ρ':=r1 (.cel b h2) kvs N many brim L (.lst (P.map pcD)) K x8 x9) (XR (xs:=P.map pcD) (ρ':=r1 (.cel b h2) kvs N many brim L (.lst (P.map pcD)) K x8 x9) (xs':=P.map pcD) rfl (by simp [r1]) fun a=>ev3 _ a 10000 (by lia)) ?_;refine aQ (ev4 _) ?_;refine aQ (ρ':=[.cel b h2,.dct kvs,.lst (N.map D.str),.int many,.int brim,.lst (L.map D.int),.lst (P2.map pcD),.lst (K.map enP),x8,x9,.lst ((chiefs P2).map enP),.uDf,.uDf]) (jE (xY (P:=P2) rfl rfl (by lia)) (eX _)) ?_;refine aQ (ρ':=[.cel b h2,.dct kvs,.lst (N.map D.str),.int many,.int brim,.lst (L.map D.int),.lst (P2.map pcD),.lst (K.map enP),x8,x9,.lst ((chiefs P2).map enP),.lst [],.uDf]) (cA rfl) ?_;refine aQ (ev5 b) ?_;refine aQ (ρ':=[.cel b h5,.dct kvs,.lst (N.map D.str),.int many,.int brim,.lst (L.map D.int),.lst (P2.map pcD),.lst (K.map enP),x8,x9,.lst (C.map enP),.lst (T0.map bL),.uDf]) (iH (ρ':=[.cel b h5,.dct kvs,.lst (N.map D.str),.int many,.int brim,.lst (L.map D.int),.lst (P2.map pcD),.lst (K.map enP),x8,x9,.lst (C.map enP),.lst (U1.map bL),.uDf]) (aBd (x:=.lst (U1.map bL)) (y:=.lst (U2.map bL)) rfl (FP (xs:=h4) (ys:=(C++K).map enP) ?_ ?_ (eX _) e5 H5.aR (eX _) ?_) ?_) rfl) ?_
  ·rw [List.map_append];exact aP (x:=.lst (C.map enP)) (y:=.lst (K.map enP)) rfl rfl (wU _ _ (by rw [List.length_map,List.length_map,bH];lia) (eX _) (eX _))
  ·rfl
  ·rfl
  ·rw [wU _ _ (by rw [List.length_map,List.length_map,bH];lia) (qT _) (qT _),<-List.map_append]
  refine aQ (ρ':=[.cel b h6,.dct kvs,.lst (N.map D.str),.int many,.int brim,.lst (L.map D.int),.lst (P2.map pcD),.lst (K.map enP),x8,x9,.lst (C.map enP),.lst (T0.map bL),.int rg]) (iH (ρ':=[.cel b h6,.dct kvs,.lst (N.map D.str),.int many,.int brim,.lst (L.map D.int),.lst (P2.map pcD),.lst (K.map enP),x8,x9,.lst (C.map enP),.lst (T0.map bL),.uDf]) (M7 (x:=.lst [.int 0,.int 0,.int 1,.int 7,.int (10 ^ 57)]) (y:=.int d6) ?_ (vH H6 e6 ?_ ?_ ?_) hrg rfl) rfl) ?_
  ·exact NB (aB rfl (aB rfl (aB rfl (aB rfl (aB (aP rfl rfl (uP 57 (by lia))) rfl))))) (by rw [bH];simp)
  ·exact aB (jK rfl rfl) rfl
  ·rfl
  ·rfl
  exact xU (fO (aB (x:=.tup (P2.map pcD)) (aV (aB rfl rfl) rfl) (aB (x:=.tup ((gJ T0).map bL)) (aV (aB (aV (xs:=[.lst (T0.map bL)]) (aB rfl rfl) (tK T0)) rfl) rfl) (aB rfl rfl))) (by rw [bH];simp)) (zQ P2 (gJ T0) rg)
end Lk21
end
section
namespace Lk21
open PySem L2 Mi
noncomputable def mv (m b:Int) (p:Pt):Pt:=if p.1≠0 then p else if p.2<m then (0,p.2+b-m) else (0,p.2-m)
theorem en0 (p:Pt):getD (enP p) (.int 0)=.ok (.int p.1):=rfl
theorem en1 (p:Pt):getD (enP p) (.int 1)=.ok (.int p.2):=rfl
theorem jY {n m:Nat} {f:FS} {ds:List D} {d:D} (h:f (ds++List.replicate (m-n) .uDf)=.ok (.rt d)):fnS n m f ds=.ok d:=by
 unfold fnS;rw [h];rfl
theorem N7 (p:Pt) (m b:Int):b7 [enP p,.int m,.int b]=.ok (enP (mv m b p)):=by
 refine jY ?_;show mY [enP p,.int m,.int b]=_;unfold mv;by_cases h0:p.1=0
 ·rw [if_neg (by simpa using h0)];refine aQ (ρ':=[enP p,.int m,.int b]) (F_ (j9 (aP (x:=.int p.1) (y:=.int 0) (aP rfl rfl (en0 p)) rfl ?_)) rfl) ?_
  ·rw [xW,h0];rfl
  by_cases h1:p.2<m
  ·rw [if_pos h1];refine qU (O5 (j9 (aP (x:=.int p.2) (y:=.int m) (aP rfl rfl (en1 p)) rfl ?_)) ?_)
   ·rw [qK,decide_eq_true h1]
   ·exact gQ (fO (aB rfl (aB (aP (x:=.int (p.2+b)) (y:=.int m) (aP (x:=.int p.2) (aP rfl rfl (en1 p)) rfl (dX _ _)) rfl (mX _ _)) rfl)) (by rw [bH];simp)) rfl
  ·rw [if_neg h1];refine aQ (ρ':=[enP p,.int m,.int b]) (F_ (j9 (aP (x:=.int p.2) (y:=.int m) (aP rfl rfl (en1 p)) rfl ?_)) rfl) ?_
   ·rw [qK,decide_eq_false h1]
   ·exact gQ (fO (aB rfl (aB (aP (x:=.int p.2) (aP rfl rfl (en1 p)) rfl (mX _ _)) rfl)) (by rw [bH];simp)) rfl
 ·rw [if_pos h0];refine qU (O5 (j9 (aP (x:=.int p.1) (y:=.int 0) (aP rfl rfl (en0 p)) rfl ?_)) (gQ rfl rfl));rw [xW]
  congr 2
  simp [h0]
theorem zX (p:Pt) (m b:Int):cR [enP p,.int m,.int b]=.ok (enP (mv m b p)):=by
 refine jY ?_;show mZ [enP p,.int m,.int b]=_;unfold mv;have c0:bTB (b2 (d7 .eq) (b2 getD (aH 0) (bC (.int 0))) (bC (.int 0))) [enP p,.int m,.int b]=.ok (p.1==0):=j9 (aP (x:=.int p.1) (y:=.int 0) (aP rfl rfl (en0 p)) rfl (kE _ _));have c1:bTB (b2 (d7 (.ord .lt)) (b2 getD (aH 0) (bC (.int 1))) (aH 1)) [enP p,.int m,.int b]=.ok (decide (p.2<m)):=j9 (aP (x:=.int p.2) (y:=.int m) (aP rfl rfl (en1 p)) rfl (qK _ _));by_cases h0:p.1=0
 ·rw [if_neg (by simpa using h0)];have c0':bTB (b2 (d7 .eq) (b2 getD (aH 0) (bC (.int 0))) (bC (.int 0))) [enP p,.int m,.int b]=.ok true:=by rw [c0,h0];rfl
  by_cases h1:p.2<m
  ·rw [if_pos h1];refine qU (O5 (aAn c0' (by rw [c1,decide_eq_true h1])) ?_);rw [show p.2+b-m=b-m+p.2 by lia];exact gQ (fO (aB rfl (aB (aP (x:=.int (b-m)) (y:=.int p.2) (aP rfl rfl (mX _ _)) (aP rfl rfl (en1 p)) (dX _ _)) rfl)) (by rw [bH];simp)) rfl
  ·rw [if_neg h1];refine aQ (ρ':=[enP p,.int m,.int b]) (F_ (aAn c0' (by rw [c1,decide_eq_false h1])) rfl) (qU (O5 c0' ?_));exact gQ (fO (aB rfl (aB (aP (x:=.int p.2) (aP rfl rfl (en1 p)) rfl (mX _ _)) rfl)) (by rw [bH];simp)) rfl
 ·rw [if_pos h0];have c0':bTB (b2 (d7 .eq) (b2 getD (aH 0) (bC (.int 0))) (bC (.int 0))) [enP p,.int m,.int b]=.ok false:=by rw [c0];congr 1;exact beq_eq_false_iff_ne.mpr h0
  refine aQ (ρ':=[enP p,.int m,.int b]) (F_ (aD6 c0') rfl) (aQ (ρ':=[enP p,.int m,.int b]) (F_ c0' rfl) ?_);exact gQ rfl rfl
noncomputable def aDl:FS:=(bU (tR 1 (aH 2)) (tR 1 (aH 3)))
theorem vN {nD:D}:∀(T:List Tie) (K:List Pt) (x y:D),K.length+2*T.length<=100000->∃x' y',tU (tgN [2,3]) aDl (T.map bL) [nD,.lst (K.map enP),x,y]=.ok (.nx [nD,.lst ((K++ends T).map enP),x',y'])
 | [],K,x,y,_=>⟨x,y,by rw [show ends []=[] from rfl,List.append_nil];rfl⟩
 | t::T,K,x,y,hl=>by
  rw [List.length_cons] at hl;obtain ⟨x',y',e⟩:=vN T (K++[t.1,t.2]) (enP t.1) (enP t.2) (by rw [List.length_append];simp;lia);refine ⟨x',y',?_⟩;rw [show K++ends (t::T)=K++[t.1,t.2]++ends T by show K++(t.1::t.2::ends T)=_;simp];rw [List.map_cons];refine cQ (ρ1:=[nD,.lst (K.map enP),enP t.1,enP t.2]) (ρ2:=[nD,.lst ((K++[t.1,t.2]).map enP),enP t.1,enP t.2]) rfl ?_ e;refine aQ (ρ':=[nD,.lst (K.map enP++[enP t.1]),enP t.1,enP t.2]) (o9 (xs:=K.map enP) (d:=enP t.1) rfl rfl (by rw [List.length_map,bH];lia) rfl) ?_;have:=o9 (i:=1) (f:=aH 3) (ρ:=[nD,.lst (K.map enP++[enP t.1]),enP t.1,enP t.2]) (xs:=K.map enP++[enP t.1]) (d:=enP t.2) rfl rfl (by rw [List.length_append,List.length_map,bH];simp;lia) rfl;rw [this];simp
theorem YF (T:List Tie) (hl:T.length<=10000):lL [.tup (T.map bL)]=.ok (.lst ((ends T).map enP)):=by
 obtain ⟨x,y,e⟩:=vN (nD:=.tup (T.map bL)) T [] .uDf .uDf (by simp;lia);refine jY ?_;refine aQ (ρ':=[.tup (T.map bL),.lst [],.uDf,.uDf]) (jE rfl rfl) ?_;refine aQ (ρ':=[.tup (T.map bL),.lst ((ends T).map enP),x,y]) (W0 (d:=.tup (T.map bL)) (xs:=T.map bL) rfl rfl e) ?_;rfl
theorem RX (K:List Pt) (hl:K.length<=100000):iD [.lst (K.map enP)]=.ok (.int (K.filter fun p=>p.1==0).length):=by
 refine jY ?_;have hi:dW (aH 0) false [.lst (K.map enP)]=.ok (K.map enP,false||(D.lst (K.map enP)).pure):=rfl;have hc:fJ 1 (dW (aH 0) false) yM (bTB (b2 (d7 .eq) (b2 getD (aH 1) (bC (.int 0))) (bC (.int 0)))) (aH 1) false [.lst (K.map enP)]=.ok (.lst ((K.filter fun p=>p.1==0).map enP)):=by
  refine j_ hi (by rw [List.length_map,bH];lia) ?_;have:=o_ (lB 1 yM (bTB (b2 (d7 .eq) (b2 getD (aH 1) (bC (.int 0))) (bC (.int 0)))) (aH 1) false [.lst (K.map enP)]) enP (fun p=>p.1==0) enP (fun acc p=>K4 rfl (j9 (aP (x:=.int p.1) (y:=.int 0) (aP (x:=enP p) rfl rfl (en0 p)) rfl (kE _ _))) (fun _=>⟨rfl,rfl⟩)) K [];rw [this];rfl
 exact gQ (aV (xs:=[.lst ((K.filter fun p:Pt=>p.1==0).map enP)]) (aB hc rfl) (by rw [K3,List.length_map])) rfl
theorem aBo (P:List Pc) (T:List Tie) (r:Int) (hl:T.length<=10000):Q_ [gH P T r]=.ok (.int ((ends T).filter fun p=>p.1==0).length):=by
 refine jY (gQ (aV (xs:=[.lst ((ends T).map enP)]) (aB (aV (xs:=[.tup (T.map bL)]) (aB rfl rfl) ?_) rfl) ?_) rfl)
 ·exact (cL rfl).trans (YF T hl)
 ·exact (cL rfl).trans (RX _ (by rw [nQ];lia))
theorem xZ (n:Nat):(zW n).filter (fun p=>p.1==0)=zW n:=List.filter_eq_self.mpr fun p hp=>by
 obtain ⟨k,_,rfl⟩:=List.mem_map.mp hp;rfl
theorem YG {n:Nat} {T:List Tie} {S:List Pt} (hS:∀p∈S,0<p.1) (h:(ends T).Perm (zW n++S)):((ends T).filter fun p=>p.1==0).length=n:=by
 have e:(S.filter fun p=>p.1==0)=[]:=List.filter_eq_nil_iff.mpr fun p hp=>by
  have:=hS p hp;simp;lia
 rw [(h.filter _).length_eq,List.filter_append,xZ,e,List.append_nil];simp [zW]
theorem aBp (P:List Pc) (V:List Tie) (r:Int) (hP:P.Pairwise LtN) (hl:V.length<=100000):jQ [.tup (P.map pcD),.lst (V.map bL),.int r]=.ok (gH P (gJ (V.map fun t=>mk2 t.1 t.2)) r):=by
 let W:=V.map fun t=>mk2 t.1 t.2
 refine jY ?_;have hc:fJ 4 (dW (aH 1) false) (JF 2) (fU) (iY (aD (aY (cO .lt) (aD (aH 4) (aD (aH 5) (aZ)))) (aD (aY (cO .gt) (aD (aH 4) (aD (aH 5) (aZ)))) (aZ)))) false [.tup (P.map pcD),.lst (V.map bL),.int r,.uDf]=.ok (.lst (W.map bL)):=by
  refine j_ (kk:=false||(D.lst (V.map bL)).pure) (xs:=V.map bL) rfl (by rw [List.length_map,bH];lia) ?_;have:=jL (lB 4 (JF 2) fU (iY (aD (aY (cO .lt) (aD (aH 4) (aD (aH 5) (aZ)))) (aD (aY (cO .gt) (aD (aH 4) (aD (aH 5) (aZ)))) (aZ)))) false [.tup (P.map pcD),.lst (V.map bL),.int r,.uDf]) bL (fun t=>bL (mk2 t.1 t.2)) (fun acc t=>by
   refine gU (bs:=[enP t.1,enP t.2]) rfl rfl rfl (fO (aB (aV (xs:=[enP t.1,enP t.2]) (aB rfl (aB rfl rfl)) (FN .lt t.1 t.2 ltP vG)) (aB (aV (xs:=[enP t.1,enP t.2]) (aB rfl (aB rfl rfl)) (FN .gt t.1 t.2 (fun a b=>ltP b a) MN)) rfl)) (by rw [bH];simp)) rfl) V
  rw [this];show _=Res.ok ((V.map fun t=>mk2 t.1 t.2).map bL);rw [List.map_map];rfl
 refine aQ (ρ':=[.tup (P.map pcD),.lst (V.map bL),.int r,.lst (W.map bL)]) (cA hc) ?_;have sp:sO [.tup (P.map pcD)]=.ok (.lst (P.map pcD)):=by
  have:=RG hP;show (if bF (P.map pcD) then Res.ok (D.lst (iW (P.map pcD))) else .bad)=_;exact this
 exact gQ (fO (aB (x:=.tup (P.map pcD)) (aV (xs:=[.lst (P.map pcD)]) (aB (aV (xs:=[.tup (P.map pcD)]) (aB rfl rfl) sp) rfl) rfl) (aB (x:=.tup ((gJ W).map bL)) (aV (xs:=[.lst ((gJ W).map bL)]) (aB (aV (xs:=[.lst (W.map bL)]) (aB rfl rfl) (tK W)) rfl) rfl) (aB (x:=.int r) rfl rfl))) (by rw [bH];simp)) (zQ P (gJ W) r)
noncomputable def mvT (m b:Int) (t:Tie):Tie:=mk2 (mv m b t.1) (mv m b t.2)
theorem lN (P:List Pc) (T:List Tie) (r m b:Int) (hP:P.Pairwise LtN) (hl:T.length<=10000) (hb:((ends T).filter fun p=>p.1==0).length=b):dY [gH P T r,.int m]=.ok (gH P (gJ (T.map (mvT m b))) r):=by
 refine jY ?_;refine aQ (ρ':=[gH P T r,.int m,.int b,.uDf]) (cA (aV (xs:=[gH P T r]) (aB rfl rfl) ?_)) ?_
 ·refine (cL rfl).trans ?_;rw [aBo P T r hl,hb]
 let V:List Tie:=T.map fun t=>(mv m b t.1,mv m b t.2)
 have hc:fJ 4 (dW (b2 getD (aH 0) (bC (.int 1))) false) (JF 2) (fU) (iY (aD (aY (j6 3 b7) (aD (aH 4) (aD (aH 1) (aD (aH 2) (aZ))))) (aD (aY (j6 3 b7) (aD (aH 5) (aD (aH 1) (aD (aH 2) (aZ))))) (aZ)))) true [gH P T r,.int m,.int b,.uDf]=.ok (.lst (V.map bL)):=by
  refine j_ (kk:=false||(D.tup (T.map bL)).pure) (xs:=T.map bL) rfl (by rw [List.length_map,bH];lia) ?_;have:=jL (lB 4 (JF 2) fU (iY (aD (aY (j6 3 b7) (aD (aH 4) (aD (aH 1) (aD (aH 2) (aZ))))) (aD (aY (j6 3 b7) (aD (aH 5) (aD (aH 1) (aD (aH 2) (aZ))))) (aZ)))) true [gH P T r,.int m,.int b,.uDf]) bL (fun t=>bL (mv m b t.1,mv m b t.2)) (fun acc t=>by
   refine gU (bs:=[enP t.1,enP t.2]) rfl rfl rfl (fO (aB (aV (xs:=[enP t.1,.int m,.int b]) (aB rfl (aB rfl (aB rfl rfl))) ?_) (aB (aV (xs:=[enP t.2,.int m,.int b]) (aB rfl (aB rfl (aB rfl rfl))) ?_) rfl)) (by rw [bH];simp)) rfl
   ·exact (cL rfl).trans (N7 _ _ _)
   ·exact (cL rfl).trans (N7 _ _ _)) T
  rw [this];show _=Res.ok ((T.map fun t=>(mv m b t.1,mv m b t.2)).map bL);rw [List.map_map];rfl
 refine aQ (ρ':=[gH P T r,.int m,.int b,.lst (V.map bL)]) (cA hc) ?_;refine gQ (aV (xs:=[.tup (P.map pcD),.lst (V.map bL),.int r]) (aB rfl (aB rfl (aB rfl rfl))) ?_) rfl;refine (cL rfl).trans ?_;rw [aBp P V r hP (by show (T.map _).length<=_;rw [List.length_map];lia)];have:V.map (fun t=>mk2 t.1 t.2)=T.map (mvT m b):=by
  show (T.map _).map _=_;rw [List.map_map];rfl
 rw [this]
end Lk21
end
section
namespace Lk21
open PySem L2 Mi
noncomputable def Sh:Nat->D->Prop
 | 0,_=>False
 | n+1,.tup xs=>xs.length<=100000/\∀x∈xs,Sh n x
 | _+1,.int _=>True
 | _+1,.str _=>True
 | _,_=>False
theorem vO {α:Type} (g:List D->D->Res (List D)) (d:α->D) (y:α->D):∀(xs:List α) (acc:List D),(∀acc a,a∈xs->g acc (d a)=.ok (acc++[y a]))->m8 g acc (xs.map d)=.ok (acc++xs.map y)
 | [],acc,_=>by simp [m8]
 | x::xs,acc,h=>by
  rw [List.map_cons,m8,h acc x (List.mem_cons_self ..),Res.aK,vO g d y xs _ fun acc a ha=>h acc a (List.mem_cons_of_mem _ ha)];simp
theorem RZ:∀l:List Nat,aC5 [.lst (l.map fun _=>D.bl true)]=.ok (.bl true):=fun l=>by
 have:∀l:List Nat,o8 (l.map fun _=>D.bl true)=some (l.map fun _=>true):=fun l=>by
  induction l with
  | nil=>rfl
  | cons x l ih=>
   show (o8 (l.map fun _=>D.bl true)).map (true::·)=_;rw [ih];rfl
 show (match o8 (l.map fun _=>D.bl true) with|some bs=>Res.ok (D.bl (bs.all id))|none=>.bad)=_;rw [this];dsimp only
 congr 2
 induction l with
 | nil=>rfl
 | cons x l ih=>rw [List.map_cons,List.all_cons,ih];rfl
theorem N8 (xs:List D) (k:Nat) (h:k<xs.length):getD (.tup xs) (.int (0+(k:Int)))=.ok xs[k]:=by
 show Res.ofOpt ((ixD xs.length (0+(k:Int))).bind fun j=>xs[j]?)=_;unfold ixD;rw [if_pos (by lia),if_pos (by lia)];have:(0+(k:Int)).toNat=k:=by lia
 rw [this];simp [h]
theorem pN:∀(n:Nat) (d:D),Sh n d->bO n [d,d]=.ok (.bl true)
 | 0,_,h=>h.elim
 | n+1,.int i,_=>by
  have:bO (n+1) [.int i,.int i]=.ok (.bl (i==i)):=rfl;rw [this];simp
 | n+1,.str s,_=>by
  have:bO (n+1) [.str s,.str s]=.ok (.bl (s==s)):=rfl;rw [this];simp
 | n+1,.tup xs,h=>by
  refine jY ?_;show pF (bO n) [.tup xs,.tup xs]=_;refine qU (O5 rfl ?_);refine aQ (ρ':=[.tup xs,.tup xs]) rfl (aQ (ρ':=[.tup xs,.tup xs]) (F_ (j9 (aP (x:=.int xs.length) (y:=.int xs.length) rfl rfl ?_)) rfl) ?_)
  ·rw [xW];simp
  ·refine gQ (aV (xs:=[.lst ((List.range xs.length).map fun _=>D.bl true)]) (aB ?_ rfl) (RZ _)) rfl;refine j_ (qP (n:=(xs.length:Int)) (aB rfl rfl) (by lia) (by have:=h.1;lia)) (by simp [bH];have:=h.1;lia) ?_;rw [show ((xs.length:Int)).toNat=xs.length by lia];have:=vO (lB 2 yM fU (aY (j6 2 (bO n)) (aD (b2 getD (aH 0) (aH 2)) (aD (b2 getD (aH 1) (aH 2)) (aZ)))) true [.tup xs,.tup xs]) (fun k:Nat=>D.int (0+(k:Int))) (fun _=>D.bl true) (List.range xs.length) [] (fun acc k hk=>by
    have hkl:k<xs.length:=List.mem_range.mp hk;refine gU (bs:=[.int (0+(k:Int))]) rfl rfl rfl (aV (xs:=[xs[k],xs[k]]) (aB (aP (x:=.tup xs) (y:=.int (0+(k:Int))) rfl rfl (N8 xs k hkl)) (aB (aP (x:=.tup xs) (y:=.int (0+(k:Int))) rfl rfl (N8 xs k hkl)) rfl)) ?_) rfl;exact (cL rfl).trans (pN n _ (h.2 _ (List.getElem_mem _))))
   rw [List.nil_append] at this;exact this
 | _+1,.uDf,h=>h.elim
 | _+1,.non,h=>h.elim
 | _+1,.bl _,h=>h.elim
 | _+1,.lst _,h=>h.elim
 | _+1,.dct _,h=>h.elim
 | _+1,.scr _,h=>h.elim
 | _+1,.fdc _,h=>h.elim
 | _+1,.cel _ _,h=>h.elim
end Lk21
end
section
namespace Lk21
open PySem L2 Mi
noncomputable def hb:FS:=(dZ false 1 (b2 (bB .mod) (b2 (bB .add) (b2 FZ (aH 1) (bC (.int 69069))) (aH 2)) (bC (.int 1000000007))) true)
theorem vP {sD:D}:∀(ns:List Int) (s:Int) (x:D),0<=s->s<1000000007->∃(s':Int) (x':D),0<=s'/\s'<1000000007/\tU (tg1 2) hb (ns.map D.int) [sD,.int s,x]=.ok (.nx [sD,.int s',x'])
 | [],s,x,h0,h1=>⟨s,x,h0,h1,rfl⟩
 | n::ns,s,x,h0,h1=>by
  obtain ⟨s',x',g0,g1,e⟩:=vP (sD:=sD) ns ((s*69069+n) % 1000000007) (.int n) (Int.emod_nonneg _ (by lia)) (Int.emod_lt_of_pos _ (by lia));refine ⟨s',x',g0,g1,?_⟩;rw [List.map_cons];refine cQ (ρ1:=[sD,.int s,.int n]) (ρ2:=[sD,.int ((s*69069+n) % 1000000007),.int n]) rfl ?_ e;exact cA (aP (x:=.int (s*69069+n)) (y:=.int 1000000007) (aP (x:=.int (s*69069)) (y:=.int n) (aP rfl rfl (xV _ _ rfl)) rfl (dX _ _)) rfl (fP _ _ (by lia)))
theorem YH (ns:List Int):∃s:Int,0<=s/\s<1000000007/\fQ [.scr (ns.map D.int)]=.ok (.lst [.int 0,.int s,.lst (ns.map D.int)]):=by
 obtain ⟨s,x,h0,h1,e⟩:=vP (sD:=.scr (ns.map D.int)) ns 90001 .uDf (by lia) (by lia);refine ⟨s,h0,h1,jY ?_⟩;refine aQ (ρ':=[.scr (ns.map D.int),.int 90001,.uDf]) (cA rfl) ?_;refine aQ (ρ':=[.scr (ns.map D.int),.int s,x]) e ?_;refine gQ (NB (aB rfl (aB (jK rfl rfl) (aB (x:=.lst (ns.map D.int)) (aV (xs:=[.scr (ns.map D.int)]) (aB rfl rfl) ?_) rfl))) (by rw [bH];simp)) rfl;show (if D.aR (ns.map D.int) then Res.ok (D.lst (ns.map D.int)) else .bad)=_;rw [qQ,if_pos rfl]
theorem aBq (ns:List Int) (s:Int):TQ [.int 0,.int s,.lst (ns.map D.int)]=.ok (hd 0 s ns):=by
 have e:(ns.map D.int).all isI=true:=List.all_eq_true.mpr fun d hd=>by
  obtain ⟨n,_,rfl⟩:=List.mem_map.mp hd;rfl
 have e1:TQ [.lst (ns.map D.int)]=.ok [.scr (ns.map D.int)]:=by
  show (if (ns.map D.int).all isI&&D.aR [] then Res.ok [D.scr (ns.map D.int)] else .bad)=_;rw [e];rfl
 show (do let r <- (do let r <- TQ [.lst (ns.map D.int)];.ok (D.int s::r));.ok (D.int 0::r))=_;rw [e1];rfl
noncomputable def InR (b:Int) (p:Pt):Prop:=p.1=0->0<=p.2/\p.2<b
theorem T9 (m b:Int) (p:Pt):(mv m b p).1=0↔p.1=0:=by
 unfold mv;split
 ·exact Iff.rfl
 ·rename_i h;have h:p.1=0:=by lia
  split <;> simp [h]
theorem tQ {m b:Int} {p:Pt} (h:InR b p) (hm0:0<=m) (hm1:m<=b):mv (b-m) b (mv m b p)=p:=by
 obtain ⟨x,y⟩:=p;unfold mv;by_cases hx:x=0
 ·subst hx;obtain ⟨h0,h1⟩:=h rfl;simp only at h0 h1;simp only [ne_eq,not_true_eq_false,if_false];by_cases hy:y<m
  ·rw [if_pos hy];simp only [ne_eq,not_true_eq_false,if_false];rw [if_neg (by lia)]
   congr 1
   lia
  ·rw [if_neg hy];simp only [ne_eq,not_true_eq_false,if_false];rw [if_pos (by lia)]
   congr 1
   lia
 ·simp [hx]
theorem YJ {b:Int} {p:Pt} (h:InR b p):mv 0 b p=p:=by
 obtain ⟨x,y⟩:=p;unfold mv;by_cases hx:x=0
 ·subst hx;obtain ⟨h0,h1⟩:=h rfl;simp only at h0 h1;simp only [ne_eq,not_true_eq_false,if_false];rw [if_neg (by lia)]
  congr 1
  lia
 ·simp [hx]
theorem aBr {b:Int} {p:Pt} (h:InR b p):mv b b p=p:=by
 obtain ⟨x,y⟩:=p;unfold mv;by_cases hx:x=0
 ·subst hx;obtain ⟨h0,h1⟩:=h rfl;simp only at h0 h1;simp only [ne_eq,not_true_eq_false,if_false];rw [if_pos (by lia)]
  congr 1
  lia
 ·simp [hx]
theorem aBs (p q:Pt):mk2 p q=(p,q)\/mk2 p q=(q,p):=by
 unfold mk2;by_cases h1:ltP q p
 ·have:¬ltP p q:=fun z=>by unfold ltP at h1 z;lia
  rw [if_pos h1,if_neg this];exact .inr rfl
 ·rw [if_neg h1];by_cases h2:ltP p q
  ·rw [if_pos h2];exact .inl rfl
  ·rw [if_neg h2,RP h2 h1];exact .inl rfl
theorem R0 (p q:Pt):mk2 p q=mk2 q p:=by
 unfold mk2;by_cases h1:ltP q p
 ·have:¬ltP p q:=fun z=>by unfold ltP at h1 z;lia
  simp [h1,this]
 ·by_cases h2:ltP p q
  ·simp [h1,h2]
  ·simp [h1,h2,RP h2 h1]
theorem R1 {m b:Int} {t:Tie} (h1:InR b t.1) (h2:InR b t.2) (hm0:0<=m) (hm1:m<=b) (hok:¬ltP t.2 t.1):mvT (b-m) b (mvT m b t)=t:=by
 unfold mvT;rcases aBs (mv m b t.1) (mv m b t.2) with e|e
 ·rw [e];dsimp only;rw [tQ h1 hm0 hm1,tQ h2 hm0 hm1];exact NK hok
 ·rw [e];dsimp only;rw [tQ h1 hm0 hm1,tQ h2 hm0 hm1,R0];exact NK hok
theorem zY {T:List Tie} {t:Tie} (h:t∈T):t.1∈ends T/\t.2∈ends T:=by
 unfold ends;constructor
 ·exact List.mem_flatMap.mpr ⟨t,h,by simp⟩
 ·exact List.mem_flatMap.mpr ⟨t,h,by simp⟩
theorem N_ (m b:Int):∀T:List Tie,(ends (T.map (mvT m b))).Perm ((ends T).map (mv m b))
 | []=>List.Perm.refl _
 | t::T=>by
  show ([(mvT m b t).1,(mvT m b t).2]++ends (T.map (mvT m b))).Perm ([mv m b t.1,mv m b t.2]++(ends T).map (mv m b));exact (zV _ _).append (N_ m b T)
theorem aBt (m b:Int) (K:List Pt):((K.map (mv m b)).filter fun p=>p.1==0).length=(K.filter fun p=>p.1==0).length:=by
 induction K with
 | nil=>rfl
 | cons p K ih=>
  rw [List.map_cons,List.filter_cons,List.filter_cons];by_cases h:p.1=0
  ·rw [if_pos (by simpa using (T9 m b p).mpr h),if_pos (by simpa using h),List.length_cons,List.length_cons,ih]
  ·rw [if_neg (by simpa using fun z=>h ((T9 m b p).mp z)),if_neg (by simpa using h),ih]
theorem OD {T V:List Tie} (h:T.Perm V):(ends T).Perm (ends V):=by unfold ends;exact h.flatMap_right _
theorem turns {brim:Nat} {P:List Pc} {T:List Tie} (hN:aBm brim P T) (r m:Int) (hm0:0<=m) (hm1:m<=brim) :
  dY [gH P T r,.int m]=.ok (gH P (gJ (T.map (mvT m brim))) r)/\dY [gH P (gJ (T.map (mvT m brim))) r,.int (brim-m)]=.ok (gH P T r)/\dY [gH P T r,.int 0]=.ok (gH P T r)/\dY [gH P T r,.int brim]=.ok (gH P T r):=by
 obtain ⟨S,hS,hp⟩:=hN.rim;have hl:=hN.sm;have hb:=YG hS hp;have inr:∀t∈T,InR brim t.1/\InR brim t.2:=fun t ht=>by
  have hin:∀p∈ends T,InR brim p:=fun p hpm hz=>by
   rcases List.mem_append.mp (hp.mem_iff.mp hpm) with hq|hq
   ·unfold zW at hq;obtain ⟨k,hk,rfl⟩:=List.mem_map.mp hq;have:=List.mem_range.mp hk;exact ⟨by show 0<=0+(k:Int);lia,by show 0+(k:Int)<brim;lia⟩
   ·have:=hS p hq;lia
  exact ⟨hin _ (zY ht).1,hin _ (zY ht).2⟩
 have idm:∀k:Int,(∀p,InR brim p->mv k brim p=p)->T.map (mvT k brim)=T:=fun k hk=>by
  conv=>rhs;rw [<-List.map_id T]
  refine List.map_congr_left fun t ht=>?_
  show mk2 _ _=t;rw [hk _ (inr t ht).1,hk _ (inr t ht).2];exact NK (hN.ok t ht)
 have sp:(gJ (T.map (mvT m brim))).Perm (T.map (mvT m brim)):=dI _;refine ⟨lN P T r m brim hN.up (by lia) (by rw [hb]),?_,?_,?_⟩
 ·rw [lN P _ r (brim-m) brim hN.up (by rw [sp.length_eq,List.length_map];lia) ?_]
  ·have e:(T.map (mvT m brim)).map (mvT (brim-m) brim)=T:=by
    rw [List.map_map]
    conv=>rhs;rw [<-List.map_id T]
    exact List.map_congr_left fun t ht=>R1 (inr t ht).1 (inr t ht).2 hm0 hm1 (hN.ok t ht)
   have:=RD (sp.map (mvT (brim-m) brim));rw [this,e,tL hN.srt]
  ·rw [(((OD sp).trans (N_ m brim T)).filter _).length_eq,aBt,hb]
 ·rw [lN P T r 0 brim hN.up (by lia) (by rw [hb]),idm 0 fun p hp=>YJ hp,tL hN.srt]
 ·rw [lN P T r brim brim hN.up (by lia) (by rw [hb]),idm brim fun p hp=>aBr hp,tL hN.srt]
theorem T_ (P:List Pc) (T:List Tie) (r:Int) (h1:P.length<=100000) (h2:T.length<=100000):Sh 6 (gH P T r):=by
 refine ⟨by simp,fun x hx=>?_⟩;simp only [List.mem_cons,List.not_mem_nil,or_false] at hx;rcases hx with rfl|rfl|rfl
 ·refine ⟨by rw [List.length_map];exact h1,fun x hx=>?_⟩;obtain ⟨pc,_,rfl⟩:=List.mem_map.mp hx;refine ⟨by simp,fun x hx=>?_⟩;simp only [List.mem_cons,List.not_mem_nil,or_false] at hx;rcases hx with rfl|rfl <;> trivial
 ·refine ⟨by rw [List.length_map];exact h2,fun x hx=>?_⟩;obtain ⟨t,_,rfl⟩:=List.mem_map.mp hx;refine ⟨by simp,fun x hx=>?_⟩;simp only [List.mem_cons,List.not_mem_nil,or_false] at hx;have en:∀p:Pt,Sh 3 (enP p):=fun p=>by
   refine ⟨by simp,fun x hx=>?_⟩;simp only [List.mem_cons,List.not_mem_nil,or_false] at hx;rcases hx with rfl|rfl <;> trivial
  rcases hx with rfl|rfl
  ·exact en _
  ·exact en _
 ·trivial
end Lk21
end
section
namespace Lk21
open PySem L2 Mi
noncomputable def aDm:FS:=(bU (dZ false 9 (aY (j6 3 cR) (aD (aH 9) (aD (aH 7) (aD (b2 getD (aH 4) (bC (.int 1))) (aZ))))) true) (bU (dZ false 10 (aY (j6 3 cR) (aD (aH 10) (aD (aH 7) (aD (b2 getD (aH 4) (bC (.int 1))) (aZ))))) true) (tR 8 (iY (aD (aY (cO .lt) (aD (aH 9) (aD (aH 10) (aZ)))) (aD (aY (cO .gt) (aD (aH 9) (aD (aH 10) (aZ)))) (aZ)))))))
theorem zZ {a0 a1 a2 a3 a5 a6 a11:D} {s0 b m:Int}:∀(T U:List Tie) (x y:D),U.length+T.length<=100000->∃x' y',tU (tgN [9,10]) aDm (T.map bL) [a0,a1,a2,a3,.lst [.int s0,.int b],a5,a6,.int m,.lst (U.map bL),x,y,a11]=.ok (.nx [a0,a1,a2,a3,.lst [.int s0,.int b],a5,a6,.int m,.lst ((U++T.map (mvT m b)).map bL),x',y',a11])
 | [],U,x,y,_=>⟨x,y,by rw [show U++List.map (mvT m b) []=U from List.append_nil U];rfl⟩
 | t::T,U,x,y,hl=>by
  rw [List.length_cons] at hl;obtain ⟨x',y',e⟩:=zZ (a0:=a0) (a1:=a1) (a2:=a2) (a3:=a3) (a5:=a5) (a6:=a6) (a11:=a11) (s0:=s0) (b:=b) (m:=m) T (U++[mvT m b t]) (enP (mv m b t.1)) (enP (mv m b t.2)) (by rw [List.length_append,List.length_singleton];lia);refine ⟨x',y',?_⟩;rw [List.map_cons,List.map_cons,show U++mvT m b t::T.map (mvT m b)=U++[mvT m b t]++T.map (mvT m b) by simp];refine cQ (ρ1:=[a0,a1,a2,a3,.lst [.int s0,.int b],a5,a6,.int m,.lst (U.map bL),enP t.1,enP t.2,a11]) (ρ2:=[a0,a1,a2,a3,.lst [.int s0,.int b],a5,a6,.int m,.lst ((U++[mvT m b t]).map bL),enP (mv m b t.1),enP (mv m b t.2),a11]) rfl ?_ e;refine aQ (ρ':=[a0,a1,a2,a3,.lst [.int s0,.int b],a5,a6,.int m,.lst (U.map bL),enP (mv m b t.1),enP t.2,a11]) (cA (aV (xs:=[enP t.1,.int m,.int b]) (aB rfl (aB rfl (aB rfl rfl))) ((cL rfl).trans (zX _ _ _)))) ?_;refine aQ (ρ':=[a0,a1,a2,a3,.lst [.int s0,.int b],a5,a6,.int m,.lst (U.map bL),enP (mv m b t.1),enP (mv m b t.2),a11]) (cA (aV (xs:=[enP t.2,.int m,.int b]) (aB rfl (aB rfl (aB rfl rfl))) ((cL rfl).trans (zX _ _ _)))) ?_;have:=o9 (i:=8) (f:=iY (aD (aY (cO .lt) (aD (aH 9) (aD (aH 10) (aZ)))) (aD (aY (cO .gt) (aD (aH 9) (aD (aH 10) (aZ)))) (aZ)))) (ρ:=[a0,a1,a2,a3,.lst [.int s0,.int b],a5,a6,.int m,.lst (U.map bL),enP (mv m b t.1),enP (mv m b t.2),a11]) (xs:=U.map bL) (d:=bL (mvT m b t)) (fO (aB (aV (xs:=[enP (mv m b t.1),enP (mv m b t.2)]) (aB rfl (aB rfl rfl)) (FN .lt (mv m b t.1) (mv m b t.2) ltP vG)) (aB (aV (xs:=[enP (mv m b t.1),enP (mv m b t.2)]) (aB rfl (aB rfl rfl)) (FN .gt (mv m b t.1) (mv m b t.2) (fun a b=>ltP b a) MN)) rfl)) (by rw [bH];simp)) rfl (by rw [List.length_map,bH];lia) rfl;rw [this];simp
theorem aBu {a:FT} {ρ:List D} (h:a ρ=.ok true):YQ a ρ=.ok false:=by
 unfold YQ;rw [h];rfl
theorem aDy {a:FE} {ρ:List D} (h:a ρ=.ok (.bl true)):bTr a ρ=.ok true:=by
 unfold bTr;rw [h];rfl
theorem aBv {a b:FE} {ρ:List D} (h1:a ρ=.ok (.bl true)) (h2:b ρ=.ok (.bl true)):rO a b ρ=.ok (.bl true):=by
 unfold rO;rw [h1];exact h2
theorem main:∀ns:List Int,ns.length<=63->D_ [.scr (ns.map D.int)]=.ok (.bl true):=fun ns _=>by
 obtain ⟨s,hs0,hs1,eh⟩:=YH ns;have H0:Hand ns (hd 0 s ns):=⟨⟨0,s,rfl,by lia,hs0,hs1⟩⟩
 obtain ⟨N,h1,H1,hN,e1⟩:=RM ns H0;obtain ⟨kvs,h2,H2,hK,e2⟩:=RN ns H1 hN;obtain ⟨z0,h3,H3,za0,za1,e3⟩:=eY ns H2 (m:=10) (by lia);obtain ⟨z1,h4,H4,zb0,zb1,e4⟩:=eY ns H3 (m:=9) (by lia);obtain ⟨st,h5,H5,st0,st1,e5⟩:=eY ns H4 (m:=8) (by lia);have hN0:0<N.length:=by
  obtain ⟨a,b,c,d,rfl,_⟩:=hN.ex;simp
 let sc:D:=.scr (ns.map D.int)
 -- the sizes
 have size:∃y0 y1:Int,0<=y0/\y0<=30/\0<=y1/\y1<=40/\sIf (bTB (b2 (d7 (.ord .lt)) (aH 5) (bC (.int 2)))) (wW 4 (aH 5) (b2 getD (wG (aD (bC (.int 30)) (aD (bC (.int 40)) (aZ)))) (aH 5))) (pO) [sc,.lst h5,.lst (N.map D.str),.dct kvs,.lst [.int z0,.int z1],.int st,.uDf,.uDf,.uDf,.uDf,.uDf,.uDf]=.ok (.nx [sc,.lst h5,.lst (N.map D.str),.dct kvs,.lst [.int y0,.int y1],.int st,.uDf,.uDf,.uDf,.uDf,.uDf,.uDf]):=by
  have cond:bTB (b2 (d7 (.ord .lt)) (aH 5) (bC (.int 2))) [sc,.lst h5,.lst (N.map D.str),.dct kvs,.lst [.int z0,.int z1],.int st,.uDf,.uDf,.uDf,.uDf,.uDf,.uDf]=.ok (decide (st<2)):=j9 (aP rfl rfl (qK _ _));by_cases h:st<2
  ·have:st=0\/st=1:=by lia
   rcases this with rfl|rfl
   ·exact ⟨30,z1,by lia,by lia,zb0,by lia,O5 (by rw [cond];rfl) (pK (j:=0) (xs:=[.int z0,.int z1]) (d:=.int 30) (k:=0) rfl rfl rfl rfl rfl rfl)⟩
   ·exact ⟨z0,40,za0,by lia,by lia,by lia,O5 (by rw [cond];rfl) (pK (j:=1) (xs:=[.int z0,.int z1]) (d:=.int 40) (k:=1) rfl rfl rfl rfl rfl rfl)⟩
  ·exact ⟨z0,z1,za0,by lia,zb0,by lia,F_ (by rw [cond,decide_eq_false h]) rfl⟩
 obtain ⟨y0,y1,ya0,ya1,yb0,yb1,esz⟩:=size;obtain ⟨P,T,r,h6,H6,hNet,e6⟩:=aBn ns H5 hN0 hK ya0 ya1 yb0 yb1;obtain ⟨m,h7,H7,m0,m1,e7⟩:=eY ns H6 (m:=y1+1) (by lia);have hy:((y1.toNat:Nat):Int)=y1:=by lia
 obtain ⟨t1,t2,t3,t4⟩:=turns hNet r m m0 (by lia);rw [hy] at t1 t2 t4
 let T1:=gJ (T.map (mvT m y1))
 have hT1:T1.length=T.length:=by rw [(dI _).length_eq,List.length_map]
 have sh0:=T_ P T r (by have:=hNet.pl;lia) (by have:=hNet.sm;lia);have sh1:=T_ P T1 r (by have:=hNet.pl;lia) (by have:=hNet.sm;lia);obtain ⟨x9,x10,eL⟩:=zZ (a0:=sc) (a1:=.lst h7) (a2:=.lst (N.map D.str)) (a3:=.dct kvs) (a5:=.int st) (a6:=gH P T r) (a11:=.uDf) (s0:=y0) (b:=y1) (m:=m) T [] .uDf .uDf (by have:=hNet.sm;simp;lia);rw [List.nil_append] at eL;refine jY ?_;refine aQ (ρ':=[sc,.lst (hd 0 s ns),.uDf,.uDf,.uDf,.uDf,.uDf,.uDf,.uDf,.uDf,.uDf,.uDf]) (jE (d:=.lst (hd 0 s ns)) ?_ H0.aR) ?_
 ·unfold aD9;rw [show aY (j6 1 fQ) (aD (aH 0) (aZ)) ([.scr (ns.map D.int)]++List.replicate (12-1) .uDf)=.ok (.lst [.int 0,.int s,.lst (ns.map D.int)]) from aV (xs:=[.scr (ns.map D.int)]) (aB rfl rfl) ((cL rfl).trans eh),Res.aK];dsimp only;rw [aBq];rfl
 refine aQ (ρ':=[sc,.lst h1,.lst (N.map D.str),.uDf,.uDf,.uDf,.uDf,.uDf,.uDf,.uDf,.uDf,.uDf]) (iH (ρ':=[sc,.lst h1,.uDf,.uDf,.uDf,.uDf,.uDf,.uDf,.uDf,.uDf,.uDf,.uDf]) (jJ (rest:=[.int 4]) ?_ ?_ rfl e1 H1.aR ?_) rfl) ?_
 ·exact aB (jK rfl rfl) rfl
 ·rfl
 ·rfl
 refine aQ (ρ':=[sc,.lst h2,.lst (N.map D.str),.dct kvs,.uDf,.uDf,.uDf,.uDf,.uDf,.uDf,.uDf,.uDf]) (iH (ρ':=[sc,.lst h2,.lst (N.map D.str),.uDf,.uDf,.uDf,.uDf,.uDf,.uDf,.uDf,.uDf,.uDf]) (jJ (rest:=[.lst (N.map D.str)]) ?_ ?_ rfl e2 H2.aR ?_) rfl) ?_
 ·exact aB rfl rfl
 ·rfl
 ·rfl
 refine aQ (ρ':=[sc,.lst h4,.lst (N.map D.str),.dct kvs,.lst [.int z0,.int z1],.uDf,.uDf,.uDf,.uDf,.uDf,.uDf,.uDf]) (zR (d:=.lst [.int z0,.int z1]) (ρ':=[sc,.lst h4,.lst (N.map D.str),.dct kvs,.uDf,.uDf,.uDf,.uDf,.uDf,.uDf,.uDf,.uDf]) (X5 (tM (ρ1:=[sc,.lst h3,.lst (N.map D.str),.dct kvs,.uDf,.uDf,.uDf,.uDf,.uDf,.uDf,.uDf,.uDf]) (x:=.int z0) (vH H3 e3 ?_ ?_ ?_) (tM (ρ1:=[sc,.lst h4,.lst (N.map D.str),.dct kvs,.uDf,.uDf,.uDf,.uDf,.uDf,.uDf,.uDf,.uDf]) (x:=.int z1) (vH H4 e4 ?_ ?_ ?_) rfl rfl) rfl) (by rw [bH];simp) rfl) rfl rfl) ?_
 ·exact aB (jK rfl rfl) rfl
 ·rfl
 ·rfl
 ·exact aB (jK rfl rfl) rfl
 ·rfl
 ·rfl
 refine lM (ρ2:=[sc,.lst h5,.lst (N.map D.str),.dct kvs,.lst [.int z0,.int z1],.int st,.uDf,.uDf,.uDf,.uDf,.uDf,.uDf]) H5 e5 (aB (jK rfl rfl) rfl) rfl rfl ?_;refine aQ esz ?_;refine aQ (ρ':=[sc,.lst h6,.lst (N.map D.str),.dct kvs,.lst [.int y0,.int y1],.int st,gH P T r,.uDf,.uDf,.uDf,.uDf,.uDf]) (iH (ρ':=[sc,.lst h6,.lst (N.map D.str),.dct kvs,.lst [.int y0,.int y1],.int st,.uDf,.uDf,.uDf,.uDf,.uDf,.uDf]) (jJ (rest:=[.dct kvs,.lst (N.map D.str),.int y0,.int y1]) ?_ ?_ rfl e6 H6.aR ?_) rfl) ?_
 ·exact aB rfl (aB rfl (aB (jK (aP rfl rfl rfl) rfl) (aB (jK (aP rfl rfl rfl) rfl) rfl)))
 ·rfl
 ·rfl
 refine lM (ρ2:=[sc,.lst h7,.lst (N.map D.str),.dct kvs,.lst [.int y0,.int y1],.int st,gH P T r,.int m,.uDf,.uDf,.uDf,.uDf]) H7 e7 (aB (jK (aP (x:=.int y1) (aP rfl rfl rfl) rfl (dX _ _)) rfl) rfl) rfl rfl ?_;refine aQ (ρ':=[sc,.lst h7,.lst (N.map D.str),.dct kvs,.lst [.int y0,.int y1],.int st,gH P T r,.int m,.lst [],.uDf,.uDf,.uDf]) (jE rfl rfl) ?_;refine aQ (ρ':=[sc,.lst h7,.lst (N.map D.str),.dct kvs,.lst [.int y0,.int y1],.int st,gH P T r,.int m,.lst ((T.map (mvT m y1)).map bL),x9,x10,.uDf]) (uO (xs:=T.map bL) ?_ eL) ?_
 ·have:(D.tup (T.map bL)).pure=true:=pH T;show Res.ok (T.map bL,false||(D.tup (T.map bL)).pure)=_;rw [this];rfl
 refine aQ (ρ':=[sc,.lst h7,.lst (N.map D.str),.dct kvs,.lst [.int y0,.int y1],.int st,gH P T r,.int m,.lst ((T.map (mvT m y1)).map bL),x9,x10,gH P T1 r]) (cA (aV (xs:=[gH P T r,.int m]) (aB rfl (aB rfl rfl)) ((cL rfl).trans t1))) ?_;refine aQ (ρ':=[sc,.lst h7,.lst (N.map D.str),.dct kvs,.lst [.int y0,.int y1],.int st,gH P T r,.int m,.lst ((T.map (mvT m y1)).map bL),x9,x10,gH P T1 r]) (F_ (aBu (aDy (aV (xs:=[gH P T1 r,gH P T1 r]) (aB rfl (aB (fO (aB (x:=.tup (P.map pcD)) rfl (aB (x:=.tup (T1.map bL)) (aV (xs:=[.lst (T1.map bL)]) (aB (aV (xs:=[.lst ((T.map (mvT m y1)).map bL)]) (aB rfl rfl) (tK _)) rfl) rfl) (aB (x:=.int r) rfl rfl))) (by rw [bH];simp)) rfl)) ((cL rfl).trans (pN 6 _ sh1))))) rfl) ?_;refine aQ (ρ':=[sc,.lst h7,.lst (N.map D.str),.dct kvs,.lst [.int y0,.int y1],.int st,gH P T r,.int m,.lst ((T.map (mvT m y1)).map bL),x9,x10,gH P T1 r]) (F_ (aBu (aDy (aV (xs:=[gH P T r,gH P T r]) (aB (aV (xs:=[gH P T1 r,.int (y1-m)]) (aB rfl (aB (aP (x:=.int y1) (y:=.int m) (aP rfl rfl rfl) rfl (mX _ _)) rfl)) ((cL rfl).trans t2)) (aB rfl rfl)) ((cL rfl).trans (pN 6 _ sh0))))) rfl) ?_;refine gQ (aBv (aV (xs:=[gH P T r,gH P T r]) (aB (aV (xs:=[gH P T r,.int 0]) (aB rfl (aB rfl rfl)) ((cL rfl).trans t3)) (aB rfl rfl)) ((cL rfl).trans (pN 6 _ sh0))) (aV (xs:=[gH P T r,gH P T r]) (aB (aV (xs:=[gH P T r,.int y1]) (aB rfl (aB (aP rfl rfl rfl) rfl)) ((cL rfl).trans t4)) (aB rfl rfl)) ((cL rfl).trans (pN 6 _ sh0)))) rfl
end Lk21
end
section
open PySem PySem.W PyProof.Rows
def PySem.W.Fast.tw15737242185982517690 : Unit:=()
def PySem.W.Fast.tw12172755004965158332 : Unit:=()
def PySem.W.Fast.tw9242161724525991839 : Unit:=()
def PySem.W.Fast.tw10413443729401561191 : Unit:=()
def PySem.W.Fast.tw14870213493931967139 : Unit:=()
def PySem.W.Fast.tw6065148471308348048 : Unit:=()
def PySem.W.Fast.tw11943289017564806081 : Unit:=()
def PySem.W.Fast.tw154961320894211899 : Unit:=()
def PySem.W.Fast.tw7101312754506361996 : Unit:=()
set_option maxRecDepth 100000 in
set_option maxHeartbeats 0 in
theorem PySem.Challenge.cw_hookmill_k21_turned_holds : PySem.Challenge.rw_hookmill_k21_turned.Holds := by
 w_on;o_law;k_head;(case hw=>w_witness2)
 k_fill
 refine Lk21.walk (l:=PySem.Challenge.rw_hookmill_k21_turned) Lk21.main rfl rfl (fun w h Y=>PySem.W.kIn_of Y) ?F
 case F=>
  intro w mg fa h KX G hmg
  refine' Lk21.aBb KX G hmg ?a0 ?l0 ?c0 ?k0 ?a1 ?l1 ?c1 ?k1 ?a2 ?l2 ?c2 ?k2 ?a3 ?l3 ?c3 ?k3 ?a4 ?l4 ?c4 ?k4 ?a5 ?l5 ?c5 ?k5 ?a6 ?l6 ?c6 ?k6 ?a7 ?l7 ?c7 ?k7 ?a8 ?l8 ?c8 ?k8 ?a9 ?l9 ?c9 ?k9 ?a10 ?l10 ?c10 ?k10 ?a11 ?l11 ?c11 ?k11 ?a12 ?l12 ?c12 ?k12 ?a13 ?l13 ?c13 ?k13 ?a14 ?l14 ?c14 ?k14 ?a15 ?l15 ?c15 ?k15 ?z_len ?z_min ?z_max ?z_list ?z_tuple ?z_sorted ?z_range ?z_isinstance ?z_int ?z_bool ?z_str ?z_dict ?z_all ?z_enumerate ?z_sum ?z_zip ?z_abs ?z_reversed
  (case a0=>k_is)
  (case l0=>k_is)
  (case c0=>k_is)
  (case k0=>k_is)
  (case a1=>k_is)
  (case l1=>k_is)
  (case c1=>k_is)
  (case k1=>k_is)
  (case a2=>k_is)
  (case l2=>k_is)
  (case c2=>k_is)
  (case k2=>k_is)
  (case a3=>k_is)
  (case l3=>k_is)
  (case c3=>k_is)
  (case k3=>k_is)
  (case a4=>k_is)
  (case l4=>k_is)
  (case c4=>k_is)
  (case k4=>k_is)
  (case a5=>k_is)
  (case l5=>k_is)
  (case c5=>k_is)
  (case k5=>k_is)
  (case a6=>k_is)
  (case l6=>k_is)
  (case c6=>k_is)
  (case k6=>k_is)
  (case a7=>k_is)
  (case l7=>k_is)
  (case c7=>k_is)
  (case k7=>k_is)
  (case a8=>k_is)
  (case l8=>k_is)
  (case c8=>k_is)
  (case k8=>k_is)
  (case a9=>k_is)
  (case l9=>k_is)
  (case c9=>k_is)
  (case k9=>k_is)
  (case a10=>k_is)
  (case l10=>k_is)
  (case c10=>k_is)
  (case k10=>k_is)
  (case a11=>k_is)
  (case l11=>k_is)
  (case c11=>k_is)
  (case k11=>k_is)
  (case a12=>k_is)
  (case l12=>k_is)
  (case c12=>k_is)
  (case k12=>k_is)
  (case a13=>k_is)
  (case l13=>k_is)
  (case c13=>k_is)
  (case k13=>k_is)
  (case a14=>k_is)
  (case l14=>k_is)
  (case c14=>k_is)
  (case k14=>k_is)
  (case a15=>k_is)
  (case l15=>k_is)
  (case c15=>k_is)
  (case k15=>k_is)
  (case z_len=>k_is)
  (case z_min=>k_is)
  (case z_max=>k_is)
  (case z_list=>k_is)
  (case z_tuple=>k_is)
  (case z_sorted=>k_is)
  (case z_range=>k_is)
  (case z_isinstance=>k_is)
  (case z_int=>k_is)
  (case z_bool=>k_is)
  (case z_str=>k_is)
  (case z_dict=>k_is)
  (case z_all=>k_is)
  (case z_enumerate=>k_is)
  (case z_sum=>k_is)
  (case z_zip=>k_is)
  (case z_abs=>k_is)
  (case z_reversed=>k_is)
end
