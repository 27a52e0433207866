import PyProof.Rows.All
import Wide.All
import OpenK.AllK
import Wide.FinOn
import PyProof.EqAt
import PyProof.EqKinds
import PyProof.TupleCall
import Lean
import PyProof.Rows.SortRuns
import PySem.Syntax
import PyProof.NeKinds
import PyProof.WalkInts
import KE.KDictList
import PyProof.CompUse
import PyProof.StrWalks
import PyProof.EnumMake
import PyProof.EnumFor
import PyProof.StrCalls2
import PyProof.StrBlock2
import PyProof.StrBlockI
import PyProof.SliceStr2
import PyProof.ConsumeWalk
import PyProof.StrLawsJoin
import KE.KTryMore
import KE.KTryDeep
import OpenK.KOwn
import PyProof.ExcClass3
import KE.KIsAll
import PyProof.ExcArgsOwn
import PyProof.NsDelKeeps
import PyProof.ListRange
import PyProof.DictWalks
import KE.KEqDict
import PyProof.Rows.TupAdd
import PyProof.DictIter
import PyProof.AttrMissHeap
import PyProof.ZipIter
import PyProof.TupleIter
import PyProof.WalksMore
import PyProof.FactsAll.zip
import KE.KDictOf
import PyProof.Conv_int
import PyProof.Conv_int_bool
import PyProof.DictRoadsH
import PyProof.DictList
import KE.KDictSum
import PyProof.TupleOfSeq
import PySem.Challenge.RW_hookmill_k06_hooked
set_option Elab.async false
set_option maxRecDepth 100000
set_option maxHeartbeats 4000000
set_option linter.all false
set_option autoImplicit false
set_option genSizeOfSpec false
set_option genInjectivity true
section
namespace L2
open PySem PySem.Spec PyProof.Rows
noncomputable abbrev Key:=Sum Int Str
noncomputable def JB:Key->Value->Bool
 | .inl k,v=>Value.isInt k v
 | .inr x,v=>Value.isStrOf x v
noncomputable def aFt (w:World):Key->Int
 | .inl k=>hashInt k
 | .inr x=>hashStr w x
theorem cG:∀{k:Key} {v:Value},JB k v=true->(∃i t,k=Sum.inl i/\v=Value.int i t)\/(∃x t,k=Sum.inr x/\v=Value.str x t)
 | .inl i,v,h=>by
  obtain ⟨t,e⟩:=Value.isInt_shape (k:=i) (v:=v) h;exact .inl ⟨i,t,rfl,e⟩
 | .inr x,v,h=>by
  obtain ⟨t,e⟩:=Value.isStrOf_shape (x:=x) (v:=v) h;exact .inr ⟨x,t,rfl,e⟩
theorem LQ (i:Int) (t:Tok):JB (.inl i) (.int i t)=true:=by simp [JB,Value.isInt]
theorem LR (x:Str) (t:Tok):JB (.inr x) (.str x t)=true:=by simp [JB,Value.isStrOf]
theorem aBs (a b:Int):decide ((Sum.inl a:Key)=Sum.inl b)=(a==b):=by
 by_cases e:a=b
 ·subst e;simp
 ·have h:¬(Sum.inl a:Key)=Sum.inl b:=fun q=>e (Sum.inl.inj q)
  rw [decide_eq_false h];exact (beq_eq_false_iff_ne.mpr e).symm
theorem aBt (a b:Str):decide ((Sum.inr a:Key)=Sum.inr b)=decide (a=b):=by
 by_cases e:a=b
 ·subst e;simp
 ·have h:¬(Sum.inr a:Key)=Sum.inr b:=fun q=>e (Sum.inr.inj q)
  rw [decide_eq_false h,decide_eq_false e]
theorem aBu (a:Int) (b:Str):decide ((Sum.inl a:Key)=Sum.inr b)=false:=decide_eq_false (fun q=>nomatch q)
theorem aBv (a:Str) (b:Int):decide ((Sum.inr a:Key)=Sum.inl b)=false:=decide_eq_false (fun q=>nomatch q)
noncomputable def cU (prog:Program) (w:World):PySem.KeyKind prog w Key where
 is:=JB
 hash:=aFt w
 inj:=fun v a b ha hb=>by
  rcases cG ha with ⟨i,t,rfl,rfl⟩|⟨x,t,rfl,rfl⟩
  ·rcases cG hb with ⟨j,u,rfl,e⟩|⟨y,u,rfl,e⟩
   ·injection e with e1 _;rw [e1]
   ·exact nomatch e
  ·rcases cG hb with ⟨j,u,rfl,e⟩|⟨y,u,rfl,e⟩
   ·exact nomatch e
   ·injection e with e1 _;rw [e1]
 byValue:=fun k v h=>by
  rcases cG h with ⟨i,t,rfl,rfl⟩|⟨x,t,rfl,rfl⟩ <;> rfl
 pyHash:=fun hv h=>by
  rcases cG hv with ⟨i,t,rfl,rfl⟩|⟨x,t,rfl,rfl⟩
  ·exact wpAny_pyHash_int h
  ·exact wpAny_pyHash_str h
 eqBool:=fun hu hv h=>by
  rcases cG hu with ⟨i,t,rfl,rfl⟩|⟨x,t,rfl,rfl⟩
  ·rcases cG hv with ⟨j,u,rfl,rfl⟩|⟨y,u,rfl,rfl⟩
   ·rw [aBs] at h;exact wpAny_eqBool_int h
   ·rw [aBu] at h;exact SeqAt.EqAt.int_str i t y u _ _ _ _ h
  ·rcases cG hv with ⟨j,u,rfl,rfl⟩|⟨y,u,rfl,rfl⟩
   ·rw [aBv] at h;exact SeqAt.EqAt.str_int x t j u _ _ _ _ h
   ·rw [aBt] at h;exact wpAny_eqBool_str h
 «strs»:=fun k x t v h=>by
  rcases cG h with ⟨i,u,rfl,e⟩|⟨y,u,rfl,e⟩
  ·exact nomatch e
  ·injection e with e1 _
   subst e1;cases v <;> rfl
theorem zO (prog:Program) (w:World) (i:Int) (t:Tok):(cU prog w).is (.inl i) (.int i t)=true:=LQ i t
theorem zP (prog:Program) (w:World) (x:Str) (t:Tok):(cU prog w).is (.inr x) (.str x t)=true:=LR x t
end L2
namespace L2
open PySem PySem.Spec PyProof.Rows
inductive V where
 | non|bl (b:Bool)|int (i:Int)|str (x:Str)|byt (b:Array UInt8)|flt (b:UInt64)|ref (a:Addr)|ty (n:String)
 deriving DecidableEq
noncomputable def RelV:V->Value->Prop
 | .non,u=>u=Value.none
 | .bl b,u=>u=Value.bool b
 | .int i,u=>∃t,u=Value.int i t
 | .str x,u=>∃t,u=Value.str x t
 | .byt b,u=>∃t,u=Value.bytes b t
 | .flt b,u=>∃t,u=Value.float b t
 | .ref a,u=>u=Value.ref a
 | .ty n,u=>u=Value.type n
noncomputable abbrev Vals:List V->List Value->Prop:=Paired RelV
theorem Vals.length {xs:List V} {us:List Value} (r:Vals xs us):xs.length=us.length:=Paired.length r
theorem Vals.get:∀{xs:List V} {us:List Value} {i:Nat} {x:V},Vals xs us->xs[i]?=some x->∃u,us[i]?=some u/\RelV x u
 | _,_,_,_,.nil,e=>by simp at e
 | _,_,0,_,.cons r _,e=>by simp at e;subst e;exact ⟨_,rfl,r⟩
 | _,_,i+1,x,.cons _ t,e=>by
  obtain ⟨u,h1,h2⟩:=Vals.get (i:=i) (x:=x) t (by simpa using e);exact ⟨u,by simpa using h1,h2⟩
theorem Vals.append:∀{xs ys:List V} {us ws:List Value},Vals xs us->Vals ys ws->Vals (xs++ys) (us++ws)
 | _,_,_,_,.nil,s=>s
 | _,_,_,_,.cons r t,s=>.cons r (Vals.append t s)
theorem Vals.take:∀{xs:List V} {us:List Value} (n:Nat),Vals xs us->Vals (xs.take n) (us.take n)
 | _,_,0,_=>.nil
 | _,_,_+1,.nil=>.nil
 | _,_,n+1,.cons r t=>.cons r (Vals.take n t)
theorem Vals.drop:∀{xs:List V} {us:List Value} (n:Nat),Vals xs us->Vals (xs.drop n) (us.drop n)
 | _,_,0,r=>r
 | _,_,_+1,.nil=>.nil
 | _,_,n+1,.cons _ t=>Vals.drop n t
noncomputable def T8:Option V->Option Value->Prop
 | some v,some u=>RelV v u
 | none,none=>True
 | _,_=>False
noncomputable def KV {κ:Type}:List (κ×V)->List (κ×Value)->Prop:=Paired fun (p:κ×V) (q:κ×Value)=>p.1=q.1/\RelV p.2 q.2
noncomputable def kV:Key->V
 | .inl i=>.int i
 | .inr x=>.str x
inductive HO where
 | lst (xs:List V)
 | tup (xs:List V)
 | dK (kvs:List (Key×V))|dT (kvs:List (List Key×V))
 | set (S:Int->Bool) (n:Nat)
 | ins (C dx:Addr) (fs:List (Str×V))
 | own (x:Addr)
 | xd (fs:List (Str×V))
 | met (f x:Addr)
 | rng (lo hi:Int)
 | frz (o:Obj) (u:HO)
 | tbl (ps:Array Value)
 | ext (φ:Heap->Prop)
noncomputable abbrev Hp:=Addr->Option HO
noncomputable def upd (H:Hp) (a:Addr) (o:HO):Hp:=fun b=>if b=a then some o else H b
theorem aJ {H:Hp} {a:Addr} {o:HO}:upd H a o a=some o:=by unfold upd;rw [if_pos rfl]
theorem aX {H:Hp} {a b:Addr} {o:HO} (h:b≠a):upd H a o b=H b:=by unfold upd;rw [if_neg h]
theorem zQ {H:Hp} {a:Addr} {o u:HO}:upd (upd H a o) a u=upd H a u:=by
 funext b;unfold upd;split <;> rfl
theorem UT {H:Hp} {a b:Addr} {o u:HO} (h:H a=some o) (h':H b=some u) (d:o≠u):a≠b:=by
 intro e;subst e;rw [h] at h';exact d (Option.some.inj h')
theorem bJ {H:Hp} {a b:Addr} {o:HO} (h:H a=some o) (h':H b=none):a≠b:=by
 intro e;subst e;rw [h] at h';cases h'
noncomputable def j5 (h:Heap) (a:Addr) (its:Array Value):Prop:=∃o,h.get? a=some o/\o.cls=.type "tuple"/\∃n,(o.data,o.dict)=(Data.seq its n,none)
theorem j5.tup {h:Heap} {a:Addr} {its:Array Value} (t:j5 h a its):IsTup h a its:=let ⟨o,e,c,n,d⟩:=t;⟨o,e,c,n,congrArg (·.1) d⟩
theorem j5.bare {h:Heap} {a:Addr} {its:Array Value} (t:j5 h a its):∃o,h.get? a=some o/\o.dict=none:=let ⟨o,e,_,_,d⟩:=t;⟨o,e,congrArg (·.2) d⟩
theorem j5.new (h:Heap) (items:Array Value):j5 (h.push {cls:=.type "tuple",data:=.seq items}) h.objs.size items:=⟨_,Heap.get?_push_size _ rfl,rfl,_,rfl⟩
section
variable (P:Program) (w:World)
noncomputable def gR (H:Hp) (h:Heap) (a:Addr):HO->Prop
 | .lst xs=>xs.length<=sizeLine/\∃(its:List Value) (n:Nat),Vals xs its/\h.get? a=some {cls:=.type "list",data:=.seq its.toArray n}
 | .tup xs=>xs.length<=sizeLine/\∃its:List Value,Vals xs its/\j5 h a its.toArray
 | .dK kvs=>kvs.length<=sizeLine/\(a==sysModules)=false/\∃vs,KV kvs vs/\h.DictOf (cU P w) a vs
 | .dT kvs=>kvs.length<=sizeLine/\(a==sysModules)=false/\∃xs:List (List Key×Addr×Value),
   Paired (fun (p:List Key×V) (q:List Key×Addr×Value)=>p.1=q.1/\H q.2.1=some (.tup (p.1.map kV))/\RelV p.2 q.2.2) kvs xs/\
   ∃o es ep,h.get? a=some o/\o.ExactDict/\o.data=.dict es ep/\es.toList=xs.map (entryOfKey (tupleKind (cU P w)))/\(xs.map (·.1)).Nodup
 | .set S n=>h.SetOf (intKind P w) a S n
 | .ins C dx fs=>H dx=some (.own a)/\fs.length<=1000/\dx≠a/\h.get? a=some (PySem.W.instObj C dx)/\
   ∃mA,h.Ns1 dx mA/\(∀f,T8 (fs.lookup f) (mA f))/\PySem.Within mA (fs.map (·.1))
 | .own _=>∃o,h.get? a=some o
 | .xd fs=>∃mA,h.Ns1 a mA/\∀f,T8 (fs.lookup f) (mA f)
 | .rng lo hi=>∃t u v,h.get? a=some {cls:=.type "range",data:=.fields #[.int lo t,.int hi u,.int 1 v]}
 | .frz o u=>h.get? a=some o/\gR H h a u
 | .tbl ps=>h.get? a=some {cls:=.none,data:=.fields ps}
 | .met f x=>h.get? a=some (PySem.W.methodObj (.ref f) (.ref x))
 | .ext φ=>φ h/\(∃o,h.get? a=some o)/\∀h1 h2:Heap,φ h1->(∀o,h1.get? a=some o->h2.get? a=some o)->φ h2
noncomputable def HOk (H:Hp) (h:Heap):Prop:=∀a o,H a=some o->gR P w H h a o
end
section
variable {P:Program} {w:World} {H H':Hp} {h h':Heap} {a:Addr} {o:HO}
theorem gR.lt (x:gR P w H h a o):a<h.objs.size:=by
 cases o with
 | lst xs=>obtain ⟨_,_,_,_,e⟩:=x;exact Heap.lt_size e
 | tup xs=>obtain ⟨_,_,_,p⟩:=x;exact p.tup.lt
 | dK kvs=>obtain ⟨_,_,_,_,o,_,_,e,_⟩:=x;exact Heap.lt_size e
 | dT kvs=>obtain ⟨_,_,_,_,o,_,_,e,_⟩:=x;exact Heap.lt_size e
 | set S n=>obtain ⟨o,_,_,_,e,_⟩:=x;exact Heap.lt_size e
 | ins C dx fs=>obtain ⟨_,_,_,e,_⟩:=x;exact Heap.lt_size e
 | own y=>obtain ⟨_,e⟩:=x;exact Heap.lt_size e
 | xd fs=>obtain ⟨_,⟨_,_,_,e,_⟩,_⟩:=x;exact Heap.lt_size e
 | rng lo hi=>obtain ⟨_,_,_,e⟩:=x;exact Heap.lt_size e
 | frz ob u=>obtain ⟨e,_⟩:=x;exact Heap.lt_size e
 | tbl ps=>exact Heap.lt_size (show h.get? a=some _ from x)
 | met f y=>exact Heap.lt_size (show h.get? a=some _ from x)
 | ext φ=>obtain ⟨_,⟨_,e⟩,_⟩:=x;exact Heap.lt_size e
theorem Paired.aE7 {α β:Type} {F G:α->β->Prop}:∀{l₁:List α} {l₂:List β},Paired F l₁ l₂->(∀a b,F a b->G a b)->Paired G l₁ l₂
 | _,_,.nil,_=>.nil
 | _,_,.cons r t,f=>.cons (f _ _ r) (Paired.aE7 t f)
theorem gR.stay (x:gR P w H h a o) (k:∀b u,(b=a\/H b=some (.own a))->h.get? b=some u->h'.get? b=some u)
  (ho:∀b,H b=some (.own a)->H' b=some (.own a)) (ht:∀b xs,H b=some (.tup xs)->H' b=some (.tup xs)):gR P w H' h' a o:=by
 induction o with
 | lst xs=>obtain ⟨z,its,n,r,e⟩:=x;exact ⟨z,its,n,r,k _ _ (.inl rfl) e⟩
 | tup xs=>obtain ⟨z,its,r,ob,e,c⟩:=x;exact ⟨z,its,r,ob,k _ _ (.inl rfl) e,c⟩
 | dK kvs=>obtain ⟨z,y,vs,r,ob,es,ep,e,c⟩:=x;exact ⟨z,y,vs,r,ob,es,ep,k _ _ (.inl rfl) e,c⟩
 | dT kvs=>
  obtain ⟨z,y,xs,r,ob,es,ep,e,c⟩:=x;exact ⟨z,y,xs,Paired.aE7 r fun p q z=>⟨z.1,ht _ _ z.2.1,z.2.2⟩,ob,es,ep,k _ _ (.inl rfl) e,c⟩
 | set S n=>obtain ⟨ob,es,ep,t,e,c⟩:=x;exact ⟨ob,es,ep,t,k _ _ (.inl rfl) e,c⟩
 | ins C dx fs=>
  obtain ⟨d,z,ne,e,mA,⟨od,es,ep,e2,c⟩,r⟩:=x;exact ⟨ho _ d,z,ne,k _ _ (.inl rfl) e,mA,⟨od,es,ep,k _ _ (.inr d) e2,c⟩,r⟩
 | own y=>obtain ⟨ob,e⟩:=x;exact ⟨ob,k _ _ (.inl rfl) e⟩
 | xd fs=>obtain ⟨mA,⟨od,es,ep,e,c⟩,r⟩:=x;exact ⟨mA,⟨od,es,ep,k _ _ (.inl rfl) e,c⟩,r⟩
 | rng lo hi=>obtain ⟨t,u,v,e⟩:=x;exact ⟨t,u,v,k _ _ (.inl rfl) e⟩
 | frz ob u ih=>obtain ⟨e,q⟩:=x;exact ⟨k _ _ (.inl rfl) e,ih q⟩
 | tbl ps=>
  have e:h.get? a=some {cls:=.none,data:=.fields ps}:=x;show h'.get? a=some {cls:=.none,data:=.fields ps};exact k a _ (.inl rfl) e
 | met f y=>
  have e:h.get? a=some (PySem.W.methodObj (.ref f) (.ref y)):=x;show h'.get? a=some (PySem.W.methodObj (.ref f) (.ref y));exact k a _ (.inl rfl) e
 | ext φ=>obtain ⟨p,⟨o,e⟩,st⟩:=x;exact ⟨st _ _ p fun o q=>k _ _ (.inl rfl) q,⟨o,k _ _ (.inl rfl) e⟩,st⟩
theorem HOk.lt (x:HOk P w H h) (e:H a=some o):a<h.objs.size:=(x a o e).lt
theorem HOk.fresh (x:HOk P w H h) (e:h.objs.size<=a):H a=none:=by
 cases q:H a with
 | none=>rfl
 | some u=>exact absurd (Nat.lt_of_lt_of_le (x.lt q) e) (Nat.lt_irrefl _)
theorem HOk.kept (x:HOk P w H h) (k:∀b u,h.get? b=some u->h'.get? b=some u):HOk P w H h':=fun a o e=>
 (x a o e).stay (fun b u _ q=>k b u q) (fun _ q=>q) fun _ _ q=>q
theorem HOk.laid (x:HOk P w H h) (k:∀b u,h.get? b=some u->h'.get? b=some u) (hp:h.objs.size<=a) (new:gR P w (upd H a o) h' a o):HOk P w (upd H a o) h':=fun b u e=>by
 have hn:=x.fresh hp;by_cases hb:b=a
 ·subst hb;rw [aJ] at e;cases e;exact new
 ·rw [aX hb] at e;exact (x b u e).stay (fun c v _ q=>k c v q) (fun c q=>by rw [aX (bJ q hn)];exact q) fun c xs q=>by rw [aX (bJ q hn)];exact q
end
noncomputable def Rd (H:Hp) (a:Addr) (u:HO):Prop:=H a=some u\/∃o,H a=some (.frz o u)
theorem Rd.ok {P:Program} {w:World} {H:Hp} {h:Heap} {a:Addr} {u:HO} (r:Rd H a u) (x:HOk P w H h):gR P w H h a u:=by
 rcases r with r|⟨o,r⟩
 ·exact x a u r
 ·obtain ⟨_,q⟩:=x a _ r;exact q
noncomputable def Mut:Option HO->Prop
 | some (.lst _)=>True
 | some (.dK _)=>True
 | some (.dT _)=>True
 | some (.set _ _)=>True
 | some (.ins _ _ _)=>True
 | some (.ext _)=>True
 | _=>False
section
variable {P:Program} {w:World} {H:Hp} {h h':Heap} {x e:Addr} {o':HO}
theorem HOk.write (ok:HOk P w H h) (mu:Mut (H x)) (he:e=x\/H e=some (.own x)) (k:∀b u,b≠e->h.get? b=some u->h'.get? b=some u) (heo:∃u,h'.get? e=some u)
  (new:gR P w (upd H x o') h' x o'):HOk P w (upd H x o') h':=fun b u q=>by
 have nown:∀c y,H c=some (.own y)->c≠x:=fun c y r z=>by subst z;rw [r] at mu;exact mu
 have ntup:∀c xs,H c=some (.tup xs)->c≠x:=fun c xs r z=>by subst z;rw [r] at mu;exact mu
 by_cases hb:b=x
 ·subst hb;rw [aJ] at q;cases q;exact new
 ·rw [aX hb] at q;by_cases hbe:b=e
  ·have q':H b=some (.own x):=by
    rcases he with z|z
    ·exact absurd (hbe.trans z) hb
    ·rw [hbe];exact z
   rw [q] at q';cases q';obtain ⟨v,hv⟩:=heo;exact ⟨v,by rw [hbe];exact hv⟩
  ·refine (ok b u q).stay (fun c v hc r=>k c v ?_ r) (fun c r=>by rw [aX (nown c b r)];exact r) fun c xs r=>by rw [aX (ntup c xs r)];exact r
   rcases hc with rfl|hc
   ·exact hbe
   ·rintro rfl;rcases he with z|z
    ·exact nown c b hc z
    ·rw [hc] at z;cases z;exact hb rfl
end
structure Un (fs ex:List Addr) (H H':Hp) (h h':Heap):Prop where
 keep:∀b o,h.get? b=some o->H b=none->b∉fs->b∉ex->h'.get? b=some o
 slot:∀b o,h.get? b=some o->H b=none->b∈fs->b∉ex->∃sl,h'.get? b=some {o with slots:=sl}
 free:∀b o,h.get? b=some o->H b=none->b∉ex->H' b=none
 there:∀b o,h.get? b=some o->b∉ex->∃o',h'.get? b=some o'
 tups:∀b xs,H b=some (.tup xs)->H' b=some (.tup xs)
 frzs:∀b o u,H b=some (.frz o u)->H' b=some (.frz o u)
 tbls:∀b ps,H b=some (.tbl ps)->∃more,H' b=some (.tbl (ps++more))
section
variable {fs fs' ex ex':List Addr} {H H1 H2:Hp} {h h1 h2 h':Heap} {a x e:Addr} {o:HO}
theorem Un.any (u:Un fs ex H H1 h h1) {b:Addr} {ob:Obj} (q:h.get? b=some ob) (n:H b=none) (hx:b∉ex):∃sl,h1.get? b=some {ob with slots:=sl}:=by
 by_cases hb:b∈fs
 ·exact u.slot b ob q n hb hx
 ·exact ⟨ob.slots,u.keep b ob q n hb hx⟩
theorem Un.kept (k:∀b u,h.get? b=some u->h'.get? b=some u):Un fs ex H H h h':=
 ⟨fun b ob q _ _ _=>k b ob q,fun b ob q _ _ _=>⟨ob.slots,k b ob q⟩,fun _ _ _ n _=>n,fun b ob q _=>⟨ob,k b ob q⟩,fun _ _ q=>q,fun _ _ _ q=>q,fun _ ps q=>⟨#[],by rw [q];simp⟩⟩
theorem Un.refl:Un fs ex H H h h:=Un.kept fun _ _ q=>q
theorem Un.laid (k:∀b u,h.get? b=some u->h'.get? b=some u) (hp:h.objs.size<=a) (hn:H a=none):Un fs ex H (upd H a o) h h' where
 keep:=fun b u q _ _ _=>k b u q
 slot:=fun b u q _ _ _=>⟨u.slots,k b u q⟩
 free:=fun b u q n _=>by rw [aX (Nat.ne_of_lt (Nat.lt_of_lt_of_le (Heap.lt_size q) hp))];exact n
 there:=fun b u q _=>⟨u,k b u q⟩
 tups:=fun b xs q=>by rw [aX (bJ q hn)];exact q
 frzs:=fun b u xs q=>by rw [aX (bJ q hn)];exact q
 tbls:=fun b ps q=>⟨#[],by rw [aX (bJ q hn),q];simp⟩
theorem Un.write (mu:Mut (H x)) (he:e=x\/H e=some (.own x)) (k:∀b u,b≠e->h.get? b=some u->h'.get? b=some u) (heo:∃u,h'.get? e=some u):Un fs ex H (upd H x o) h h':=by
 have hx:∀b,H b=none->b≠x:=fun b n z=>by subst z;rw [n] at mu;exact mu
 have hb:∀b,H b=none->b≠e:=fun b n z=>by
  subst z;rcases he with r|r
  ·exact hx b n r
  ·rw [n] at r;cases r
 have hm:∀b u,H b=some u->¬Mut (some u)->b≠x:=fun b u q nm z=>by subst z;rw [q] at mu;exact nm mu
 refine ⟨fun b u q n _ _=>k b u (hb b n) q,fun b u q n _ _=>⟨u.slots,k b u (hb b n) q⟩,fun b u q n _=>by rw [aX (hx b n)];exact n,fun b u q _=>?_,
  fun b xs q=>by rw [aX (hm b _ q fun z=>z)];exact q,fun b u xs q=>by rw [aX (hm b _ q fun z=>z)];exact q,fun b ps q=>⟨#[],by rw [aX (hm b _ q fun z=>z),q];simp⟩⟩
 by_cases hbe:b=e
 ·subst hbe;exact heo
 ·exact ⟨u,k b u hbe q⟩
end
noncomputable def trk (h:Heap) (H:Hp):List Addr:=(List.range h.objs.size).filter fun a=>(H a).isSome
noncomputable def UV (h:Heap) (H:Hp):Heap:=PySem.W.hideAll h (trk h H)
theorem L_ (h:Heap) (H:Hp):(UV h H).objs.size=h.objs.size:=PySem.W.hideAll_size _ _
theorem UW {h:Heap} {H:Hp} {b:Addr} {o:Obj} (e:h.get? b=some o) (n:H b=none):(UV h H).get? b=some o:=
 PySem.W.hideAll_get _ e fun hm=>by
  have q:(H b).isSome=true:=(List.mem_filter.mp hm).2;rw [n] at q;simp at q
theorem ZW {h:Heap} {H:Hp} {b:Addr} {o:Obj} (e:(UV h H).get? b=some o):h.get? b=some o/\H b=none:=by
 have e':h.get? b=some o:=PySem.W.of_hideAll (trk h H) e;refine ⟨e',?_⟩;cases q:H b with
 | none=>rfl
 | some x=>
  have hm:b∈trk h H:=List.mem_filter.mpr ⟨List.mem_range.mpr (Heap.lt_size e'),by simp [q]⟩;have z:(UV h H).get? b=none:=PySem.W.hideAll_none (trk h H) hm;rw [z] at e;cases e
end L2
namespace L2
open PySem PySem.Spec PyProof.Rows
structure Mod (K:PySem.W.Frag) (mg:Str->Option Value) (base:Heap):Prop where
 kin:K.In base
 glob:base.Ns mainGlobals mg
 blt:∃mb,base.Ns builtinsNs mb/\∀x:Str,x ≠ "__name__"->mb x=bootBuiltins x
 nolimit:base.NoLimit
/-- the context: a def's body (or a comprehension's block) running. base: fixed through the whole law; s₀, H₀: the entry; outer: the frames whose slots others may change (a def's callers); stack: all frames that run;
   ex: iterators that were made ahead of the entry and are walked here (a comprehension's); fn: the names whose cells were made at the entry (a def: all; a comprehension's block: its own); calm: not within an except suite; pn: pins that every state bears; xe: what is wanted of an exception that leaves the code -/
structure Cx where
 prog:Program
 w:World
 K:PySem.W.Frag
 mg:Str->Option Value
 base:Heap
 A:Around
 N:List Str
 s₀:Shared
 H₀:Hp
 env:Env
 outer:List Env
 stack:List Env
 ex:List Addr
 fn:Str->Bool
 calm:Bool
 pn:List (Addr×Obj)
 xe:Value->Shared->Prop
noncomputable def frs (l:List Env):List Addr:=l.filterMap (·.frame)
noncomputable abbrev Cx.fs (X:Cx):List Addr:=frs X.outer
noncomputable def Vis (sc:Scope) (x:Str):Prop:=sc.names.lookup x=some .local\/sc.names.lookup x=some .cell\/sc.names.lookup x=some .free
noncomputable def Loc (sc:Scope) (x:Str):Prop:=sc.names.lookup x=some .local\/sc.names.lookup x=some .cell
noncomputable def Look (env:Env) (h:Heap) (m:Str->Option Value) (x:Str) (u:Value):Prop:=
 (env.kindOf x=some .local/\m x=some u)\/((env.kindOf x=some .cell\/env.kindOf x=some .free)/\∃c,env.cells.lookup x=some c/\h.IsCell c (some u))
structure Cx.Ok (X:Cx):Prop where
 mod:Mod X.K X.mg X.base
 kind:X.env.scope.kind=.function
 glob:X.env.globals=mainGlobals
 blt:X.env.builtins=builtinsNs
 above:X.s₀.heap.objs.size<=X.env.locals
 inj:∀x y c,X.env.cells.lookup x=some c->X.env.cells.lookup y=some c->x=y
 has:∀x,(X.env.kindOf x=some .cell\/X.env.kindOf x=some .free)->∃c,X.env.cells.lookup x=some c
 cab:∀x c,X.fn x=true->X.env.cells.lookup x=some c->X.s₀.heap.objs.size<=c
 hd:X.calm=true->X.A.handled=none
 frames:X.A.frames=some X.stack
 stk:X.stack=X.outer\/(X.stack=X.env::X.outer/\X.env.frame=some X.env.locals)
 exf:∀b∈X.ex,b≠X.env.locals/\∀x c,X.env.cells.lookup x=some c->c≠b
 bs:∀b o,X.base.get? b=some o->X.s₀.heap.get? b=some o/\X.H₀ b=none
 bsz:X.base.objs.size<=X.s₀.heap.objs.size
 noex:∀b o,X.base.get? b=some o->b∉X.ex
 exfs:∀b∈X.ex,b∉X.fs
 LK:X.s₀.heap.FunFrames X.base X.outer
 frf:∀b∈X.fs,X.H₀ b=none
structure Inv (X:Cx) (pins:List (Addr×Obj)) (σ:List (Option V)) (H:Hp) (s:Shared):Prop where
 ok:X.Ok
 os:s.os=X.s₀.os
 bare:AllBare s.gens
 base:Un X.fs X.ex X.H₀ H X.s₀.heap s.heap
 loc:∃m,s.heap.Ns X.env.locals m/\∀(i:Nat) (x:Str) (v:V),X.N[i]?=some x->σ[i]?=some (some v)->Vis X.env.scope x->∃u,RelV v u/\Look X.env s.heap m x u
 cell:∀x c,X.env.cells.lookup x=some c->∃v,s.heap.IsCell c v
 free:H X.env.locals=none
 freeC:∀x c,X.env.cells.lookup x=some c->H c=none
 pin:∀p∈X.pn++pins,s.heap.get? p.1=some p.2/\H p.1=none/\p.1≠X.env.locals/\p.1∉X.fs/\∀v,p.2.data≠.cell v
 hok:HOk X.prog X.w H s.heap
 len:σ.length=X.N.length
section
variable {X:Cx} {pins:List (Addr×Obj)} {σ:List (Option V)} {H H':Hp} {s:Shared} {h':Heap}
theorem Cx.Ok.aFu (ok:X.Ok) {b:Addr} {o:Obj} (e:X.base.get? b=some o):b∉X.fs:=fun hb=>by
 have:=(ok.LK.mem hb).1;rw [e] at this;cases this
theorem Inv.bs (I:Inv X pins σ H s):∀b o,X.base.get? b=some o->s.heap.get? b=some o/\H b=none:=fun b o e=>
 ⟨I.base.keep b o (I.ok.bs b o e).1 (I.ok.bs b o e).2 (I.ok.aFu e) (I.ok.noex b o e),I.base.free b o (I.ok.bs b o e).1 (I.ok.bs b o e).2 (I.ok.noex b o e)⟩
theorem Inv.bk (I:Inv X pins σ H s):∀b o,X.base.get? b=some o->s.heap.get? b=some o:=fun b o e=>(I.bs b o e).1
theorem Inv.mod (I:Inv X pins σ H s):Mod X.K X.mg X.base:=I.ok.mod
theorem Inv.kIn (I:Inv X pins σ H s):X.K.In s.heap:=I.ok.mod.kin.keeps I.bk
theorem Inv.lt (I:Inv X pins σ H s):X.env.locals<s.heap.objs.size:=let ⟨_,hn,_⟩:=I.loc;hn.lt
theorem Inv.sz (I:Inv X pins σ H s):X.s₀.heap.objs.size<=s.heap.objs.size:=Nat.le_trans I.ok.above (Nat.le_of_lt I.lt)
theorem Inv.aE8 (I:Inv X pins σ H s) {a:Addr} (h:s.heap.objs.size<=a):a∉X.fs:=fun hb=>by
 obtain ⟨_,o,ho,_⟩:=I.ok.LK.mem hb;exact absurd (Nat.lt_of_lt_of_le (Heap.lt_size ho) (Nat.le_trans I.sz h)) (Nat.lt_irrefl _)
theorem Inv.cne (I:Inv X pins σ H s):∀x c,X.env.cells.lookup x=some c->c≠X.env.locals:=fun x c e z=>by
 obtain ⟨v,o,ho,hd⟩:=I.cell x c e;obtain ⟨m,⟨o',es,ep,ho',hd',_⟩,_⟩:=I.loc;rw [z,ho'] at ho;cases ho;rw [hd'] at hd;cases hd
theorem Inv.LK (I:Inv X pins σ H s):s.heap.FunFrames X.base X.outer:=by
 have all:∀(l:List Env),(∀b∈frs l,b∈X.fs)->X.s₀.heap.FunFrames X.base l->s.heap.FunFrames X.base l:=by
  intro l;induction l with
  | nil=>intro _ _;trivial
  | cons env r ih=>
   intro hs hl;obtain ⟨hk,⟨L,o,hf,hn,ho,hd⟩,hr⟩:=hl;have hL:L∈X.fs:=hs L (by unfold frs;rw [List.filterMap_cons,hf];exact List.mem_cons_self);obtain ⟨sl,e⟩:=I.base.slot L o ho (I.ok.frf L hL) hL fun z=>I.ok.exfs L z hL
   exact ⟨hk,⟨L,_,hf,hn,e,hd⟩,ih (fun b hb=>hs b (by unfold frs;rw [List.filterMap_cons,hf];exact List.mem_cons_of_mem _ hb)) hr⟩
 exact all X.outer (fun _ hb=>hb) I.ok.LK
theorem Inv.stack (I:Inv X pins σ H s):s.heap.FunFrames X.base X.stack:=by
 rcases I.ok.stk with e|⟨e,hf⟩
 ·rw [e];exact I.LK
 ·rw [e];obtain ⟨m,hn,_⟩:=I.loc;refine .cons (by rw [I.ok.kind];decide) hf hn ?_ I.LK;exact Heap.get?_none_of_le (Nat.le_trans I.ok.bsz I.ok.above)
theorem Inv.qM (I:Inv X pins σ H s):∀b∈frs X.stack,b∈X.env.locals::X.fs:=fun b hb=>by
 rcases I.ok.stk with e|⟨e,hf⟩
 ·rw [e] at hb;exact List.mem_cons_of_mem _ hb
 ·rw [e] at hb;unfold frs at hb;rw [List.filterMap_cons,hf] at hb;exact hb
theorem Inv.zR (I:Inv X pins σ H s):∀b∈frs X.stack,H b=none:=fun b hb=>by
 rcases List.mem_cons.mp (I.qM b hb) with e|hb
 ·rw [e];exact I.free
 ·obtain ⟨_,o,ho,_⟩:=I.ok.LK.mem hb;exact I.base.free b o ho (I.ok.frf b hb) fun z=>I.ok.exfs b z hb
theorem Inv.step {g':Array GenState} {t':Nat} {d':Drawn} {ch:List Addr} (I:Inv X pins σ H s)
  (hch:∀b∈ch,(b∈X.ex\/X.s₀.heap.objs.size<=b)/\b≠X.env.locals/\(∀x c,X.env.cells.lookup x=some c->c≠b)/\∀p∈X.pn++pins,p.1≠b)
  (keep:∀b o,b≠X.env.locals->b∉X.fs->b∉ch->s.heap.get? b=some o->H b=none->h'.get? b=some o)
  (slot:∀b o,b≠X.env.locals->b∈X.fs->b∉ch->s.heap.get? b=some o->H b=none->∃sl,h'.get? b=some {o with slots:=sl}) (free:∀b o,b∉ch->s.heap.get? b=some o->H b=none->H' b=none)
  (there:∀b o,b∉ch->s.heap.get? b=some o->∃o',h'.get? b=some o')
  (tups:∀b xs,H b=some (.tup xs)->H' b=some (.tup xs)) (frzs:∀b o u,H b=some (.frz o u)->H' b=some (.frz o u)) (tbls:∀b ps,H b=some (.tbl ps)->∃more,H' b=some (.tbl (ps++more)))
  (ns:∀m,s.heap.Ns X.env.locals m->h'.Ns X.env.locals m) (hok:HOk X.prog X.w H' h') (hg:AllBare g') :
  Inv X pins σ H' {s with heap:=h',gens:=g',drawn:=d',toks:=t'}:=by
 have neL:∀b o,X.s₀.heap.get? b=some o->b≠X.env.locals:=fun b o e=>Nat.ne_of_lt (Nat.lt_of_lt_of_le (Heap.lt_size e) I.ok.above)
 have neC:∀b o,X.s₀.heap.get? b=some o->b∉X.ex->b∉ch:=fun b o e hx hb=>by
  rcases (hch b hb).1 with z|z
  ·exact hx z
  ·exact absurd (Nat.lt_of_lt_of_le (Heap.lt_size e) z) (Nat.lt_irrefl _)
 have cellK:∀x c,X.env.cells.lookup x=some c->∀v,s.heap.IsCell c v->h'.IsCell c v:=fun x c e v ⟨o,ho,hd⟩=>by
  have nch:c∉ch:=fun z=>(hch c z).2.2.1 x c e rfl
  by_cases hc:c∈X.fs
  ·obtain ⟨sl,q⟩:=slot c o (I.cne x c e) hc nch ho (I.freeC x c e);exact ⟨_,q,hd⟩
  ·exact ⟨o,keep c o (I.cne x c e) hc nch ho (I.freeC x c e),hd⟩
 refine ⟨I.ok,I.os,hg,⟨fun b o e n hb hx=>?_,fun b o e n hb hx=>?_,fun b o e n hx=>?_,fun b o e hx=>?_,fun b xs e=>tups b xs (I.base.tups b xs e),fun b o xs e=>frzs b o xs (I.base.frzs b o xs e),fun b ps e=>?_⟩,?_,fun x c e=>?_,?_,fun x c e=>?_,fun p hp=>?_,hok,I.len⟩
 ·exact keep b o (neL b o e) hb (neC b o e hx) (I.base.keep b o e n hb hx) (I.base.free b o e n hx)
 ·obtain ⟨sl,e1⟩:=I.base.slot b o e n hb hx;obtain ⟨sl',e2⟩:=slot b _ (neL b o e) hb (neC b o e hx) e1 (I.base.free b o e n hx);exact ⟨sl',e2⟩
 ·obtain ⟨o',e1⟩:=I.base.there b o e hx;exact free b o' (neC b o e hx) e1 (I.base.free b o e n hx)
 ·obtain ⟨o',e1⟩:=I.base.there b o e hx;exact there b o' (neC b o e hx) e1
 ·obtain ⟨m1,e1⟩:=I.base.tbls b ps e;obtain ⟨m2,e2⟩:=tbls b _ e1;exact ⟨m1++m2,by rw [e2,Array.append_assoc]⟩
 ·obtain ⟨m,hn,hl⟩:=I.loc;refine ⟨m,ns m hn,fun i x v e1 e2 e3=>?_⟩;obtain ⟨u,r,l⟩:=hl i x v e1 e2 e3;refine ⟨u,r,?_⟩;rcases l with l|⟨k,c,e,z⟩
  ·exact .inl l
  ·exact .inr ⟨k,c,e,cellK x c e _ z⟩
 ·obtain ⟨v,z⟩:=I.cell x c e;exact ⟨v,cellK x c e v z⟩
 ·obtain ⟨m,⟨o,_,_,ho,_⟩,_⟩:=I.loc;exact free _ o (fun z=>(hch _ z).2.1 rfl) ho I.free
 ·obtain ⟨v,o,ho,hd⟩:=I.cell x c e;exact free c o (fun z=>(hch c z).2.2.1 x c e rfl) ho (I.freeC x c e)
 ·obtain ⟨e,n,ne,nf,d⟩:=I.pin p hp;have nch:p.1∉ch:=fun z=>(hch p.1 z).2.2.2 p hp rfl
  exact ⟨keep p.1 p.2 ne nf nch e n,free p.1 p.2 nch e n,ne,nf,d⟩
theorem Inv.un {t':Nat} (I:Inv X pins σ H s) (u:Un X.fs [] H H' s.heap h') (hok:HOk X.prog X.w H' h'):Inv X pins σ H' {s with heap:=h',toks:=t'}:=by
 obtain ⟨m,⟨o,es,ep,ho,r⟩,_⟩:=id I.loc;obtain ⟨sl,hL⟩:=u.any ho I.free (by simp);exact I.step (g':=s.gens) (d':=s.drawn) (ch:=[]) (fun _ z=>nomatch z) (fun b o _ hb _ e n=>u.keep b o e n hb (by simp)) (fun b o _ hb _ e n=>u.slot b o e n hb (by simp)) (fun b o _ e n=>u.free b o e n (by simp)) (fun b o _ e=>u.there b o e (by simp)) u.tups u.frzs u.tbls (fun m' hm=>by
  obtain ⟨o',es',ep',ho',r'⟩:=hm;rw [ho] at ho';cases ho';exact ⟨_,es',ep',hL,r'⟩) hok I.bare
theorem Inv.call {g':Array GenState} {t':Nat} {d':Drawn} {ch:List Addr} (I:Inv X pins σ H s) (u:Un (frs X.stack) ch H H' s.heap h') (hok:HOk X.prog X.w H' h') (hg:AllBare g')
  (hch:∀b∈ch,(b∈X.ex\/X.s₀.heap.objs.size<=b)/\b≠X.env.locals/\(∀x c,X.env.cells.lookup x=some c->c≠b)/\∀p∈X.pn++pins,p.1≠b) :
  Inv X pins σ H' {s with heap:=h',gens:=g',drawn:=d',toks:=t'}:=by
 obtain ⟨m,⟨o,es,ep,ho,r⟩,_⟩:=id I.loc;obtain ⟨sl,hL⟩:=u.any ho I.free fun z=>(hch _ z).2.1 rfl
 exact I.step (ch:=ch) hch (fun b o hL hb hc e n=>u.keep b o e n (fun z=>(List.mem_cons.mp (I.qM b z)).elim hL hb) hc) (fun b o _ _ hc e n=>u.any e n hc) (fun b o hc e n=>u.free b o e n hc) (fun b o hc e=>u.there b o e hc) u.tups u.frzs u.tbls (fun m' hm=>by
  obtain ⟨o',es',ep',ho',r'⟩:=hm;rw [ho] at ho';cases ho';exact ⟨_,es',ep',hL,r'⟩) hok hg
theorem Inv.turned {t':Nat} {it:Addr} (I:Inv X pins σ H s) (k:∀b o,b≠it->s.heap.get? b=some o->h'.get? b=some o) (hn:H it=none) (hL:it≠X.env.locals)
  (h1:it∈X.ex\/X.s₀.heap.objs.size<=it) (h2:∀x c,X.env.cells.lookup x=some c->c≠it) (h3:∀p∈X.pn++pins,p.1≠it):Inv X pins σ H {s with heap:=h',toks:=t'}:=by
 have nit:∀b u,H b=some u->b≠it:=fun b u e z=>by rw [z,hn] at e;cases e
 refine I.step (g':=s.gens) (d':=s.drawn) (ch:=[it]) (fun b hb=>?_) (fun b o _ _ hc e _=>k b o (fun z=>hc (by simp [z])) e) (fun b o _ _ hc e _=>⟨o.slots,k b o (fun z=>hc (by simp [z])) e⟩) (fun _ _ _ _ n=>n)
  (fun b o hc e=>⟨o,k b o (fun z=>hc (by simp [z])) e⟩) (fun _ _ e=>e) (fun _ _ _ e=>e) (fun b ps e=>⟨#[],by rw [e];simp⟩) (fun m hm=>?_) (fun b u e=>?_) I.bare
 ·have e:b=it:=by simpa using hb
  subst e;exact ⟨h1,hL,h2,h3⟩
 ·obtain ⟨o,es,ep,ho,r⟩:=hm;exact ⟨o,es,ep,k _ o (Ne.symm hL) ho,r⟩
 ·refine (I.hok b u e).stay (fun c v hc q=>k c v ?_ q) (fun _ q=>q) fun _ _ q=>q
  rcases hc with z|z
  ·rw [z];exact nit b u e
  ·exact nit c _ z
theorem Inv.tok (I:Inv X pins σ H s) (t:Nat):Inv X pins σ H {s with toks:=t}:=I.un (h':=s.heap) (t':=t) Un.refl I.hok
theorem Inv.kept {t':Nat} (I:Inv X pins σ H s) (k:∀b u,s.heap.get? b=some u->h'.get? b=some u):Inv X pins σ H {s with heap:=h',toks:=t'}:=I.un (Un.kept k) (I.hok.kept k)
theorem Inv.laid {a:Addr} {o:HO} {t':Nat} (I:Inv X pins σ H s) (k:∀b u,s.heap.get? b=some u->h'.get? b=some u) (hp:s.heap.objs.size<=a) (new:gR X.prog X.w (upd H a o) h' a o) :
  Inv X pins σ (upd H a o) {s with heap:=h',toks:=t'}:=I.un (Un.laid k hp (I.hok.fresh hp)) (I.hok.laid k hp new)
theorem Inv.write {x e:Addr} {o:HO} {t':Nat} (I:Inv X pins σ H s) (mu:Mut (H x)) (he:e=x\/H e=some (.own x)) (k:∀b u,b≠e->s.heap.get? b=some u->h'.get? b=some u) (heo:∃u,h'.get? e=some u)
  (new:gR X.prog X.w (upd H x o) h' x o):Inv X pins σ (upd H x o) {s with heap:=h',toks:=t'}:=I.un (Un.write mu he k heo) (I.hok.write mu he k heo new)
theorem Inv.weak {σ':List (Option V)} (I:Inv X pins σ H s) (hl:σ'.length=σ.length) (w:∀(i:Nat) v,σ'[i]?=some (some v)->σ[i]?=some (some v)):Inv X pins σ' H s:=
 ⟨I.ok,I.os,I.bare,I.base,let ⟨m,hn,hl'⟩:=I.loc;⟨m,hn,fun i x v e1 e2 e3=>hl' i x v e1 (w i v e2) e3⟩,I.cell,I.free,I.freeC,I.pin,I.hok,hl.trans I.len⟩
theorem Inv.uK {pins':List (Addr×Obj)} (I:Inv X pins σ H s) (h:∀p∈pins',s.heap.get? p.1=some p.2/\H p.1=none/\p.1≠X.env.locals/\p.1∉X.fs/\∀v,p.2.data≠.cell v):Inv X pins' σ H s:=
 ⟨I.ok,I.os,I.bare,I.base,I.loc,I.cell,I.free,I.freeC,fun p hp=>(List.mem_append.mp hp).elim (fun z=>I.pin p (List.mem_append_left _ z)) (h p),I.hok,I.len⟩
theorem uL {N:List Str} (hN:N.Nodup) {i j:Nat} {x:Str} (a:N[i]?=some x) (b:N[j]?=some x):i=j:=by
 obtain ⟨h1,e1⟩:=List.getElem?_eq_some_iff.mp a;obtain ⟨h2,e2⟩:=List.getElem?_eq_some_iff.mp b;exact (List.getElem_inj hN).mp (e1.trans e2.symm)
theorem wK {M:Model} {A:Around} {E:Value->Shared->Prop} {i:Nat} {x:Str} {v:V} {u:Value} {Q:Unit->Shared->Prop} (I:Inv X pins σ H s) (hN:X.N.Nodup) (hi:X.N[i]?=some x) (hx:Loc X.env.scope x) (r:RelV v u)
  (h:∀s',Inv X pins (σ.set i (some v)) H s'->(∃a,Heap.SameBut a s.heap s'.heap/\(a=X.env.locals\/X.env.cells.lookup x=some a))->Q () s') (hf:X.fn x=true\/X.env.scope.names.lookup x=some .local:=by first|exact .inl rfl|exact .inr rfl|assumption):wpAny M A (storeName X.env x u) Q E s:=by
 obtain ⟨m,hn,hl⟩:=id I.loc;have hcls:(X.env.scope.kind==.class||(X.env.scope.kind==.module&&X.env.locals != X.env.globals))=false:=by rw [I.ok.kind];rfl
 have hiσ:i<σ.length:=by rw [I.len];exact (List.getElem?_eq_some_iff.mp hi).1
 have cne:=I.cne;have tracked:∀{a:Addr} {h':Heap},(∃o,s.heap.get? a=some o/\H a=none)->Heap.SameBut a s.heap h'->HOk X.prog X.w H h':=fun {a h'} ha hs b ob e=>by
  obtain ⟨_,_,hfree⟩:=ha;refine (I.hok b ob e).stay (fun c w' hc q=>(hs.2 c ?_).trans q) (fun _ q=>q) fun _ _ q=>q
  rintro rfl;rcases hc with rfl|hc
  ·rw [hfree] at e;cases e
  ·rw [hfree] at hc;cases hc
 rcases hx with hk|hk
 ·refine wpAny_storeName_local hk hn (fun h' hn' hs=>?_) hcls;obtain ⟨oL,_,_,hoL,_⟩:=id hn;refine h _ ⟨I.ok,I.os,I.bare,⟨fun b o e n hb hx=>?_,fun b o e n hb hx=>?_,I.base.free,fun b o e hx=>?_,I.base.tups,I.base.frzs,I.base.tbls⟩,⟨_,hn',fun j y v' e1 e2 e3=>?_⟩,fun y c e=>?_,I.free,I.freeC,fun p hp=>?_,tracked ⟨oL,hoL,I.free⟩ hs,by simpa using I.len⟩ ⟨_,hs,.inl rfl⟩
  ·exact (hs.2 b (Nat.ne_of_lt (Nat.lt_of_lt_of_le (Heap.lt_size e) I.ok.above))).trans (I.base.keep b o e n hb hx)
  ·obtain ⟨sl,e1⟩:=I.base.slot b o e n hb hx;exact ⟨sl,(hs.2 b (Nat.ne_of_lt (Nat.lt_of_lt_of_le (Heap.lt_size e) I.ok.above))).trans e1⟩
  ·obtain ⟨o',e1⟩:=I.base.there b o e hx;exact ⟨o',(hs.2 b (Nat.ne_of_lt (Nat.lt_of_lt_of_le (Heap.lt_size e) I.ok.above))).trans e1⟩
  ·by_cases hj:j=i
   ·subst hj;rw [hi] at e1;cases e1;rw [List.getElem?_set_self hiσ] at e2;cases e2;exact ⟨u,r,.inl ⟨hk,by simp⟩⟩
   ·rw [List.getElem?_set_ne (Ne.symm hj)] at e2;obtain ⟨u',r',q⟩:=hl j y v' e1 e2 e3;refine ⟨u',r',?_⟩;rcases q with ⟨k,e⟩|⟨k,c,e,z⟩
    ·refine .inl ⟨k,?_⟩;have:y≠x:=fun e=>hj (uL hN e1 (e▸hi))
     simp [this,e]
    ·exact .inr ⟨k,c,e,z.sameBut hs (cne y c e)⟩
  ·obtain ⟨w',z⟩:=I.cell y c e;exact ⟨w',z.sameBut hs (cne y c e)⟩
  ·obtain ⟨e,n,ne,nf,d⟩:=I.pin p hp;exact ⟨(hs.2 p.1 ne).trans e,n,ne,nf,d⟩
 ·have hfn:X.fn x=true:=by
   rcases hf with z|z
   ·exact z
   ·rw [z] at hk;cases hk
  obtain ⟨c,hc⟩:=I.ok.has x (.inl hk);obtain ⟨w',z⟩:=I.cell x c hc;refine wpAny_storeName_cell I.ok.kind hk hc z (fun h' hc' hs=>?_);obtain ⟨oc,hoc,hocd⟩:=id z;refine h {s with heap:=h'} ⟨I.ok,I.os,I.bare,⟨fun b o e n hb hx=>?_,fun b o e n hb hx=>?_,I.base.free,fun b o e hx=>?_,I.base.tups,I.base.frzs,I.base.tbls⟩,⟨m,hn.sameBut hs (Ne.symm (cne x c hc)),fun j y v' e1 e2 e3=>?_⟩,fun y c' e=>?_,I.free,I.freeC,fun p hp=>?_,tracked ⟨oc,hoc,I.freeC x c hc⟩ hs,by simpa using I.len⟩ ⟨c,hs,.inr hc⟩
  ·exact (hs.2 b (Nat.ne_of_lt (Nat.lt_of_lt_of_le (Heap.lt_size e) (I.ok.cab x c hfn hc)))).trans (I.base.keep b o e n hb hx)
  ·obtain ⟨sl,e1⟩:=I.base.slot b o e n hb hx;exact ⟨sl,(hs.2 b (Nat.ne_of_lt (Nat.lt_of_lt_of_le (Heap.lt_size e) (I.ok.cab x c hfn hc)))).trans e1⟩
  ·obtain ⟨o',e1⟩:=I.base.there b o e hx;exact ⟨o',(hs.2 b (Nat.ne_of_lt (Nat.lt_of_lt_of_le (Heap.lt_size e) (I.ok.cab x c hfn hc)))).trans e1⟩
  ·by_cases hj:j=i
   ·subst hj;rw [hi] at e1;cases e1;rw [List.getElem?_set_self hiσ] at e2;cases e2;exact ⟨u,r,.inr ⟨.inl hk,c,hc,hc'⟩⟩
   ·rw [List.getElem?_set_ne (Ne.symm hj)] at e2;obtain ⟨u',r',q⟩:=hl j y v' e1 e2 e3;refine ⟨u',r',?_⟩;rcases q with q|⟨k,c',e,z'⟩
    ·exact .inl q
    ·refine .inr ⟨k,c',e,z'.sameBut hs ?_⟩;rintro rfl;exact hj (uL hN e1 (I.ok.inj _ _ _ e hc▸hi))
  ·by_cases hcc:c'=c
   ·subst hcc;exact ⟨_,hc'⟩
   ·obtain ⟨w2,z2⟩:=I.cell y c' e;exact ⟨w2,z2.sameBut hs hcc⟩
  ·obtain ⟨e,n,ne,nf,d⟩:=I.pin p hp;refine ⟨(hs.2 p.1 ?_).trans e,n,ne,nf,d⟩;intro q;rw [q,hoc] at e;have q':oc=p.2:=Option.some.inj e;exact d w' (by rw [<-q'];exact hocd)
theorem DX {M:Model} {A:Around} {E:Value->Shared->Prop} {i:Nat} {x:Str} {v:V} {u:Value} {Q:Unit->Shared->Prop} (I:Inv X pins σ H s) (hN:X.N.Nodup) (hi:X.N[i]?=some x) (hx:Loc X.env.scope x) (r:RelV v u)
  (h:∀s',Inv X pins (σ.set i (some v)) H s'->Q () s') (hf:X.fn x=true\/X.env.scope.names.lookup x=some .local:=by first|exact .inl rfl|exact .inr rfl|assumption):wpAny M A (storeName X.env x u) Q E s:=
 wK I hN hi hx r (fun s' I' _=>h s' I') hf
theorem Inv.call' {s':Shared} {ch:List Addr} (I:Inv X pins σ H s) (ho:s'.os=s.os) (u:Un (frs X.stack) ch H H' s.heap s'.heap) (hok:HOk X.prog X.w H' s'.heap) (hg:AllBare s'.gens)
  (hch:∀b∈ch,(b∈X.ex\/X.s₀.heap.objs.size<=b)/\b≠X.env.locals/\(∀x c,X.env.cells.lookup x=some c->c≠b)/\∀p∈X.pn++pins,p.1≠b):Inv X pins σ H' s':=by
 obtain ⟨h',g',d',t',o'⟩:=s';have e:o'=s.os:=ho;subst e;exact I.call (g':=g') (t':=t') (d':=d') u hok hg hch
end
noncomputable abbrev XK:=Value->Option Addr->Hp->Prop
noncomputable abbrev St:=List (Option V)
noncomputable abbrev VK:=V->Hp->Prop
noncomputable abbrev TE:=St->Hp->VK->Prop
noncomputable abbrev TT:=St->Hp->(Bool->Hp->Prop)->Prop
noncomputable abbrev TA:=St->Hp->(List V->Hp->Prop)->Prop
structure Ends where
 nx:St->Hp->Prop
 rt:VK
 bk:St->Hp->Prop:=fun _ _=>False
 ct:St->Hp->Prop:=fun _ _=>False
noncomputable abbrev TS:=Ends->St->Hp->Prop
noncomputable def EP (X:Cx) (pins:List (Addr×Obj)) (σ:St) (Q:VK) (u:Value) (s':Shared):Prop:=∃v H',Inv X pins σ H' s'/\RelV v u/\Q v H'
noncomputable def TP (X:Cx) (pins:List (Addr×Obj)) (σ:St) (Q:Bool->Hp->Prop) (b:Bool) (s':Shared):Prop:=∃H',Inv X pins σ H' s'/\Q b H'
noncomputable def AP (X:Cx) (pins:List (Addr×Obj)) (σ:St) (Q:List V->Hp->Prop) (us:List Value) (s':Shared):Prop:=∃vs H',Inv X pins σ H' s'/\Vals vs us/\Q vs H'
noncomputable def SP (X:Cx) (pins:List (Addr×Obj)) (D:Ends) (f:Flow) (s':Shared):Prop:=
 match f with
 | .next=>∃σ' H',Inv X pins σ' H' s'/\D.nx σ' H'
 | .brk=>∃σ' H',Inv X pins σ' H' s'/\D.bk σ' H'
 | .cont=>∃σ' H',Inv X pins σ' H' s'/\D.ct σ' H'
 | .ret u=>∃v σ' H',Inv X pins σ' H' s'/\RelV v u/\D.rt v H'
noncomputable def PE (X:Cx) (e:Expr) (t:TE):Prop:=
 ∀(pins:List (Addr×Obj)) (s:Shared) (σ:St) (H:Hp) (Q:VK),Inv X pins σ H s->t σ H Q->wpAny (model X.prog X.w) X.A (eval e X.env) (EP X pins σ Q) X.xe s
noncomputable def PT (X:Cx) (e:Expr) (t:TT):Prop:=
 ∀(pins:List (Addr×Obj)) (s:Shared) (σ:St) (H:Hp) (Q:Bool->Hp->Prop),Inv X pins σ H s->t σ H Q->wpAny (model X.prog X.w) X.A (isTrue e X.env (eval e X.env)) (TP X pins σ Q) X.xe s
noncomputable def PW (X:Cx) (e:Expr) (t:TT):Prop:=
 ∀(whole:Sem Value) (pins:List (Addr×Obj)) (s:Shared) (σ:St) (H:Hp) (Q:Bool->Hp->Prop),Inv X pins σ H s->t σ H Q->wpAny (model X.prog X.w) X.A (isTrue e X.env whole) (TP X pins σ Q) X.xe s
theorem PW.pt {X:Cx} {e:Expr} {t:TT} (h:PW X e t):PT X e t:=h _
noncomputable def PA (X:Cx) (es:List Expr) (t:TA):Prop:=
 ∀(pos:Pos) (pins:List (Addr×Obj)) (s:Shared) (σ:St) (H:Hp) (Q:List V->Hp->Prop),Inv X pins σ H s->t σ H Q->wpAny (model X.prog X.w) X.A (spliced (backTo pos (starEach es X.env))) (AP X pins σ Q) X.xe s
noncomputable def PS (X:Cx) (st:Stmt) (t:TS):Prop:=
 ∀(pins:List (Addr×Obj)) (s:Shared) (σ:St) (H:Hp) (D:Ends),Inv X pins σ H s->t D σ H->wpAny (model X.prog X.w) X.A (exec st X.env) (SP X pins D) X.xe s
noncomputable def PSs (X:Cx) (st:List Stmt) (t:TS):Prop:=
 ∀(pins:List (Addr×Obj)) (s:Shared) (σ:St) (H:Hp) (D:Ends),Inv X pins σ H s->t D σ H->wpAny (model X.prog X.w) X.A (execs st X.env) (SP X pins D) X.xe s
theorem thn {α:Type} {t:Sem α} {Q Q':α->Shared->Prop} {M:Model} {A:Around} {E:Value->Shared->Prop} {s:Shared} (h:wpAny M A t Q E s) (hQ:∀a s,Q a s->Q' a s):wpAny M A t Q' E s:=wpAny_mono h hQ fun _ _ x=>x
end L2
namespace L2
open PySem PySem.Spec PyProof.Rows
section
variable {X:Cx}
noncomputable def aFh (i:Nat):TE:=fun σ H Q=>∃v,σ[i]?=some (some v)/\Q v H
noncomputable def tC (v:V):TE:=fun _ H Q=>Q v H
theorem j6 {i:Nat} {x:Str} {pos:Pos} (hN:X.N[i]?=some x) (hv:Vis X.env.scope x) (hd:(x==("__debug__" : Str))=false:=by decide) (hcd:(x==("__classdict__" : Str))=false:=by decide):PE X (.Name x pos) (aFh i):=by
 intro pins s σ H Q I h;obtain ⟨v,e,h⟩:=h;obtain ⟨m,hn,hl⟩:=I.loc;obtain ⟨u,r,l⟩:=hl i x v hN e hv;have fin:EP X pins σ Q u s:=⟨v,H,I,r,h⟩
 rcases l with ⟨hk,hm⟩|⟨hk,c,hc,hcell⟩
 ·exact wpAny_Name (wpAny_loadName_local I.ok.kind hk hn hm fin) hd
 ·rcases hk with hk|hk
  ·exact wpAny_Name (wpAny_loadName_cell I.ok.kind hk hc hcell fin) hd
  ·exact wpAny_Name (wpAny_loadName_free I.ok.kind hk hc hcell fin hcd) hd
theorem aBw {i j pos}:PE X (.Constant (.int i) j pos) (tC (.int i)):=fun _ _ _ H _ I h=>wpAny_Constant_int ⟨.int i,H,I.tok _,⟨_,rfl⟩,h⟩
theorem ZX {b j pos}:PE X (.Constant (.bool b) j pos) (tC (.bl b)):=fun _ _ _ H _ I h=>Constant_bool ⟨.bl b,H,I,rfl,h⟩
theorem aBx {j pos}:PE X (.Constant .none j pos) (tC .non):=fun _ _ _ H _ I h=>Constant_none ⟨.non,H,I,rfl,h⟩
theorem YD {x j pos}:PE X (.Constant (.str x) j pos) (tC (.str x)):=fun _ _ _ H _ I h=>Calls.Constant_str ⟨.str x,H,I.tok _,⟨_,rfl⟩,h⟩
noncomputable def Gl (X:Cx) (x:Str):Prop:=X.env.kindOf x=some .globalImplicit
theorem qN {E:Value->Shared->Prop} {pins:List (Addr×Obj)} {s:Shared} {σ:St} {H:Hp} {x:Str} {u:Value} {pos:Pos} {Q:Value->Shared->Prop} (I:Inv X pins σ H s) (hg:Gl X x) (hm:X.mg x=some u) (h:Q u s)
  (hd:(x==("__debug__" : Str))=false:=by decide):wpAny (model X.prog X.w) X.A (eval (.Name x pos) X.env) Q E s:=
 Calls.Name_function_global I.ok.kind hg (Calls.loadGlobal_global (by rw [I.ok.glob];exact I.mod.glob.keeps I.bk) hm h) hd
theorem tZ {E:Value->Shared->Prop} {pins:List (Addr×Obj)} {s:Shared} {σ:St} {H:Hp} {x:Str} {u:Value} {pos:Pos} {Q:Value->Shared->Prop} (I:Inv X pins σ H s) (hg:Gl X x) (hm:X.mg x=none) (hv:bootBuiltins x=some u) (h:Q u s)
  (hn:x ≠ "__name__":=by decide) (hd:(x==("__debug__" : Str))=false:=by decide):wpAny (model X.prog X.w) X.A (eval (.Name x pos) X.env) Q E s:=by
 obtain ⟨mb,h1,h2⟩:=I.mod.blt;exact Calls.Name_function_global I.ok.kind hg (Calls.loadGlobal_builtin (by rw [I.ok.glob];exact I.mod.glob.keeps I.bk) hm (by rw [I.ok.blt];exact h1.keeps I.bk) ((h2 x hn).trans hv) h) hd
theorem d8 {x:Str} {v:V} {u:Value} {pos:Pos} (hg:Gl X x) (hm:X.mg x=some u) (r:RelV v u) (hd:(x==("__debug__" : Str))=false:=by decide):PE X (.Name x pos) (tC v):=
 fun _ _ _ H _ I h=>qN I hg hm ⟨v,H,I,r,h⟩ hd
theorem MF {x:Str} {v:V} {u:Value} {pos:Pos} (hg:Gl X x) (hm:X.mg x=none) (hv:bootBuiltins x=some u) (r:RelV v u) (hn:x ≠ "__name__":=by decide) (hd:(x==("__debug__" : Str))=false:=by decide):PE X (.Name x pos) (tC v):=
 fun _ _ _ H _ I h=>tZ I hg hm hv ⟨v,H,I,r,h⟩ hn hd
variable {a b:Expr} {ta tb:TE} {pos:Pos}
noncomputable def tB (t:TE):TT:=fun σ H Q=>t σ H fun x H1=>∃c,x=.bl c/\Q c H1
theorem YF {e:Expr} {t:TE} (h:PE X e t) (he:∀whole,isTrue e X.env whole=(do let v <- whole;standAt e.pos;holding [v] (truthy v)):=by intro _;rfl):PT X e (tB t):=by
 intro pins s σ H Q I hw;refine isTrue_plain (thn (h pins s σ H _ I hw) fun v s1 ⟨x,H1,I1,r1,q1⟩=>?_) (he _);obtain ⟨d,rfl,q⟩:=q1;cases r1;exact wpAny_truthy_bool ⟨H1,I1,q⟩
variable {tA tB':TT} {rest:List Expr}
noncomputable def aFv (t u:TT):TT:=fun σ H Q=>t σ H fun c H1=>if c=true then u σ H1 Q else Q false H1
noncomputable def tOr (t u:TT):TT:=fun σ H Q=>t σ H fun c H1=>if c=true then Q true H1 else u σ H1 Q
noncomputable def aFw (t:TT):TT:=fun σ H Q=>t σ H fun c H1=>Q (!c) H1
theorem ZZ (ha:PT X a tA):PW X (.BoolOp .And [a] pos) tA:=by
 intro wh pins s σ H Q I h;refine isTrue_and (thn (ha pins s σ H Q I h) fun c s1 e=>?_);cases c with
 | true=>exact isTrue_and_nil e
 | false=>exact e
theorem aBy (ha:PT X a tA):PW X (.BoolOp .Or [a] pos) tA:=by
 intro wh pins s σ H Q I h;refine isTrue_or (thn (ha pins s σ H Q I h) fun c s1 e=>?_);cases c with
 | false=>exact isTrue_or_nil e
 | true=>exact e
theorem aBz (ha:PT X a tA) (hb:PW X (.BoolOp .And (b::rest) pos) tB'):PW X (.BoolOp .And (a::b::rest) pos) (aFv tA tB'):=by
 intro wh pins s σ H Q I h;refine isTrue_and (thn (ha pins s σ H _ I h) fun c s1 ⟨H1,I1,q1⟩=>?_);cases c with
 | true=>exact hb wh pins s1 σ H1 Q I1 q1
 | false=>exact ⟨H1,I1,q1⟩
theorem aE9 (ha:PT X a tA) (hb:PW X (.BoolOp .Or (b::rest) pos) tB'):PW X (.BoolOp .Or (a::b::rest) pos) (tOr tA tB'):=by
 intro wh pins s σ H Q I h;refine isTrue_or (thn (ha pins s σ H _ I h) fun c s1 ⟨H1,I1,q1⟩=>?_);cases c with
 | true=>exact ⟨H1,I1,q1⟩
 | false=>exact hb wh pins s1 σ H1 Q I1 q1
theorem aC0 (ha:PT X a tA):PT X (.UnaryOp .Not a pos) (aFw tA):=by
 intro pins s σ H Q I h;exact isTrue_not (ha pins s σ H (fun c H1=>Q (!c) H1) I h)
noncomputable def aC1 (ta tb:TE):TE:=fun σ H Q=>ta σ H fun x H1=>∃c,x=.bl c/\if c=true then tb σ H1 Q else Q (.bl false) H1
noncomputable def aEa (ta:TE):TE:=fun σ H Q=>ta σ H fun x H1=>∃c,x=.bl c/\Q (.bl (!c)) H1
theorem YG {op} {t:TE} (h:PE X a t):PE X (.BoolOp op [a] pos) t:=fun pins s σ H Q I hw=>BoolOp_one (h pins s σ H Q I hw)
theorem YH (ha:PE X a ta) (hb:PE X (.BoolOp .And (b::rest) pos) tb):PE X (.BoolOp .And (a::b::rest) pos) (aC1 ta tb):=by
 intro pins s σ H Q I h;refine BoolOp_and (thn (ha pins s σ H _ I h) fun v s1 ⟨x,H1,I1,r1,q1⟩=>?_);obtain ⟨c,rfl,q1⟩:=q1;cases r1;refine wpAny_truthy_bool ?_;cases c with
 | true=>exact hb pins s1 σ H1 Q I1 q1
 | false=>exact ⟨.bl false,H1,I1,rfl,q1⟩
theorem aC2 (ha:PE X a ta):PE X (.UnaryOp .Not a pos) (aEa ta):=by
 intro pins s σ H Q I h;refine UnaryOp_ (thn (ha pins s σ H _ I h) fun v s1 ⟨x,H1,I1,r1,q1⟩=>?_);obtain ⟨c,rfl,q1⟩:=q1;cases r1;exact not_of (wpAny_truthy_bool ⟨.bl (!c),H1,I1,rfl,q1⟩)
end
end L2
namespace L2
open PySem PySem.Spec PyProof.Rows
noncomputable def SqL (K:PySem.W.Frag) (H:Hp) (a:Addr) (xs:List V):Prop:=
 Rd H a (.lst xs)\/
  ∃(o:Obj) (its:Array Value) (n:Nat),K.lookup a=some o/\o.cls=.type "list"/\o.dict=none/\o.data=.seq its n/\its.size<=sizeLine/\Vals xs its.toList
noncomputable def SqT (K:PySem.W.Frag) (H:Hp) (a:Addr) (xs:List V):Prop:=
 Rd H a (.tup xs)\/
  ∃(o:Obj) (its:Array Value) (n:Nat),K.lookup a=some o/\o.cls=.type "tuple"/\o.data=.seq its n/\its.size<=sizeLine/\Vals xs its.toList
noncomputable def aFx:Value->Option V
 | .none=>some .non
 | .bool b=>some (.bl b)
 | .int i _=>some (.int i)
 | .str x _=>some (.str x)
 | .bytes b _=>some (.byt b)
 | .float b _=>some (.flt b)
 | .ref a=>some (.ref a)
 | .type n=>some (.ty n)
 | _=>none
theorem RelV.abs {x:V} {u:Value} (r:RelV x u):aFx u=some x:=by
 cases x with
 | non=>cases r;rfl
 | bl _=>cases r;rfl
 | int _=>obtain ⟨t,rfl⟩:=r;rfl
 | str _=>obtain ⟨t,rfl⟩:=r;rfl
 | byt _=>obtain ⟨t,rfl⟩:=r;rfl
 | flt _=>obtain ⟨t,rfl⟩:=r;rfl
 | ref _=>cases r;rfl
 | ty _=>cases r;rfl
theorem RelV.inj {x y:V} {u:Value} (r:RelV x u) (q:RelV y u):x=y:=Option.some.inj (r.abs.symm.trans q.abs)
theorem Vals.inj:∀{xs ys:List V} {us:List Value},Vals xs us->Vals ys us->xs=ys
 | _,_,_,.nil,.nil=>rfl
 | _,_,_,.cons r t,.cons r' t'=>by rw [r.inj r',Vals.inj t t']
section
variable {X:Cx} {pins:List (Addr×Obj)} {σ:St} {H:Hp} {s:Shared} {a:Addr} {xs ys:List V}
theorem SqL.of {K:PySem.W.Frag} (h:H a=some (.lst xs)):SqL K H a xs:=.inl (.inl h)
theorem SqT.of {K:PySem.W.Frag} (h:H a=some (.tup xs)):SqT K H a xs:=.inl (.inl h)
theorem Inv.list (I:Inv X pins σ H s) (h:SqL X.K H a xs):∃its:List Value,Vals xs its/\PlainL s.heap a its.toArray/\xs.length<=sizeLine:=by
 rcases h with h|⟨o,its,n,hk,hc,hd,hs,hz,r⟩
 ·obtain ⟨z,its,n,r,e⟩:=h.ok I.hok;exact ⟨its,r,⟨_,n,e,rfl,rfl,rfl⟩,z⟩
 ·refine ⟨its.toList,r,⟨o,n,I.kIn a o hk,hc,hd,by simpa using hs⟩,?_⟩;have e:=r.length;simp only [Array.length_toList] at e;lia
theorem Inv.tuple (I:Inv X pins σ H s) (h:SqT X.K H a xs):∃its:List Value,Vals xs its/\IsTup s.heap a its.toArray/\xs.length<=sizeLine:=by
 rcases h with h|⟨o,its,n,hk,hc,hs,hz,r⟩
 ·obtain ⟨z,its,r,p⟩:=h.ok I.hok;exact ⟨its,r,p.tup,z⟩
 ·refine ⟨its.toList,r,⟨o,I.kIn a o hk,hc,n,by simpa using hs⟩,?_⟩;have e:=r.length;simp only [Array.length_toList] at e;lia
theorem Inv.U0 (I:Inv X pins σ H s) (h:SqL X.K H a xs) (h':SqL X.K H a ys):xs=ys:=by
 obtain ⟨its,r,⟨o,n,e,_,_,d⟩,_⟩:=I.list h;obtain ⟨its',r',⟨o',n',e',_,_,d'⟩,_⟩:=I.list h';rw [e] at e';cases e';rw [d] at d';injection d' with d1 _
 have:its=its':=by simpa using congrArg Array.toList d1
 subst this;exact r.inj r'
theorem Inv.MJ (I:Inv X pins σ H s) (h:SqT X.K H a xs) (h':SqT X.K H a ys):xs=ys:=by
 obtain ⟨its,r,⟨o,e,_,n,d⟩,_⟩:=I.tuple h;obtain ⟨its',r',⟨o',e',_,n',d'⟩,_⟩:=I.tuple h';rw [e] at e';cases e';rw [d] at d';injection d' with d1 _
 have:its=its':=by simpa using congrArg Array.toList d1
 subst this;exact r.inj r'
end
noncomputable abbrev Cx.wish (X:Cx) (E:Value->Shared->Prop):Cx:={X with xe:=E}
noncomputable abbrev Cx.nox (X:Cx):Cx:=X.wish fun _ _=>False
theorem Cx.Ok.wish {X:Cx} (ok:X.Ok) (E:Value->Shared->Prop):(X.wish E).Ok:=
 ⟨ok.mod,ok.kind,ok.glob,ok.blt,ok.above,ok.inj,ok.has,ok.cab,ok.hd,ok.frames,ok.stk,ok.exf,ok.bs,ok.bsz,ok.noex,ok.exfs,ok.LK,ok.frf⟩
theorem Cx.Ok.kJ {X:Cx} {E:Value->Shared->Prop} (ok:(X.wish E).Ok):X.Ok:=
 ⟨ok.mod,ok.kind,ok.glob,ok.blt,ok.above,ok.inj,ok.has,ok.cab,ok.hd,ok.frames,ok.stk,ok.exf,ok.bs,ok.bsz,ok.noex,ok.exfs,ok.LK,ok.frf⟩
section
variable {X:Cx} {pins:List (Addr×Obj)} {σ:St} {H:Hp} {s:Shared} {E:Value->Shared->Prop}
theorem Inv.wish (I:Inv X pins σ H s) (E:Value->Shared->Prop):Inv (X.wish E) pins σ H s:=⟨I.ok.wish E,I.os,I.bare,I.base,I.loc,I.cell,I.free,I.freeC,I.pin,I.hok,I.len⟩
theorem Inv.kJ (I:Inv (X.wish E) pins σ H s):Inv X pins σ H s:=⟨I.ok.kJ,I.os,I.bare,I.base,I.loc,I.cell,I.free,I.freeC,I.pin,I.hok,I.len⟩
theorem SP.kJ {D:Ends} {f:Flow} {s':Shared} (h:SP (X.wish E) pins D f s'):SP X pins D f s':=by
 cases f with
 | next=>obtain ⟨σ',H',I,q⟩:=h;exact ⟨σ',H',I.kJ,q⟩
 | brk=>obtain ⟨σ',H',I,q⟩:=h;exact ⟨σ',H',I.kJ,q⟩
 | cont=>obtain ⟨σ',H',I,q⟩:=h;exact ⟨σ',H',I.kJ,q⟩
 | ret u=>obtain ⟨v,σ',H',I,r,q⟩:=h;exact ⟨v,σ',H',I.kJ,r,q⟩
theorem PSs.nox {st:List Stmt} {t:TS} (h:PSs X.nox st t):PSs X st t:=fun pins s σ H D I hw=>
 wpAny_mono (h pins s σ H D (I.wish _) hw) (fun _ _ q=>q.kJ) fun _ _ z=>False.elim z
end
section
variable {X:Cx} {st:Stmt} {rest:List Stmt} {t u:TS} {e:Expr} {te:TE} {pos:Pos}
noncomputable def Z0:TS:=fun D σ H=>D.nx σ H
noncomputable def aBl (t u:TS):TS:=fun D σ H=>t {D with nx:=u D} σ H
theorem uM:PSs X [] Z0:=fun _ _ σ H _ I h=>wpAny_execs_nil ⟨σ,H,I,h⟩
theorem jP (h1:PS X st t) (h2:PSs X rest u):PSs X (st::rest) (aBl t u):=by
 intro pins s σ H D I h;refine wpAny_execs_cons (thn (h1 pins s σ H {D with nx:=u D} I h) fun f s1 q=>?_);cases f with
 | next=>
  obtain ⟨σ',H',I',q⟩:=q;exact h2 pins s1 σ' H' D I' q
 | ret v=>exact q
 | brk=>exact q
 | cont=>exact q
theorem nC (h1:PS X st t):PSs X [st] t:=by
 intro pins s σ H D I h;refine wpAny_execs_cons (thn (h1 pins s σ H D I h) fun f s1 q=>?_);cases f with
 | next=>exact wpAny_execs_nil q
 | ret v=>exact q
 | brk=>exact q
 | cont=>exact q
theorem Inv.quiet {pins:List (Addr×Obj)} {σ:St} {H:Hp} {s:Shared} (I:Inv X pins σ H s):interactive X.env=false:=by simp [interactive,I.ok.kind]
noncomputable def aEb (te:TE):TS:=fun D σ H=>te σ H fun _ H1=>D.nx σ H1
theorem MK (he:PE X e te) (hs:swapsWith e none pos.line X.env=pure false:=by rfl):PS X (.Expr e pos) (aEb te):=by
 intro pins s σ H D I h;exact wpAny_Expr_any (thn (he pins s σ H _ I h) fun v s1 ⟨x,H1,I1,r1,q1⟩=>⟨σ,H1,I1,q1⟩) I.quiet hs
noncomputable def aDz (te:TE):TS:=fun D σ H=>te σ H D.rt
theorem wL (he:PE X e te):PS X (.Return (some e) pos) (aDz te):=by
 intro pins s σ H D I h;exact wpAny_Return_some (thn (he pins s σ H _ I h) fun v s1 ⟨x,H1,I1,r1,q1⟩=>⟨x,σ,H1,I1,r1,q1⟩)
noncomputable def aEc (c:TT) (t u:TS):TS:=fun D σ H=>c σ H fun b H1=>if b=true then t D σ H1 else u D σ H1
theorem U3 {c:Expr} {a b:List Stmt} {tc:TT} (hc:PT X c tc) (ha:PSs X a t) (hb:PSs X b u):PS X (.If c a b pos) (aEc tc t u):=by
 intro pins s σ H D I h;refine wpAny_If (thn (hc pins s σ H _ I h) fun d s1 ⟨H1,I1,q1⟩=>?_);cases d with
 | true=>exact ha pins s1 σ H1 D I1 q1
 | false=>exact hb pins s1 σ H1 D I1 q1
end
noncomputable abbrev TG:=V->St->Hp->(St->Hp->Prop)->Prop
noncomputable abbrev TGs:=List V->St->Hp->(St->Hp->Prop)->Prop
noncomputable def PG (X:Cx) (target:Expr) (t:TG):Prop:=
 ∀(pins:List (Addr×Obj)) (s:Shared) (σ:St) (H:Hp) (v:V) (u:Value) (Q:St->Hp->Prop),Inv X pins σ H s->RelV v u->t v σ H Q->
  wpAny (model X.prog X.w) X.A (assign target X.env u) (fun _ s'=>∃σ' H',Inv X pins σ' H' s'/\Q σ' H') X.xe s
noncomputable def PGs (X:Cx) (ts:List Expr) (t:TGs):Prop:=
 ∀(pins:List (Addr×Obj)) (s:Shared) (σ:St) (H:Hp) (vs:List V) (us:List Value) (Q:St->Hp->Prop),Inv X pins σ H s->Vals vs us->t vs σ H Q->
  wpAny (model X.prog X.w) X.A (assignInOrder ((assignEach ts X.env).map (·.2)) us) (fun _ s'=>∃σ' H',Inv X pins σ' H' s'/\Q σ' H') X.xe s
section
variable {X:Cx} {pos:Pos}
noncomputable def oW (i:Nat):TG:=fun v σ H Q=>Q (σ.set i (some v)) H
theorem bK {i:Nat} {x:Str} (hN:X.N.Nodup) (hi:X.N[i]?=some x) (hx:Loc X.env.scope x) (hf:X.fn x=true\/X.env.scope.names.lookup x=some .local:=by first|exact .inl rfl|exact .inr rfl|assumption):PG X (.Name x pos) (oW i):=by
 intro pins s σ H v u Q I r h;exact wpAny_assign_Name (DX I hN hi hx r (fun s' I'=>⟨_,H,I',h⟩) hf)
noncomputable def aFi:TGs:=fun vs σ H Q=>vs=[]/\Q σ H
noncomputable def aC3 (t:TG) (u:TGs):TGs:=fun vs σ H Q=>∃v r,vs=v::r/\t v σ H fun σ' H'=>u r σ' H' Q
theorem oX:PGs X [] aFi:=by
 intro pins s σ H vs us Q I r h;obtain ⟨e,h⟩:=h;subst e;cases r;exact assignInOrder_nil ⟨σ,H,I,h⟩
theorem eQ {e:Expr} {es:List Expr} {t:TG} {u:TGs} (h1:PG X e t) (h2:PGs X es u)
  (hs:(assignEach (e::es) X.env).map (·.2)=assign e X.env::(assignEach es X.env).map (·.2):=by rfl):PGs X (e::es) (aC3 t u):=by
 intro pins s σ H vs us Q I r h;obtain ⟨v,vr,e1,h⟩:=h;subst e1;cases r with
 | cons r rr=>
  rw [hs];refine assignInOrder_cons (thn (h1 pins s σ H _ _ _ I r h) fun _ s1 ⟨σ1,H1,I1,q1⟩=>?_);exact h2 pins s1 σ1 H1 _ _ Q I1 rr q1
noncomputable def aEd (K:PySem.W.Frag) (n:Nat) (t:TGs):TG:=fun v σ H Q=>∃a xs,v=.ref a/\SqT K H a xs/\xs.length=n/\t xs σ H Q
theorem t6 {es:List Expr} {k:Nat} {t:TGs} {n:Nat} (hc:X.calm=true) (h:PGs X es t)
  (hn:(assignEach es X.env).length=n:=by rfl) (hst:(assignEach es X.env).findIdx? (·.1)=none:=by rfl):PG X (.Tuple es k pos) (aEd X.K n t):=by
 intro pins s σ H v u Q I r hw;obtain ⟨a,xs,e1,hq,hl,hw⟩:=hw;subst e1;cases r;obtain ⟨its,rv,ht,hz⟩:=I.tuple hq;refine assign_Tuple_tuple (I.ok.hd hc) ht (by simp [hn,<-hl,rv.length]) hst fun h' hx=>?_
 have I1:Inv X pins σ H {s with heap:=h'}:=I.kept (t':=s.toks) fun b o e=>hx b o (Nat.ne_of_lt (Heap.lt_size e)) e
 exact h pins _ σ H xs _ Q I1 (by simpa using rv) hw
noncomputable def aBm (te:TE) (g:TG):TS:=fun D σ H=>te σ H fun x H1=>g x σ H1 D.nx
theorem t7 {i:Nat} {x:Str} {e:Expr} {te:TE} {pos':Pos} (hN:X.N.Nodup) (hi:X.N[i]?=some x) (hx:Loc X.env.scope x) (he:PE X e te) (hs:swapsWith e (some (.Name x pos')) pos.line X.env=pure false:=by rfl) (hf:X.fn x=true\/X.env.scope.names.lookup x=some .local:=by first|exact .inl rfl|exact .inr rfl|assumption) :
  PS X (.Assign [.Name x pos'] e pos) (aBm te (oW i)):=by
 intro pins s σ H D I h;refine wpAny_Assign_Name (thn (he pins s σ H _ I h) fun v s1 ⟨y,H1,I1,r1,q1⟩=>?_) hs;exact DX I1 hN hi hx r1 (fun s2 I2=>⟨_,H1,I2,q1⟩) hf
end
section
variable {X:Cx} {pos:Pos}
end
structure It where
 go:Nat->Hp->Prop
 yld:Nat->Hp->V->Hp->Prop
 stop:Nat->Hp->Prop
noncomputable def MN (X:Cx) (pins:List (Addr×Obj)) (H:Hp) (b:Addr):Prop:=
 H b=none/\b≠X.env.locals/\b∉X.fs/\(b∈X.ex\/X.s₀.heap.objs.size<=b)/\(∀x c,X.env.cells.lookup x=some c->c≠b)/\∀p∈X.pn++pins,p.1≠b
theorem Inv.aE0 {X:Cx} {pins:List (Addr×Obj)} {σ:St} {H H':Hp} {s:Shared} {b:Addr} (I:Inv X pins σ H s) (hb:s.heap.objs.size<=b) (hn:H' b=none):MN X pins H' b:=by
 refine ⟨hn,Nat.ne_of_gt (Nat.lt_of_lt_of_le I.lt hb),I.aE8 hb,.inr (Nat.le_trans I.sz hb),fun x c e z=>?_,fun p hp z=>?_⟩
 ·obtain ⟨v,q⟩:=I.cell x c e;exact absurd (Nat.lt_of_lt_of_le q.lt (by rw [z];exact hb)) (Nat.lt_irrefl _)
 ·exact absurd (Nat.lt_of_lt_of_le (Heap.lt_size (I.pin p hp).1) (by rw [z];exact hb)) (Nat.lt_irrefl _)
structure Turn (P:Program) (w:World) (K:PySem.W.Frag) (tg:Expr) (J:It) (fp:List Addr) (it:Addr) (tn:Nat->Heap->Prop):Prop where
 mem:it∈fp
 obj:∀i h,tn i h->∀b∈fp,∃o,h.get? b=some o/\∀v,o.data≠.cell v
 keep:∀i h h',tn i h->(∀b∈fp,∀o,h.get? b=some o->h'.get? b=some o)->tn i h'
 item:∀(X:Cx),X.prog=P->X.w=w->X.K=K->X.calm=true->∀(i:Nat) (pins:List (Addr×Obj)) (s:Shared) (σ:St) (H:Hp) (E:Value->Shared->Prop),Inv X pins σ H s->(∀b∈fp,MN X pins H b)->tn i s.heap->J.go i H->
  wpAny (model P w) X.A (pyNext (.ref it)) (fun r s1=>∃u,r=some u/\
   wpAny (model P w) X.A (letOwnedTupleGo tg (.ref it) u) (fun _ s2=>∃x H',Inv X pins σ H' s2/\RelV x u/\J.yld i H x H'/\tn (i+1) s2.heap/\∀b∈fp,H' b=none) E s1) E s
 done:∀(X:Cx),X.prog=P->X.w=w->X.K=K->X.calm=true->∀(i:Nat) (pins:List (Addr×Obj)) (s:Shared) (σ:St) (H:Hp) (E:Value->Shared->Prop),Inv X pins σ H s->(∀b∈fp,MN X pins H b)->tn i s.heap->J.stop i H->
  wpAny (model P w) X.A (pyNext (.ref it)) (fun r s1=>r=none/\Inv X pins σ H s1) E s
 self:∀(A:Around) (i:Nat) (s:Shared) (Q:Value->Shared->Prop) (E:Value->Shared->Prop),tn i s.heap->Q (.ref it) s->wpAny (model P w) A (pyIter (.ref it)) Q E s
noncomputable abbrev TI:=St->Hp->(It->Hp->Prop)->Prop
noncomputable def PIE (X:Cx) (pins:List (Addr×Obj)) (σ:St) (tg:Expr) (R:It->Hp->Prop) (itv:Value) (s2:Shared):Prop:=
 ∃(it:Addr) (fp:List Addr) (tn:Nat->Heap->Prop) (J:It) (H':Hp),itv=.ref it/\Inv X pins σ H' s2/\Turn X.prog X.w X.K tg J fp it tn/\tn 0 s2.heap/\(∀b∈fp,MN X pins H' b)/\R J H'
noncomputable def PI (X:Cx) (tg iter:Expr) (wi:TI):Prop:=
 ∀(pins:List (Addr×Obj)) (s:Shared) (σ:St) (H:Hp) (R:It->Hp->Prop),Inv X pins σ H s->wi σ H R->
  wpAny (model X.prog X.w) X.A (eval iter X.env) (fun v s1=>wpAny (model X.prog X.w) X.A (pyIter v) (PIE X pins σ tg R) X.xe s1) X.xe s
theorem U4 {M:Model} {A:Around} {E:Value -> Shared -> Prop} {s:Shared} {tg:Expr} {it:Addr} {u:Value} {o:Obj} {n:String} {vs:Array Value} {Q:Unit -> Shared -> Prop} (ho:s.heap.get? it=some o) (hc:o.cls=.type n) (hd:o.data=.fields vs)
    (hn:["enumerate", "zip", "dict_itemiterator", "dict_reverseitemiterator", "odict_iterator", "itertools.zip_longest", "itertools.pairwise"].contains n=false) (hQ:Q () s):wpAny M A (letOwnedTupleGo tg (.ref it) u) Q E s := by
  unfold letOwnedTupleGo;cases tg <;> first
    | exact wpAny_pure hQ
    | (cases u <;> first
        | exact wpAny_pure hQ
        | (refine wpAny_bind (wpAny_load ho ?_)
           rw [hc, hd];show wpAny M A (if (["enumerate", "zip", "dict_itemiterator", "dict_reverseitemiterator", "odict_iterator", "itertools.zip_longest", "itertools.pairwise"].contains n&&vs[0]?==some (rawInt _))=true then _ else _) Q E s;rw [if_neg (by intro h; rw [hn, Bool.false_and] at h; cases h)];exact wpAny_pure hQ))
noncomputable def Itl (K:PySem.W.Frag) (a:Addr):It:=
 ⟨fun i H=>∃xs x,SqL K H a xs/\xs[i]?=some x,fun i H x H'=>H'=H/\∀xs,SqL K H a xs->xs[i]?=some x,fun i H=>∃xs,SqL K H a xs/\xs.length<=i⟩
noncomputable def Itt (K:PySem.W.Frag) (a:Addr):It:=
 ⟨fun i H=>∃xs x,SqT K H a xs/\xs[i]?=some x,fun i H x H'=>H'=H/\∀xs,SqT K H a xs->xs[i]?=some x,fun i H=>∃xs,SqT K H a xs/\xs.length<=i⟩
noncomputable def Itr (lo:Int) (n:Nat):It:=⟨fun i _=>i<n,fun i H x H'=>H'=H/\x=.int (lo+i),fun i _=>n<=i⟩
theorem MP {P:Program} {w:World} {K:PySem.W.Frag} {tg:Expr} (a it:Addr):Turn P w K tg (Itl K a) [it] it (fun i h=>h.IsListIter it a i) where
 mem:=by simp
 obj:=fun i h st b hb=>by
  have e:b=it:=by simpa using hb
  subst e;obtain ⟨o,e,c,d⟩:=st;exact ⟨o,e,fun v z=>by rw [d] at z;cases z⟩
 keep:=fun i h h' st k=>st.at fun o e=>k it (by simp) o e
 item:=by
  intro X hP hw hK hc i pins s σ H E I hf st hg;subst hP hw hK;obtain ⟨xs,x,hq,hx⟩:=hg;obtain ⟨its,rv,p,hz⟩:=I.list hq;obtain ⟨u,hu,ru⟩:=rv.get hx;obtain ⟨f0,f1,f2,f3,f4,f5⟩:=hf it (by simp);refine wpAny_pyNext_list_item st p.isList (x:=u) (by simpa using hu) fun h' st' sb=>?_
  have I1:Inv X pins σ H {s with heap:=h'}:=I.turned (t':=s.toks) (fun b o hb e=>(sb.2 b hb).trans e) f0 f1 f3 f4 f5;obtain ⟨o,e,c,d⟩:=id st';exact ⟨u,rfl,U4 (s:={s with heap:=h'}) e c d (by decide) ⟨x,H,I1,ru,⟨rfl,fun ys hy=>by rw [I.U0 hy hq];exact hx⟩,st',fun b hb=>(hf b hb).1⟩⟩
 done:=by
  intro X hP hw hK hc i pins s σ H E I hf st hg;subst hP hw hK;obtain ⟨xs,hq,hx⟩:=hg;obtain ⟨its,rv,p,hz⟩:=I.list hq;obtain ⟨f0,f1,f2,f3,f4,f5⟩:=hf it (by simp);have hl:=rv.length;exact wpAny_pyNext_list_end (I.ok.hd hc) st p.isList (by simp;lia) fun h' eb=>⟨rfl,I.turned (t':=s.toks) (fun b o hb e=>eb b o hb e) f0 f1 f3 f4 f5⟩
 self:=fun _ _ _ _ _ st h=>wpAny_pyIter_listiter st h
theorem JC {P:Program} {w:World} {K:PySem.W.Frag} {tg:Expr} (a it:Addr):Turn P w K tg (Itt K a) [it] it (fun i h=>h.IsTupleIter it a i) where
 mem:=by simp
 obj:=fun i h st b hb=>by
  have e:b=it:=by simpa using hb
  subst e;obtain ⟨o,e,c,d⟩:=st;exact ⟨o,e,fun v z=>by rw [d] at z;cases z⟩
 keep:=fun i h h' st k=>st.at fun o e=>k it (by simp) o e
 item:=by
  intro X hP hw hK hc i pins s σ H E I hf st hg;subst hP hw hK;obtain ⟨xs,x,hq,hx⟩:=hg;obtain ⟨its,rv,p,hz⟩:=I.tuple hq;obtain ⟨u,hu,ru⟩:=rv.get hx;obtain ⟨f0,f1,f2,f3,f4,f5⟩:=hf it (by simp);refine wpAny_pyNext_tuple_item st (show s.heap.IsTuple a its.toArray from p) (x:=u) (by simpa using hu) fun h' st' sb=>?_
  have I1:Inv X pins σ H {s with heap:=h'}:=I.turned (t':=s.toks) (fun b o hb e=>(sb.2 b hb).trans e) f0 f1 f3 f4 f5;obtain ⟨o,e,c,d⟩:=id st';exact ⟨u,rfl,U4 (s:={s with heap:=h'}) e c d (by decide) ⟨x,H,I1,ru,⟨rfl,fun ys hy=>by rw [I.MJ hy hq];exact hx⟩,st',fun b hb=>(hf b hb).1⟩⟩
 done:=by
  intro X hP hw hK hc i pins s σ H E I hf st hg;subst hP hw hK;obtain ⟨xs,hq,hx⟩:=hg;obtain ⟨its,rv,p,hz⟩:=I.tuple hq;obtain ⟨f0,f1,f2,f3,f4,f5⟩:=hf it (by simp);have hl:=rv.length;exact wpAny_pyNext_tuple_end (I.ok.hd hc) st (show s.heap.IsTuple a its.toArray from p) (by simp;lia) fun h' eb=>⟨rfl,I.turned (t':=s.toks) (fun b o hb e=>eb b o hb e) f0 f1 f3 f4 f5⟩
 self:=fun _ _ _ _ _ st h=>wpAny_pyIter_tupleiter st h
theorem JD {P:Program} {w:World} {K:PySem.W.Frag} {tg:Expr} (it:Addr) (lo:Int) (n:Nat):Turn P w K tg (Itr lo n) [it] it (fun i h=>IsRangeIter h it (lo+(i:Nat)*1) ((n:Int)-(i:Nat)) 1) where
 mem:=by simp
 obj:=fun i h st b hb=>by
  have e:b=it:=by simpa using hb
  subst e;exact ⟨_,st,fun v z=>by
   have z':Data.fields _=Data.cell v:=z;cases z'⟩
 keep:=fun i h h' st k=>k it (by simp) _ st
 item:=by
  intro X hP hw hK hc i pins s σ H E I hf st hg;subst hP hw hK;obtain ⟨f0,f1,f2,f3,f4,f5⟩:=hf it (by simp);have W:=Walks.range (prog:=X.prog) (w:=X.w) (I.ok.hd hc) it lo 1 n;refine W.item i s _ _ hg st fun v h' tk hv st' kk=>?_
  obtain ⟨t,rfl⟩:=hv;have I1:Inv X pins σ H {s with heap:=h',toks:=tk}:=I.turned (fun b o hb e=>kk b o (by simpa using hb) e) f0 f1 f3 f4 f5;refine ⟨_,rfl,U4 (s:={s with heap:=h',toks:=tk}) (n := "range_iterator") st' rfl rfl (by decide) ⟨.int (lo+i),H,I1,⟨t,?_⟩,⟨rfl,rfl⟩,st',fun b hb=>(hf b hb).1⟩⟩;rw [Int.mul_one]
 done:=by
  intro X hP hw hK hc i pins s σ H E I hf st hg;subst hP hw hK;obtain ⟨f0,f1,f2,f3,f4,f5⟩:=hf it (by simp);exact wpAny_pyNext_range_end (I.ok.hd hc) st (by have:n<=i:=hg;lia) fun h' eb=>⟨rfl,I.turned (t':=s.toks) (fun b o hb e=>eb b o hb e) f0 f1 f3 f4 f5⟩
 self:=fun _ _ _ _ _ st h=>wpAny_pyIter_rangeiter st h
end L2
namespace L2
open PySem PySem.Spec PyProof.Rows
section
variable {X:Cx} {tg:Expr}
theorem DY {pins:List (Addr×Obj)} {σ:St} {H:Hp} {s:Shared} {R:It->Hp->Prop} {E:Value->Shared->Prop} {lo hi:Int} {t u v:Tok} {tk:Nat} (I:Inv X pins σ H s) (h1:-(2 ^ 62)<=lo) (h2:lo<2 ^ 62) (h3:-(2 ^ 62)<=hi) (h4:hi<2 ^ 62)
  (q:R (Itr lo (hi-lo).toNat) H):wpAny (model X.prog X.w) X.A (pyIter (.ref s.heap.objs.size)) (PIE X pins σ tg R) E {s with heap:=s.heap.push {cls:=.type "range",data:=.fields #[.int lo t,.int hi u,.int 1 v]},toks:=tk}:=by
 refine wpAny_pyIter_range (IsRange.new ..) (small_one h1 h2 h3 h4) ?_;have I1:Inv X pins σ H {s with heap:=s.heap.push {cls:=.type "range",data:=.fields #[.int lo t,.int hi u,.int 1 v]},toks:=tk}:=I.kept fun b o e=>Heap.get?_push_of_some _ e
 refine ⟨(s.heap.push {cls:=.type "range",data:=.fields #[.int lo t,.int hi u,.int 1 v]}).objs.size,[(s.heap.push {cls:=.type "range",data:=.fields #[.int lo t,.int hi u,.int 1 v]}).objs.size],_,_,H,rfl,
  I1.kept (t':=tk) fun b o e=>Heap.get?_push_of_some _ e,JD _ lo (hi-lo).toNat,?_,fun b hb=>?_,q⟩
 ·have e1:lo+((0:Nat):Int)*1=lo:=by simp
  have e2:(((hi-lo).toNat:Nat):Int)-((0:Nat):Int)=Builtin.Range.rangeSize lo hi 1:=by rw [rangeSize_one];split <;> lia
  show IsRangeIter _ _ (lo+((0:Nat):Int)*1) ((((hi-lo).toNat:Nat):Int)-((0:Nat):Int)) 1;rw [e1,e2];exact Heap.get?_push_size _ rfl
 ·have e:b=(s.heap.push {cls:=.type "range",data:=.fields #[.int lo t,.int hi u,.int 1 v]}).objs.size:=by simpa using hb
  subst e;exact I1.aE0 (Nat.le_refl _) (I1.hok.fresh (Nat.le_refl _))
noncomputable def aEe (ta:TA):TI:=fun σ H R=>ta σ H fun vs H1=>∃j:Int,vs=[.int j]/\-(2 ^ 62)<=j/\j<2 ^ 62/\R (Itr 0 j.toNat) H1
noncomputable def aEf (ta:TA):TI:=fun σ H R=>ta σ H fun vs H1=>∃i j:Int,vs=[.int i,.int j]/\(-(2 ^ 62)<=i/\i<2 ^ 62/\-(2 ^ 62)<=j/\j<2 ^ 62)/\R (Itr i (j-i).toNat) H1
theorem MT {a:Expr} {ta:TA} {p pos:Pos} (hg:Gl X "range") (hm:X.mg "range" = none) (ha:PA X [a] ta) (hs:starEach [a] X.env=[(false,eval a X.env)]:=by rfl):PI X tg (.Call (.Name "range" p) [a] [] pos) (aEe ta):=by
 intro pins s σ H R I h;refine Call_ (tZ I hg hm boot_range (PyProof.Rows.callWith_type1 (thn (ha pos pins s σ H _ I h) fun us s1 ⟨vs,H1,I1,r1,q1⟩=>?_) hs rfl));obtain ⟨j,e,q1,q2,q⟩:=q1;subst e;cases r1 with
 | cons r rr=>
  cases rr;obtain ⟨t,rfl⟩:=r;exact call_range_1 (DY I1 (by lia) (by lia) q1 q2 (by simpa using q))
theorem M3 {a b:Expr} {ta:TA} {p pos:Pos} (hg:Gl X "range") (hm:X.mg "range" = none) (ha:PA X [a,b] ta) (hs:starEach [a,b] X.env=[(false,eval a X.env),(false,eval b X.env)]:=by rfl) (hs2:starEach [b] X.env=[(false,eval b X.env)]:=by rfl) :
  PI X tg (.Call (.Name "range" p) [a,b] [] pos) (aEf ta):=by
 intro pins s σ H R I h;refine Call_ (tZ I hg hm boot_range (PyProof.Rows.callWith_type1 (thn (ha pos pins s σ H _ I h) fun us s1 ⟨vs,H1,I1,r1,q1⟩=>?_) (by rw [hs,hs2]) (by rw [hs2];rfl)));obtain ⟨i,j,e,⟨q1,q2,q3,q4⟩,q⟩:=q1;subst e;cases r1 with
 | cons r rr=>
  cases rr with
  | cons r' rr=>
   cases rr;obtain ⟨t,rfl⟩:=r;obtain ⟨t',rfl⟩:=r';exact call_range_2 (DY I1 q1 q2 q3 q4 q)
noncomputable def aFy (wi:TI) (g:TG) (tb:TS):TS:=fun D σ H=>wi σ H fun J H1=>∃W:Nat->Nat->St->Hp->Prop,(∃m,W 0 m σ H1)/\∀i m σ H,W i m σ H->
 (J.stop i H/\D.nx σ H)\/(J.go i H/\∃N:St->Hp->Prop,(∀σ' H',N σ' H'->∃m',m'<m/\W (i+1) m' σ' H')/\∀x H',J.yld i H x H'->g x σ H' fun σ2 H2=>tb {D with nx:=N,ct:=N,bk:=D.nx} σ2 H2)
noncomputable def pK (fp:List Addr) (h:Heap):List (Addr×Obj):=fp.filterMap fun b=>(h.get? b).map fun o=>(b,o)
theorem dF {fp:List Addr} {h:Heap} {b:Addr} {o:Obj} (hb:b∈fp) (e:h.get? b=some o):(b,o)∈pK fp h:=List.mem_filterMap.mpr ⟨b,hb,by rw [e];rfl⟩
theorem M4 {fp:List Addr} {h:Heap} {p:Addr×Obj} (hp:p∈pK fp h):p.1∈fp/\h.get? p.1=some p.2:=by
 obtain ⟨b,hb,e⟩:=List.mem_filterMap.mp hp;cases q:h.get? b with
 | none=>rw [q] at e;cases e
 | some o=>
  rw [q] at e;have e':(b,o)=p:=Option.some.inj e;subst e';exact ⟨hb,q⟩
theorem Inv.pinned {pins:List (Addr×Obj)} {σ:St} {H:Hp} {s:Shared} {fp:List Addr} (I:Inv X pins σ H s) (hf:∀b∈fp,MN X pins H b) (ho:∀b∈fp,∃o,s.heap.get? b=some o/\∀v,o.data≠.cell v):Inv X (pins++pK fp s.heap) σ H s:=
 I.uK fun p hp=>(List.mem_append.mp hp).elim (fun z=>I.pin p (List.mem_append_right _ z)) fun z=>by
  obtain ⟨hb,e⟩:=M4 z;obtain ⟨f0,f1,f2,_⟩:=hf p.1 hb;obtain ⟨o,e',d⟩:=ho p.1 hb;rw [e] at e';cases e';exact ⟨e,f0,f1,f2,d⟩
theorem Inv.gU {pins pl:List (Addr×Obj)} {σ:St} {H:Hp} {s:Shared} (I:Inv X (pins++pl) σ H s):Inv X pins σ H s:=I.uK fun p hp=>I.pin p (List.mem_append_right _ (List.mem_append_left _ hp))
theorem YJ {iter:Expr} {body:List Stmt} {wi:TI} {g:TG} {tb:TS} {pos:Pos} (hp:PassesOwn (model X.prog X.w) X.A X.env X.xe) (hc:X.calm=true) (hi:PI X tg iter wi) (hg:PG X tg g) (hb:PSs X body tb)
  (hs:∀x,foldedSetIterable iter X.env x=pure x:=by intro _;rfl):PS X (.For tg iter body [] pos) (aFy wi g tb):=by
 intro pins s σ H D I h;refine wpAny_For (thn (hi pins s σ H _ I h) fun v s1 h1=>thn h1 fun itv s2 h2=>?_) hs;obtain ⟨it,fp,tn,J,H2,e,I2,T,st2,f2,W,⟨m0,w0⟩,turn⟩:=h2;subst e
 -- what stays true of the iterator's objects through the loop
 have stat:∀{H':Hp},(∀b∈fp,H' b=none)->∀b∈fp,MN X pins H' b:=fun hn b hb=>⟨hn b hb,(f2 b hb).2⟩
 refine codeAny_forLoop_any (fun n s'=>∃i σ' H',Inv X pins σ' H' s'/\tn i s'.heap/\(∀b∈fp,H' b=none)/\W i n σ' H') ?_ m0 ⟨0,σ,H2,I2,st2,fun b hb=>(f2 b hb).1,w0⟩;rintro n s3 ⟨i,σ3,H3,I3,st3,fr3,w3⟩;rcases turn i n σ3 H3 w3 with ⟨stop,qn⟩|⟨go,N,hN,step⟩
 ·refine wpAny_passesOwn hp (thn (T.done X rfl rfl rfl hc i pins s3 σ3 H3 X.xe I3 (stat fr3) st3 stop) fun r s4 ⟨hr,I4⟩=>?_);subst hr;exact wpAny_execs_nil ⟨σ3,H3,I4,qn⟩
 ·refine wpAny_passesOwn hp (thn (T.item X rfl rfl rfl hc i pins s3 σ3 H3 X.xe I3 (stat fr3) st3 go) fun r s4 ⟨u,hr,h4⟩=>?_);subst hr;refine wpAny_passesOwn hp (thn h4 fun _ s5 ⟨x,H5,I5,r5,y5,st5,fr5⟩=>?_);have I5':=I5.pinned (stat fr5) (T.obj _ _ st5);refine wpAny_passesOwn hp (thn (hg _ s5 σ3 H5 x u _ I5' r5 (step x H5 y5)) fun _ s6 ⟨σ6,H6,I6,q6⟩=>?_);refine wpAny_passesOwn hp (thn (hb _ s6 σ6 H6 _ I6 q6) fun f s7 q7=>?_);have again:∀{σ7:St} {H7:Hp},Inv X (pins++pK fp s5.heap) σ7 H7 s7->N σ7 H7->∃m,m<n/\∃i σ' H',Inv X pins σ' H' s7/\tn i s7.heap/\(∀b∈fp,H' b=none)/\W i m σ' H':=fun {σ7 H7} I7 n7=>by
   obtain ⟨m',hm,w7⟩:=hN σ7 H7 n7;refine ⟨m',hm,i+1,σ7,H7,I7.gU,T.keep _ _ _ st5 fun b hb o e=>(I7.pin (b,o) (List.mem_append_right _ (List.mem_append_right _ (dF hb e)))).1,fun b hb=>?_,w7⟩;obtain ⟨o,e,d⟩:=T.obj _ _ st5 b hb;exact (I7.pin (b,o) (List.mem_append_right _ (List.mem_append_right _ (dF hb e)))).2.1
  cases f with
  | next=>obtain ⟨σ7,H7,I7,n7⟩:=q7;exact again I7 n7
  | cont=>obtain ⟨σ7,H7,I7,n7⟩:=q7;exact again I7 n7
  | brk=>obtain ⟨σ7,H7,I7,q7⟩:=q7;exact ⟨σ7,H7,I7.gU,q7⟩
  | ret v=>obtain ⟨x7,σ7,H7,I7,r7,q7⟩:=q7;exact ⟨x7,σ7,H7,I7.gU,r7,q7⟩
end
end L2
namespace L2
open PySem PySem.Spec PyProof.Rows
noncomputable abbrev R2:=V->V->Hp->VK->Prop
noncomputable def OpR (X:Cx) (f:Value->Value->Sem Value) (r:R2):Prop:=
 ∀(pins:List (Addr×Obj)) (s:Shared) (σ:St) (H:Hp) (x y:V) (v u:Value) (Q:VK),Inv X pins σ H s->RelV x v->RelV y u->r x y H Q->
  wpAny (model X.prog X.w) X.A (f v u) (EP X pins σ Q) X.xe s
noncomputable def UnR (X:Cx) (f:Value->Sem Value) (r:V->Hp->VK->Prop):Prop:=
 ∀(pins:List (Addr×Obj)) (s:Shared) (σ:St) (H:Hp) (x:V) (v:Value) (Q:VK),Inv X pins σ H s->RelV x v->r x H Q->
  wpAny (model X.prog X.w) X.A (f v) (EP X pins σ Q) X.xe s
noncomputable def iY (X:Cx) (f:Value) (r:List V->Hp->VK->Prop):Prop:=
 ∀(pins:List (Addr×Obj)) (s:Shared) (σ:St) (H:Hp) (xs:List V) (us:List Value) (Q:VK),Inv X pins σ H s->Vals xs us->r xs H Q->
  wpAny (model X.prog X.w) X.A (call f us) (EP X pins σ Q) X.xe s
noncomputable def aFz (X:Cx) (r:V->Hp->(Bool->Hp->Prop)->Prop):Prop:=
 ∀(pins:List (Addr×Obj)) (s:Shared) (σ:St) (H:Hp) (x:V) (v:Value) (Q:Bool->Hp->Prop),Inv X pins σ H s->RelV x v->r x H Q->
  wpAny (model X.prog X.w) X.A (truthy v) (TP X pins σ Q) X.xe s
noncomputable def tOp (r:R2) (ta tb:TE):TE:=fun σ H Q=>ta σ H fun x H1=>tb σ H1 fun y H2=>r x y H2 Q
noncomputable def tUn (r:V->Hp->VK->Prop) (ta:TE):TE:=fun σ H Q=>ta σ H fun x H1=>r x H1 Q
noncomputable def rI (C:Int->Int->Prop) (g:Int->Int->V):R2:=fun x y H Q=>∃i j,x=.int i/\y=.int j/\C i j/\Q (g i j) H
noncomputable def rI0 (g:Int->Int->V):R2:=fun x y H Q=>∃i j,x=.int i/\y=.int j/\Q (g i j) H
noncomputable def rU (g:Int->V):V->Hp->VK->Prop:=fun x H Q=>∃i,x=.int i/\Q (g i) H
section
variable {X:Cx} {a b c:Expr} {ta tb tc:TE} {pos:Pos}
theorem aEg (ha:PE X a ta) (hb:PE X b tb) {pins:List (Addr×Obj)} {s:Shared} {σ:St} {H:Hp} {R:V->V->Hp->Prop} (I:Inv X pins σ H s)
  (h:ta σ H fun x H1=>tb σ H1 fun y H2=>R x y H2) {Q:Value->Shared->Prop} {f:Value->Value->Sem Value}
  (hf:∀v u s2 x y H2,Inv X pins σ H2 s2->RelV x v->RelV y u->R x y H2->wpAny (model X.prog X.w) X.A (f v u) Q X.xe s2) :
  wpAny (model X.prog X.w) X.A (eval a X.env) (fun v s₁=>wpAny (model X.prog X.w) X.A (eval b X.env) (fun u s₂=>wpAny (model X.prog X.w) X.A (f v u) Q X.xe s₂) X.xe s₁) X.xe s:=by
 refine thn (ha pins s σ H _ I h) fun v s1 ⟨x,H1,I1,r1,q1⟩=>?_
 refine thn (hb pins s1 σ H1 _ I1 q1) fun u s2 ⟨y,H2,I2,r2,q2⟩=>?_
 exact hf v u s2 x y H2 I2 r1 r2 q2
theorem aEh {op:Operator} {r:R2} (ho:OpR X (binaryOp op) r) (ha:PE X a ta) (hb:PE X b tb):PE X (.BinOp a op b pos) (tOp r ta tb):=by
 intro pins s σ H Q I h;exact wpAny_BinOp (aEg ha hb I h fun v u s2 x y H2 I2 rx ry q=>ho pins s2 σ H2 x y v u Q I2 rx ry q)
theorem aEi {op:UnaryOp} {r:V->Hp->VK->Prop} (ho:UnR X (unaryOp op) r) (ha:PE X a ta):PE X (.UnaryOp op a pos) (tUn r ta):=by
 intro pins s σ H Q I h;exact UnaryOp_ (thn (ha pins s σ H _ I h) fun v s1 ⟨x,H1,I1,r1,q1⟩=>ho pins s1 σ H1 x v Q I1 r1 q1)
theorem opI {f:Value->Value->Sem Value} {C:Int->Int->Prop} {g:Int->Int->Int}
  (rule:∀(i j:Int) (t u:Tok) (s:Shared) (Q:Value->Shared->Prop) (E:Value->Shared->Prop),C i j->Q (.int (g i j) s.toks) {s with toks:=s.toks+1}->wpAny (model X.prog X.w) X.A (f (.int i t) (.int j u)) Q E s) :
  OpR X f (rI C fun i j=>.int (g i j)):=by
 intro pins s σ H x y v u Q I rx ry h;obtain ⟨i,j,rfl,rfl,hc,q⟩:=h;obtain ⟨t,rfl⟩:=rx;obtain ⟨t',rfl⟩:=ry;exact rule i j t t' s _ _ hc ⟨.int (g i j),H,I.tok _,⟨_,rfl⟩,q⟩
theorem aFj {f:Value->Value->Sem Value} {g:Int->Int->Int}
  (rule:∀(i j:Int) (t u:Tok) (s:Shared) (Q:Value->Shared->Prop) (E:Value->Shared->Prop),Q (.int (g i j) s.toks) {s with toks:=s.toks+1}->wpAny (model X.prog X.w) X.A (f (.int i t) (.int j u)) Q E s) :
  OpR X f (rI0 fun i j=>.int (g i j)):=by
 intro pins s σ H x y v u Q I rx ry h;obtain ⟨i,j,rfl,rfl,q⟩:=h;obtain ⟨t,rfl⟩:=rx;obtain ⟨t',rfl⟩:=ry;exact rule i j t t' s _ _ ⟨.int (g i j),H,I.tok _,⟨_,rfl⟩,q⟩
noncomputable def aG0 (i j:Int):Prop:=0<j/\j<1073741824
noncomputable def aG1 (i j:Int):Prop:=0<=j/\j<=1000000/\i.natAbs<2 ^ 64
noncomputable def aEj (i j:Int):Prop:=(-(2 ^ 64)<i/\i<2 ^ 64)\/(-(2 ^ 64)<j/\j<2 ^ 64)
theorem aEj.ok {i j:Int} (h:aEj i j):IntMulOk i j:=by
 rcases h with ⟨h1,h2⟩|⟨h1,h2⟩
 ·exact .of_left (intBits_le_64 h1 h2)
 ·exact .of_right (intBits_le_64 h1 h2)
theorem aC4:OpR X (binaryOp .Add) (rI0 fun i j=>.int (i+j)):=aFj fun _ _ _ _ _ _ _ q=>add_int q
theorem aC5:OpR X (binaryOp .Sub) (rI0 fun i j=>.int (i-j)):=aFj fun _ _ _ _ _ _ _ q=>sub_int q
theorem aC6:OpR X (binaryOp .Mult) (rI aEj fun i j=>.int (i*j)):=opI fun _ _ _ _ _ _ _ hc q=>mul_int q hc.ok
theorem Z1:OpR X (binaryOp .FloorDiv) (rI aG0 fun i j=>.int (i / j)):=opI fun i j _ _ _ _ _ hc q=>by
 have h1:(0:Int)<j:=hc.1;have h2:j<1073741824:=hc.2;exact floordiv_int (by lia) (by rw [Int.fdiv_eq_ediv_of_nonneg i (by lia)];exact q) (.inl (PyProof.noPylong_small (by lia)))
theorem aC7:OpR X (binaryOp .Mod) (rI (fun _ j=>0<j) fun i j=>.int (i % j)):=opI fun i j _ _ _ _ _ hc q=>by
 have h1:(0:Int)<j:=hc;exact mod_int' (by lia) (by rw [Int.fmod_eq_emod_of_nonneg i (by lia)];exact q)
theorem aC8:OpR X (binaryOp .Pow) (rI aG1 fun i j=>.int (i ^ j.toNat)):=opI fun _ _ _ _ _ _ _ hc q=>pow_int_small hc.1 hc.2.1 hc.2.2 q
theorem unI {f:Value->Sem Value} {g:Int->Int}
  (rule:∀(i:Int) (t:Tok) (s:Shared) (Q:Value->Shared->Prop) (E:Value->Shared->Prop),Q (.int (g i) s.toks) {s with toks:=s.toks+1}->wpAny (model X.prog X.w) X.A (f (.int i t)) Q E s) :
  UnR X f (rU fun i=>.int (g i)):=by
 intro pins s σ H x v Q I rx h;obtain ⟨i,rfl,q⟩:=h;obtain ⟨t,rfl⟩:=rx;exact rule i t s _ _ ⟨.int (g i),H,I.tok _,⟨_,rfl⟩,q⟩
theorem aC9:UnR X (unaryOp .USub) (rU fun i=>.int (-i)):=unI fun _ _ _ _ _ q=>neg_int q
end
section
variable {X:Cx} {a b c:Expr} {ta tb tc:TE} {pos:Pos}
theorem cD (b:Expr) {op:CmpOp} (h:op≠.In:=by decide) (h2:op≠.NotIn:=by decide):behindInMarks op b=false:=by
 have e1:(op==CmpOp.In)=false:=by cases op <;> first|rfl|exact absurd rfl h
 have e2:(op==CmpOp.NotIn)=false:=by cases op <;> first|rfl|exact absurd rfl h2
 cases b <;> simp [behindInMarks,e1,e2]
theorem Z4 {op:CmpOp} {r:R2} (ho:OpR X (compareOp op) r) (ha:PE X a ta) (hb:PE X b tb) (hm:behindInMarks op b=false):PE X (.Compare a [op] [b] pos) (tOp r ta tb):=by
 intro pins s σ H Q I h;exact wpAny_Compare1 (aEg ha hb I h fun v u s2 x y H2 I2 rx ry q=>ho pins s2 σ H2 x y v u Q I2 rx ry q) hm
noncomputable def aCa (t:TE):TT:=fun σ H Q=>t σ H fun x H'=>∃k,x=.bl k/\Q k H'
theorem Z5 {op:CmpOp} {r:R2} (ho:OpR X (compareOp op) r) (ha:PE X a ta) (hb:PE X b tb) (hm:behindInMarks op b=false):PT X (.Compare a [op] [b] pos) (aCa (tOp r ta tb)):=by
 intro pins s σ H Q I h;refine wpAny_isTrue_Compare1 (thn (ha pins s σ H _ I h) fun v s1 ⟨x,H1,I1,r1,q1⟩=>thn (hb pins s1 σ H1 _ I1 q1) fun u s2 ⟨y,H2,I2,r2,q2⟩=>
  thn (ho pins s2 σ H2 x y v u _ I2 r1 r2 q2) fun c s3 ⟨z,H3,I3,r3,k,e,q3⟩=>?_) hm
 subst e;cases r3;exact wpAny_truthy_bool ⟨H3,I3,q3⟩
noncomputable def YK (r r':R2) (ta tb tc:TE):TE:=fun σ H Q=>ta σ H fun x H1=>tb σ H1 fun y H2=>r x y H2 fun z H3=>∃k,z=.bl k/\
 (if k=true then tc σ H3 fun w' H4=>r' y w' H4 Q else Q (.bl false) H3)
theorem U5 {op op':CmpOp} {r r':R2} (ho:OpR X (compareOp op) r) (ho':OpR X (compareOp op') r') (ha:PE X a ta) (hb:PE X b tb) (hc:PE X c tc)
  (hm:lastMarks [op,op'] [b,c]=false:=by with_unfolding_all rfl):PT X (.Compare a [op,op'] [b,c] pos) (aCa (YK r r' ta tb tc)):=by
 intro pins s σ H Q I h;refine isTrue_chain (thn (ha pins s σ H _ I h) fun v s1 ⟨x,H1,I1,r1,q1⟩=>test_link (thn (hb pins s1 σ H1 _ I1 q1) fun u s2 ⟨y,H2,I2,r2,q2⟩=>
  thn (ho pins s2 σ H2 x y v u _ I2 r1 r2 q2) fun d s3 ⟨z,H3,I3,r3,k,e,q3⟩=>?_)) hm
 subst e;cases r3;refine wpAny_truthy_bool ?_;cases k with
 | false=>
  obtain ⟨k',e',q'⟩:=q3;cases e';exact ite_ff ⟨H3,I3,q'⟩
 | true=>
  refine ite_tt (test_last (thn (hc pins s3 σ H3 _ I3 q3) fun w' s4 ⟨z',H4,I4,r4,q4⟩=>thn (ho' pins s4 σ H4 y z' u w' _ I4 r2 r4 q4) fun d' s5 ⟨z2,H5,I5,r5,k2,e2,q5⟩=>?_));subst e2;cases r5;exact wpAny_truthy_bool ⟨H5,I5,q5⟩
noncomputable def aEk (K:PySem.W.Frag) (x:V) (H:Hp) (k:Bool):Prop:=
 match x with
 | .non=>k=false
 | .bl b=>k=b
 | .int i=>k=(i != 0)
 | .str y=>y.length<=sizeLine/\k=((y.length:Int) != 0)
 | .byt y=>y.size<=sizeLine/\k=((y.size:Int) != 0)
 | .ref p=>(∃xs,SqL K H p xs/\k=!xs.isEmpty)\/(∃xs,SqT K H p xs/\k=!xs.isEmpty)\/∃kvs,H p=some (.dK kvs)/\k=!kvs.isEmpty
 | _=>False
theorem JF {κ:Type} {kvs:List (κ×V)} {vs:List (κ×Value)} (r:KV kvs vs):(!vs.isEmpty)=!kvs.isEmpty:=by
 cases r <;> rfl
theorem t8 {xs:List V} {its:List Value} (r:Vals xs its):(!its.toArray.isEmpty)=!xs.isEmpty:=by
 cases r <;> simp
theorem t_:(sizeLine:Nat)<2 ^ 63:=by rw [sizeLine_eq];decide
theorem aCb:aFz X (fun x H Q=>∃k,aEk X.K x H k/\Q k H):=by
 intro pins s σ H x v Q I rx h;obtain ⟨k,e,q⟩:=h;have hl:=t_;have hs:sizeLine=16777216:=sizeLine_eq;cases x with
 | non=>
  cases rx;have e':k=false:=e;subst e';exact truthy_none ⟨H,I,q⟩
 | bl b=>
  cases rx;have e':k=b:=e;subst e';exact wpAny_truthy_bool ⟨H,I,q⟩
 | int i=>
  obtain ⟨t,rfl⟩:=rx;have e':k=(i != 0):=e;subst e';exact PySem.P.truthy_int ⟨H,I,q⟩
 | str y=>
  obtain ⟨t,rfl⟩:=rx;obtain ⟨hy,e'⟩:y.length<=sizeLine/\k=((y.length:Int) != 0):=e;subst e';exact PySem.P.truthy_str (by lia) ⟨H,I.tok _,q⟩
 | byt y=>
  obtain ⟨t,rfl⟩:=rx;obtain ⟨hy,e'⟩:y.size<=sizeLine/\k=((y.size:Int) != 0):=e;subst e';exact PySem.W.truthy_bytes (by lia) ⟨H,I.tok _,q⟩
 | ref p=>
  cases rx;have e':(∃xs,SqL X.K H p xs/\k=!xs.isEmpty)\/(∃xs,SqT X.K H p xs/\k=!xs.isEmpty)\/∃kvs,H p=some (.dK kvs)/\k=!kvs.isEmpty:=e;rcases e' with ⟨xs,hx,e'⟩|⟨xs,hx,e'⟩|⟨kvs,hx,e'⟩
  ·subst e';obtain ⟨its,r,pl,hz⟩:=I.list hx;have hlen:=r.length;exact wpAny_truthy_list pl.isList (by simp only [List.size_toArray];lia) ⟨H,I.tok _,by rw [t8 r];exact q⟩
  ·subst e';obtain ⟨its,r,pl,hz⟩:=I.tuple hx;have hlen:=r.length;exact truthy_tuple pl (by simp only [List.size_toArray];lia) ⟨H,I.tok _,by rw [t8 r];exact q⟩
  ·subst e';obtain ⟨hz,hS,vs,r,m⟩:kvs.length<=sizeLine/\(p==sysModules)=false/\∃vs,KV kvs vs/\s.heap.DictOf (cU X.prog X.w) p vs:=I.hok p _ hx;have hlen:kvs.length=vs.length:=Paired.length r;exact wpAny_truthy_dict hS m (by lia) ⟨H,I.tok _,by rw [JF r];exact q⟩
 | _=>exact (show False from e).elim
theorem U6 (ha:PE X a ta) (he:∀whole,isTrue a X.env whole=(do let v <- whole;standAt a.pos;holding [v] (truthy v))) :
  PT X a (fun σ H Q=>ta σ H fun x H'=>∃k,aEk X.K x H' k/\Q k H'):=by
 intro pins s σ H Q I h;exact isTrue_plain (thn (ha pins s σ H _ I h) fun v s1 ⟨x,H1,I1,r1,q1⟩=>aCb pins s1 σ H1 x v Q I1 r1 q1) (he _)
theorem JG:OpR X (binaryOp .Add) (fun x y H Q=>∃i j,x=.str i/\y=.str j/\i.length+j.length<=sizeLine/\Q (.str (i++j)) H):=by
 intro pins s σ H x y v u Q I rx ry h;obtain ⟨i,j,rfl,rfl,hz,q⟩:=h;obtain ⟨t,rfl⟩:=rx;obtain ⟨t',rfl⟩:=ry;exact add_str (fun t' tk=>⟨.str (i++j),H,I.tok _,⟨_,rfl⟩,q⟩) hz
theorem vals1 {x:V} {us:List Value} (r:Vals [x] us):∃u,us=[u]/\RelV x u:=by
 cases r with
 | cons r1 r2=>cases r2;exact ⟨_,rfl,r1⟩
end
end L2
namespace L2
open PySem PySem.Spec PyProof.Rows
section
variable {prog:Program} {w:World} {A:Around} {E:Value->Shared->Prop} {s:Shared} {K:PySem.W.Frag} {x dx C f:Addr} {mA:Str->Option Value} {name:Str} {v:Value}
end
theorem T8.some_of {v:V} {o:Option Value} (r:T8 (some v) o):∃u,o=some u/\RelV v u:=by
 cases o with
 | none=>exact (show False from r).elim
 | some u=>exact ⟨u,rfl,r⟩
section
variable {P:Program} {w:World} {H H':Hp} {h h':Heap} {a C dx:Addr} {fs fs':List (Str×V)}
end
section
variable {X:Cx} {pins:List (Addr×Obj)} {σ:St} {H:Hp} {s:Shared} {a C dx:Addr} {fs:List (Str×V)} {f:Str} {v:V} {A:Around} {E:Value->Shared->Prop}
end
section
variable {X:Cx} {o e value:Expr} {f:Str} {pos pos' tpos:Pos} {ta tv:TE}
end
section
variable {X:Cx} {pins:List (Addr×Obj)} {σ:St} {H:Hp} {s:Shared} {A:Around} {E:Value->Shared->Prop} {Q:Value->Shared->Prop} {c:Value} {b:Bool}
end
end L2
namespace L2
open PySem PySem.Spec PyProof.Rows
structure pL (k:Nat) (A:Around):Prop where
 hd:A.handled=none
 dp:A.depth+3*k+5<recursionLimit
 un:A.units+16*k+200<cLine
theorem pL.mono {j k:Nat} {A:Around} (r:pL k A) (h:j<=k):pL j A:=⟨r.hd,by have:=r.dp;lia,by have:=r.un;lia⟩
theorem pL.deeper {k:Nat} {A:Around} (r:pL (k+1) A) (env:Env):pL k (A.deeper env):=
 ⟨r.hd,by have:=r.dp;show A.depth+1+3*k+5<_;lia,by have:=r.un;show A.units+3+16*k+200<_;lia⟩
theorem pL.depth {k:Nat} {A:Around} (r:pL k A):A.depth<recursionLimit:=by have:=r.dp;lia
theorem pL.units {k:Nat} {A:Around} (r:pL k A):A.units+64<cLine:=by have:=r.un;lia
noncomputable def aG2:TA:=fun _ H Q=>Q [] H
noncomputable def aEm (ta:TE) (tr:TA):TA:=fun σ H Q=>ta σ H fun x H1=>tr σ H1 fun xs H2=>Q (x::xs) H2
section
variable {X:Cx} {e:Expr} {es:List Expr} {te:TE} {t:TA} {pos:Pos}
theorem kO:PA X [] aG2:=fun _ _ _ _ H Q I h=>Calls.spliced_nil ⟨[],H,I,.nil,h⟩
theorem bT (ha:PE X e te) (hr:PA X es t) (hs:starEach (e::es) X.env=(false,eval e X.env)::starEach es X.env:=by rfl):PA X (e::es) (aEm te t):=by
 intro pos pins s σ H Q I h;rw [hs];show wpAny _ _ (spliced ((false,eval e X.env)::backTo pos (starEach es X.env))) _ _ s;refine Calls.spliced_cons (thn (ha pins s σ H _ I h) fun u s1 ⟨x,H1,I1,r1,q1⟩=>?_);exact thn (hr pos pins s1 σ H1 _ I1 q1) fun us s2 ⟨xs,H2,I2,r2,q2⟩=>⟨x::xs,H2,I2,.cons r1 r2,q2⟩
noncomputable def aG3 (t:TA):TE:=fun σ H Q=>t σ H fun xs H1=>xs.length<=sizeLine/\∀p,H1 p=none->Q (.ref p) (upd H1 p (.tup xs))
noncomputable def aG4 (t:TA):TE:=fun σ H Q=>t σ H fun xs H1=>xs.length<=sizeLine/\∀p,H1 p=none->Q (.ref p) (upd H1 p (.lst xs))
theorem YL {x1} (h:PA X es t):PE X (.Tuple es x1 pos) (aG3 t):=by
 intro pins s σ H Q I hq;refine wpAny_Tuple_spliced (thn (h pos pins s σ H _ I hq) fun us s1 ⟨xs,H1,I1,r,z,q⟩=>⟨by rw [<-r.length];exact z,?_⟩);have hf:H1 s1.heap.objs.size=none:=I1.hok.fresh (Nat.le_refl _);refine ⟨.ref s1.heap.objs.size,upd H1 s1.heap.objs.size (.tup xs),I1.laid (t':=s1.toks) (fun b u e=>Heap.get?_push_of_some _ e) (Nat.le_refl _) ?_,rfl,q _ hf⟩;exact ⟨z,us,r,⟨_,Heap.get?_push_size _ rfl,rfl,_,rfl⟩⟩
theorem aCc (h:PA X es t):PE X (.List es pos) (aG4 t):=by
 intro pins s σ H Q I hq;refine wpAny_List_spliced (thn (h pos pins s σ H _ I hq) fun us s1 ⟨xs,H1,I1,r,z,q⟩=>⟨by rw [<-r.length];exact z,?_⟩);have hf:H1 s1.heap.objs.size=none:=I1.hok.fresh (Nat.le_refl _);refine ⟨.ref s1.heap.objs.size,upd H1 s1.heap.objs.size (.lst xs),I1.laid (t':=s1.toks) (fun b u e=>Heap.get?_push_of_some _ e) (Nat.le_refl _) ?_,rfl,q _ hf⟩;exact ⟨z,us,0,r,Heap.get?_push_size _ rfl⟩
end
noncomputable abbrev Sp:=List V->Hp->VK->XK->Prop
noncomputable abbrev CXT:=List Env->Hp->Shared->XK->Value->Shared->Prop
structure aE1 (P:Program) (w:World) (K:PySem.W.Frag) (mg:Str->Option Value) (base:Heap) (A:Around) (outer:List Env) (s:Shared) (H:Hp):Prop where
 frames:A.frames=some outer
 mod:Mod K mg base
 bs:∀b o,base.get? b=some o->s.heap.get? b=some o/\H b=none
 bsz:base.objs.size<=s.heap.objs.size
 LK:s.heap.FunFrames base outer
 frf:∀b∈frs outer,H b=none
 hok:HOk P w H s.heap
 bare:AllBare s.gens
noncomputable def CE (outer:List Env) (P:Program) (w:World) (H:Hp) (s:Shared) (Q:VK) (u:Value) (s':Shared):Prop:=
 ∃v H',s'.os=s.os/\AllBare s'.gens/\Un (frs outer) [] H H' s.heap s'.heap/\HOk P w H' s'.heap/\RelV v u/\Q v H'
noncomputable def CR (CX:CXT) (outer:List Env) (P:Program) (w:World) (H:Hp) (s:Shared) (Q:VK) (E:XK) (r:Result) (s':Shared):Prop:=
 match r with
 | .ok (.ret u)=>CE outer P w H s Q u s'
 | .ok _=>False
 | .error e=>CX outer H s E e s'
structure D_ (P:Program) (w:World) (K:PySem.W.Frag) (mg:Str->Option Value) (base:Heap) (CX:CXT) (k:Nat) (f:Addr) (fd:FuncData) (ps:List Str) (sp:Sp):Prop where
 len:∀vs H Q E,sp vs H Q E->vs.length=ps.length
 run:∀(A:Around) (outer:List Env) (s:Shared) (H:Hp) (args:Args) (us:List Value) (vs:List V) (Q:VK) (E:XK),pL k A->aE1 P w K mg base A outer s H->BindsTo s fd args (ps.zip us)->Vals vs us->sp vs H Q E->
  codeAny (model P w) A (.call (.ref f) args) (CR CX outer P w H s Q E) s
section
variable {X:Cx} {pins:List (Addr×Obj)} {σ:St} {H:Hp} {s s':Shared}
theorem Inv.env0 (I:Inv X pins σ H s):aE1 X.prog X.w X.K X.mg X.base X.A X.stack s H:=
 ⟨I.ok.frames,I.ok.mod,I.bs,Nat.le_trans I.ok.bsz I.sz,I.stack,I.zR,I.hok,I.bare⟩
theorem Inv.after {Q:VK} {u:Value} (I:Inv X pins σ H s) (h:CE X.stack X.prog X.w H s Q u s'):EP X pins σ Q u s':=by
 obtain ⟨v,H',os,bare,un,hok,r,q⟩:=h;obtain ⟨hh,g,d,t,os'⟩:=s';obtain rfl:os'=s.os:=os;exact ⟨v,H',I.call (h':=hh) (g':=g) (d':=d) (t':=t) (ch:=[]) un hok bare (fun b z=>absurd z (by simp)),r,q⟩
end
noncomputable def aEn (sp:Sp) (dvs:List V) (E:XK) (t:TA):TE:=fun σ H Q=>t σ H fun vs H1=>sp (vs++dvs) H1 Q E
noncomputable def Binds (K:PySem.W.Frag) (fd:FuncData) (ps:List Str) (ds:List Value):Prop:=
 ∀(s:Shared) (us:List Value),K.In s.heap->(us++ds).length=ps.length->BindsTo s fd ⟨us,[]⟩ (ps.zip (us++ds))
theorem Binds.all {K:PySem.W.Frag} {fd:FuncData} {ps:List Str} (h:∀us:List Value,us.length=ps.length->bindArgs fd ⟨us,[]⟩=pure (ps.zip us)):Binds K fd ps []:=fun s us _ hl=>by
 rw [List.append_nil] at hl ⊢;exact .of_eq (h us hl)
noncomputable def EY (CX:CXT) (X:Cx) (E:XK):Prop:=∀(pins:List (Addr×Obj)) (σ:St) (H:Hp) (s:Shared) (e:Value) (s':Shared),Inv X pins σ H s->CX X.stack H s E e s'->X.xe e s'
section
variable {X:Cx} {CX:CXT} {k:Nat} {f C:Addr} {fd:FuncData} {ps:List Str} {sp:Sp} {dvs:List V} {ds:List Value} {E:XK} {x m:Str} {p pos apos:Pos} {e o:Expr} {es:List Expr} {ta:TE} {t:TA}
theorem aCd {pins:List (Addr×Obj)} {σ:St} {H:Hp} {s:Shared} {Q:VK} {us:List Value} {vs:List V} (F:D_ X.prog X.w X.K X.mg X.base CX k f fd ps sp) (hr:pL k X.A) (hb:Binds X.K fd ps ds) (hd:Vals dvs ds) (hx:EY CX X E)
  (I:Inv X pins σ H s) (r:Vals vs us) (h:sp (vs++dvs) H Q E):wpAny (model X.prog X.w) X.A (call (.ref f) us) (EP X pins σ Q) X.xe s:=by
 have r2:Vals (vs++dvs) (us++ds):=r.append hd;have hl:(us++ds).length=ps.length:=by rw [<-r2.length];exact F.len _ _ _ _ h
 refine wpAny_call (codeAny_mono (F.run X.A X.stack s H ⟨us,[]⟩ (us++ds) (vs++dvs) Q E hr I.env0 (hb s us I.kIn hl) r2 h) fun r s' hq=>?_);cases r with
 | error e=>exact hx pins σ H s e s' I hq
 | ok fl=>
  cases fl with
  | ret u=>exact I.after hq
  | next=>exact False.elim hq
  | brk=>exact False.elim hq
  | cont=>exact False.elim hq
theorem M5 (F:D_ X.prog X.w X.K X.mg X.base CX k f fd ps sp) (hr:pL k X.A) (hg:Gl X x) (hm:X.mg x=some (.ref f)) (hk:PySem.W.keepIn X.K (.ref f)=true) (hb:Binds X.K fd ps ds) (hd:Vals dvs ds) (hx:EY CX X E)
  (ha:PA X (e::es) t) (hdb:(x==("__debug__" : Str))=false:=by decide) (he:starEach (e::es) X.env=(false,eval e X.env)::starEach es X.env:=by rfl) (hpl:(backTo pos (starEach es X.env)).any (·.1)=false:=by rfl) :
  PE X (.Call (.Name x p) (e::es) [] pos) (aEn sp dvs E t):=by
 intro pins s σ H Q I h;refine wpAny_Call_Name_kw (qN I hg hm ?_ hdb);refine PySem.W.callWith_K (h₀:=X.base) I.ok.mod.kin hk (thn (ha pos pins s σ H _ I h) fun us s1 ⟨vs,H1,I1,r,q⟩=>⟨I1.kIn,?_⟩) he hpl;exact aCd F hr hb hd hx I1 r q
end
section
variable {X:Cx} {CX:CXT} {k:Nat} {f C:Addr} {fd:FuncData} {ps ks:List Str} {sp:Sp} {E:XK} {x m:Str} {p pos apos kpos:Pos} {e o:Expr} {es:List Expr} {kws:List Keyword} {te ta:TE} {t tk:TA} {nm:Option Str}
variable {g:List Value->List Value->List Value} {gV:List V->List V->List V}
end
structure b8 (N P:List Str) (sc:Scope):Prop where
 kind:sc.kind=.function
 co:sc.isCoroutine=false
 gen:sc.isGenerator=false
 nd:N.Nodup
 pre:N.take P.length=P
 par:∀x∈P,sc.names.lookup x=some .local\/sc.names.lookup x=some .cell
 nofree:∀y∈sc.names,y.2≠.free
theorem wM {kindOf:Str->Option NameKind} {x:Str}:∀{binds:List (Str×Value)} {m:Str->Option Value},(∀v,(x,v)∉binds)->bindL kindOf binds m x=m x
 | [],_,_=>rfl
 | (n,v)::r,m,h=>by
  unfold bindL;rw [wM fun w hw=>h w (List.mem_cons_of_mem _ hw)];split
  ·have:x≠n:=by rintro rfl;exact h v List.mem_cons_self
   simp [this]
  ·rfl
theorem wN {kindOf:Str->Option NameKind} {x:Str}:∀{binds:List (Str×Value)} {m:Str->Option Value},(∀v,(x,v)∉binds)->bindC kindOf binds m x=m x
 | [],_,_=>rfl
 | (n,v)::r,m,h=>by
  unfold bindC;rw [wN fun w hw=>h w (List.mem_cons_of_mem _ hw)];split
  ·rfl
  ·have:x≠n:=by rintro rfl;exact h v List.mem_cons_self
   simp [this]
theorem wO {kindOf:Str->Option NameKind} {x:Str} {v:Value}:∀{P:List Str} {vs:List Value} {i:Nat} {m:Str->Option Value},P.Nodup->P[i]?=some x->vs[i]?=some v->kindOf x=some .local->
  bindL kindOf (P.zip vs) m x=some v
 | [],_,_,_,_,h,_,_=>by simp at h
 | _::_,[],_,_,_,_,h,_=>by simp at h
 | p::P,w::vs,0,m,nd,h1,h2,hk=>by
  simp at h1 h2;subst h1;subst h2;show bindL kindOf ((p,w)::P.zip vs) m p=_;unfold bindL;rw [wM fun v hv=>(List.nodup_cons.mp nd).1 (List.of_mem_zip hv).1,if_pos hk];simp
 | p::P,w::vs,i+1,m,nd,h1,h2,hk=>by
  show bindL kindOf ((p,w)::P.zip vs) m x=_;unfold bindL;exact wO (i:=i) (List.nodup_cons.mp nd).2 (by simpa using h1) (by simpa using h2) hk
theorem wQ {kindOf:Str->Option NameKind} {x:Str} {v:Value}:∀{P:List Str} {vs:List Value} {i:Nat} {m:Str->Option Value},P.Nodup->P[i]?=some x->vs[i]?=some v->kindOf x≠some .local->
  bindC kindOf (P.zip vs) m x=some v
 | [],_,_,_,_,h,_,_=>by simp at h
 | _::_,[],_,_,_,_,h,_=>by simp at h
 | p::P,w::vs,0,m,nd,h1,h2,hk=>by
  simp at h1 h2;subst h1;subst h2;show bindC kindOf ((p,w)::P.zip vs) m p=_;unfold bindC;rw [wN fun v hv=>(List.nodup_cons.mp nd).1 (List.of_mem_zip hv).1,if_neg hk];simp
 | p::P,w::vs,i+1,m,nd,h1,h2,hk=>by
  show bindC kindOf ((p,w)::P.zip vs) m x=_;unfold bindC;exact wQ (i:=i) (List.nodup_cons.mp nd).2 (by simpa using h1) (by simpa using h2) hk
noncomputable def start (N:List Str) (vs:List V):St:=vs.map some++List.replicate (N.length-vs.length) none
noncomputable def mY (CX:CXT) (P:Program) (w:World) (K:PySem.W.Frag) (mg:Str->Option Value) (base:Heap) (N:List Str) (qual:Str) (scope:Scope) (f:Addr) (cd:Value) (A:Around) (outer:List Env) (s:Shared) (H:Hp) (E:XK):Cx where
 prog:=P
 w:=w
 K:=K
 mg:=mg
 base:=base
 A:=A.deeper (envOfC qual scope s.heap.objs.size f cd)
 N:=N
 s₀:=s
 H₀:=H
 env:=envOfC qual scope s.heap.objs.size f cd
 outer:=outer
 stack:=envOfC qual scope s.heap.objs.size f cd::outer
 ex:=[]
 calm:=true
 fn:=fun _=>true
 pn:=[]
 xe:=fun e s'=>wpAny (model P w) (A.deeper (envOfC qual scope s.heap.objs.size f cd)) (leaving (envOfC qual scope s.heap.objs.size f cd) e) (fun _ s''=>CX outer H s E e s'') (fun e' s''=>CX outer H s E e' s'') s'
theorem E_ {sc:Scope} {n:Nat} {x:Str} (h:sc.names.lookup x=some .cell):∃c,(cellsFrom n sc.names []).lookup x=some c:=by
 have q:=PySem.W.cellsFrom_some sc.names n [] (.inl h);exact Option.isSome_iff_exists.mp q
theorem M6 {CX:CXT} {P:Program} {w:World} {K:PySem.W.Frag} {mg:Str->Option Value} {base:Heap} {N ps:List Str} {qual:Str} {scope:Scope} {f:Addr} {cd:Value} {A:Around} {outer:List Env} {s s1:Shared} {H:Hp} {E:XK} {us:List Value} {vs:List V}
  (S:b8 N ps scope) (hd:A.handled=none) (e0:aE1 P w K mg base A outer s H) (hl:vs.length=ps.length) (r:Vals vs us)
  (x:InCallC s s.heap.objs.size (bindL (envOfC qual scope s.heap.objs.size f cd).kindOf (ps.zip us) fun _=>none) (cellsFrom (s.heap.objs.size+1) scope.names []) (bindC (envOfC qual scope s.heap.objs.size f cd).kindOf (ps.zip us) fun _=>none) s1) :
  Inv (mY CX P w K mg base N qual scope f cd A outer s H E) [] (start N vs) H s1:=by
 have hpl:ps.length<=N.length:=by have:=congrArg List.length S.pre;rw [List.length_take] at this;lia
 obtain ⟨h1,tk,rfl,hk⟩:=x.done;have noA:∀b:Addr,b∉(mY CX P w K mg base N qual scope f cd A outer s H E).ex:=fun b z=>absurd (show b∈([]:List Addr) from z) (by simp)
 refine ⟨⟨e0.mod,S.kind,rfl,rfl,Nat.le_refl _,fun y z c h1 h2=>?_,fun y hy=>?_,fun y c _ h=>?_,fun _=>hd,Around.frames_deeper e0.frames,.inr ⟨rfl,rfl⟩,fun b z=>absurd z (noA b),e0.bs,e0.bsz,fun b _ _=>noA b,fun b z=>absurd z (noA b),e0.LK,e0.frf⟩,
  rfl,e0.bare,Un.kept hk,⟨_,x.toInCall.ns,fun i y v h1 h2 h3=>?_⟩,fun y c h=>⟨_,x.cell y c h⟩,e0.hok.fresh (Nat.le_refl _),fun y c h=>?_,fun p hp=>absurd (show p∈([]:List (Addr×Obj)) from hp) (by simp),e0.hok.kept hk,?_⟩
 ·exact name_of_addr x.apart (PySem.mem_of_lookup h1) (PySem.mem_of_lookup h2)
 ·have hy:scope.names.lookup y=some .cell\/scope.names.lookup y=some .free:=hy;rcases hy with hy|hy
  ·exact E_ hy
  ·exact absurd rfl (S.nofree _ (PySem.mem_of_lookup hy))
 ·exact Nat.le_of_lt (x.above y c (PySem.mem_of_lookup h))
 ·have hi:i<vs.length:=by
   unfold start at h2;by_cases hi:i<vs.length
   ·exact hi
   ·rw [List.getElem?_append_right (by simpa using hi)] at h2;rw [List.getElem?_replicate] at h2;split at h2 <;> cases h2
  have ha:vs[i]?=some v:=by
   unfold start at h2;rw [List.getElem?_append_left (by simpa using hi),List.getElem?_map] at h2;cases e:vs[i]? with
   | none=>rw [e] at h2;cases h2
   | some a=>rw [e] at h2;cases h2;rfl
  obtain ⟨u,hu,rv⟩:=r.get ha;have hp:ps[i]?=some y:=by
   rw [<-S.pre,List.getElem?_take_of_lt (by lia)];exact h1
  have ndP:ps.Nodup:=by rw [<-S.pre];exact S.nd.sublist (List.take_sublist _ _)
  refine ⟨u,rv,?_⟩;rcases S.par y (List.mem_of_getElem? hp) with k|k
  ·exact .inl ⟨k,wO ndP hp hu k⟩
  ·obtain ⟨c,e⟩:=E_ (n:=s.heap.objs.size+1) k;refine .inr ⟨.inl k,c,e,?_⟩;have q:=x.cell y c e;rw [wQ ndP hp hu (by show scope.names.lookup y≠_;rw [k];decide)] at q;exact q
 ·exact e0.hok.fresh (Nat.le_of_lt (x.above y c (PySem.mem_of_lookup h)))
 ·unfold start;show _=N.length;rw [List.length_append,List.length_map,List.length_replicate];lia
theorem aCe {CX:CXT} {P:Program} {w:World} {K:PySem.W.Frag} {mg:Str->Option Value} {base:Heap} {k:Nat} {f:Addr} {name qual:Str} {params:Arguments} {body:List Stmt} {scope:Scope} {dV kV doc pm cdv ct oc:Value} {an od:Option Addr}
  {osl:Array (Option Value)} {N ps:List Str} {sp:Sp} (lk:K.lookup f=some ⟨oc,od,.func (PySem.W.fnOf name qual params body scope dV kV doc pm an cdv ct),osl⟩) (hcd:PySem.W.codeIn K cdv qual=true) (S:b8 N ps scope)
  (len:∀vs H Q E,sp vs H Q E->vs.length=ps.length)
  (hbody:∀(A:Around) (outer:List Env) (s:Shared) (H:Hp) (vs:List V) (Q:VK) (E:XK),pL k (A.deeper (envOfC qual scope s.heap.objs.size f cdv))->sp vs H Q E->
   ∃t,PSs (mY CX P w K mg base N qual scope f cdv A outer s H E) body t/\t {nx:=fun _ H'=>Q .non H',rt:=Q} (start N vs) H) :
  D_ P w K mg base CX (k+1) f (PySem.W.fnOf name qual params body scope dV kV doc pm an cdv ct) ps sp:=by
 refine ⟨len,fun A outer s H args us vs Q E hr e0 hb r hsp=>?_⟩;have hl:=len _ _ _ _ hsp;have KX:K.In s.heap:=e0.mod.kin.keeps fun b o e=>(e0.bs b o e).1
 have lim:s.heap.NoLimit:=e0.mod.nolimit.keeps fun b o e=>(e0.bs b o e).1
 have hkind:∀y∈ps.zip us,scope.names.lookup y.1=some .local\/(scope.names.lookup y.1=some .cell/\((cellsFrom (s.heap.objs.size+1) scope.names []).lookup y.1).isSome=true):=fun ⟨n,v⟩ hy=>by
  rcases S.par n (List.of_mem_zip hy).1 with q|q
  ·exact .inl q
  ·exact .inr ⟨q,PySem.W.cellsFrom_some _ _ _ (.inl q)⟩
 refine codeAny_call_function hr.depth (KX _ _ lk) rfl S.co S.gen rfl (PySem.W.codeRec_of KX hcd) (hb _ _ _ _ ?_);refine wpAny_newFunctionEnv_cells S.kind hkind fun env he s1 x=>?_
 subst he;refine ⟨lim.keeps x.toInCall.keep,codeAny_func ?_⟩;obtain ⟨t,ht,hq⟩:=hbody A outer s H vs Q E (hr.deeper _) hsp;have I:Inv (mY CX P w K mg base N qual scope f cdv A outer s H E) [] (start N vs) H s1:=M6 S hr.hd e0 hl r x;refine wpAny_mono (ht [] s1 (start N vs) H _ I hq) (fun fl s' hs=>?_) fun e s' hs=>hs
 have fin:∀{σ':St} {H':Hp} {v:V} {u:Value},Inv (mY CX P w K mg base N qual scope f cdv A outer s H E) [] σ' H' s'->RelV v u->Q v H'->CE outer P w H s Q u s':=
  fun {σ' H' v u} J rv q=>⟨v,H',J.os,J.bare,J.base,J.hok,rv,q⟩
 cases fl with
 | ret u=>
  obtain ⟨v,σ',H',J,rv,q⟩:=hs;exact fin J rv q
 | next=>
  obtain ⟨σ',H',J,q⟩:=hs;exact fin (v:=V.non) (u:=Value.none) J rfl q
 | brk=>
  obtain ⟨_,_,_,q⟩:=hs;exact False.elim q
 | cont=>
  obtain ⟨_,_,_,q⟩:=hs;exact False.elim q
end L2
namespace L2
open PySem PySem.Spec PyProof.Rows
section
variable {X:Cx} {x:Str} {p pos:Pos} {e:Expr} {es:List Expr} {t:TA} {id T:String} {r:List V->Hp->VK->Prop}
noncomputable def tCB (r:List V->Hp->VK->Prop) (t:TA):TE:=fun σ H Q=>t σ H fun vs H1=>r vs H1 Q
theorem qC (hc:iY X (.builtin id) r) (hg:Gl X x) (hm:X.mg x=none) (hv:bootBuiltins x=some (.builtin id)) (ha:PA X (e::es) t) (hn:x ≠ "__name__":=by decide) (hdb:(x==("__debug__" : Str))=false:=by decide)
  (he:starEach (e::es) X.env=(false,eval e X.env)::starEach es X.env:=by rfl) (hpl:(backTo pos (starEach es X.env)).any (·.1)=false:=by rfl):PE X (.Call (.Name x p) (e::es) [] pos) (tCB r t):=by
 intro pins s σ H Q I h;refine wpAny_Call_Name_kw (tZ I hg hm hv ?_ hn hdb);exact PyProof.Rows.callWith_builtin1 (thn (ha pos pins s σ H _ I h) fun us s1 ⟨vs,H1,I1,r1,q1⟩=>hc pins s1 σ H1 vs us Q I1 r1 q1) he hpl
theorem wR (hc:iY X (.type T) r) (hg:Gl X x) (hm:X.mg x=none) (hv:bootBuiltins x=some (.type T)) (ha:PA X (e::es) t) (hn:x ≠ "__name__":=by decide) (hdb:(x==("__debug__" : Str))=false:=by decide)
  (he:starEach (e::es) X.env=(false,eval e X.env)::starEach es X.env:=by rfl) (hpl:(backTo pos (starEach es X.env)).any (·.1)=false:=by rfl):PE X (.Call (.Name x p) (e::es) [] pos) (tCB r t):=by
 intro pins s σ H Q I h;refine wpAny_Call_Name_kw (tZ I hg hm hv ?_ hn hdb);exact PyProof.Rows.callWith_type1 (thn (ha pos pins s σ H _ I h) fun us s1 ⟨vs,H1,I1,r1,q1⟩=>hc pins s1 σ H1 vs us Q I1 r1 q1) he hpl
end
end L2
namespace HT
open PySem PyProof.Rows
section
open PySem.SeqAt
open PySem.AutoSeq1 (wpAny_loadPart')
open PySem.MeetsSeq PySem.MeetsSeq2 PySem.MeetsSeq3
end
section
variable {prog:Program} {w:World} {A:Around} {E:Value->Shared->Prop} {s:Shared}
noncomputable def sIx (n d:Nat):Option Int->Nat
 | none=>d
 | some v=>if v<0 then (v+(n:Int)).toNat else min v.toNat n
theorem aCf (n d:Nat) (hd:d<=n) (o:Option Int):sIx n d o<=n:=by
 cases o with
 | none=>exact hd
 | some v=>
  show (if v<0 then (v+(n:Int)).toNat else min v.toNat n)<=n;by_cases hv:v<0
  ·rw [if_pos hv];lia
  ·rw [if_neg hv];exact Nat.min_le_right _ _
theorem M7 (v:Int) (n d:Nat):(if v<0 then max (v+(n:Int)) 0 else min v (n:Int))=((sIx n d (some v):Nat):Int):=by
 show (if v<0 then max (v+(n:Int)) 0 else min v (n:Int))=(((if v<0 then (v+(n:Int)).toNat else min v.toNat n):Nat):Int);by_cases hv:v<0
 ·simp only [if_pos hv];lia
 ·simp only [if_neg hv];lia
theorem JK (lo hi:Option Int) (n:Nat):Builtin.Slice.sliceAdjust lo hi 1 (n:Int)=(((sIx n 0 lo:Nat):Int),((sIx n n hi:Nat):Int)):=by
 have h1:¬((1:Int)<0):=by lia
 unfold Builtin.Slice.sliceAdjust;simp only [h1,if_false];refine Prod.ext ?_ ?_
 ·cases lo with
  | none=>rfl
  | some v=>exact M7 v n 0
 ·cases hi with
  | none=>rfl
  | some v=>exact M7 v n n
theorem JL (i j:Nat):Builtin.Slice.slicePlaces (i:Int) (j:Int) 1=j-i:=by
 unfold Builtin.Slice.slicePlaces;have h1:(1:Int) > 0:=by lia
 simp only [h1,if_true,Int.ediv_one];split <;> lia
theorem uA {v:Value} {o:Option Int} {Q:Option Int->Shared->Prop} (p:IsPart v o) (h:Q o s):wpAny (model prog w) A (Builtin.Slice.slicePartIndex v) Q E s:=by
 cases p with
 | none=>exact slicePart_none h
 | int i t=>exact slicePart_int h
theorem pY {sl:Addr} {vl vu:Value} {lo hi:Option Int} {n:Nat} {Q:Int×Int×Nat->Shared->Prop} (hs:s.heap.IsSliceOf sl vl vu .none) (pl:IsPart vl lo) (pu:IsPart vu hi)
  (h:Q (((sIx n 0 lo:Nat):Int),1,sIx n n hi-sIx n 0 lo) s):wpAny (model prog w) A (Builtin.Slice.sliceApplied (.ref sl) (pure (n:Int))) Q E s:=by
 obtain ⟨os,hos,hcs,hds⟩:=id hs;unfold Builtin.Slice.sliceApplied Builtin.Slice.sliceFields;refine wpAny_bind (wpAny_bind (wpAny_field hos hds (x:=vl) rfl (wpAny_bind (wpAny_field hos hds (x:=vu) rfl (wpAny_bind (wpAny_field hos hds (x:=.none) rfl (wpAny_pure ?_)))))));refine wpAny_bind (slicePart_none ?_);show wpAny _ _ (if ((1:Int)==0)=true then _ else _) _ _ s;rw [if_neg (by decide)];refine wpAny_bind (uA pl (wpAny_bind (uA pu (wpAny_bind (wpAny_pure ?_)))));show wpAny _ _ (match Builtin.Slice.sliceAdjust lo hi 1 (n:Int) with|(lo,hi)=>pure (lo,(1:Int),Builtin.Slice.slicePlaces lo hi 1)) _ _ s;rw [JK lo hi n];show wpAny _ _ (pure (((sIx n 0 lo:Nat):Int),(1:Int),Builtin.Slice.slicePlaces ((sIx n 0 lo:Nat):Int) ((sIx n n hi:Nat):Int) 1)) _ _ s;rw [JL];exact wpAny_pure h
theorem U7 (xs:Array Value) (i k:Nat):((List.range k).filterMap fun (m:Nat)=>xs[((i:Int)+(m:Int)*1).toNat]?).toArray=((xs.toList.drop i).take k).toArray:=by
 have e:(fun (m:Nat)=>xs[((i:Int)+(m:Int)*1).toNat]?)=fun m=>xs[i+m]?:=by
  funext m
  have:((i:Int)+(m:Int)*1).toNat=i+m:=by lia
  rw [this]
 rw [e];have:=pick_run xs i k;rw [List.filterMap_map] at this;have e2:((fun x=>xs[x]?) ∘ fun x=>i+x)=fun m=>xs[i+m]?:=rfl
 rw [e2] at this;rw [this]
theorem oY {t sl:Addr} {items:Array Value} {vl vu:Value} {lo hi:Option Int} {Q:Value->Shared->Prop} (ht:IsTup s.heap t items) (hs:s.heap.IsSliceOf sl vl vu .none) (pl:IsPart vl lo) (pu:IsPart vu hi)
  (hw:¬(sIx items.size 0 lo=0/\sIx items.size items.size hi=items.size))
  (h:Q (.ref s.heap.objs.size) {s with heap:=s.heap.push {cls:=.type "tuple",data:=.seq ((items.toList.drop (sIx items.size 0 lo)).take (sIx items.size items.size hi-sIx items.size 0 lo)).toArray}})
  (hsz:items.size<=sizeLine):wpAny (model prog w) A (getItem (.ref t) (.ref sl)) Q E s:=by
 have htake:sizeOk (.seq ((items.toList.drop (sIx items.size 0 lo)).take (sIx items.size items.size hi-sIx items.size 0 lo)).toArray):=by
  show ((items.toList.drop (sIx items.size 0 lo)).take (sIx items.size items.size hi-sIx items.size 0 lo)).toArray.size<=sizeLine;rw [List.size_toArray,List.length_take,List.length_drop,Array.length_toList];lia
 have hj:sIx items.size items.size hi<=items.size:=aCf _ _ (Nat.le_refl _) hi;obtain ⟨os,hos,hcs,hds⟩:=id hs;have hTs:s.TypeIs (.ref sl) "slice":=⟨os,hos,hcs⟩
 unfold getItem
 try with_reducible refine wpAny_holding ?_
 first|refine wpAny_bind (wpAny_pure ?_)|skip
 refine wpAny_bind (wpAny_sequenceKey ht.typeIs (by decide) ?_);refine wpAny_bind (wpAny_callSpecial?_slot (name:=Str.ofString "__getitem__") ht.typeIs PyProof.Rows.slot_tuple_getitem
  (wpAny_call_entry PyProof.Rows.slot_tuple_getitem ht.typeIs entry_tuple_getitem ?_ (args_tuple_getitem _ _)))
 show wpAny _ _ (Builtin.Tuple.tupleItemsOf (.ref t) >>= _) _ _ s;refine wpAny_bind (tupleItemsOf_ ht ?_);refine wpAny_bind (wpAny_typeOf hTs ?_);rw [if_pos (by decide)];refine wpAny_bind (pY hs pl pu ?_);have hno:¬((((sIx items.size 0 lo:Nat):Int)==0&&(1:Int)==1&&(sIx items.size items.size hi-sIx items.size 0 lo)==items.size)=true):=by
  intro q;rw [Bool.and_eq_true,Bool.and_eq_true] at q;have q1:((sIx items.size 0 lo:Nat):Int)=0:=eq_of_beq q.1.1;have q2:sIx items.size items.size hi-sIx items.size 0 lo=items.size:=eq_of_beq q.2;exact hw ⟨by lia,by lia⟩
 show wpAny _ _ (if (((sIx items.size 0 lo:Nat):Int)==0&&(1:Int)==1&&(sIx items.size items.size hi-sIx items.size 0 lo)==items.size)=true then _ else _) _ _ s;rw [if_neg hno,U7]
 first
  | exact wpAny_bind (m:=Builtin.Tuple.tupleExact _) (wpAny_newObj_type (wpAny_pure ⟨_,rfl,wpAny_pure h⟩) htake)
  | exact wpAny_bind (m:=Builtin.Tuple.tupleExact _) (wpAny_newObj_type (wpAny_bind (wpAny_pure (wpAny_pure ⟨_,rfl,wpAny_pure h⟩))) htake)
  | exact wpAny_bind (wpAny_bind (m:=Builtin.Tuple.tupleExact _) (wpAny_newObj_type (wpAny_pure (wpAny_pure ⟨_,rfl,wpAny_pure h⟩)) htake))
  | exact wpAny_bind (wpAny_bind (m:=Builtin.Tuple.tupleExact _) (wpAny_newObj_type (wpAny_pure ⟨_,rfl,wpAny_pure h⟩) htake))
end
end HT
namespace L2
open PySem PySem.Spec PyProof.Rows
noncomputable abbrev TO:=St->Hp->(Option Int->Hp->Prop)->Prop
noncomputable def PO (X:Cx) (e:Option Expr) (t:TO):Prop:=
 ∀(pins:List (Addr×Obj)) (s:Shared) (σ:St) (H:Hp) (Q:Option Int->Hp->Prop),Inv X pins σ H s->t σ H Q->
  wpAny (model X.prog X.w) X.A (evalPart e X.env) (fun u s'=>∃o H',Inv X pins σ H' s'/\IsPart u o/\Q o H') X.xe s
noncomputable def Z6:TO:=fun _ H Q=>Q none H
noncomputable def aEo (t:TE):TO:=fun σ H Q=>t σ H fun x H1=>∃i,x=.int i/\Q (some i) H1
section
variable {X:Cx} {e:Expr} {te:TE} {lo hi:Option Expr} {tl th:TO} {pos p2:Pos}
theorem Z7:PO X none Z6:=by
 intro pins s σ H Q I h;rw [evalPart_none];exact wpAny_pure ⟨none,H,I,.none,h⟩
theorem Z8 (h:PE X e te):PO X (some e) (aEo te):=by
 intro pins s σ H Q I hw;rw [evalPart_some];refine thn (h pins s σ H _ I hw) fun u s1 ⟨x,H1,I1,r1,q1⟩=>?_
 obtain ⟨i,rfl,q⟩:=q1;obtain ⟨t,rfl⟩:=r1;exact ⟨some i,H1,I1,.int i t,q⟩
noncomputable def SlR (X:Cx) (r:V->Option Int->Option Int->Hp->VK->Prop):Prop:=
 ∀(pins:List (Addr×Obj)) (s:Shared) (σ:St) (H:Hp) (x:V) (v vl vu:Value) (lo hi:Option Int) (sl:Addr) (Q:VK),Inv X pins σ H s->RelV x v->s.heap.IsSliceOf sl vl vu .none->IsPart vl lo->IsPart vu hi->r x lo hi H Q->
  ∃T id,typeLookup (.type T) "__getitem__" = pure (some (.builtin id))/\s.TypeIs v T/\wpAny (model X.prog X.w) X.A (getItem v (.ref sl)) (EP X pins σ Q) X.xe s
noncomputable def tSl (r:V->Option Int->Option Int->Hp->VK->Prop) (te:TE) (tl th:TO):TE:=fun σ H Q=>te σ H fun x H1=>tl σ H1 fun l H2=>th σ H2 fun u H3=>r x l u H3 Q
theorem U8 {r:V->Option Int->Option Int->Hp->VK->Prop} (hr:SlR X r) (he:PE X e te) (hl:PO X lo tl) (hu:PO X hi th):PE X (.Subscript e (.Slice lo hi none p2) pos) (tSl r te tl th):=by
 intro pins s σ H Q I h;refine Subscript_ (thn (he pins s σ H _ I h) fun v s1 ⟨x,H1,I1,r1,q1⟩=>?_);refine wpAny_Slice (thn (hl pins s1 σ H1 _ I1 q1) fun vl s2 ⟨l,H2,I2,pl,q2⟩=>thn (hu pins s2 σ H2 _ I2 q2) fun vu s3 ⟨u,H3,I3,pu,q3⟩=>?_);rw [evalPart_none];refine wpAny_pure ?_;have I4:Inv X pins σ H3 {s3 with heap:=s3.heap.push {cls:=.type "slice",data:=.fields #[vl,vu,.none]}}:=I3.kept (t':=s3.toks) fun b ob q=>Heap.get?_push_of_some _ q
 obtain ⟨T,id,hT,ht,hg⟩:=hr pins {s3 with heap:=s3.heap.push {cls:=.type "slice",data:=.fields #[vl,vu,.none]}} σ H3 x v vl vu l u s3.heap.objs.size Q I4 r1 (Heap.IsSliceOf.new ..) pl pu q3;show wpAny (model X.prog X.w) X.A (subscriptTail e (.Slice lo hi none p2) v (.ref s3.heap.objs.size)) (EP X pins σ Q) X.xe {s3 with heap:=s3.heap.push {cls:=.type "slice",data:=.fields #[vl,vu,.none]}};exact tail_any (ops:=[.ref s3.heap.objs.size,v]) ht hT hg (by with_unfolding_all rfl)
noncomputable def M8 (xs:List V) (lo hi:Option Int):List V:=(xs.drop (HT.sIx xs.length 0 lo)).take (HT.sIx xs.length xs.length hi-HT.sIx xs.length 0 lo)
theorem qO (xs:List V) (lo hi:Option Int):(M8 xs lo hi).length<=xs.length:=by
 unfold M8;rw [List.length_take,List.length_drop];lia
noncomputable def aG5 (K:PySem.W.Frag):V->Option Int->Option Int->Hp->VK->Prop:=fun x lo hi H Q=>∃a xs,x=.ref a/\SqT K H a xs/\
 ¬(HT.sIx xs.length 0 lo=0/\HT.sIx xs.length xs.length hi=xs.length)/\∀p,H p=none->Q (.ref p) (upd H p (.tup (M8 xs lo hi)))
theorem aCg:SlR X (aG5 X.K):=by
 intro pins s σ H x v vl vu lo hi sl Q I rx hs pl pu h;obtain ⟨a,xs,rfl,hx,hw,q⟩:=h;cases rx;obtain ⟨its,r,ht,hz⟩:=I.tuple hx;have hlen:its.toArray.size=xs.length:=by rw [List.size_toArray];exact r.length.symm
 refine ⟨"tuple",_,PyProof.Rows.slot_tuple_getitem.lookup,ht.typeIs,?_⟩;refine HT.oY ht hs pl pu (by rw [hlen];exact hw) ?_ (by rw [hlen];exact hz);rw [hlen];refine ⟨.ref s.heap.objs.size,_,I.laid (t':=s.toks) (o:=.tup (M8 xs lo hi)) (fun b ob q=>Heap.get?_push_of_some _ q) (Nat.le_refl _) ?_,rfl,q _ (I.hok.fresh (Nat.le_refl _))⟩;exact ⟨Nat.le_trans (qO xs lo hi) hz,_,(r.drop (HT.sIx xs.length 0 lo)).take (HT.sIx xs.length xs.length hi-HT.sIx xs.length 0 lo),j5.new _ _⟩
end
end L2
namespace L2
open PySem PySem.Spec PyProof.Rows
noncomputable def ixN (n:Nat) (i:Int):Option Nat:=if 0<=i then (if i<n then some i.toNat else none) else if -(n:Int)<=i then some (i+n).toNat else none
noncomputable def atI {α:Type} (xs:List α) (i:Int):Option α:=(ixN xs.length i).bind fun j=>xs[j]?
theorem Z9 {n:Nat} {i:Int} {j:Nat} (h:ixN n i=some j):seqIndex? i n=some j/\j<n/\-(n:Int)<=i/\i<n:=by
 unfold ixN at h;by_cases h0:0<=i
 ·rw [if_pos h0] at h;by_cases h1:i<n
  ·rw [if_pos h1] at h;have e:i.toNat=j:=Option.some.inj h;exact ⟨by rw [seqIndex_of h0 h1,e],by lia,by lia,h1⟩
  ·rw [if_neg h1] at h;cases h
 ·rw [if_neg h0] at h;by_cases h1:-(n:Int)<=i
  ·rw [if_pos h1] at h;have e:(i+n).toNat=j:=Option.some.inj h;exact ⟨by rw [seqIndex_neg (by lia) h1,e],by lia,h1,by lia⟩
  ·rw [if_neg h1] at h;cases h
theorem zT {α:Type} {xs:List α} {i:Int} {v:α} (h:atI xs i=some v):∃j,seqIndex? i xs.length=some j/\xs[j]?=some v/\j<xs.length/\-(xs.length:Int)<=i/\i<xs.length:=by
 unfold atI at h;cases e:ixN xs.length i with
 | none=>rw [e] at h;cases h
 | some j=>
  rw [e] at h;obtain ⟨h1,h2,h3,h4⟩:=Z9 e;exact ⟨j,h1,h,h2,h3,h4⟩
noncomputable def M9 (b:Expr):Prop:=∀o i,subscripted b false o i=operate [o,i] (getItem o i)
noncomputable def IxR (X:Cx) (r:R2):Prop:=
 ∀(value slice:Expr) (pins:List (Addr×Obj)) (s:Shared) (σ:St) (H:Hp) (x y:V) (v u:Value) (Q:VK),Inv X pins σ H s->RelV x v->RelV y u->r x y H Q->
  subscripted slice false v u=operate [v,u] (getItem v u)->wpAny (model X.prog X.w) X.A (subscriptTail value slice v u) (EP X pins σ Q) X.xe s
noncomputable def MtR (X:Cx) (id:String) (r:V->List V->Hp->VK->Prop):Prop:=
 ∀(pins:List (Addr×Obj)) (s:Shared) (σ:St) (H:Hp) (x:V) (xs:List V) (v:Value) (us:List Value) (Q:VK),Inv X pins σ H s->RelV x v->Vals xs us->r x xs H Q->
  wpAny (model X.prog X.w) X.A (call (.builtin id) (v::us)) (EP X pins σ Q) X.xe s
section
variable {X:Cx} {a b:Expr} {ta tb:TE} {pos:Pos}
theorem aEp {r:R2} (hr:IxR X r) (ha:PE X a ta) (hb:PE X b tb) (hs:M9 b):PE X (.Subscript a b pos) (tOp r ta tb):=by
 intro pins s σ H Q I h;exact Subscript_ (aEg ha hb I h fun v u s2 x y H2 I2 rx ry q=>hr a b pins s2 σ H2 x y v u Q I2 rx ry q (hs _ _))
noncomputable def aG6 (K:PySem.W.Frag):R2:=fun x y H Q=>∃p xs i v,x=.ref p/\y=.int i/\SqL K H p xs/\atI xs i=some v/\Q v H
noncomputable def aG7 (K:PySem.W.Frag):R2:=fun x y H Q=>∃p xs i v,x=.ref p/\y=.int i/\SqT K H p xs/\atI xs i=some v/\Q v H
noncomputable def aG8:R2:=fun x y H Q=>∃z i c,x=.str z/\y=.int i/\z.length<=sizeLine/\atI z.cps.toList i=some c/\Q (.str ⟨#[c]⟩) H
theorem M_:IxR X (aG6 X.K):=by
 intro value slice pins s σ H x y v u Q I rx ry h hs;obtain ⟨p,xs,i,z,rfl,rfl,hq,he,q⟩:=h;cases rx;obtain ⟨t,rfl⟩:=ry;obtain ⟨its,r,pl,hz⟩:=I.list hq;obtain ⟨j,h1,h2,h3,h4,h5⟩:=zT he;obtain ⟨w,ew,rw'⟩:=r.get h2;have hl:=r.length;have hn:=t_;have fin:EP X pins σ Q w s:=⟨z,H,I,rw',q⟩
 by_cases h0:0<=i
 ·have hj:i.toNat=j:=by
   rw [seqIndex_of h0 h5] at h1;exact Option.some.inj h1
  exact item_listR pl.isList h0 (by lia) (by rw [hj];simpa using ew) fin hs
 ·have hj:(i+(its.toArray.size:Int)).toNat=j:=by
   rw [seqIndex_neg (by lia) h4] at h1;rw [List.size_toArray,<-hl];exact Option.some.inj h1
  exact subscriptTail_builtinR (x:=w) pl.isList.typeIs slot_list_getitem.lookup
   (wpAny_getItem_list_neg (Q:=fun r s'=>r=w/\EP X pins σ Q r s') pl.isList (by lia) (by rw [List.size_toArray] <;> lia) (by lia) (by rw [hj];simpa using ew) ⟨rfl,fin⟩) hs
theorem aCh:IxR X (aG7 X.K):=by
 intro value slice pins s σ H x y v u Q I rx ry h hs;obtain ⟨p,xs,i,z,rfl,rfl,hq,he,q⟩:=h;cases rx;obtain ⟨t,rfl⟩:=ry;obtain ⟨its,r,pl,hz⟩:=I.tuple hq;obtain ⟨j,h1,h2,h3,h4,h5⟩:=zT he;obtain ⟨w,ew,rw'⟩:=r.get h2;have hl:=r.length;have hn:=t_;have fin:EP X pins σ Q w s:=⟨z,H,I,rw',q⟩
 exact subscriptTail_builtinR (x:=w) pl.typeIs slot_tuple_getitem.lookup
  (getItem_tuple (j:=j) (Q:=fun r s'=>r=w/\EP X pins σ Q r s') pl (by lia) (by lia) (by rw [List.size_toArray,<-hl];exact h1) (by simpa using ew) ⟨rfl,fin⟩) hs
theorem aCi:IxR X aG8:=by
 intro value slice pins s σ H x y v u Q I rx ry h hs;obtain ⟨z,i,c,rfl,rfl,hz,he,q⟩:=h;obtain ⟨t,rfl⟩:=rx;obtain ⟨t',rfl⟩:=ry;obtain ⟨j,h1,h2,h3,h4,h5⟩:=zT he;have hl:z.cps.toList.length=z.length:=by simp [Str.length]
 rw [hl] at h1 h4 h5;have hn:=t_;exact tail_any (typeIs_str s z t) slot_str_getitem.lookup (getItem_str (c:=c) (by
  have e1:decide (i < -(2 ^ 63:Int))=false:=decide_eq_false (by lia);have e2:decide (i >= 2 ^ 63)=false:=decide_eq_false (by lia);rw [e1,e2,Bool.or_false]) (by rw [h1];simpa using h2) ⟨.str ⟨#[c]⟩,H,I.tok _,⟨_,rfl⟩,q⟩) hs
theorem wU (lo hi:Option Int) (n:Nat):(sliceBounds lo hi none n).1=((HT.sIx n 0 lo:Nat):Int)/\(sliceBounds lo hi none n).2.1=((HT.sIx n n hi:Nat):Int)/\(sliceBounds lo hi none n).2.2=1:=by
 refine ⟨?_,?_,rfl⟩
 ·cases lo with
  | none=>simp [sliceBounds,HT.sIx]
  | some i=>
   simp only [sliceBounds,HT.sIx,Option.getD_none,show (1:Int) > 0 by decide,if_true];by_cases h:i<0
   ·simp only [h,if_true] <;> lia
   ·simp only [h,if_false] <;> lia
 ·cases hi with
  | none=>simp [sliceBounds,HT.sIx]
  | some i=>
   simp only [sliceBounds,HT.sIx,Option.getD_none,show (1:Int) > 0 by decide,if_true];by_cases h:i<0
   ·simp only [h,if_true] <;> lia
   ·simp only [h,if_false] <;> lia
theorem uN (its:List Value) (lo hi:Option Int):slicePick its.toArray lo hi none=((its.drop (HT.sIx its.length 0 lo)).take (HT.sIx its.length its.length hi-HT.sIx its.length 0 lo)).toArray:=by
 obtain ⟨h1,h2,h3⟩:=wU lo hi its.toArray.size;unfold slicePick;rw [h1,h2,h3];simp only [sliceRange_one,pick_run,List.size_toArray] <;> rfl
noncomputable def aG9 (K:PySem.W.Frag):V->Option Int->Option Int->Hp->VK->Prop:=fun x lo hi H Q=>∃a xs,x=.ref a/\SqL K H a xs/\∀p,H p=none->Q (.ref p) (upd H p (.lst (M8 xs lo hi)))
theorem NB:SlR X (aG9 X.K):=by
 intro pins s σ H x v vl vu lo hi sl Q I rx hs pl pu h;obtain ⟨a,xs,rfl,hx,q⟩:=h;cases rx;obtain ⟨its,r,ht,hz⟩:=I.list hx;have hlen:=r.length;refine ⟨"list",_,slot_list_getitem.lookup,ht.isList.typeIs,?_⟩;refine wpAny_getItem_list_slice ht.isList hs pl pu .none (by simp) ?_ (by rw [List.size_toArray] <;> lia);rw [uN,<-hlen];refine ⟨.ref s.heap.objs.size,_,I.laid (t':=s.toks) (o:=.lst (M8 xs lo hi)) (fun b ob q=>Heap.get?_push_of_some _ q) (Nat.le_refl _) ?_,rfl,q _ (I.hok.fresh (Nat.le_refl _))⟩;exact ⟨Nat.le_trans (qO xs lo hi) hz,_,0,(r.drop (HT.sIx xs.length 0 lo)).take (HT.sIx xs.length xs.length hi-HT.sIx xs.length 0 lo),Heap.get?_push_size _ rfl⟩
theorem kW:iY X (.builtin "len") (fun xs H Q=>∃p ys,xs=[.ref p]/\(SqL X.K H p ys\/SqT X.K H p ys)/\Q (.int ys.length) H):=by
 intro pins s σ H xs us Q I r h;obtain ⟨p,ys,rfl,hq,q⟩:=h;obtain ⟨u,rfl,rx⟩:=vals1 r;cases rx;have hn:=t_;rcases hq with hq|hq
 ·obtain ⟨its,r',pl,hz⟩:=I.list hq;have hlen:=r'.length;exact Calls.call_len_list pl.isList (by simp only [List.size_toArray] <;> lia) ⟨.int ys.length,H,I.tok _,⟨s.toks+1,by rw [List.size_toArray,hlen]⟩,q⟩
 ·obtain ⟨its,r',pl,hz⟩:=I.tuple hq;have hlen:=r'.length;exact len_tuple pl (by simp only [List.size_toArray] <;> lia) ⟨.int ys.length,H,I.tok _,⟨s.toks+1,by rw [List.size_toArray,hlen]⟩,q⟩
theorem wV:iY X (.builtin "len") (fun xs H Q=>∃z,xs=[.str z]/\z.length<=sizeLine/\Q (.int z.length) H):=by
 intro pins s σ H xs us Q I r h;obtain ⟨z,rfl,hz,q⟩:=h;obtain ⟨u,rfl,t,rfl⟩:=vals1 r;have hn:=t_;exact len_str (by lia) ⟨.int z.length,H,I.tok _,⟨_,rfl⟩,q⟩
theorem pM:iY X (.type "list") (fun xs H Q=>∃p ys,xs=[.ref p]/\(SqL X.K H p ys\/SqT X.K H p ys)/\∀l,H l=none->Q (.ref l) (upd H l (.lst ys))):=by
 intro pins s σ H xs us Q I r h;obtain ⟨p,ys,rfl,hq,q⟩:=h;obtain ⟨u,rfl,rx⟩:=vals1 r;cases rx;have fin:∀(its:List Value),Vals ys its->ys.length<=sizeLine->∀(h':Heap) (c':Nat),(∀b o',s.heap.get? b=some o'->h'.get? b=some o')->
   h'.get? s.heap.objs.size=some {cls:=.type "list",dict:=none,data:=.seq its.toArray c',slots:=#[]}->EP X pins σ Q (.ref s.heap.objs.size) {s with heap:=h'}:=fun its r' hz h' c' kp e=>
  ⟨.ref s.heap.objs.size,_,I.laid (t':=s.toks) kp (Nat.le_refl _) (show gR X.prog X.w _ h' _ (.lst ys) from ⟨hz,its,c',r',e⟩),rfl,q _ (I.hok.fresh (Nat.le_refl _))⟩
 rcases hq with hq|hq
 ·obtain ⟨its,r',pl,hz⟩:=I.list hq;have hlen:=r'.length;obtain ⟨o,ho,hc,n,hd⟩:=pl.isList;exact call_list_seq p (.inl rfl) ho hc hd (fun h' c' kp e=>fin its r' hz h' c' kp e) (by simp only [List.size_toArray] <;> lia)
 ·obtain ⟨its,r',pl,hz⟩:=I.tuple hq;have hlen:=r'.length;obtain ⟨o,ho,hc,n,hd⟩:=pl;exact call_list_seq p (.inr rfl) ho hc hd (fun h' c' kp e=>fin its r' hz h' c' kp e) (by simp only [List.size_toArray] <;> lia)
theorem nU:iY X (.type "tuple") (fun xs H Q=>∃p ys,xs=[.ref p]/\((SqL X.K H p ys/\∀l,H l=none->Q (.ref l) (upd H l (.tup ys)))\/(SqT X.K H p ys/\Q (.ref p) H))):=by
 intro pins s σ H xs us Q I r h;obtain ⟨p,ys,rfl,h⟩:=h;obtain ⟨u,rfl,rx⟩:=vals1 r;cases rx;rcases h with ⟨hq,q⟩|⟨hq,q⟩
 ·obtain ⟨its,r',pl,hz⟩:=I.list hq;have hlen:=r'.length;refine call_tuple_list pl.isList (fun h' kp=>?_) (by simp only [List.size_toArray] <;> lia);have I1:Inv X pins σ H {s with heap:=h'}:=I.kept (t':=s.toks) kp;have I2:Inv X pins σ (upd H h'.objs.size (.tup ys)) {s with heap:=h'.push {cls:=.type "tuple",data:=.seq its.toArray}}:=
   I1.laid (t':=s.toks) (fun b o e=>Heap.get?_push_of_some _ e) (Nat.le_refl _) (show gR X.prog X.w _ _ _ (.tup ys) from ⟨hz,its,r',j5.new _ _⟩)
  exact ⟨.ref h'.objs.size,_,I2,rfl,q _ (I1.hok.fresh (Nat.le_refl _))⟩
 ·obtain ⟨its,r',pl,hz⟩:=I.tuple hq;exact call_tuple_same pl ⟨.ref p,H,I,rfl,q⟩
noncomputable def tyV (K:PySem.W.Frag) (T:String) (x:V) (H:Hp):Prop:=match x with
 | .str _=>T = "str"
 | .int _=>T = "int"
 | .ref p=>(T = "list"/\∃xs,SqL K H p xs)\/(T = "tuple"/\((∃o,K.lookup p=some o/\o.cls=.type "tuple"/\o.dict=none)\/∃xs,H p=some (.tup xs)))\/
   (T = "dict"/\((∃kvs,H p=some (.dK kvs))\/∃kvs,H p=some (.dT kvs)))\/(T = "set"/\∃S n,H p=some (.set S n))
 | _=>False
theorem aCj {pins:List (Addr×Obj)} {σ:St} {H:Hp} {s:Shared} {T:String} {x:V} {v:Value} (I:Inv X pins σ H s) (r:RelV x v) (ty:tyV X.K T x H) :
  s.TypeIs v T/\∀a,v=.ref a->∃ob,s.heap.get? a=some ob/\ob.dict=none:=by
 cases x with
 | str z=>
  obtain ⟨t,rfl⟩:=r;cases (show T = "str" from ty);exact ⟨typeIs_str s z t,fun _ e=>nomatch e⟩
 | int i=>
  obtain ⟨t,rfl⟩:=r;cases (show T = "int" from ty);exact ⟨typeIs_int s i t,fun _ e=>nomatch e⟩
 | ref p=>
  cases r;rcases ty with ⟨rfl,xs,hq⟩|⟨rfl,⟨o,hk,hc,hd⟩|⟨xs,hk⟩⟩|⟨rfl,hk⟩|⟨rfl,S,n,hk⟩
  ·obtain ⟨its,_,pl,_⟩:=I.list hq;refine ⟨pl.isList.typeIs,fun a e=>?_⟩;cases e;obtain ⟨o,n,e,c,hd,_⟩:=pl;exact ⟨o,e,hd⟩
  ·refine ⟨⟨o,I.kIn p o hk,hc⟩,fun a e=>?_⟩;cases e;exact ⟨o,I.kIn _ o hk,hd⟩
  ·obtain ⟨_,its,_,pl⟩:=I.hok p _ hk;refine ⟨(j5.tup pl).typeIs,fun a e=>?_⟩;cases e;exact j5.bare pl
  ·have z:∃o,s.heap.get? p=some o/\o.ExactDict:=by
    rcases hk with ⟨kvs,hk⟩|⟨kvs,hk⟩
    ·obtain ⟨_,_,_,_,o,_,_,e,ex,_⟩:=I.hok p _ hk;exact ⟨o,e,ex⟩
    ·obtain ⟨_,_,_,_,o,_,_,e,ex,_⟩:=I.hok p _ hk;exact ⟨o,e,ex⟩
   obtain ⟨o,e,ex⟩:=z;refine ⟨⟨o,e,ex.1⟩,fun a e2=>?_⟩;cases e2;exact ⟨o,e,ex.2.1⟩
  ·obtain ⟨o,_,_,_,e,ex,_⟩:=I.hok p _ hk;refine ⟨⟨o,e,ex.1⟩,fun a e2=>?_⟩;cases e2;exact ⟨o,e,ex.2.1⟩
 | _=>exact False.elim ty
noncomputable def tBM (K:PySem.W.Frag) (T:String) (r:V->List V->Hp->VK->Prop) (to:TE) (t:TA):TE:=fun σ H Q=>to σ H fun x H1=>tyV K T x H1/\t σ H1 fun xs H2=>r x xs H2 Q
variable {o e:Expr} {es:List Expr} {to:TE} {t:TA} {name:Str} {apos cpos:Pos} {T id:String} {r:V->List V->Hp->VK->Prop}
theorem Z_ (pa:PlainAttrs T) (slot:Slot T name id) (hty:typeOf (.builtin id)=pure (.type "method_descriptor")) (hm:MtR X id r) (ho:PE X o to) (ha:PA X (e::es) t)
  (hbase:attributeBase o name X.env (eval o X.env)=eval o X.env:=by rfl)
  (hfew:((backTo cpos (starEach (e::es) X.env)).all (fun x=>!x.1)&&(backToKw cpos (keywordEach [] X.env)).all (fun x=>x.1.isSome)
   && decide ((e::es).length+([]:List Keyword).length+(if ([]:List Keyword).isEmpty then 0 else 1)<30))=true:=by rfl)
  (hline:(apos.endLine==cpos.line)=true:=by rfl) (hs:starEach (e::es) X.env=(false,eval e X.env)::starEach es X.env:=by rfl) (hplain:(backTo cpos (starEach es X.env)).any (·.1)=false:=by rfl) :
  PE X (.Call (.Attribute o name apos) (e::es) [] cpos) (tBM X.K T r to t):=by
 intro pins s σ H Q I h;refine wpAny_Call_method_late hbase hfew hline rfl (thn (ho pins s σ H _ I h) fun v s1 ⟨x,H1,I1,r1,ty,q1⟩=>?_);obtain ⟨h1,h2⟩:=aCj I1 r1 ty;refine ⟨T,id,pa,slot,hty,h1,h2,?_⟩;have hA:=ha cpos pins s1 σ H1 _ I1 q1;rw [hs] at hA ⊢;refine Calls.callWith_builtin (by show (false||(backTo cpos (starEach es X.env)).any (·.1))=false;rw [hplain] <;> rfl) (Calls.evalArgs_plain ?_);exact thn hA fun us s2 ⟨vs,H2,I2,r2,q2⟩=>hm pins s2 σ H2 x vs v us Q I2 r1 r2 q2
end
end L2
namespace L2
open PySem PySem.Spec PyProof.Rows
noncomputable def MtM (X:Cx) (id:String) (r:V->List V->Hp->VK->Prop):Prop:=
 ∀(pins:List (Addr×Obj)) (s:Shared) (σ:St) (H:Hp) (x:V) (xs:List V) (v:Value) (us:List Value) (Q:VK),Inv X pins σ H s->RelV x v->Vals xs us->r x xs H Q->
  wpAny (model X.prog X.w) X.A (call (.builtin id) (v::us)) (EP X pins σ Q) X.xe s
theorem Vals.one:∀{x:V} {us:List Value},Vals [x] us->∃u,us=[u]/\RelV x u
 | _,_,.cons r .nil=>⟨_,rfl,r⟩
section
variable {X:Cx} {pins:List (Addr×Obj)} {σ:St} {H:Hp} {s:Shared} {l b:Addr} {xs ys zs:List V}
theorem Inv.aFk {its its':List Value} {n:Nat} {f:Array Value->Array Value} {t':Nat} (I:Inv X pins σ H s) (hH:H l=some (.lst xs))
  (e:s.heap.get? l=some {cls:=.type "list",data:=.seq its.toArray n}) (hf:f its.toArray=its'.toArray) (hv:Vals ys its') (hz:ys.length<=sizeLine) :
  Inv X pins σ (upd H l (.lst ys)) {s with heap:=s.heap.update l (Obj.mapSeq f),toks:=t'}:=by
 have q:=PySem.IsL.update e f;rw [hf] at q;refine I.write (x:=l) (e:=l) (by rw [hH];exact trivial) (.inl rfl) (fun b' u hb hu=>(Heap.get?_update_other s.heap (Obj.mapSeq f) (Ne.symm hb)).trans hu) ⟨_,q⟩ ?_;exact ⟨hz,its',_,hv,q⟩
theorem Inv.aGa {its:List Value} {t':Nat} (I:Inv X pins σ H s) (hv:Vals ys its) (hz:ys.length<=sizeLine) :
  Inv X pins σ (upd H s.heap.objs.size (.lst ys)) {s with heap:=s.heap.push {cls:=.type "list",data:=.seq its.toArray},toks:=t'}:=
 I.laid (fun _ _ q=>Heap.get?_push_of_some _ q) (Nat.le_refl _) ⟨hz,its,0,hv,Heap.get?_push_size _ rfl⟩
theorem Inv.fresh (I:Inv X pins σ H s):H s.heap.objs.size=none:=I.hok.fresh (Nat.le_refl _)
theorem Inv.aFl (I:Inv X pins σ H s) (hH:H l=some (.lst xs)):xs.length<=sizeLine/\∃(its:List Value) (n:Nat),Vals xs its/\xs.length=its.length/\s.heap.get? l=some {cls:=.type "list",data:=.seq its.toArray n}:=by
 obtain ⟨z,its,n,r,e⟩:=I.hok l _ hH;exact ⟨z,its,n,r,r.length,e⟩
end
section
variable {X:Cx}
noncomputable def aA0:V->List V->Hp->VK->Prop:=fun x vs H Q=>∃l xs y,x=.ref l/\vs=[y]/\H l=some (.lst xs)/\xs.length<sizeLine/\Q .non (upd H l (.lst (xs++[y])))
theorem kY:MtM X "list.append" aA0:=by
 intro pins s σ H x vs v us Q I rx rv h;obtain ⟨l,xs,y,rfl,rfl,hH,hz,q⟩:=h;cases rx;obtain ⟨u,rfl,ru⟩:=rv.one;obtain ⟨z,its,n,r,hl,e⟩:=I.aFl hH;refine call_meets F.slot_list_append ⟨_,e,rfl⟩ F.entry_list_append (F.args_list_append_2 _ _) (PySem.list_append l its.toArray n u (by rw [List.size_toArray];lia)) ⟨e,?_⟩;refine ⟨.non,_,I.aFk (its':=its++[u]) hH e (by simp) (r.append (.cons ru .nil)) ?_,rfl,q⟩;rw [List.length_append,List.length_singleton];lia
end
section
variable {prog:Program} {w:World} {A:Around} {E:Value->Shared->Prop} {s:Shared}
end
section
variable {X:Cx}
end
end L2
namespace L2
open PySem PySem.Spec PyProof.Rows
section
variable {κ:Type} [DecidableEq κ]
noncomputable def qP (kvs:List (κ×V)) (k:κ):Option V:=(kvs.find? fun kv=>decide (kv.1=k)).map (·.2)
noncomputable def putK (kvs:List (κ×V)) (k:κ) (v:V):List (κ×V):=
 if (kvs.any fun kv=>decide (kv.1=k))=true then kvs.map (fun kv=>if kv.1=k then (kv.1,v) else kv) else kvs++[(k,v)]
noncomputable def nD (kvs:List (κ×V)) (k:κ):List (κ×V):=kvs.filter fun kv=>decide (kv.1≠k)
theorem U9 {k:κ}:qP ([]:List (κ×V)) k=none:=rfl
theorem mD {p:κ×V} {r:List (κ×V)} {k:κ} (e:p.1=k):qP (p::r) k=some p.2:=by simp [qP,List.find?_cons,e]
theorem mF {p:κ×V} {r:List (κ×V)} {k:κ} (e:¬p.1=k):qP (p::r) k=qP r k:=by simp [qP,List.find?_cons,e]
theorem nW (k:κ):∀kvs:List (κ×V),(kvs.any fun kv=>decide (kv.1=k))=(qP kvs k).isSome
 | []=>rfl
 | p::r=>by
  rw [List.any_cons];by_cases e:p.1=k
  ·simp only [mD e,decide_eq_true e,Bool.true_or,Option.isSome_some]
  ·rw [mF e,decide_eq_false e,Bool.false_or];exact nW k r
theorem qQ (kvs:List (κ×V)) (k:κ) (v:V):(putK kvs k v).length<=kvs.length+1:=by
 unfold putK;split
 ·rw [List.length_map];lia
 ·rw [List.length_append,List.length_cons,List.length_nil];lia
theorem U_ {kvs:List (κ×V)} {k:κ} (v:V) (h:qP kvs k=none):putK kvs k v=kvs++[(k,v)]:=by
 unfold putK;rw [nW,h];exact if_neg (by decide)
theorem T8.qR {o:Option V} {u:Option Value} (r:T8 o u):o.isSome=u.isSome:=by
 cases o with
 | none=>cases u with
  | none=>rfl
  | some _=>exact (show False from r).elim
 | some _=>cases u with
  | none=>exact (show False from r).elim
  | some _=>rfl
theorem KV.val {kvs:List (κ×V)} {vs:List (κ×Value)} (r:KV kvs vs) (k:κ):T8 (qP kvs k) (valueAt vs k):=by
 unfold KV at r;induction r with
 | nil=>exact True.intro
 | @cons p q ps qs h t ih=>
  obtain ⟨h1,h2⟩:=h;by_cases e:p.1=k
  ·have e':q.1=k:=h1.symm.trans e;have b:valueAt (q::qs) k=some q.2:=by simp [valueAt,List.find?_cons,e']
   rw [mD e,b];exact h2
  ·have e':¬q.1=k:=fun z=>e (h1.trans z)
   have b:valueAt (q::qs) k=valueAt qs k:=by simp [valueAt,List.find?_cons,e']
   rw [mF e,b];exact ih
theorem KV.any {kvs:List (κ×V)} {vs:List (κ×Value)} (r:KV kvs vs) (k:κ):(kvs.any fun kv=>decide (kv.1=k))=vs.any fun kv=>decide (kv.1=k):=by
 unfold KV at r;induction r with
 | nil=>rfl
 | cons h t ih=>rw [List.any_cons,List.any_cons,ih,h.1]
theorem KV.repl {kvs:List (κ×V)} {vs:List (κ×Value)} (r:KV kvs vs) (k:κ) {y:V} {u:Value} (ry:RelV y u) :
  KV (kvs.map fun kv=>if kv.1=k then (kv.1,y) else kv) (vs.map fun kv=>if kv.1=k then (kv.1,u) else kv):=by
 unfold KV at r ⊢;induction r with
 | nil=>exact .nil
 | @cons p q ps qs h t ih=>
  rw [List.map_cons,List.map_cons];refine .cons ?_ ih;obtain ⟨h1,h2⟩:=h;by_cases e:p.1=k
  ·rw [if_pos e,if_pos (h1.symm.trans e)];exact ⟨h1,ry⟩
  ·rw [if_neg e,if_neg (fun z=>e (h1.trans z))];exact ⟨h1,h2⟩
theorem KV.put {kvs:List (κ×V)} {vs:List (κ×Value)} (r:KV kvs vs) (k:κ) {y:V} {u:Value} (ry:RelV y u):KV (putK kvs k y) (stored vs k u):=by
 unfold putK stored;rw [r.any k];by_cases e:(vs.any fun kv=>decide (kv.1=k))=true
 ·rw [if_pos e,if_pos e];exact r.repl k ry
 ·rw [if_neg e,if_neg e];exact Paired.snoc r ⟨rfl,ry⟩
theorem KV.length {kvs:List (κ×V)} {vs:List (κ×Value)} (r:KV kvs vs):kvs.length=vs.length:=Paired.length r
theorem VB (kvs:List (κ×V)) (k:κ):(nD kvs k).length<=kvs.length:=List.length_filter_le _ _
end
theorem VD {P:Program} {w:World} {k:Key} {u:Value} (r:RelV (kV k) u):(cU P w).is k u=true:=by
 cases k with
 | inl i=>obtain ⟨t,e⟩:=(show ∃t,u=Value.int i t from r);subst e;exact zO P w i t
 | inr x=>obtain ⟨t,e⟩:=(show ∃t,u=Value.str x t from r);subst e;exact zP P w x t
theorem wW {P:Program} {w:World}:∀{ks:List Key} {us:List Value},Vals (ks.map kV) us->ItemsAre (cU P w) ks us
 | [],_,r=>by rw [List.map_nil] at r;cases r;exact .nil
 | k::ks,_,r=>by
  rw [List.map_cons] at r;cases r with
  | cons h t=>exact .cons (VD h) (wW t)
noncomputable abbrev KT (H:Hp):List (List Key×V)->List (List Key×Addr×Value)->Prop:=Paired fun p q=>p.1=q.1/\H q.2.1=some (.tup (p.1.map kV))/\RelV p.2 q.2.2
theorem KT.val {H:Hp} {kvs:List (List Key×V)} {xs:List (List Key×Addr×Value)} (r:KT H kvs xs) (k:List Key):T8 (qP kvs k) ((atKey xs k).map (·.2)):=by
 induction r with
 | nil=>exact True.intro
 | @cons p q ps qs h t ih=>
  obtain ⟨h1,_,h2⟩:=h;by_cases e:p.1=k
  ·have e':q.1=k:=h1.symm.trans e;have b:atKey (q::qs) k=some q.2:=by simp [atKey,List.find?_cons,e']
   rw [mD e,b];exact h2
  ·have e':¬q.1=k:=fun z=>e (h1.trans z)
   have b:atKey (q::qs) k=atKey qs k:=by simp [atKey,List.find?_cons,e']
   rw [mF e,b];exact ih
theorem KT.repl {H:Hp} {kvs:List (List Key×V)} {xs:List (List Key×Addr×Value)} (r:KT H kvs xs) (k:List Key) {y:V} {u:Value} (ry:RelV y u) :
  KT H (kvs.map fun kv=>if kv.1=k then (kv.1,y) else kv) (xs.map (putAt k u)):=by
 induction r with
 | nil=>exact .nil
 | @cons p q ps qs h t ih=>
  rw [List.map_cons,List.map_cons];refine .cons ?_ ih;obtain ⟨h1,h2,h3⟩:=h;unfold putAt;by_cases e:p.1=k
  ·rw [if_pos e,if_pos (h1.symm.trans e)];exact ⟨h1,h2,ry⟩
  ·rw [if_neg e,if_neg (fun z=>e (h1.trans z))];exact ⟨h1,h2,h3⟩
theorem KT.put {H:Hp} {kvs:List (List Key×V)} {xs:List (List Key×Addr×Value)} (r:KT H kvs xs) (k:List Key) {b:Addr} {y:V} {u:Value} (hb:H b=some (.tup (k.map kV))) (ry:RelV y u) :
  KT H (putK kvs k y) (storedH xs k b u):=by
 have e:(kvs.any fun kv=>decide (kv.1=k))=(atKey xs k).isSome:=by
  rw [nW,(r.val k).qR,Option.isSome_map]
 unfold putK storedH;rw [e];by_cases q:(atKey xs k).isSome=true
 ·rw [if_pos q,if_pos q];exact r.repl k ry
 ·rw [if_neg q,if_neg q];exact Paired.snoc r ⟨rfl,hb,ry⟩
theorem KT.keeps {H H':Hp} {kvs:List (List Key×V)} {xs:List (List Key×Addr×Value)} (r:KT H kvs xs) (ht:∀b ys,H b=some (.tup ys)->H' b=some (.tup ys)):KT H' kvs xs:=
 Paired.aE7 r fun _ _ z=>⟨z.1,ht _ _ z.2.1,z.2.2⟩
section
variable {P:Program} {w:World} {H:Hp} {h:Heap} {a:Addr}
theorem aCk {u:HO} (ok:HOk P w H h) (e:Rd H a u):gR P w H h a u:=e.ok ok
theorem VF {kvs:List (Key×V)} (ok:HOk P w H h) (e:Rd H a (.dK kvs)):kvs.length<=sizeLine/\(a==sysModules)=false/\∃vs,KV kvs vs/\h.DictOf (cU P w) a vs:=
 show gR P w H h a (.dK kvs) from aCk ok e
theorem JM {kvs:List (Key×V)} (ok:HOk P w H h) (e:H a=some (.dK kvs)):kvs.length<=sizeLine/\(a==sysModules)=false/\∃vs,KV kvs vs/\h.DictOf (cU P w) a vs:=VF ok (.inl e)
theorem wX {ks:List Key} (ok:HOk P w H h) (e:H a=some (.tup (ks.map kV))):(tupleKind (cU P w)).is h ks a:=by
 obtain ⟨_,its,r,o,h1,h2,n,h3⟩:=(show gR P w H h a (.tup (ks.map kV)) from ok a _ e)
 exact ⟨o,its.toArray,n,h1,h2,congrArg (·.1) h3,by simpa using wW r⟩
theorem VG {kvs:List (List Key×V)} (ok:HOk P w H h) (e:Rd H a (.dT kvs)):kvs.length<=sizeLine/\(a==sysModules)=false/\
  ∃xs,KT H kvs xs/\h.DictOfH (tupleKind (cU P w)) a xs:=by
 obtain ⟨z,y,xs,r,o,es,ep,h1,h2,h3,h4,h5⟩:=(show gR P w H h a (.dT kvs) from aCk ok e)
 refine ⟨z,y,xs,r,o,es,ep,h1,h2,h3,h4,fun x hx=>?_,h5⟩;have all:∀{l:List (List Key×V)} {m:List (List Key×Addr×Value)},KT H l m->∀x∈m,(tupleKind (cU P w)).is h x.1 x.2.1:=by
  intro l m q;induction q with
  | nil=>intro x hx;exact nomatch hx
  | @cons p q ps qs hq t ih=>
   intro x hx;rcases List.mem_cons.mp hx with e|hx
   ·subst e;exact wX ok (by rw [<-hq.1];exact hq.2.1)
   ·exact ih x hx
 exact all r x hx
theorem NK {kvs:List (List Key×V)} (ok:HOk P w H h) (e:H a=some (.dT kvs)):kvs.length<=sizeLine/\(a==sysModules)=false/\
  ∃xs,KT H kvs xs/\h.DictOfH (tupleKind (cU P w)) a xs:=VG ok (.inl e)
end
noncomputable def T9 (H:Hp) (a:Addr) (y:V) (r:Option V):Prop:=
 (∃kvs k,Rd H a (.dK kvs)/\y=kV k/\r=qP kvs k)\/∃kvs k b,Rd H a (.dT kvs)/\y=.ref b/\H b=some (.tup (k.map kV))/\r=qP kvs k
noncomputable def YM (H:Hp) (a:Addr) (y v:V) (H':Hp):Prop:=
 (∃kvs k,H a=some (.dK kvs)/\y=kV k/\kvs.length<sizeLine/\H'=upd H a (.dK (putK kvs k v)))\/
 ∃kvs k b,H a=some (.dT kvs)/\y=.ref b/\H b=some (.tup (k.map kV))/\kvs.length<sizeLine/\H'=upd H a (.dT (putK kvs k v))
theorem T9.k {H:Hp} {a:Addr} {kvs:List (Key×V)} {k:Key} (e:H a=some (.dK kvs)):T9 H a (kV k) (qP kvs k):=.inl ⟨kvs,k,.inl e,rfl,rfl⟩
theorem T9.t {H:Hp} {a b:Addr} {kvs:List (List Key×V)} {k:List Key} (e:H a=some (.dT kvs)) (eb:H b=some (.tup (k.map kV))):T9 H a (.ref b) (qP kvs k):=.inr ⟨kvs,k,b,.inl e,rfl,eb,rfl⟩
theorem YM.k {H:Hp} {a:Addr} {kvs:List (Key×V)} {k:Key} {v:V} (e:H a=some (.dK kvs)) (hl:kvs.length<sizeLine):YM H a (kV k) v (upd H a (.dK (putK kvs k v))):=.inl ⟨kvs,k,e,rfl,hl,rfl⟩
theorem YM.t {H:Hp} {a b:Addr} {kvs:List (List Key×V)} {k:List Key} {v:V} (e:H a=some (.dT kvs)) (eb:H b=some (.tup (k.map kV))) (hl:kvs.length<sizeLine) :
  YM H a (.ref b) v (upd H a (.dT (putK kvs k v))):=.inr ⟨kvs,k,b,e,rfl,eb,hl,rfl⟩
section
variable {X:Cx} {pins:List (Addr×Obj)} {σ:St} {H:Hp} {s:Shared} {a:Addr} {y v:V} {u r:Value} {o:Option V} {A:Around} {E:Value->Shared->Prop}
theorem Inv.big (I:Inv X pins σ H s):sysModules<s.heap.objs.size:=by
 have h:mainGlobals<s.heap.objs.size:=(I.mod.glob.keeps I.bk).lt;exact Nat.lt_trans (by decide) h
theorem NP {Q:Value->Shared->Prop} (hu:A.units+1<cLine) (I:Inv X pins σ H s) (g:T9 H a y (some v)) (ry:RelV y u) (h:∀w' s',Inv X pins σ H s'->RelV v w'->Q w' s') :
  wpAny (model X.prog X.w) A (getItem (.ref a) u) Q E s:=by
 rcases g with ⟨kvs,k,e,ey,l⟩|⟨kvs,k,b,e,ey,eb,l⟩
 ·subst ey;obtain ⟨z,hd,vs,rel,dd⟩:=VF I.hok e;obtain ⟨w',hw,rw'⟩:=T8.some_of (v:=v) (o:=valueAt vs k) (by rw [l];exact rel.val k);exact wpAny_getItem_of (VD ry) dd.mapOf hw (h w' _ (I.tok _) rw')
 ·subst ey;cases (show u=Value.ref b from ry);obtain ⟨z,hd,xs,rel,dd⟩:=VG I.hok e;obtain ⟨w',hw,rw'⟩:=T8.some_of (v:=v) (o:=(atKey xs k).map (·.2)) (by rw [l];exact rel.val k);obtain ⟨p,hp,hp2⟩:=Option.map_eq_some_iff.mp hw;refine wpAny_getItem_heap (tupleKind_room_in1 hu) (wX I.hok eb) dd hp ?_;rw [hp2];exact h w' _ (I.tok _) rw'
theorem aA1 {Q:Value->Shared->Prop} (hu:A.units+1<cLine) (I:Inv X pins σ H s) (g:T9 H a y o) (ry:RelV y u) (h:∀s',Inv X pins σ H s'->Q (.bool (!o.isSome)) s') :
  wpAny (model X.prog X.w) A (compareOp .NotIn u (.ref a)) Q E s:=by
 rcases g with ⟨kvs,k,e,ey,l⟩|⟨kvs,k,b,e,ey,eb,l⟩
 ·subst ey;obtain ⟨z,hd,vs,rel,dd⟩:=VF I.hok e;refine wpAny_notIn_of (VD ry) hd dd.mapOf ?_;rw [<-(rel.val k).qR,<-l];exact h _ (I.tok _)
 ·subst ey;cases (show u=Value.ref b from ry);obtain ⟨z,hd,xs,rel,dd⟩:=VG I.hok e;refine wpAny_notIn_heap (tupleKind_room_in1 hu) (wX I.hok eb) hd dd ?_;have q:=(rel.val k).qR;rw [Option.isSome_map] at q;rw [<-q,<-l];exact h _ (I.tok _)
theorem zU {h':Heap} {t':Nat} {ob:HO} (I:Inv X pins σ H s) (mu:Mut (H a)) (hs:Heap.SameBut a s.heap h') (he:∃q,h'.get? a=some q) (new:gR X.prog X.w (upd H a ob) h' a ob) :
  Inv X pins σ (upd H a ob) {s with heap:=h',toks:=t'}:=
 I.write (x:=a) (e:=a) mu (.inl rfl) (fun b q hb z=>(hs.2 b hb).trans z) he new
theorem aCl {P:Program} {w:World} {H':Hp} {h':Heap} {kvs:List (Key×V)} {vs:List (Key×Value)} (z:kvs.length<=sizeLine) (hd:(a==sysModules)=false) (rel:KV kvs vs) (dd:h'.DictOf (cU P w) a vs) :
  gR P w H' h' a (.dK kvs):=⟨z,hd,vs,rel,dd⟩
theorem NQ {H':Hp} {Q:Unit->Shared->Prop} (hu:A.units+1<cLine) (I:Inv X pins σ H s) (g:YM H a y v H') (ry:RelV y u) (rv:RelV v r) (h:∀s',Inv X pins σ H' s'->Q () s') :
  wpAny (model X.prog X.w) A (setItem (.ref a) u r) Q E s:=by
 rcases g with ⟨kvs,k,e,ey,l,eH⟩|⟨kvs,k,b,e,ey,eb,l,eH⟩
 ·subst ey eH;obtain ⟨z,hd,vs,rel,dd⟩:=JM I.hok e;have hz:vs.length<=sizeLine:=by rw [<-rel.length];exact z
  have hl:(putK kvs k v).length<=sizeLine:=by have:=qQ kvs k v;lia
  refine wpAny_setItem_pairs (hsz:=hz) (VD ry) dd fun h' dd' hs=>h _ ?_
  have he:∃q,h'.get? a=some q:=let ⟨q,_,_,hq,_⟩:=dd';⟨q,hq⟩
  exact zU I (by rw [e];exact True.intro) hs he (aCl hl hd (rel.put k rv) dd')
 ·subst ey eH;cases (show u=Value.ref b from ry);obtain ⟨z,hd,xs,rel,dd⟩:=NK I.hok e;have hz:xs.length<=sizeLine:=by rw [<-Paired.length rel];exact z
  have hl:(putK kvs k v).length<=sizeLine:=by have:=qQ kvs k v;lia
  refine wpAny_setItem_heap (hsz:=hz) (tupleKind_room_in1 hu) (wX I.hok eb) dd fun h' dd' hs=>h _ ?_
  obtain ⟨q,es,ep,hq,h2,h3,h4,_,h5⟩:=dd';refine zU I (by rw [e];exact True.intro) hs ⟨q,hq⟩ ⟨hl,hd,_,(rel.put k eb rv).keeps fun c ys ec=>?_,q,es,ep,hq,h2,h3,h4,h5⟩;rw [aX (UT ec e (fun z=>nomatch z))];exact ec
end
section
variable {X:Cx} {pins:List (Addr×Obj)} {σ:St} {H:Hp} {s:Shared} {a:Addr} {kvs:List (Key×V)} {k:Key} {u:Value} {A:Around} {E:Value->Shared->Prop}
end
theorem zW {X:Cx} {pins:List (Addr×Obj)} {σ:St} {H:Hp} {s:Shared} {a:Addr} {y:V} {o:Option V} (I:Inv X pins σ H s) (g:T9 H a y o):s.TypeIs (.ref a) "dict":=by
 rcases g with ⟨kvs,k,e,_,_⟩|⟨kvs,k,b,e,_,_,_⟩
 ·obtain ⟨_,_,vs,_,dd⟩:=VF I.hok e;exact dd.typeIs
 ·obtain ⟨_,_,xs,_,dd⟩:=VG I.hok e;exact dd.typeIs
section
variable {X:Cx} {o i e value:Expr} {pos pos' tpos:Pos} {td ty tv:TE}
end
theorem VH {P:Program} {w:World} {H:Hp} (h:Heap) (hb:sysModules<h.objs.size):gR P w H (h.push {cls:=.type "dict",data:=.dict #[]}) h.objs.size (.dK []):=
 ⟨Nat.zero_le _,beq_eq_false_iff_ne.mpr (Ne.symm (Nat.ne_of_lt hb)),[],.nil,Heap.DictOf.new h⟩
noncomputable def aCm:TE:=fun _ H Q=>∀p,H p=none->Q (.ref p) (upd H p (.dK []))
section
variable {X:Cx} {pos:Pos}
theorem VJ:PE X (.Dict [] [] pos) aCm:=fun pins s σ H Q I h=>
 wpAny_Dict_empty ⟨.ref s.heap.objs.size,_,I.laid (a:=s.heap.objs.size) (o:=.dK []) (t':=s.toks) (fun _ _ q=>Heap.get?_push_of_some _ q) (Nat.le_refl _) (VH s.heap I.big),rfl,h _ (I.hok.fresh (Nat.le_refl _))⟩
end
section
variable {X:Cx} {pins:List (Addr×Obj)} {σ:St} {H:Hp} {s:Shared} {a:Addr} {y d:V} {u r:Value} {o:Option V} {A:Around} {E:Value->Shared->Prop}
end
section
variable {X:Cx} {o e f:Expr} {apos cpos:Pos} {td ty tx:TE}
end
section
variable {X:Cx} {pins:List (Addr×Obj)} {σ:St} {H:Hp} {s:Shared} {a:Addr} {kvs:List (Key×V)} {A:Around} {E:Value->Shared->Prop}
end
section
variable {X:Cx} {pins:List (Addr×Obj)} {σ:St} {H:Hp} {s:Shared} {a:Addr} {y:V} {u:Value} {A:Around} {E:Value->Shared->Prop}
end
end L2
namespace Att
open PySem PySem.W PySem.Calls PyProof.Rows
theorem qT {P:Params} {h:Heap}:∀(ns:List Int) (vs:List Value),WellAll P h vs (ns.map WData.int)->IntsAre vs ns:=by
 intro ns;induction ns with
 | nil=>
  intro vs w;rw [List.map_nil] at w;cases w;exact .nil
 | cons n ns ih=>
  intro vs w;rw [List.map_cons] at w;cases w with
  | cons a b=>
   cases a;exact .cons _ _ (ih _ b)
theorem NT {l:OpenLaw} {n:Nat} (hn:l.most=some n) {P:Params} {h:Heap} {args:List WData} {vals:List Value}
  (hpre:l.row.toRowW.claim.pre args=true) (hwl:WellAll P h vals args) :
  ∃a vs ns,vals=[Value.ref a]/\args=[WData.list (ns.map WData.int)]/\h.get? a=some {cls:=.type "list",data:=.seq vs.toArray}/\IntsAre vs ns/\ns.length<=n:=by
 have hsh:WShape.hasAll [] args [.list .int]=true:=(pre_splitW hpre).1;have hc:l.pre.holds [] {args:=args}=true:=(pre_splitW hpre).2;obtain ⟨d,r,rfl,h1,h2⟩:=hasAllW_cons hsh;obtain rfl:=hasAllW_nil h2;obtain ⟨xs,rfl,h3⟩:=hasW_list h1;obtain ⟨ns,rfl⟩:=items_int h3;have hlen:ns.length<=n:=by
  unfold OpenLaw.pre at hc;have h4:(WTm.not (.lt (.lit (.int (n:Int))) (.len (.arg 0)))).holds [] {args:=[.list (ns.map .int)]}=true:=by
   have h4:=(holds_andW hc).1;rw [hn] at h4;exact h4
  have h5:=condW_of h4 (w_not (w_lt w_lit (w_len_list (w_arg rfl))));rw [List.length_map] at h5;refine Nat.le_of_not_lt fun q=>?_
  have q':(n:Int)<((ns.length:Nat):Int):=by lia
  first
   | (rw [decide_eq_true q'] at h5;exact absurd h5 (by decide))
   | (simp at h5;lia)
 cases hwl with
 | cons w1 w2=>
  cases w2;cases w1 with
  | list ho hall=>exact ⟨_,_,ns,rfl,rfl,ho,qT ns _ hall,hlen⟩
theorem NZ (l:OpenLaw) (args:List WData):l.row.toRowW.claim.post args (.bool true) args=true:=
 postW_of (r:=l.row.toRowW) (X:=(true==true))
  (show WShape.has [] (.bool true) .bool=true by first|rfl|decide|simp [WShape.has,WShape.arms,WShape.armsAll])
  (show (WTm.eq .res (.lit (.bool true))).value [] {args:=args,res:=some (.bool true),after:=args}=some (.bool (true==true)) from w_eq_bool (w_res rfl) w_lit) rfl
theorem zX {l:OpenLaw} {n:Nat} {q:Program} {loose:List Str} {XP:(Str->Option Value)->Heap->Prop} {YP:World->Heap->Prop} {d:DefRec}
  (hn:l.most=some n) (hdf:d.params.defaults=[])
  (call:∀(w:World) (s₀ s₁:Shared) (mg mb:Str->Option Value) (fa:Addr) (o:Obj) (pm cd doc:Value) (a:Addr) (vs:List Value) (ns:List Int),
   Ground q loose [] XP w s₀ mg mb s₁.heap->YP w s₁.heap->
   s₁.heap.get? fa=some o->o.data=.func (docDef d.name d.params d.body d.scope pm cd doc)->s₁.heap.CodeRec cd d.name->mg d.name=some (.ref fa)->
   s₁.heap.get? a=some {cls:=.type "list",data:=.seq vs.toArray}->IntsAre vs ns->ns.length<=n->s₁.gens=#[]->
   codeAny (model l.prog w) callerA (.call (.ref fa) ⟨[.ref a],[]⟩) (fun r s'=>r=.ok (.ret (.bool true))/\OldK s₁.heap s'.heap/\s'.os=s₁.os/\AllBare s'.gens) s₁) :
  WalkO q loose XP YP l.row.toRowW d [] (fun f vs=>PySem.call f vs):=by
 intro w s₀ s₁ mg mb G Y fa o pm cd doc dV kV ho hd hcd hD hmg hg args vals as hpre hlay hrd hwl hlo;obtain rfl:dV=.none:=Dflts.none hD hdf;obtain rfl:kV=.none:=Dflts.noKw hD;obtain ⟨a,vs,ns,rfl,rfl,hobj,hints,hlen⟩:=NT hn hpre hwl;refine enter_call (codeAny_mono (call w s₀ s₁ mg mb fa o pm cd doc a vs ns G Y ho (fd_plain hd) hcd hmg hobj hints hlen hg) fun r s' hq=>?_);obtain ⟨rfl,h2,h3,h4⟩:=hq;exact ⟨.inl ⟨.bool true,.bool true,[],rfl,fun _=>rfl,.bool true,NZ l _,fun _=>⟨List.Pairwise.nil,fun _ hm=>(nomatch hm)⟩⟩,h2,h3,h4⟩
section
variable {prog:Program} {w:World} {A:Around} {E:Value->Shared->Prop} {s:Shared} {K:Frag}
end
end Att
namespace L2
open PySem PySem.Spec PyProof.Rows
theorem wY:∀{vs:List Value} {ns:List Int},IntsAre vs ns->Vals (ns.map V.int) vs
 | _,_,.nil=>.nil
 | _,_,.cons n t h=>.cons ⟨t,rfl⟩ (wY h)
noncomputable def Only (H:Hp):Prop:=∀b,H b=none\/∃o xs,H b=some (.frz o (.lst xs))
theorem VL {P:Program} {w:World} {K:PySem.W.Frag} {mg mb:Str->Option Value} {CX:CXT} {k:Nat} {fa a:Addr} {fd:FuncData} {x:Str} {sp:Sp} {s₁:Shared} {vs:List Value} {ns:List Int}
  (KX:K.In s₁.heap) (hns:s₁.heap.Ns mainGlobals mg) (hb:s₁.heap.Ns builtinsNs mb) (hbb:∀x:Str,x ≠ "__name__"->mb x=bootBuiltins x) (hlim:s₁.heap.NoLimit) (hg:s₁.gens=#[])
  (ha:s₁.heap.get? a=some {cls:=.type "list",data:=.seq vs.toArray}) (hi:IntsAre vs ns) (hl:ns.length<=sizeLine) (hr:pL k callerA)
  (F:∀base:Heap,K.In base->base.Ns mainGlobals mg->D_ P w K mg base CX k fa fd [x] sp) (hbind:∀(s:Shared) (u:Value),BindsTo s fd ⟨[u],[]⟩ [(x,u)])
  (hsp:∀H:Hp,Only H->SqL K H a (ns.map V.int)->sp [.ref a] H (fun v _=>v=.bl true) fun _ _ _=>False)
  (hCX:∀H e s',CX [] H s₁ (fun _ _ _=>False) e s'->False) :
  codeAny (model P w) callerA (.call (.ref fa) ⟨[.ref a],[]⟩) (fun r s'=>r=.ok (.ret (.bool true))/\OldK s₁.heap s'.heap/\s'.os=s₁.os/\AllBare s'.gens) s₁:=by
 have rv:=wY hi;have lenV:=hi.length
 -- from an abstract heap in which nothing but the script may be tracked
 have core:∀H:Hp,Only H->SqL K H a (ns.map V.int)->HOk P w H s₁.heap->(∀b,H b≠none->b=a)->(H a≠none->K.lookup a=none)->
   codeAny (model P w) callerA (.call (.ref fa) ⟨[.ref a],[]⟩) (fun r s'=>r=.ok (.ret (.bool true))/\OldK s₁.heap s'.heap/\s'.os=s₁.os/\AllBare s'.gens) s₁:=by
  intro H hO hS hok hA hK;have base_of:∀{b:Addr} {o:Obj},s₁.heap.get? b=some o->H b=none->(UV s₁.heap H).get? b=some o:=fun e n=>UW e n
  have noA:∀{b:Addr} {o:Obj} {es:Array DictEntry} {ep:Nat},s₁.heap.get? b=some o->o.data=.dict es ep->H b=none:=fun {b o es ep} e d=>by
   cases q:H b with
   | none=>rfl
   | some u=>
    have e':b=a:=hA b (by rw [q];simp);subst e';rw [ha] at e;cases e;have d':Data.seq vs.toArray _=Data.dict es ep:=d;cases d'
  have nsK:∀{b:Addr} {m:Str->Option Value},s₁.heap.Ns b m->(UV s₁.heap H).Ns b m:=fun {b m} ⟨o,es,ep,e,d,r⟩=>⟨o,es,ep,base_of e (noA e d),d,r⟩
  have hKb:K.In (UV s₁.heap H):=fun b o e=>base_of (KX b o e) (by
   cases q:H b with
   | none=>rfl
   | some u=>
    have e':b=a:=hA b (by rw [q];simp);subst e';rw [hK (by rw [q];simp)] at e;cases e)
  have hM:Mod K mg (UV s₁.heap H):=⟨hKb,nsK hns,⟨mb,nsK hb,hbb⟩,let ⟨mc,h1,h2⟩:=hlim;⟨mc,nsK h1,h2⟩⟩
  have e0:aE1 P w K mg (UV s₁.heap H) callerA [] s₁ H:=⟨rfl,hM,fun b o e=>ZW e,Nat.le_of_eq (L_ _ _),trivial,fun b hb=>absurd (show b∈([]:List Addr) from hb) (by simp),hok,.of_eq hg⟩
  refine codeAny_mono ((F _ hKb (nsK hns)).run callerA [] s₁ H ⟨[.ref a],[]⟩ [.ref a] [.ref a] _ _ hr e0 (hbind s₁ (.ref a)) (.cons rfl .nil) (hsp H hO hS)) fun r s' h=>?_
  cases r with
  | error e=>exact (hCX H e s' h).elim
  | ok fl=>
   cases fl with
   | next=>exact False.elim h
   | brk=>exact False.elim h
   | cont=>exact False.elim h
   | ret u=>
    obtain ⟨v,H',os,bare,un,hok',r',q⟩:=h;have q':v=.bl true:=q;subst q';obtain rfl:u=Value.bool true:=r';refine ⟨rfl,OldK.of_keep fun b o e=>?_,os,bare⟩;cases q:H b with
    | none=>exact un.keep b o e q (by intro z;exact absurd (show b∈([]:List Addr) from z) (by simp)) (by simp)
    | some u=>
     rcases hO b with z|⟨ob,xs,z⟩
     ·rw [q] at z;cases z
     ·have z2:=un.frzs b ob _ z;obtain ⟨e1,_⟩:=hok b _ z;obtain ⟨e2,_⟩:=hok' b _ z2;rw [e] at e1;cases e1;exact e2
 cases hk:K.lookup a with
 | some o=>
  -- the script is one of the module's own objects
  have e:=KX a o hk;rw [ha] at e;cases e;refine core (fun _=>none) (fun _=>.inl rfl) (.inr ⟨_,vs.toArray,_,hk,rfl,rfl,rfl,by rw [List.size_toArray,lenV];exact hl,by simpa using rv⟩) (fun b u z=>by have z':(none:Option HO)=some u:=z;cases z') (fun b z=>absurd rfl z) fun z=>absurd rfl z
 | none=>
  refine core (fun b=>if b=a then some (.frz {cls:=.type "list",data:=.seq vs.toArray} (.lst (ns.map V.int))) else none) (fun b=>?_) (.inl (.inr ⟨{cls:=.type "list",data:=.seq vs.toArray},if_pos rfl⟩)) (fun b u z=>?_) (fun b z=>?_) fun _=>hk
  ·by_cases hb:b=a
   ·exact .inr ⟨_,_,if_pos hb⟩
   ·exact .inl (if_neg hb)
  ·by_cases hb:b=a
   ·have z':=(if_pos hb).symm.trans z;cases z';subst hb;exact ⟨ha,by rw [List.length_map];exact hl,vs,_,rv,ha⟩
   ·have z':=(if_neg hb).symm.trans z;cases z'
  ·by_cases hb:b=a
   ·exact hb
   ·exact absurd (if_neg hb) z
end L2
namespace L2
open PySem PySem.Spec PyProof.Rows
theorem aA2 {l:PySem.W.OpenLaw} {n k:Nat} {q:Program} {loose:List Str} {XP:(Str->Option Value)->Heap->Prop} {YP:World->Heap->Prop} {d:DefRec} {K:Params->PySem.W.Frag} {CX:World->CXT} {sp:World->Sp} {x:Str}
  (hn:l.most=some n) (hn2:n<=sizeLine) (hdf:d.params.defaults=[]) (hr:pL k callerA)
  (hY:∀(w:World) (h:Heap),YP w h->(K w.params).In h)
  (F:∀(w:World) (mg:Str->Option Value) (fa:Addr) (h:Heap),(K w.params).In h->h.Ns mainGlobals mg->mg d.name=some (.ref fa)->
   ∃fd:FuncData,(∀(s:Shared) (u:Value),BindsTo s fd ⟨[u],[]⟩ [(x,u)])/\
    ∀base:Heap,(K w.params).In base->base.Ns mainGlobals mg->D_ l.prog w (K w.params) mg base (CX w) k fa fd [x] (sp w))
  (hsp:∀(w:World) (H:Hp) (a:Addr) (ns:List Int),ns.length<=n->Only H->SqL (K w.params) H a (ns.map V.int)->sp w [.ref a] H (fun v _=>v=.bl true) fun _ _ _=>False)
  (hCX:∀(w:World) (H:Hp) (s:Shared) (e:Value) (s':Shared),CX w [] H s (fun _ _ _=>False) e s'->False) :
  PySem.W.WalkO q loose XP YP l.row.toRowW d [] (fun f vs=>PySem.call f vs):=by
 refine Att.zX hn hdf fun w s₀ s₁ mg mb fa o pm cd doc a vs ns G Y ho hd hcd hmg hobj hints hlen hg=>?_
 have KX:=hY w _ Y;obtain ⟨fd,hb,hF⟩:=F w mg fa _ KX G.T.g hmg;exact VL KX G.T.g G.T.b G.T.builtins G.T.nolimit hg hobj hints (Nat.le_trans hlen hn2) hr hF hb (fun H hO hS=>hsp w H a ns hlen hO hS) fun H e s'=>hCX w H s₁ e s'
end L2
namespace L2
open PySem PySem.Spec PyProof.Rows
noncomputable def cB (s:Stmt):Arguments:=match s with
 | .FunctionDef _ a _ _ _ _ _ _ _ _=>a
 | _=>{posonlyargs:=[],args:=[],vararg:=none,kwonlyargs:=[],kw_defaults:=[],kwarg:=none,defaults:=[]}
noncomputable def bU (s:Stmt):List Stmt:=match s with
 | .FunctionDef _ _ b _ _ _ _ _ _ _=>b
 | _=>[]
noncomputable def aL (s:Stmt):Scope:=match s with
 | .FunctionDef _ _ _ _ _ _ sc _ _ _=>sc
 | _=>{kind:=.function,names:=[],isGenerator:=false,isCoroutine:=false}
noncomputable abbrev CX0:CXT:=fun _ _ _ _ _ _=>False
noncomputable abbrev E0:XK:=fun _ _ _=>False
theorem aEq {X:Cx}:EY CX0 X E0:=fun _ _ _ _ _ _ _ h=>h.elim
structure Fun (K:PySem.W.Frag) (x qual:Str) (st:Stmt) (f:Addr) (fd:FuncData):Prop where
 ex:∃(oc:Value) (od:Option Addr) (kV doc pm:Value) (an:Option Addr) (cdv ct:Value) (osl:Array (Option Value)),
  fd=PySem.W.fnOf x qual (cB st) (bU st) (aL st) .none kV doc pm an cdv ct/\K.lookup f=some ⟨oc,od,.func fd,osl⟩/\PySem.W.codeIn K cdv qual=true
 kp:PySem.W.keepIn K (.ref f)=true
section
variable {P:Program} {w:World} {K:PySem.W.Frag} {mg:Str->Option Value} {base:Heap}
theorem Fun.ok {x qual:Str} {st:Stmt} {f:Addr} {fd:FuncData} {N ps:List Str} {k:Nat} {sp:Sp} (F:Fun K x qual st f fd) (S:b8 N ps (aL st)) (len:∀vs H Q E,sp vs H Q E->vs.length=ps.length)
  (hbody:∀(cdv:Value) (A:Around) (outer:List Env) (s:Shared) (H:Hp) (vs:List V) (Q:VK) (E:XK),pL k (A.deeper (envOfC qual (aL st) s.heap.objs.size f cdv))->sp vs H Q E->
   ∃t,PSs (mY CX0 P w K mg base N qual (aL st) f cdv A outer s H E).nox (bU st) t/\t {nx:=fun _ H'=>Q .non H',rt:=Q} (start N vs) H):D_ P w K mg base CX0 (k+1) f fd ps sp:=by
 obtain ⟨oc,od,kV,doc,pm,an,cdv,ct,osl,rfl,lk,hcd⟩:=F.ex;refine aCe lk hcd S len fun A outer s H vs Q E hr hsp=>?_
 obtain ⟨t,h,q⟩:=hbody cdv A outer s H vs Q E hr hsp;exact ⟨t,h.nox,q⟩
theorem Fun.binds {x qual:Str} {st:Stmt} {f:Addr} {fd:FuncData} {ps:List Str} (F:Fun K x qual st f fd)
  (h:∀(kV doc pm:Value) (an:Option Addr) (cdv ct:Value) (us:List Value),us.length=ps.length->bindArgs (PySem.W.fnOf x qual (cB st) (bU st) (aL st) .none kV doc pm an cdv ct) ⟨us,[]⟩=pure (ps.zip us)):Binds K fd ps []:=by
 obtain ⟨oc,od,kV,doc,pm,an,cdv,ct,osl,rfl,lk,hcd⟩:=F.ex;exact .all (h kV doc pm an cdv ct)
theorem fG {x qual:Str} {st:Stmt} {f:Addr} {oc:Value} {od an:Option Addr} {osl:Array (Option Value)} {kV doc pm cdv ct:Value} (l:K.lookup f=some ⟨oc,od,.func (PySem.W.fnOf x qual (cB st) (bU st) (aL st) .none kV doc pm an cdv ct),osl⟩)
  (c:PySem.W.codeIn K cdv qual=true) (k:PySem.W.keepIn K (.ref f)=true):Fun K x qual st f (PySem.W.fnOf x qual (cB st) (bU st) (aL st) .none kV doc pm an cdv ct):=⟨⟨oc,od,kV,doc,pm,an,cdv,ct,osl,rfl,l,c⟩,k⟩
end
section
variable {X:Cx}
end
noncomputable def cJ (H H':Hp):Prop:=∀b o,H b=some o->H' b=some o
theorem cJ.refl (H:Hp):cJ H H:=fun _ _ h=>h
theorem cJ.trans {H H1 H2:Hp} (a:cJ H H1) (b:cJ H1 H2):cJ H H2:=fun c o h=>b c o (a c o h)
theorem cJ.free {H H':Hp} (e:cJ H H') {l:Addr} (h:H' l=Option.none):H l=Option.none:=by
 cases q:H l with
 | none=>rfl
 | some o=>
  rw [e l o q] at h;cases h
section
variable {X:Cx}
end
section
variable {κ:Type} [DecidableEq κ]
theorem VM {kvs:List (κ×V)} {k:κ} (h:qP kvs k=none):¬k∈kvs.map (·.1):=by
 intro m;obtain ⟨p,hp,e⟩:=List.mem_map.mp m;have q:(kvs.any fun kv=>decide (kv.1=k))=true:=List.any_eq_true.mpr ⟨p,hp,decide_eq_true e⟩;rw [nW,h] at q;exact absurd q (by simp)
theorem N5:∀{l:List κ} {k:κ},l.Nodup->¬k∈l->(l++[k]).Nodup
 | [],k,_,_=>by simp
 | a::r,k,h,hk=>by
  obtain ⟨h1,h2⟩:=List.nodup_cons.mp h;show (a::(r++[k])).Nodup;refine List.nodup_cons.mpr ⟨fun m=>?_,N5 h2 fun m=>hk (List.mem_cons.mpr (Or.inr m))⟩;rcases List.mem_append.mp m with q|q
  ·exact h1 q
  ·exact hk (List.mem_cons.mpr (Or.inl (List.mem_singleton.mp q).symm))
theorem aA3 {kvs:List (κ×V)} {k:κ} (v:V) (hn:(kvs.map (·.1)).Nodup) (h:qP kvs k=none):((putK kvs k v).map (·.1)).Nodup:=by
 rw [U_ v h,List.map_append];exact N5 hn (VM h)
theorem wZ {p:κ×V} {r:List (κ×V)} {k:κ} (e:p.1=k):nD (p::r) k=nD r k:=by
 unfold nD;rw [List.filter_cons,if_neg (by simp [e])]
theorem xF {p:κ×V} {r:List (κ×V)} {k:κ} (e:¬p.1=k):nD (p::r) k=p::nD r k:=by
 unfold nD;rw [List.filter_cons,if_pos (by simp [e])]
theorem N6 {kvs:List (κ×V)} {k:κ} {p:κ×V} (h:p∈nD kvs k):p∈kvs:=(List.mem_filter.mp h).1
theorem uO:∀{kvs:List (κ×V)} {k:κ},(kvs.map (·.1)).Nodup->((nD kvs k).map (·.1)).Nodup
 | [],_,_=>List.nodup_nil
 | p::r,k,h=>by
  have h:(p.1::r.map (·.1)).Nodup:=h;obtain ⟨h1,h2⟩:=List.nodup_cons.mp h;by_cases e:p.1=k
  ·rw [wZ e];exact uO h2
  ·rw [xF e];show (p.1::(nD r k).map (·.1)).Nodup;refine List.nodup_cons.mpr ⟨fun m=>h1 ?_,uO h2⟩;obtain ⟨q,hq,eq⟩:=List.mem_map.mp m;exact List.mem_map.mpr ⟨q,N6 hq,eq⟩
end
end L2
end
section
namespace TS
open PySem PyProof.Rows
noncomputable def N7:Bool->Keyed->Array Keyed->Nat->Nat->Nat->StateT SortSt Sem (Option Nat):=sortPriv% PySem.Builtin.gallop
noncomputable def uP:Nat->StateT SortSt Sem Unit:=sortPriv% PySem.Builtin.setMinGallop
noncomputable def VN:Array Keyed->Array Keyed->StateT SortSt Sem (Array Keyed):=sortPriv% PySem.Builtin.mergeLo
noncomputable def VP:Array Keyed->Array Keyed->StateT SortSt Sem (Array Keyed):=sortPriv% PySem.Builtin.mergeHi
noncomputable def zY (left:Bool) (key:Keyed) (arr:Array Keyed) (base i:Nat):StateT SortSt Sem (Option Bool):=
 elem' arr (base+i) >>= fun x=>if left=true then lt' x key else lt' key x >>= fun r=>pure (Option.map (fun b=>!b) r)
theorem gZ {prog:Program} {w:World} {A:Around} {E:Value->Shared->Prop} {s:Shared} {g:Nat} {st:SortSt} {Q:Unit->SortSt->Prop}
  (h:Q () (SortSt.mk' (kindOf st) (arrOf st) (pendingOf st) g (failedOf st))):wpS (model prog w) A E s (uP g) Q st:=wpS_modify h
end TS
end
section
namespace TS
open PySem PyProof.Rows
section
variable {prog:Program} {w:World} {A:Around} {E:Value->Shared->Prop} {s:Shared}
theorem JN {left:Bool} {key:Keyed} {arr:Array Keyed} {base n hint:Nat} {st:SortSt} {Q:Option Nat->SortSt->Prop} (p:Nat->Bool)
  (hp:∀i (R:Option Bool->SortSt->Prop),i<n->R (some (p i)) st->wpS (model prog w) A E s (zY left key arr base i) R st)
  (hm:∀i j,i<=j->j<n->p j=true->p i=true) (hh:hint<n)
  (h:∀k,k<=n->(∀i,i<k->p i=true)->(∀i,k<=i->i<n->p i=false)->Q (some k) st) :
  wpS (model prog w) A E s (N7 left key arr base n hint) Q st:=by
 with_unfolding_all refine wpS_bind (hp _ _ hh ?_)
 dsimp only;cases hr:p hint with
 | true=>
  simp only [if_true];refine wpS_bind (wpS_mono (wpS_forRange
   (I:=fun x c st'=>st'=st/\∃l o,c=(none,l,o)/\l<o/\x+1<=o/\hint+l<n/\p (hint+l)=true)
   (Q:=fun c st'=>st'=st/\∃l o,c=(none,l,o)/\l<o/\hint+l<n/\p (hint+l)=true/\(n-hint<=o\/(hint+o<n/\p (hint+o)=false))) ?step ?fin ?init) ?post)
  case init=>exact ⟨rfl,0,1,rfl,by lia,by lia,hh,hr⟩
  case fin=>
   rintro c st' ⟨rfl,l,o,rfl,a1,a2,a3,a4⟩;exact ⟨rfl,l,o,rfl,a1,a3,a4,.inl (by lia)⟩
  case step=>
   rintro x c st' _ hx ⟨rfl,l,o,rfl,a1,a2,a3,a4⟩;dsimp only;by_cases hge:o >= n-hint
   ·rw [if_pos hge];exact wpS_pure ⟨rfl,l,o,rfl,a1,a3,a4,.inl hge⟩
   ·rw [if_neg hge];refine wpS_bind (hp _ _ (by lia) ?_);dsimp only;cases hb:p (hint+o) with
    | true=>
     simp only [Bool.not_true,Bool.false_eq_true,if_false];exact wpS_pure ⟨rfl,_,_,rfl,by lia,by lia,by lia,hb⟩
    | false=>
     simp only [Bool.not_false,if_true];exact wpS_pure ⟨rfl,_,_,rfl,a1,a3,a4,.inr ⟨by lia,hb⟩⟩
  case post=>
   rintro c st₀ ⟨rfl,l,o,rfl,a1,a3,a4,a5⟩;dsimp only;have H1:∀i,i<hint+l+1->p i=true:=fun i hi=>hm i (hint+l) (by lia) a3 a4
   have H2:∀i,hint+min o (n-hint)<=i->i<n->p i=false:=by
    intro i i1 i2;rcases a5 with a5|⟨a5,a6⟩
    ·lia
    ·cases hq:p i with
     | false=>rfl
     | true=>rw [hm (hint+o) i (by lia) i2 hq] at a6;cases a6
   refine wpS_bind (wpS_mono (wpS_forRange
    (I:=fun x c st'=>st'=st₀/\∃l r,c=(none,l,r)/\l<=r/\r<=n/\r-l<=n-x/\(∀i,i<l->p i=true)/\(∀i,r<=i->i<n->p i=false))
    (Q:=fun c st'=>st'=st₀/\∃l r,c=(none,l,r)/\l=r/\r<=n/\(∀i,i<l->p i=true)/\(∀i,r<=i->i<n->p i=false)) ?step2 ?fin2 ?init2) ?post2)
   case init2=>exact ⟨rfl,_,_,rfl,by lia,by lia,by lia,H1,H2⟩
   case fin2=>
    rintro c st' ⟨rfl,l,r,rfl,a1,a2,a3,a4,a5⟩;exact ⟨rfl,l,r,rfl,by lia,a2,a4,a5⟩
   case step2=>
    rintro x c st' _ hx ⟨rfl,l,r,rfl,a1,a2,a3,a4,a5⟩;dsimp only;by_cases hge:l >= r
    ·rw [if_pos hge];exact wpS_pure ⟨rfl,l,r,rfl,by lia,a2,a4,a5⟩
    ·rw [if_neg hge];refine wpS_bind (hp _ _ (by lia) ?_);dsimp only;cases hb:p (l+(r-l) / 2) with
     | true=>
      simp only [if_true];exact wpS_pure ⟨rfl,_,_,rfl,by lia,a2,by lia,fun i hi=>hm i _ (by lia) (by lia) hb,a5⟩
     | false=>
      simp only [Bool.false_eq_true,if_false];refine wpS_pure ⟨rfl,_,_,rfl,by lia,by lia,by lia,a4,fun i i1 i2=>?_⟩;cases hq:p i with
      | false=>rfl
      | true=>rw [hm _ i i1 i2 hq] at hb;cases hb
   case post2=>
    rintro c st' ⟨rfl,l,r,rfl,rfl,a2,a4,a5⟩;exact wpS_pure (h l a2 a4 a5)
 | false=>
  simp only [Bool.false_eq_true,if_false];refine wpS_bind (wpS_mono (wpS_forRange
   (I:=fun x c st'=>st'=st/\∃l o,c=(none,l,o)/\l<o/\x+1<=o/\l<=hint/\p (hint-l)=false)
   (Q:=fun c st'=>st'=st/\∃l o,c=(none,l,o)/\l<o/\l<=hint/\p (hint-l)=false/\(hint+1<=o\/(o<=hint/\p (hint-o)=true))) ?step ?fin ?init) ?post)
  case init=>exact ⟨rfl,0,1,rfl,by lia,by lia,by lia,hr⟩
  case fin=>
   rintro c st' ⟨rfl,l,o,rfl,a1,a2,a3,a4⟩;exact ⟨rfl,l,o,rfl,a1,a3,a4,.inl (by lia)⟩
  case step=>
   rintro x c st' _ hx ⟨rfl,l,o,rfl,a1,a2,a3,a4⟩;dsimp only;by_cases hge:o >= hint+1
   ·rw [if_pos hge];exact wpS_pure ⟨rfl,l,o,rfl,a1,a3,a4,.inl hge⟩
   ·rw [if_neg hge];refine wpS_bind (hp _ _ (by lia) ?_);dsimp only;cases hb:p (hint-o) with
    | false=>
     simp only [Bool.false_eq_true,if_false];exact wpS_pure ⟨rfl,_,_,rfl,by lia,by lia,by lia,hb⟩
    | true=>
     simp only [if_true];exact wpS_pure ⟨rfl,_,_,rfl,a1,a3,a4,.inr ⟨by lia,hb⟩⟩
  case post=>
   rintro c st₀ ⟨rfl,l,o,rfl,a1,a3,a4,a5⟩;dsimp only;have H1:∀i,i<hint+1-min o (hint+1)->p i=true:=by
    intro i hi;rcases a5 with a5|⟨a5,a6⟩
    ·lia
    ·exact hm i (hint-o) (by lia) (by lia) a6
   have H2:∀i,hint-l<=i->i<n->p i=false:=by
    intro i i1 i2;cases hq:p i with
    | false=>rfl
    | true=>rw [hm (hint-l) i (by lia) i2 hq] at a4;cases a4
   refine wpS_bind (wpS_mono (wpS_forRange
    (I:=fun x c st'=>st'=st₀/\∃l r,c=(none,l,r)/\l<=r/\r<=n/\r-l<=n-x/\(∀i,i<l->p i=true)/\(∀i,r<=i->i<n->p i=false))
    (Q:=fun c st'=>st'=st₀/\∃l r,c=(none,l,r)/\l=r/\r<=n/\(∀i,i<l->p i=true)/\(∀i,r<=i->i<n->p i=false)) ?step2 ?fin2 ?init2) ?post2)
   case init2=>exact ⟨rfl,_,_,rfl,by lia,by lia,by lia,H1,H2⟩
   case fin2=>
    rintro c st' ⟨rfl,l,r,rfl,a1,a2,a3,a4,a5⟩;exact ⟨rfl,l,r,rfl,by lia,a2,a4,a5⟩
   case step2=>
    rintro x c st' _ hx ⟨rfl,l,r,rfl,a1,a2,a3,a4,a5⟩;dsimp only;by_cases hge:l >= r
    ·rw [if_pos hge];exact wpS_pure ⟨rfl,l,r,rfl,by lia,a2,a4,a5⟩
    ·rw [if_neg hge];refine wpS_bind (hp _ _ (by lia) ?_);dsimp only;cases hb:p (l+(r-l) / 2) with
     | true=>
      simp only [if_true];exact wpS_pure ⟨rfl,_,_,rfl,by lia,a2,by lia,fun i hi=>hm i _ (by lia) (by lia) hb,a5⟩
     | false=>
      simp only [Bool.false_eq_true,if_false];refine wpS_pure ⟨rfl,_,_,rfl,by lia,by lia,by lia,a4,fun i i1 i2=>?_⟩;cases hq:p i with
      | false=>rfl
      | true=>rw [hm _ i i1 i2 hq] at hb;cases hb
   case post2=>
    rintro c st' ⟨rfl,l,r,rfl,rfl,a2,a4,a5⟩;exact wpS_pure (h l a2 a4 a5)
end
end TS
end
section
namespace TS
open PySem PyProof.Rows
structure Ord (U:Keyed->Prop) (blt:Keyed->Keyed->Bool):Prop where
 irr:∀x,U x->blt x x=false
 tr:∀x y z,U x->U y->U z->blt x y=true->blt y z=true->blt x z=true
 ntr:∀x y z,U x->U y->U z->blt x z=true->blt x y=true\/blt y z=true
noncomputable abbrev dk:Keyed:=(.none,.none)
noncomputable def gt (a:Array Keyed) (i:Nat):Keyed:=a.getD i dk
theorem kZ {a:Array Keyed} {i:Nat} (h:i<a.size):a[i]?=some (gt a i):=by
 unfold gt;simp [Array.getD,h]
noncomputable def nY (U:Keyed->Prop) (a:Array Keyed):Prop:=∀i,i<a.size->U (gt a i)
noncomputable def Srt (blt:Keyed->Keyed->Bool) (a:Array Keyed) (lo hi:Nat):Prop:=∀i j,lo<=i->i<=j->j<hi->blt (gt a j) (gt a i)=false
noncomputable def JP (prog:Program) (w:World) (A:Around) (E:Value->Shared->Prop) (s:Shared) (kd:SortKind) (U:Keyed->Prop) (blt:Keyed->Keyed->Bool):Prop:=
 ∀(x y:Keyed) (st:SortSt) (Q:Option Bool->SortSt->Prop),U x->U y->kindOf st=kd->Q (some (blt x y)) st->wpS (model prog w) A E s (lt' x y) Q st
section
variable {prog:Program} {w:World} {A:Around} {E:Value->Shared->Prop} {s:Shared} {kd:SortKind} {U:Keyed->Prop} {blt:Keyed->Keyed->Bool}
theorem aQ {arr:Array Keyed} {i:Nat} {st:SortSt} {Q:Keyed->SortSt->Prop} (hi:i<arr.size) (h:Q (gt arr i) st):wpS (model prog w) A E s (elem' arr i) Q st:=by
 rw [elem'_eq,kZ hi];exact wpS_pure h
noncomputable def gp (blt:Keyed->Keyed->Bool) (left:Bool) (key:Keyed) (arr:Array Keyed) (base i:Nat):Bool:=if left then blt (gt arr (base+i)) key else !blt key (gt arr (base+i))
theorem JQ (hL:JP prog w A E s kd U blt) {left:Bool} {key:Keyed} {arr:Array Keyed} {base i:Nat} {st:SortSt} {R:Option Bool->SortSt->Prop} (hk:kindOf st=kd) (hi:base+i<arr.size) (hU:nY U arr) (hK:U key)
  (h:R (some (gp blt left key arr base i)) st):wpS (model prog w) A E s (zY left key arr base i) R st:=by
 unfold zY;refine wpS_bind (aQ hi ?_);unfold gp at h;cases left with
 | true=>
  simp only [if_true] at h ⊢;exact hL _ _ _ _ (hU _ hi) hK hk h
 | false=>
  simp only [Bool.false_eq_true,if_false] at h ⊢;refine wpS_bind (hL _ _ _ _ hK (hU _ hi) hk (wpS_pure ?_));exact h
theorem aA4 (O:Ord U blt) {left:Bool} {key:Keyed} {arr:Array Keyed} {base n:Nat} (hn:base+n<=arr.size) (hU:nY U arr) (hK:U key) (hs:Srt blt arr base (base+n)) :
  ∀i j,i<=j->j<n->gp blt left key arr base j=true->gp blt left key arr base i=true:=by
 intro i j hij hj h;have h0:=hs (base+i) (base+j) (by lia) (by lia) (by lia);have ui:=hU (base+i) (by lia);have uj:=hU (base+j) (by lia);unfold gp at h ⊢;cases left with
 | true=>
  simp only [if_true] at h ⊢;rcases O.ntr _ (gt arr (base+i)) _ uj ui hK h with q|q
  ·rw [h0] at q;cases q
  ·exact q
 | false=>
  simp only [Bool.false_eq_true,if_false] at h ⊢;cases q:blt key (gt arr (base+i)) with
  | false=>rfl
  | true=>
   rcases O.ntr _ (gt arr (base+j)) _ hK uj ui q with z|z
   ·rw [z] at h;cases h
   ·rw [h0] at z;cases z
theorem fH (O:Ord U blt) (hL:JP prog w A E s kd U blt) {left:Bool} {key:Keyed} {arr:Array Keyed} {base n hint:Nat} {st:SortSt} {Q:Option Nat->SortSt->Prop} (hk:kindOf st=kd) (hn:base+n<=arr.size) (hU:nY U arr) (hK:U key)
  (hs:Srt blt arr base (base+n)) (hh:hint<n)
  (h:∀k,k<=n->(∀i,i<k->gp blt left key arr base i=true)->(∀i,k<=i->i<n->gp blt left key arr base i=false)->Q (some k) st):wpS (model prog w) A E s (N7 left key arr base n hint) Q st:=
 JN (gp blt left key arr base) (fun i R hi r=>JQ hL hk (by lia) hU hK r) (aA4 O hn hU hK hs) hh h
end
section
variable (blt:Keyed->Keyed->Bool)
noncomputable abbrev le (x y:Keyed):Bool:=!blt y x
noncomputable def mrg (xs ys:List Keyed):List Keyed:=xs.merge ys (le blt)
variable {blt}
theorem k_ {a:Array Keyed} {i:Nat} (h:i<a.size):a.toList.drop i=gt a i::a.toList.drop (i+1):=by
 rw [List.drop_eq_getElem_cons (by simpa using h)]
 congr 1
 unfold gt;simp [Array.getD,h]
theorem uQ {a:Array Keyed} {i:Nat} (h:a.size<=i):a.toList.drop i=[]:=List.drop_of_length_le (by simpa using h)
theorem lA (xs:List Keyed):mrg blt xs []=xs:=List.merge_right xs
theorem nF (ys:List Keyed):mrg blt [] ys=ys:=List.nil_merge ys
theorem fW (x y:Keyed) (xs ys:List Keyed):mrg blt (x::xs) (y::ys)=if blt y x then y::mrg blt (x::xs) ys else x::mrg blt xs (y::ys):=by
 unfold mrg;rw [List.cons_merge_cons];cases h:blt y x <;> simp [le,h]
noncomputable def J (blt:Keyed->Keyed->Bool) (a b:Array Keyed) (out:Array Keyed) (ia ib:Nat):Prop:=
 out.toList++mrg blt (a.toList.drop ia) (b.toList.drop ib)=mrg blt a.toList b.toList
variable {a b out:Array Keyed} {ia ib:Nat}
theorem J.pb (h:J blt a b out ia ib) (ha:ia<a.size) (hb:ib<b.size) (q:blt (gt b ib) (gt a ia)=true):J blt a b (out.push (gt b ib)) ia (ib+1):=by
 unfold J at h ⊢;rw [<-h,k_ ha,k_ hb,fW,if_pos q,<-k_ ha];simp
theorem J.pa (h:J blt a b out ia ib) (ha:ia<a.size) (hb:ib<b.size) (q:blt (gt b ib) (gt a ia)=false):J blt a b (out.push (gt a ia)) (ia+1) ib:=by
 unfold J at h ⊢;rw [<-h,k_ ha,k_ hb,fW,if_neg (by simp [q]),<-k_ hb];simp
theorem FJ {a:Array Keyed} {i k:Nat} (h:i+k<a.size) (out:Array Keyed):out++a.extract i (i+(k+1))=(out++a.extract i (i+k)).push (gt a (i+k)):=by
 apply Array.toList_inj.mp;simp only [Array.toList_append,Array.toList_extract,List.extract_eq_take_drop,Array.toList_push];rw [show i+(k+1)-i=k+1 by lia,show i+k-i=k by lia,List.take_add_one,List.append_assoc]
 congr 2
 rw [List.getElem?_drop];have:a.toList[i+k]?=some (gt a (i+k)):=by rw [Array.getElem?_toList];exact kZ h
 rw [this];rfl
theorem FN (a:Array Keyed) (i:Nat) (out:Array Keyed):out++a.extract i (i+0)=out:=by
 apply Array.toList_inj.mp;simp
theorem J.ga (h:J blt a b out ia ib) (hb:ib<b.size):∀k,ia+k<=a.size->(∀i,i<k->blt (gt b ib) (gt a (ia+i))=false)->J blt a b (out++a.extract ia (ia+k)) (ia+k) ib
 | 0,_,_=>by rw [FN];exact h
 | k+1,hk,q=>by
  have ih:=J.ga h hb k (by lia) fun i hi=>q i (by lia)
  rw [FJ (by lia)];exact J.pa ih (by lia) hb (q k (by lia))
theorem J.gb (h:J blt a b out ia ib) (ha:ia<a.size):∀k,ib+k<=b.size->(∀i,i<k->blt (gt b (ib+i)) (gt a ia)=true)->J blt a b (out++b.extract ib (ib+k)) ia (ib+k)
 | 0,_,_=>by rw [FN];exact h
 | k+1,hk,q=>by
  have ih:=J.gb h ha k (by lia) fun i hi=>q i (by lia)
  rw [FJ (by lia)];exact J.pb ih ha (by lia) (q k (by lia))
theorem mG (a:Array Keyed) (i:Nat):(a.extract i a.size).toList=a.toList.drop i:=by
 simp [Array.toList_extract,List.extract_eq_take_drop,List.take_of_length_le]
theorem J.nG (h:J blt a b out ia ib) (hb:ib=b.size):(out++a.extract ia a.size++b.extract ib b.size).toList=mrg blt a.toList b.toList:=by
 rw [<-h,Array.toList_append,Array.toList_append,mG,mG,uQ (Nat.le_of_eq hb.symm),lA];simp
theorem J.nH (h:J blt a b out ia ib) (ha:ia=a.size):(out++a.extract ia a.size++b.extract ib b.size).toList=mrg blt a.toList b.toList:=by
 rw [<-h,Array.toList_append,Array.toList_append,mG,mG,uQ (Nat.le_of_eq ha.symm),nF];simp
theorem uR (x:Keyed):∀ys:List Keyed,(∀y∈ys,blt y x=true)->mrg blt [x] ys=ys++[x]
 | [],_=>lA _
 | y::ys,h=>by
  rw [fW,if_pos (h y (List.mem_cons_self ..)),uR x ys fun z hz=>h z (List.mem_cons_of_mem _ hz)];rfl
theorem YQ {a:Array Keyed} {x:Keyed} (h:x∈a.toList):∃i,i<a.size/\x=gt a i:=by
 obtain ⟨i,hi,e⟩:=List.getElem_of_mem h;refine ⟨i,by simpa using hi,?_⟩;unfold gt;rw [<-e];have hi':i<a.size:=by simpa using hi
 simp [Array.getD,hi']
theorem J.last (h:J blt a b out ia ib) (ha:ia+1=a.size) (q:∀i,i<b.size->blt (gt b i) (gt a ia)=true):(out++b.extract ib b.size++a.extract ia a.size).toList=mrg blt a.toList b.toList:=by
 rw [<-h,Array.toList_append,Array.toList_append,mG,mG,k_ (by lia:ia<a.size),uQ (a:=a) (i:=ia+1) (by lia),uR,List.append_assoc];intro y hy;obtain ⟨i,hi,e⟩:=YQ (List.mem_of_mem_drop hy);rw [e];exact q i hi
end
end TS
end
section
namespace TS
open PySem PyProof.Rows
structure Sim (st st':SortSt):Prop where
 kd:kindOf st'=kindOf st
 ar:arrOf st'=arrOf st
 pd:pendingOf st'=pendingOf st
 fl:failedOf st'=failedOf st
section
variable {prog:Program} {w:World} {A:Around} {E:Value->Shared->Prop} {s:Shared} {kd:SortKind} {U:Keyed->Prop} {blt:Keyed->Keyed->Bool}
theorem zZ (O:Ord U blt) (hL:JP prog w A E s kd U blt) {a b:Array Keyed} {st:SortSt} {Q:Array Keyed->SortSt->Prop} (hk:kindOf st=kd) (hUa:nY U a) (hUb:nY U b) (hsa:Srt blt a 0 a.size) (hsb:Srt blt b 0 b.size)
  (ha:0<a.size) (hb:0<b.size) (hf:blt (gt b 0) (gt a 0)=true) (hl:∀i,i<b.size->blt (gt b i) (gt a (a.size-1))=true)
  (h:∀r st',Sim st st'->r.toList=mrg blt a.toList b.toList->Q r st'):wpS (model prog w) A E s (VN a b) Q st:=by
 have lastAt:∀{j:Nat},j+1=a.size->∀i,i<b.size->blt (gt b i) (gt a j)=true:=fun {j} hj i hi=>by
  have:=hl i hi;rwa [show a.size-1=j by lia] at this
 with_unfolding_all refine wpS_bind (wpS_lift (wpAny_rule ⟨rfl,?_⟩))
 dsimp only;refine wpS_bind (aQ hb ?_)
 try dsimp only
 have J0:J blt a b #[gt b 0] 0 1:=J.pb (out:=#[]) (by unfold J;simp) ha hb hf;have sim0:Sim st st:=⟨rfl,rfl,rfl,rfl⟩
 by_cases e1:1=b.size
 ·rw [if_pos (by simpa using e1)];exact wpS_pure (h _ _ sim0 (J0.nG e1))
 rw [if_neg (by simpa using e1)];by_cases e2:0+1=a.size
 ·rw [if_pos (by simpa using e2)];exact wpS_pure (h _ _ sim0 (J0.last e2 (lastAt e2)))
 rw [if_neg (by simpa using e2)];refine wpS_bind (wpS_get ?_);refine wpS_bind (wpS_mono (wpS_forRange
  (I:=fun x c st'=>Sim st st'/\∃out ia ib mg,c=(none,out,ia,ib,mg)/\J blt a b out ia ib/\ia+1<a.size/\ib<b.size/\x<=ia+ib)
  (Q:=fun c st'=>Sim st st'/\∃r,c.1=some r/\r.toList=mrg blt a.toList b.toList) ?step ?fin ?init) ?post)
 case init=>exact ⟨sim0,_,_,_,_,rfl,J0,by lia,by lia,by lia⟩
 case fin=>
  rintro c st' ⟨_,out,ia,ib,mg,rfl,_,h1,h2,h3⟩;lia
 case post=>
  rintro ⟨c1,c2⟩ st' ⟨sim,r,e,hr⟩;dsimp only at e;subst e;exact wpS_pure (h r st' sim hr)
 case step=>
  rintro x₀ c st1 _ hx0 ⟨sim,out,ia,ib,mg,rfl,j1,h1,h2,h3⟩;dsimp only;refine wpS_bind (wpS_mono (wpS_forRange
   (I:=fun x c st'=>Sim st st'/\∃out ia ib ac bc,c=(none,out,ia,ib,ac,bc)/\J blt a b out ia ib/\ia+1<a.size/\ib<b.size/\x₀<=ia+ib/\x<=ia+ib)
   (Q:=fun c st'=>Sim st st'/\((∃r,c.1=some r/\r.toList=mrg blt a.toList b.toList)\/∃out ia ib ac bc,c=(none,out,ia,ib,ac,bc)/\J blt a b out ia ib/\ia+1<a.size/\ib<b.size/\x₀+1<=ia+ib)) ?step2 ?fin2 ?init2) ?post2)
  case init2=>exact ⟨sim,_,_,_,_,_,rfl,j1,h1,h2,h3,by lia⟩
  case fin2=>
   rintro c st' ⟨_,out,ia,ib,ac,bc,rfl,_,h1,h2,_,h3⟩;lia
  case step2=>
   rintro x c st2 _ hx ⟨sim,out,ia,ib,ac,bc,rfl,j2,h1,h2,h3,h4⟩;dsimp only;refine wpS_bind (aQ h2 (wpS_bind (aQ (by lia) (wpS_bind (hL _ _ _ _ (hUb _ h2) (hUa _ (by lia)) (sim.1.trans hk) ?_)))));dsimp only;cases q:blt (gt b ib) (gt a ia) with
   | true=>
    simp only [if_true];refine wpS_bind (aQ h2 ?_);have j3:=J.pb j2 (by lia) h2 q;by_cases e3:ib+1=b.size
    ·rw [if_pos (by simpa using e3)];exact wpS_pure ⟨sim,.inl ⟨_,rfl,j3.nG e3⟩⟩
    ·rw [if_neg (by simpa using e3)];split
     ·exact wpS_pure ⟨sim,.inr ⟨_,_,_,_,_,rfl,j3,by lia,by lia,by lia⟩⟩
     ·exact wpS_pure ⟨sim,_,_,_,_,_,rfl,j3,by lia,by lia,by lia,by lia⟩
   | false=>
    simp only [Bool.false_eq_true,if_false];refine wpS_bind (aQ (by lia) ?_);have j3:=J.pa j2 (by lia) h2 q;by_cases e3:ia+1+1=a.size
    ·rw [if_pos (by simpa using e3)];exact wpS_pure ⟨sim,.inl ⟨_,rfl,j3.last e3 (lastAt e3)⟩⟩
    ·rw [if_neg (by simpa using e3)];split
     ·exact wpS_pure ⟨sim,.inr ⟨_,_,_,_,_,rfl,j3,by lia,by lia,by lia⟩⟩
     ·exact wpS_pure ⟨sim,_,_,_,_,_,rfl,j3,by lia,by lia,by lia,by lia⟩
  case post2=>
   rintro ⟨c1,c2⟩ st2 ⟨sim,⟨r,e,hr⟩|⟨out,ia,ib,ac,bc,e,j2,h1,h2,h3⟩⟩
   ·dsimp only at e;subst e;exact wpS_pure ⟨sim,r,rfl,hr⟩
   ·cases e;dsimp only;refine wpS_bind (wpS_lift (wpAny_rule ⟨rfl,?_⟩));refine wpS_bind (wpS_mono (wpS_forRange
     (I:=fun x c st'=>Sim st st'/\∃out ia ib mg ac bc,c=(none,out,ia,ib,mg,ac,bc)/\J blt a b out ia ib/\ia+1<a.size/\ib<b.size/\x₀+1<=ia+ib/\x<=ia+ib)
     (Q:=fun c st'=>Sim st st'/\((∃r,c.1=some r/\r.toList=mrg blt a.toList b.toList)\/∃out ia ib mg ac bc,c=(none,out,ia,ib,mg,ac,bc)/\J blt a b out ia ib/\ia+1<a.size/\ib<b.size/\x₀+1<=ia+ib)) ?step3 ?fin3 ?init3) ?post3)
    case init3=>exact ⟨sim,_,_,_,_,_,_,rfl,j2,h1,h2,h3,by lia⟩
    case fin3=>
     rintro c st' ⟨_,out,ia,ib,mg,ac,bc,rfl,_,h1,h2,_,h3⟩;lia
    case post3=>
     rintro ⟨c1,c2⟩ st3 ⟨sim,⟨r,e,hr⟩|⟨out,ia,ib,mg,ac,bc,e,j3,h1,h2,h3⟩⟩
     ·dsimp only at e;subst e;exact wpS_pure ⟨sim,r,rfl,hr⟩
     ·cases e;dsimp only;refine wpS_bind (gZ (wpS_pure ⟨⟨sim.1,sim.2,sim.3,sim.4⟩,_,_,_,_,rfl,j3,h1,h2,by lia⟩))
    case step3=>
     rintro x c st3 _ hx ⟨sim,out,ia,ib,mg,ac,bc,rfl,j3,h1,h2,h3,h4⟩;dsimp only;by_cases hg:mg > 1
     ·rw [if_pos hg];refine wpS_bind (gZ ?_);have sim':Sim st (SortSt.mk' (kindOf st3) (arrOf st3) (pendingOf st3) (mg-1) (failedOf st3)):=⟨sim.1,sim.2,sim.3,sim.4⟩
      have hk':kindOf (SortSt.mk' (kindOf st3) (arrOf st3) (pendingOf st3) (mg-1) (failedOf st3))=kd:=sim.1.trans hk;refine wpS_bind (aQ (by lia) ?_);refine wpS_bind (fH O hL hk' (by lia) hUa (hUb _ (by lia)) (fun i j i1 i2 i3=>hsa i j (by lia) i2 (by lia)) (by lia) fun k hk1 y1 y2=>?_)
      try dsimp only
      by_cases kp:k > 0
      ·rw [if_pos kp];have J1:=J.ga j3 (by lia) k (by lia) (fun i hi=>by have:=y1 i hi;simpa [gp] using this);by_cases e1:ia+k+1=a.size
       ·rw [if_pos (by simpa using e1)];exact wpS_pure ⟨sim',.inl ⟨_,rfl,J1.last e1 (lastAt (by lia))⟩⟩
       ·rw [if_neg (by simpa using e1)];by_cases e1':ia+k=a.size
        ·rw [if_pos (by simpa using e1')];exact wpS_pure ⟨sim',.inl ⟨_,rfl,J1.nH e1'⟩⟩
        ·rw [if_neg (by simpa using e1')];have hz1:blt (gt b ib) (gt a (ia+k))=true:=(by have:=y2 k (Nat.le_refl _) (by lia);simpa [gp] using this)
         refine wpS_bind (aQ (by lia) ?_)
         try dsimp only
         have J2:=J.pb J1 (by lia) (by lia) hz1;by_cases e2:ib+1=b.size
         ·rw [if_pos (by simpa using e2)];exact wpS_pure ⟨sim',.inl ⟨_,rfl,J2.nG e2⟩⟩
         ·rw [if_neg (by simpa using e2)];refine wpS_bind (aQ (by lia) ?_);refine wpS_bind (fH O hL hk' (by lia) hUb (hUa _ (by lia)) (fun i j i1 i2 i3=>hsb i j (by lia) i2 (by lia)) (by lia) fun k1 hk1 y1 y2=>?_)
          try dsimp only
          by_cases k1p:k1 > 0
          ·rw [if_pos k1p];have J3:=J.gb J2 (by lia) k1 (by lia) (fun i hi=>by have:=y1 i hi;simpa [gp] using this);by_cases e3:ib+1+k1=b.size
           ·rw [if_pos (by simpa using e3)];exact wpS_pure ⟨sim',.inl ⟨_,rfl,J3.nG e3⟩⟩
           ·rw [if_neg (by simpa using e3)];have hz2:blt (gt b (ib+1+k1)) (gt a (ia+k))=false:=(by have:=y2 k1 (Nat.le_refl _) (by lia);simpa [gp] using this)
            refine wpS_bind (aQ (by lia) ?_)
            try dsimp only
            have J4:=J.pa J3 (by lia) (by lia) hz2;by_cases e4:(ia+k)+1+1=a.size
            ·rw [if_pos (by simpa using e4)];exact wpS_pure ⟨sim',.inl ⟨_,rfl,J4.last e4 (lastAt (by lia))⟩⟩
            ·rw [if_neg (by simpa using e4)];split
             ·exact wpS_pure ⟨sim',.inr ⟨_,_,_,_,_,_,rfl,J4,by lia,by lia,by lia⟩⟩
             ·exact wpS_pure ⟨sim',_,_,_,_,_,_,rfl,J4,by lia,by lia,by lia,by lia⟩
          ·rw [if_neg k1p];obtain rfl:k1=0:=by lia
           have J3:=J2;have hz2:blt (gt b (ib+1)) (gt a (ia+k))=false:=(by have:=y2 0 (Nat.le_refl _) (by lia);simpa [gp] using this)
           refine wpS_bind (aQ (by lia) ?_)
           try dsimp only
           have J4:=J.pa J3 (by lia) (by lia) hz2;by_cases e4:(ia+k)+1+1=a.size
           ·rw [if_pos (by simpa using e4)];exact wpS_pure ⟨sim',.inl ⟨_,rfl,J4.last e4 (lastAt (by lia))⟩⟩
           ·rw [if_neg (by simpa using e4)];split
            ·exact wpS_pure ⟨sim',.inr ⟨_,_,_,_,_,_,rfl,J4,by lia,by lia,by lia⟩⟩
            ·exact wpS_pure ⟨sim',_,_,_,_,_,_,rfl,J4,by lia,by lia,by lia,by lia⟩
      ·rw [if_neg kp];obtain rfl:k=0:=by lia
       have J1:=j3;have hz1:blt (gt b ib) (gt a ia)=true:=(by have:=y2 0 (Nat.le_refl _) (by lia);simpa [gp] using this)
       refine wpS_bind (aQ (by lia) ?_)
       try dsimp only
       have J2:=J.pb J1 (by lia) (by lia) hz1;by_cases e2:ib+1=b.size
       ·rw [if_pos (by simpa using e2)];exact wpS_pure ⟨sim',.inl ⟨_,rfl,J2.nG e2⟩⟩
       ·rw [if_neg (by simpa using e2)];refine wpS_bind (aQ (by lia) ?_);refine wpS_bind (fH O hL hk' (by lia) hUb (hUa _ (by lia)) (fun i j i1 i2 i3=>hsb i j (by lia) i2 (by lia)) (by lia) fun k1 hk1 y1 y2=>?_)
        try dsimp only
        by_cases k1p:k1 > 0
        ·rw [if_pos k1p];have J3:=J.gb J2 (by lia) k1 (by lia) (fun i hi=>by have:=y1 i hi;simpa [gp] using this);by_cases e3:ib+1+k1=b.size
         ·rw [if_pos (by simpa using e3)];exact wpS_pure ⟨sim',.inl ⟨_,rfl,J3.nG e3⟩⟩
         ·rw [if_neg (by simpa using e3)];have hz2:blt (gt b (ib+1+k1)) (gt a ia)=false:=(by have:=y2 k1 (Nat.le_refl _) (by lia);simpa [gp] using this)
          refine wpS_bind (aQ (by lia) ?_)
          try dsimp only
          have J4:=J.pa J3 (by lia) (by lia) hz2;by_cases e4:ia+1+1=a.size
          ·rw [if_pos (by simpa using e4)];exact wpS_pure ⟨sim',.inl ⟨_,rfl,J4.last e4 (lastAt (by lia))⟩⟩
          ·rw [if_neg (by simpa using e4)];split
           ·exact wpS_pure ⟨sim',.inr ⟨_,_,_,_,_,_,rfl,J4,by lia,by lia,by lia⟩⟩
           ·exact wpS_pure ⟨sim',_,_,_,_,_,_,rfl,J4,by lia,by lia,by lia,by lia⟩
        ·rw [if_neg k1p];obtain rfl:k1=0:=by lia
         have J3:=J2;have hz2:blt (gt b (ib+1)) (gt a ia)=false:=(by have:=y2 0 (Nat.le_refl _) (by lia);simpa [gp] using this)
         refine wpS_bind (aQ (by lia) ?_)
         try dsimp only
         have J4:=J.pa J3 (by lia) (by lia) hz2;by_cases e4:ia+1+1=a.size
         ·rw [if_pos (by simpa using e4)];exact wpS_pure ⟨sim',.inl ⟨_,rfl,J4.last e4 (lastAt (by lia))⟩⟩
         ·rw [if_neg (by simpa using e4)];split
          ·exact wpS_pure ⟨sim',.inr ⟨_,_,_,_,_,_,rfl,J4,by lia,by lia,by lia⟩⟩
          ·exact wpS_pure ⟨sim',_,_,_,_,_,_,rfl,J4,by lia,by lia,by lia,by lia⟩
     ·rw [if_neg hg];refine wpS_bind (gZ ?_);have sim':Sim st (SortSt.mk' (kindOf st3) (arrOf st3) (pendingOf st3) mg (failedOf st3)):=⟨sim.1,sim.2,sim.3,sim.4⟩
      have hk':kindOf (SortSt.mk' (kindOf st3) (arrOf st3) (pendingOf st3) mg (failedOf st3))=kd:=sim.1.trans hk;refine wpS_bind (aQ (by lia) ?_);refine wpS_bind (fH O hL hk' (by lia) hUa (hUb _ (by lia)) (fun i j i1 i2 i3=>hsa i j (by lia) i2 (by lia)) (by lia) fun k hk1 y1 y2=>?_)
      try dsimp only
      by_cases kp:k > 0
      ·rw [if_pos kp];have J1:=J.ga j3 (by lia) k (by lia) (fun i hi=>by have:=y1 i hi;simpa [gp] using this);by_cases e1:ia+k+1=a.size
       ·rw [if_pos (by simpa using e1)];exact wpS_pure ⟨sim',.inl ⟨_,rfl,J1.last e1 (lastAt (by lia))⟩⟩
       ·rw [if_neg (by simpa using e1)];by_cases e1':ia+k=a.size
        ·rw [if_pos (by simpa using e1')];exact wpS_pure ⟨sim',.inl ⟨_,rfl,J1.nH e1'⟩⟩
        ·rw [if_neg (by simpa using e1')];have hz1:blt (gt b ib) (gt a (ia+k))=true:=(by have:=y2 k (Nat.le_refl _) (by lia);simpa [gp] using this)
         refine wpS_bind (aQ (by lia) ?_)
         try dsimp only
         have J2:=J.pb J1 (by lia) (by lia) hz1;by_cases e2:ib+1=b.size
         ·rw [if_pos (by simpa using e2)];exact wpS_pure ⟨sim',.inl ⟨_,rfl,J2.nG e2⟩⟩
         ·rw [if_neg (by simpa using e2)];refine wpS_bind (aQ (by lia) ?_);refine wpS_bind (fH O hL hk' (by lia) hUb (hUa _ (by lia)) (fun i j i1 i2 i3=>hsb i j (by lia) i2 (by lia)) (by lia) fun k1 hk1 y1 y2=>?_)
          try dsimp only
          by_cases k1p:k1 > 0
          ·rw [if_pos k1p];have J3:=J.gb J2 (by lia) k1 (by lia) (fun i hi=>by have:=y1 i hi;simpa [gp] using this);by_cases e3:ib+1+k1=b.size
           ·rw [if_pos (by simpa using e3)];exact wpS_pure ⟨sim',.inl ⟨_,rfl,J3.nG e3⟩⟩
           ·rw [if_neg (by simpa using e3)];have hz2:blt (gt b (ib+1+k1)) (gt a (ia+k))=false:=(by have:=y2 k1 (Nat.le_refl _) (by lia);simpa [gp] using this)
            refine wpS_bind (aQ (by lia) ?_)
            try dsimp only
            have J4:=J.pa J3 (by lia) (by lia) hz2;by_cases e4:(ia+k)+1+1=a.size
            ·rw [if_pos (by simpa using e4)];exact wpS_pure ⟨sim',.inl ⟨_,rfl,J4.last e4 (lastAt (by lia))⟩⟩
            ·rw [if_neg (by simpa using e4)];split
             ·exact wpS_pure ⟨sim',.inr ⟨_,_,_,_,_,_,rfl,J4,by lia,by lia,by lia⟩⟩
             ·exact wpS_pure ⟨sim',_,_,_,_,_,_,rfl,J4,by lia,by lia,by lia,by lia⟩
          ·rw [if_neg k1p];obtain rfl:k1=0:=by lia
           have J3:=J2;have hz2:blt (gt b (ib+1)) (gt a (ia+k))=false:=(by have:=y2 0 (Nat.le_refl _) (by lia);simpa [gp] using this)
           refine wpS_bind (aQ (by lia) ?_)
           try dsimp only
           have J4:=J.pa J3 (by lia) (by lia) hz2;by_cases e4:(ia+k)+1+1=a.size
           ·rw [if_pos (by simpa using e4)];exact wpS_pure ⟨sim',.inl ⟨_,rfl,J4.last e4 (lastAt (by lia))⟩⟩
           ·rw [if_neg (by simpa using e4)];split
            ·exact wpS_pure ⟨sim',.inr ⟨_,_,_,_,_,_,rfl,J4,by lia,by lia,by lia⟩⟩
            ·exact wpS_pure ⟨sim',_,_,_,_,_,_,rfl,J4,by lia,by lia,by lia,by lia⟩
      ·rw [if_neg kp];obtain rfl:k=0:=by lia
       have J1:=j3;have hz1:blt (gt b ib) (gt a ia)=true:=(by have:=y2 0 (Nat.le_refl _) (by lia);simpa [gp] using this)
       refine wpS_bind (aQ (by lia) ?_)
       try dsimp only
       have J2:=J.pb J1 (by lia) (by lia) hz1;by_cases e2:ib+1=b.size
       ·rw [if_pos (by simpa using e2)];exact wpS_pure ⟨sim',.inl ⟨_,rfl,J2.nG e2⟩⟩
       ·rw [if_neg (by simpa using e2)];refine wpS_bind (aQ (by lia) ?_);refine wpS_bind (fH O hL hk' (by lia) hUb (hUa _ (by lia)) (fun i j i1 i2 i3=>hsb i j (by lia) i2 (by lia)) (by lia) fun k1 hk1 y1 y2=>?_)
        try dsimp only
        by_cases k1p:k1 > 0
        ·rw [if_pos k1p];have J3:=J.gb J2 (by lia) k1 (by lia) (fun i hi=>by have:=y1 i hi;simpa [gp] using this);by_cases e3:ib+1+k1=b.size
         ·rw [if_pos (by simpa using e3)];exact wpS_pure ⟨sim',.inl ⟨_,rfl,J3.nG e3⟩⟩
         ·rw [if_neg (by simpa using e3)];have hz2:blt (gt b (ib+1+k1)) (gt a ia)=false:=(by have:=y2 k1 (Nat.le_refl _) (by lia);simpa [gp] using this)
          refine wpS_bind (aQ (by lia) ?_)
          try dsimp only
          have J4:=J.pa J3 (by lia) (by lia) hz2;by_cases e4:ia+1+1=a.size
          ·rw [if_pos (by simpa using e4)];exact wpS_pure ⟨sim',.inl ⟨_,rfl,J4.last e4 (lastAt (by lia))⟩⟩
          ·rw [if_neg (by simpa using e4)];split
           ·exact wpS_pure ⟨sim',.inr ⟨_,_,_,_,_,_,rfl,J4,by lia,by lia,by lia⟩⟩
           ·exact wpS_pure ⟨sim',_,_,_,_,_,_,rfl,J4,by lia,by lia,by lia,by lia⟩
        ·rw [if_neg k1p];obtain rfl:k1=0:=by lia
         have J3:=J2;have hz2:blt (gt b (ib+1)) (gt a ia)=false:=(by have:=y2 0 (Nat.le_refl _) (by lia);simpa [gp] using this)
         refine wpS_bind (aQ (by lia) ?_)
         try dsimp only
         have J4:=J.pa J3 (by lia) (by lia) hz2;by_cases e4:ia+1+1=a.size
         ·rw [if_pos (by simpa using e4)];exact wpS_pure ⟨sim',.inl ⟨_,rfl,J4.last e4 (lastAt (by lia))⟩⟩
         ·rw [if_neg (by simpa using e4)];split
          ·exact wpS_pure ⟨sim',.inr ⟨_,_,_,_,_,_,rfl,J4,by lia,by lia,by lia⟩⟩
          ·exact wpS_pure ⟨sim',_,_,_,_,_,_,rfl,J4,by lia,by lia,by lia,by lia⟩
end
end TS
end
section
namespace TS
open PySem PyProof.Rows
section
variable {blt:Keyed->Keyed->Bool}
theorem z6 {a:Array Keyed} {n:Nat} (h:n<a.size):a.toList.take (n+1)=a.toList.take n++[gt a n]:=by
 rw [List.take_add_one];have:a.toList[n]?=some (gt a n):=by rw [Array.getElem?_toList];exact kZ h
 rw [this];rfl
theorem qU {a:Array Keyed} {n:Nat} {z:Keyed} (h:z∈a.toList.take n):∃i, i<n /\ i<a.size /\ z=gt a i := by
  obtain ⟨i, hi, e⟩ := List.getElem_of_mem h;rw [List.length_take] at hi;have h2:i<a.size := by simpa using (show i<a.toList.length by lia)
  refine ⟨i, by lia, h2, ?_⟩;rw [<-e, List.getElem_take];unfold gt;simp [Array.getD, h2]
theorem qW (x:Keyed):∀(xs zs:List Keyed),(∀z∈zs,blt z x=true)->mrg blt (xs++[x]) zs=mrg blt xs zs++[x]
 | [],zs,h=>by rw [List.nil_append,uR x zs h,nF]
 | x0::xs,[],_=>by rw [lA,lA]
 | x0::xs,z::zs,h=>by
  rw [List.cons_append,fW,fW];by_cases q:blt z x0=true
  ·rw [if_pos q,if_pos q,<-List.cons_append,qW x (x0::xs) zs fun y hy=>h y (List.mem_cons_of_mem _ hy)];rfl
  ·rw [if_neg q,if_neg q,qW x xs (z::zs) h];rfl
 termination_by xs zs=>xs.length+zs.length
theorem xG (y:Keyed):∀zs:List Keyed,(∀z∈zs,blt y z=false)->mrg blt zs [y]=zs++[y]
 | [],_=>nF _
 | z::zs,h=>by
  rw [fW,if_neg (by simp [h z (List.mem_cons_self ..)]),xG y zs fun u hu=>h u (List.mem_cons_of_mem _ hu)];rfl
theorem qX (y:Keyed):∀(zs ys:List Keyed),(∀z∈zs,blt y z=false)->mrg blt zs (ys++[y])=mrg blt zs ys++[y]
 | zs,[],h=>by rw [List.nil_append,xG y zs h,lA]
 | [],y0::ys,_=>by rw [nF,nF]
 | z::zs,y0::ys,h=>by
  rw [List.cons_append,fW,fW];by_cases q:blt y0 z=true
  ·rw [if_pos q,if_pos q,qX y (z::zs) ys h];rfl
  ·rw [if_neg q,if_neg q,<-List.cons_append,qX y zs (y0::ys) fun u hu=>h u (List.mem_cons_of_mem _ hu)];rfl
 termination_by zs ys=>zs.length+ys.length
noncomputable def JH (blt:Keyed->Keyed->Bool) (a b:Array Keyed) (out:Array Keyed) (na nb:Nat):Prop:=
 mrg blt (a.toList.take na) (b.toList.take nb)++out.toList.reverse=mrg blt a.toList b.toList
variable {a b out:Array Keyed} {na nb:Nat}
theorem JH.pa (h:JH blt a b out na nb) (ha:0<na) (h1:na<=a.size) (h2:nb<=b.size) (q:∀i,i<nb->blt (gt b i) (gt a (na-1))=true):JH blt a b (out.push (gt a (na-1))) (na-1) nb:=by
 unfold JH at h ⊢;obtain ⟨n,rfl⟩:∃n,na=n+1:=⟨na-1,by lia⟩
 rw [z6 (by lia),qW _ _ _ (fun z hz=>by obtain ⟨i,i1,i2,rfl⟩:=qU hz;exact q i i1)] at h;rw [<-h];simp
theorem JH.pb (h:JH blt a b out na nb) (hb:0<nb) (h1:na<=a.size) (h2:nb<=b.size) (q:∀i,i<na->blt (gt b (nb-1)) (gt a i)=false):JH blt a b (out.push (gt b (nb-1))) na (nb-1):=by
 unfold JH at h ⊢;obtain ⟨n,rfl⟩:∃n,nb=n+1:=⟨nb-1,by lia⟩
 rw [z6 (by lia),qX _ _ _ (fun z hz=>by obtain ⟨i,i1,i2,rfl⟩:=qU hz;exact q i i1)] at h;rw [<-h];simp
theorem N8 {a:Array Keyed} {i n:Nat} (h:i<n) (hn:n<=a.size) (out:Array Keyed):out++(a.extract i n).reverse=(out.push (gt a (n-1)))++(a.extract i (n-1)).reverse:=by
 apply Array.toList_inj.mp;simp only [Array.toList_append,Array.toList_reverse,Array.toList_extract,List.extract_eq_take_drop,Array.toList_push];obtain ⟨m,rfl⟩:∃m,n=m+1:=⟨n-1,by lia⟩
 rw [show m+1-i=(m-i)+1 by lia,List.take_add_one,List.getElem?_drop,show i+(m-i)=m by lia];have:a.toList[m]?=some (gt a m):=by rw [Array.getElem?_toList];exact kZ (by lia)
 rw [this];simp
theorem qD {a:Array Keyed} {i:Nat} (out:Array Keyed):out++(a.extract i i).reverse=out:=by
 apply Array.toList_inj.mp;simp
theorem JH.ga:∀{na:Nat} {out:Array Keyed},JH blt a b out na nb->na<=a.size->nb<=b.size->∀at_,at_<=na->(∀i,at_<=i->i<na->∀z,z<nb->blt (gt b z) (gt a i)=true)->JH blt a b (out++(a.extract at_ na).reverse) at_ nb
 | 0,out,h,_,_,at_,h0,_=>by
  obtain rfl:at_=0:=by lia
  rw [qD];exact h
 | n+1,out,h,h1,h2,at_,h0,q=>by
  by_cases e:at_=n+1
  ·subst e;rw [qD];exact h
  ·rw [N8 (by lia) h1];exact JH.ga (na:=n) (JH.pa h (by lia) h1 h2 (q n (by lia) (by lia))) (by lia) h2 at_ (by lia) fun i i1 i2=>q i i1 (by lia)
theorem JH.gb:∀{nb:Nat} {out:Array Keyed},JH blt a b out na nb->na<=a.size->nb<=b.size->∀at_,at_<=nb->(∀i,at_<=i->i<nb->∀z,z<na->blt (gt b i) (gt a z)=false)->JH blt a b (out++(b.extract at_ nb).reverse) na at_
 | 0,out,h,_,_,at_,h0,_=>by
  obtain rfl:at_=0:=by lia
  rw [qD];exact h
 | n+1,out,h,h1,h2,at_,h0,q=>by
  by_cases e:at_=n+1
  ·subst e;rw [qD];exact h
  ·rw [N8 (by lia) h2];exact JH.gb (nb:=n) (JH.pb h (by lia) h1 h2 (q n (by lia) (by lia))) h1 (by lia) at_ (by lia) fun i i1 i2=>q i i1 (by lia)
theorem mH (a:Array Keyed) (n:Nat):(a.extract 0 n).toList=a.toList.take n:=by
 simp [Array.toList_extract,List.extract_eq_take_drop]
theorem JH.nH (h:JH blt a b out na nb) (e:na=0):(a.extract 0 na++b.extract 0 nb++out.reverse).toList=mrg blt a.toList b.toList:=by
 subst e;rw [<-h,Array.toList_append,Array.toList_append,mH,mH,Array.toList_reverse,List.take_zero,nF];rfl
theorem JH.nG (h:JH blt a b out na nb) (e:nb=0):(a.extract 0 na++b.extract 0 nb++out.reverse).toList=mrg blt a.toList b.toList:=by
 subst e;rw [<-h,Array.toList_append,Array.toList_append,mH,mH,Array.toList_reverse,List.take_zero,lA,List.append_nil]
theorem JH.first (h:JH blt a b out na nb) (e:nb=1) (ha:0<a.size) (hb:0<b.size) (hf:blt (gt b 0) (gt a 0)=true) (hn:0<na):(b.extract 0 nb++a.extract 0 na++out.reverse).toList=mrg blt a.toList b.toList:=by
 subst e;rw [<-h,Array.toList_append,Array.toList_append,mH,mH,Array.toList_reverse];have e1:b.toList.take 1=[gt b 0]:=by rw [z6 (a:=b) (n:=0) hb];rfl
 obtain ⟨m,rfl⟩:∃m,na=m+1:=⟨na-1,by lia⟩
 have e2:a.toList.take (m+1)=gt a 0::(a.toList.drop 1).take m:=by
  have:=k_ (a:=a) (i:=0) ha;rw [List.drop_zero] at this;rw [this];rfl
 rw [e1,e2,fW,if_pos hf,lA];rfl
variable {U:Keyed->Prop}
theorem leA (O:Ord U blt) (hUa:nY U a) (hUb:nY U b) (hsa:Srt blt a 0 a.size) {n i z:Nat} (hn:n<=a.size) (hi:i<b.size) (hz:z<n) (q:blt (gt b i) (gt a (n-1))=false):blt (gt b i) (gt a z)=false:=by
 cases e:blt (gt b i) (gt a z) with
 | false=>rfl
 | true=>
  rcases O.ntr _ (gt a (n-1)) _ (hUb i hi) (hUa _ (by lia)) (hUa z (by lia)) e with p|p
  ·rw [q] at p;cases p
  ·rw [hsa z (n-1) (by lia) (by lia) (by lia)] at p;cases p
theorem aEr (O:Ord U blt) (hUa:nY U a) (hUb:nY U b) (hsb:Srt blt b 0 b.size) {n i z:Nat} (hn:n<=b.size) (hi:i<a.size) (hz:z<n) (q:blt (gt b (n-1)) (gt a i)=true):blt (gt b z) (gt a i)=true:=by
 rcases O.ntr _ (gt b z) _ (hUb (n-1) (by lia)) (hUb z (by lia)) (hUa i hi) q with p|p
 ·rw [hsb z (n-1) (by lia) (by lia) (by lia)] at p;cases p
 ·exact p
end
section
variable {prog:Program} {w:World} {A:Around} {E:Value->Shared->Prop} {s:Shared} {kd:SortKind} {U:Keyed->Prop} {blt:Keyed->Keyed->Bool}
theorem z7 (O:Ord U blt) (hL:JP prog w A E s kd U blt) {a b:Array Keyed} {st:SortSt} {Q:Array Keyed->SortSt->Prop} (hk:kindOf st=kd) (hUa:nY U a) (hUb:nY U b) (hsa:Srt blt a 0 a.size) (hsb:Srt blt b 0 b.size)
  (ha:0<a.size) (hb:0<b.size) (hf:blt (gt b 0) (gt a 0)=true) (hl:∀i,i<b.size->blt (gt b i) (gt a (a.size-1))=true)
  (h:∀r st',Sim st st'->r.toList=mrg blt a.toList b.toList->Q r st'):wpS (model prog w) A E s (VP a b) Q st:=by
 with_unfolding_all refine wpS_bind (wpS_lift (wpAny_rule ⟨rfl,?_⟩))
 dsimp only;refine wpS_bind (aQ (by lia) ?_)
 try dsimp only
 have J0:JH blt a b #[gt a (a.size-1)] (a.size-1) b.size:=JH.pa (out:=#[]) (na:=a.size) (by unfold JH;simp [List.take_of_length_le]) ha (Nat.le_refl _) (Nat.le_refl _) hl;have sim0:Sim st st:=⟨rfl,rfl,rfl,rfl⟩
 by_cases e1:a.size-1=0
 ·rw [if_pos (by simpa using e1)];exact wpS_pure (h _ _ sim0 (J0.nH e1))
 rw [if_neg (by simpa using e1)];by_cases e2:b.size=1
 ·rw [if_pos (by simpa using e2)];exact wpS_pure (h _ _ sim0 (J0.first e2 ha hb hf (by lia)))
 rw [if_neg (by simpa using e2)];refine wpS_bind (wpS_get ?_);refine wpS_bind (wpS_mono (wpS_forRange
  (I:=fun x c st'=>Sim st st'/\∃out na nb mg,c=(none,na,nb,out,mg)/\JH blt a b out na nb/\0<na/\1<nb/\na<a.size/\nb<=b.size/\x+na+nb<=a.size+b.size)
  (Q:=fun c st'=>Sim st st'/\∃r,c.1=some r/\r.toList=mrg blt a.toList b.toList) ?step ?fin ?init) ?post)
 case init=>exact ⟨sim0,_,_,_,_,rfl,J0,by lia,by lia,by lia,by lia,by lia⟩
 case fin=>
  rintro c st' ⟨_,out,na,nb,mg,rfl,_,h1,h2,h3,h4,h5⟩;lia
 case post=>
  rintro ⟨c1,c2⟩ st' ⟨sim,r,e,hr⟩;dsimp only at e;subst e;exact wpS_pure (h r st' sim hr)
 case step=>
  rintro x₀ c st1 _ hx0 ⟨sim,out,na,nb,mg,rfl,j1,h1,h2,h3,h4,h5⟩;dsimp only;refine wpS_bind (wpS_mono (wpS_forRange
   (I:=fun x c st'=>Sim st st'/\∃out na nb ac bc,c=(none,na,nb,out,ac,bc)/\JH blt a b out na nb/\0<na/\1<nb/\na<a.size/\nb<=b.size/\x₀+na+nb<=a.size+b.size/\x+na+nb<=a.size+b.size)
   (Q:=fun c st'=>Sim st st'/\((∃r,c.1=some r/\r.toList=mrg blt a.toList b.toList)\/∃out na nb ac bc,c=(none,na,nb,out,ac,bc)/\JH blt a b out na nb/\0<na/\1<nb/\na<a.size/\nb<=b.size/\x₀+1+na+nb<=a.size+b.size)) ?step2 ?fin2 ?init2) ?post2)
  case init2=>exact ⟨sim,_,_,_,_,_,rfl,j1,h1,h2,h3,h4,h5,by lia⟩
  case fin2=>
   rintro c st' ⟨_,out,na,nb,ac,bc,rfl,_,h1,h2,h3,h4,_,h5⟩;lia
  case step2=>
   rintro x c st2 _ hx ⟨sim,out,na,nb,ac,bc,rfl,j2,h1,h2,h3,h4,h5,h6⟩;dsimp only;refine wpS_bind (aQ (by lia) (wpS_bind (aQ (by lia) (wpS_bind (hL _ _ _ _ (hUb _ (by lia)) (hUa _ (by lia)) (sim.1.trans hk) ?_)))));dsimp only;cases q:blt (gt b (nb-1)) (gt a (na-1)) with
   | true=>
    simp only [if_true];refine wpS_bind (aQ (by lia) ?_);have j3:=JH.pa j2 (by lia) (by lia) h4 (fun i hi=>aEr O hUa hUb hsb h4 (by lia) hi q);by_cases e3:na-1=0
    ·rw [if_pos (by simpa using e3)];exact wpS_pure ⟨sim,.inl ⟨_,rfl,j3.nH e3⟩⟩
    ·rw [if_neg (by simpa using e3)];split
     ·exact wpS_pure ⟨sim,.inr ⟨_,_,_,_,_,rfl,j3,by lia,by lia,by lia,by lia,by lia⟩⟩
     ·exact wpS_pure ⟨sim,_,_,_,_,_,rfl,j3,by lia,by lia,by lia,by lia,by lia,by lia⟩
   | false=>
    simp only [Bool.false_eq_true,if_false];refine wpS_bind (aQ (by lia) ?_);have j3:=JH.pb j2 (by lia) (by lia) h4 (fun i hi=>leA O hUa hUb hsa (by lia) (by lia) hi q);by_cases e3:nb-1=1
    ·rw [if_pos (by simpa using e3)];exact wpS_pure ⟨sim,.inl ⟨_,rfl,j3.first e3 ha hb hf (by lia)⟩⟩
    ·rw [if_neg (by simpa using e3)];split
     ·exact wpS_pure ⟨sim,.inr ⟨_,_,_,_,_,rfl,j3,by lia,by lia,by lia,by lia,by lia⟩⟩
     ·exact wpS_pure ⟨sim,_,_,_,_,_,rfl,j3,by lia,by lia,by lia,by lia,by lia,by lia⟩
  case post2=>
   rintro ⟨c1,c2⟩ st2 ⟨sim,⟨r,e,hr⟩|⟨out,na,nb,ac,bc,e,j2,h1,h2,h3,h4,h5⟩⟩
   ·dsimp only at e;subst e;exact wpS_pure ⟨sim,r,rfl,hr⟩
   ·cases e;dsimp only;refine wpS_bind (wpS_lift (wpAny_rule ⟨rfl,?_⟩));refine wpS_bind (wpS_mono (wpS_forRange
     (I:=fun x c st'=>Sim st st'/\∃out na nb mg ac bc,c=(none,na,nb,out,mg,ac,bc)/\JH blt a b out na nb/\0<na/\1<nb/\na<a.size/\nb<=b.size/\x₀+1+na+nb<=a.size+b.size/\x+na+nb<=a.size+b.size)
     (Q:=fun c st'=>Sim st st'/\((∃r,c.1=some r/\r.toList=mrg blt a.toList b.toList)\/∃out na nb mg ac bc,c=(none,na,nb,out,mg,ac,bc)/\JH blt a b out na nb/\0<na/\1<nb/\na<a.size/\nb<=b.size/\x₀+1+na+nb<=a.size+b.size)) ?step3 ?fin3 ?init3) ?post3)
    case init3=>exact ⟨sim,_,_,_,_,_,_,rfl,j2,h1,h2,h3,h4,h5,by lia⟩
    case fin3=>
     rintro c st' ⟨_,out,na,nb,mg,ac,bc,rfl,_,h1,h2,h3,h4,_,h5⟩;lia
    case post3=>
     rintro ⟨c1,c2⟩ st3 ⟨sim,⟨r,e,hr⟩|⟨out,na,nb,mg,ac,bc,e,j3,h1,h2,h3,h4,h5⟩⟩
     ·dsimp only at e;subst e;exact wpS_pure ⟨sim,r,rfl,hr⟩
     ·cases e;dsimp only;refine wpS_bind (gZ (wpS_pure ⟨⟨sim.1,sim.2,sim.3,sim.4⟩,_,_,_,_,rfl,j3,h1,h2,h3,h4,by lia⟩))
    case step3=>
     rintro x c st3 _ hx ⟨sim,out,na,nb,mg,ac,bc,rfl,j3,h1,h2,h3,h4,h5,h6⟩;dsimp only;by_cases hg:mg > 1
     ·rw [if_pos hg];refine wpS_bind (gZ ?_);have sim':Sim st (SortSt.mk' (kindOf st3) (arrOf st3) (pendingOf st3) (mg-1) (failedOf st3)):=⟨sim.1,sim.2,sim.3,sim.4⟩
      have hk':kindOf (SortSt.mk' (kindOf st3) (arrOf st3) (pendingOf st3) (mg-1) (failedOf st3))=kd:=sim.1.trans hk;refine wpS_bind (aQ (by lia) ?_);refine wpS_bind (fH O hL hk' (by lia) hUa (hUb _ (by lia)) (fun i j i1 i2 i3=>hsa i j (by lia) i2 (by lia)) (by lia) fun at_ hk1 y1 y2=>?_)
      try dsimp only
      have y1':∀i,i<at_->blt (gt b (nb-1)) (gt a i)=false:=fun i hi=>by have:=y1 i hi;simpa [gp] using this
      have y2':∀i,at_<=i->i<na->blt (gt b (nb-1)) (gt a i)=true:=fun i i1 i2=>by have:=y2 i i1 i2;simpa [gp] using this
      by_cases kp:na-at_ > 0
      ·rw [if_pos kp];have J1:=JH.ga j3 (by lia) (by lia) at_ (by lia) (fun i i1 i2 z hz=>aEr O hUa hUb hsb (by lia) (by lia) hz (y2' i i1 i2));by_cases e1:at_=0
       ·rw [if_pos (by simpa using e1)];exact wpS_pure ⟨sim',.inl ⟨_,rfl,J1.nH e1⟩⟩
       ·rw [if_neg (by simpa using e1)];have J2:=JH.pb J1 (by lia) (by lia) (by lia) (fun z hz=>y1' z hz);refine wpS_bind (aQ (by lia) ?_)
        try dsimp only
        by_cases e2:nb-1=1
        ·rw [if_pos (by simpa using e2)];exact wpS_pure ⟨sim',.inl ⟨_,rfl,J2.first e2 ha hb hf (by lia)⟩⟩
        ·rw [if_neg (by simpa using e2)];refine wpS_bind (aQ (by lia) ?_);refine wpS_bind (fH O hL hk' (by lia) hUb (hUa _ (by lia)) (fun i j i1 i2 i3=>hsb i j (by lia) i2 (by lia)) (by lia) fun k1 hk1 y1 y2=>?_)
         try dsimp only
         have y1':∀i,i<k1->blt (gt b i) (gt a (at_-1))=true:=fun i hi=>by have:=y1 i hi;simpa [gp] using this
         have y2':∀i,k1<=i->i<nb-1->blt (gt b i) (gt a (at_-1))=false:=fun i i1 i2=>by have:=y2 i i1 i2;simpa [gp] using this
         by_cases k1p:nb-1-k1 > 0
         ·rw [if_pos k1p];have J3:=JH.gb J2 (by lia) (by lia) k1 (by lia) (fun i i1 i2 z hz=>leA O hUa hUb hsa (by lia) (by lia) hz (y2' i i1 i2));by_cases e3:k1=1
          ·rw [if_pos (by simpa using e3)];exact wpS_pure ⟨sim',.inl ⟨_,rfl,J3.first e3 ha hb hf (by lia)⟩⟩
          ·rw [if_neg (by simpa using e3)];by_cases e3':k1=0
           ·rw [if_pos (by simpa using e3')];exact wpS_pure ⟨sim',.inl ⟨_,rfl,J3.nG e3'⟩⟩
           ·rw [if_neg (by simpa using e3')];have J4:=JH.pa J3 (by lia) (by lia) (by lia) (fun z hz=>y1' z hz);refine wpS_bind (aQ (by lia) ?_)
            try dsimp only
            by_cases e4:at_-1=0
            ·rw [if_pos (by simpa using e4)];exact wpS_pure ⟨sim',.inl ⟨_,rfl,J4.nH e4⟩⟩
            ·rw [if_neg (by simpa using e4)];split
             ·exact wpS_pure ⟨sim',.inr ⟨_,_,_,_,_,_,rfl,J4,by lia,by lia,by lia,by lia,by lia⟩⟩
             ·exact wpS_pure ⟨sim',_,_,_,_,_,_,rfl,J4,by lia,by lia,by lia,by lia,by lia,by lia⟩
         ·rw [if_neg k1p];obtain rfl:k1=nb-1:=by lia
          have J3:=J2;have J4:=JH.pa J3 (by lia) (by lia) (by lia) (fun z hz=>y1' z hz);refine wpS_bind (aQ (by lia) ?_)
          try dsimp only
          by_cases e4:at_-1=0
          ·rw [if_pos (by simpa using e4)];exact wpS_pure ⟨sim',.inl ⟨_,rfl,J4.nH e4⟩⟩
          ·rw [if_neg (by simpa using e4)];split
           ·exact wpS_pure ⟨sim',.inr ⟨_,_,_,_,_,_,rfl,J4,by lia,by lia,by lia,by lia,by lia⟩⟩
           ·exact wpS_pure ⟨sim',_,_,_,_,_,_,rfl,J4,by lia,by lia,by lia,by lia,by lia,by lia⟩
      ·rw [if_neg kp];obtain rfl:at_=na:=by lia
       have J1:=j3;have J2:=JH.pb J1 (by lia) (by lia) (by lia) (fun z hz=>y1' z hz);refine wpS_bind (aQ (by lia) ?_)
       try dsimp only
       by_cases e2:nb-1=1
       ·rw [if_pos (by simpa using e2)];exact wpS_pure ⟨sim',.inl ⟨_,rfl,J2.first e2 ha hb hf (by lia)⟩⟩
       ·rw [if_neg (by simpa using e2)];refine wpS_bind (aQ (by lia) ?_);refine wpS_bind (fH O hL hk' (by lia) hUb (hUa _ (by lia)) (fun i j i1 i2 i3=>hsb i j (by lia) i2 (by lia)) (by lia) fun k1 hk1 y1 y2=>?_)
        try dsimp only
        have y1':∀i,i<k1->blt (gt b i) (gt a (at_-1))=true:=fun i hi=>by have:=y1 i hi;simpa [gp] using this
        have y2':∀i,k1<=i->i<nb-1->blt (gt b i) (gt a (at_-1))=false:=fun i i1 i2=>by have:=y2 i i1 i2;simpa [gp] using this
        by_cases k1p:nb-1-k1 > 0
        ·rw [if_pos k1p];have J3:=JH.gb J2 (by lia) (by lia) k1 (by lia) (fun i i1 i2 z hz=>leA O hUa hUb hsa (by lia) (by lia) hz (y2' i i1 i2));by_cases e3:k1=1
         ·rw [if_pos (by simpa using e3)];exact wpS_pure ⟨sim',.inl ⟨_,rfl,J3.first e3 ha hb hf (by lia)⟩⟩
         ·rw [if_neg (by simpa using e3)];by_cases e3':k1=0
          ·rw [if_pos (by simpa using e3')];exact wpS_pure ⟨sim',.inl ⟨_,rfl,J3.nG e3'⟩⟩
          ·rw [if_neg (by simpa using e3')];have J4:=JH.pa J3 (by lia) (by lia) (by lia) (fun z hz=>y1' z hz);refine wpS_bind (aQ (by lia) ?_)
           try dsimp only
           by_cases e4:at_-1=0
           ·rw [if_pos (by simpa using e4)];exact wpS_pure ⟨sim',.inl ⟨_,rfl,J4.nH e4⟩⟩
           ·rw [if_neg (by simpa using e4)];split
            ·exact wpS_pure ⟨sim',.inr ⟨_,_,_,_,_,_,rfl,J4,by lia,by lia,by lia,by lia,by lia⟩⟩
            ·exact wpS_pure ⟨sim',_,_,_,_,_,_,rfl,J4,by lia,by lia,by lia,by lia,by lia,by lia⟩
        ·rw [if_neg k1p];obtain rfl:k1=nb-1:=by lia
         have J3:=J2;have J4:=JH.pa J3 (by lia) (by lia) (by lia) (fun z hz=>y1' z hz);refine wpS_bind (aQ (by lia) ?_)
         try dsimp only
         by_cases e4:at_-1=0
         ·rw [if_pos (by simpa using e4)];exact wpS_pure ⟨sim',.inl ⟨_,rfl,J4.nH e4⟩⟩
         ·rw [if_neg (by simpa using e4)];split
          ·exact wpS_pure ⟨sim',.inr ⟨_,_,_,_,_,_,rfl,J4,by lia,by lia,by lia,by lia,by lia⟩⟩
          ·exact wpS_pure ⟨sim',_,_,_,_,_,_,rfl,J4,by lia,by lia,by lia,by lia,by lia,by lia⟩
     ·rw [if_neg hg];refine wpS_bind (gZ ?_);have sim':Sim st (SortSt.mk' (kindOf st3) (arrOf st3) (pendingOf st3) mg (failedOf st3)):=⟨sim.1,sim.2,sim.3,sim.4⟩
      have hk':kindOf (SortSt.mk' (kindOf st3) (arrOf st3) (pendingOf st3) mg (failedOf st3))=kd:=sim.1.trans hk;refine wpS_bind (aQ (by lia) ?_);refine wpS_bind (fH O hL hk' (by lia) hUa (hUb _ (by lia)) (fun i j i1 i2 i3=>hsa i j (by lia) i2 (by lia)) (by lia) fun at_ hk1 y1 y2=>?_)
      try dsimp only
      have y1':∀i,i<at_->blt (gt b (nb-1)) (gt a i)=false:=fun i hi=>by have:=y1 i hi;simpa [gp] using this
      have y2':∀i,at_<=i->i<na->blt (gt b (nb-1)) (gt a i)=true:=fun i i1 i2=>by have:=y2 i i1 i2;simpa [gp] using this
      by_cases kp:na-at_ > 0
      ·rw [if_pos kp];have J1:=JH.ga j3 (by lia) (by lia) at_ (by lia) (fun i i1 i2 z hz=>aEr O hUa hUb hsb (by lia) (by lia) hz (y2' i i1 i2));by_cases e1:at_=0
       ·rw [if_pos (by simpa using e1)];exact wpS_pure ⟨sim',.inl ⟨_,rfl,J1.nH e1⟩⟩
       ·rw [if_neg (by simpa using e1)];have J2:=JH.pb J1 (by lia) (by lia) (by lia) (fun z hz=>y1' z hz);refine wpS_bind (aQ (by lia) ?_)
        try dsimp only
        by_cases e2:nb-1=1
        ·rw [if_pos (by simpa using e2)];exact wpS_pure ⟨sim',.inl ⟨_,rfl,J2.first e2 ha hb hf (by lia)⟩⟩
        ·rw [if_neg (by simpa using e2)];refine wpS_bind (aQ (by lia) ?_);refine wpS_bind (fH O hL hk' (by lia) hUb (hUa _ (by lia)) (fun i j i1 i2 i3=>hsb i j (by lia) i2 (by lia)) (by lia) fun k1 hk1 y1 y2=>?_)
         try dsimp only
         have y1':∀i,i<k1->blt (gt b i) (gt a (at_-1))=true:=fun i hi=>by have:=y1 i hi;simpa [gp] using this
         have y2':∀i,k1<=i->i<nb-1->blt (gt b i) (gt a (at_-1))=false:=fun i i1 i2=>by have:=y2 i i1 i2;simpa [gp] using this
         by_cases k1p:nb-1-k1 > 0
         ·rw [if_pos k1p];have J3:=JH.gb J2 (by lia) (by lia) k1 (by lia) (fun i i1 i2 z hz=>leA O hUa hUb hsa (by lia) (by lia) hz (y2' i i1 i2));by_cases e3:k1=1
          ·rw [if_pos (by simpa using e3)];exact wpS_pure ⟨sim',.inl ⟨_,rfl,J3.first e3 ha hb hf (by lia)⟩⟩
          ·rw [if_neg (by simpa using e3)];by_cases e3':k1=0
           ·rw [if_pos (by simpa using e3')];exact wpS_pure ⟨sim',.inl ⟨_,rfl,J3.nG e3'⟩⟩
           ·rw [if_neg (by simpa using e3')];have J4:=JH.pa J3 (by lia) (by lia) (by lia) (fun z hz=>y1' z hz);refine wpS_bind (aQ (by lia) ?_)
            try dsimp only
            by_cases e4:at_-1=0
            ·rw [if_pos (by simpa using e4)];exact wpS_pure ⟨sim',.inl ⟨_,rfl,J4.nH e4⟩⟩
            ·rw [if_neg (by simpa using e4)];split
             ·exact wpS_pure ⟨sim',.inr ⟨_,_,_,_,_,_,rfl,J4,by lia,by lia,by lia,by lia,by lia⟩⟩
             ·exact wpS_pure ⟨sim',_,_,_,_,_,_,rfl,J4,by lia,by lia,by lia,by lia,by lia,by lia⟩
         ·rw [if_neg k1p];obtain rfl:k1=nb-1:=by lia
          have J3:=J2;have J4:=JH.pa J3 (by lia) (by lia) (by lia) (fun z hz=>y1' z hz);refine wpS_bind (aQ (by lia) ?_)
          try dsimp only
          by_cases e4:at_-1=0
          ·rw [if_pos (by simpa using e4)];exact wpS_pure ⟨sim',.inl ⟨_,rfl,J4.nH e4⟩⟩
          ·rw [if_neg (by simpa using e4)];split
           ·exact wpS_pure ⟨sim',.inr ⟨_,_,_,_,_,_,rfl,J4,by lia,by lia,by lia,by lia,by lia⟩⟩
           ·exact wpS_pure ⟨sim',_,_,_,_,_,_,rfl,J4,by lia,by lia,by lia,by lia,by lia,by lia⟩
      ·rw [if_neg kp];obtain rfl:at_=na:=by lia
       have J1:=j3;have J2:=JH.pb J1 (by lia) (by lia) (by lia) (fun z hz=>y1' z hz);refine wpS_bind (aQ (by lia) ?_)
       try dsimp only
       by_cases e2:nb-1=1
       ·rw [if_pos (by simpa using e2)];exact wpS_pure ⟨sim',.inl ⟨_,rfl,J2.first e2 ha hb hf (by lia)⟩⟩
       ·rw [if_neg (by simpa using e2)];refine wpS_bind (aQ (by lia) ?_);refine wpS_bind (fH O hL hk' (by lia) hUb (hUa _ (by lia)) (fun i j i1 i2 i3=>hsb i j (by lia) i2 (by lia)) (by lia) fun k1 hk1 y1 y2=>?_)
        try dsimp only
        have y1':∀i,i<k1->blt (gt b i) (gt a (at_-1))=true:=fun i hi=>by have:=y1 i hi;simpa [gp] using this
        have y2':∀i,k1<=i->i<nb-1->blt (gt b i) (gt a (at_-1))=false:=fun i i1 i2=>by have:=y2 i i1 i2;simpa [gp] using this
        by_cases k1p:nb-1-k1 > 0
        ·rw [if_pos k1p];have J3:=JH.gb J2 (by lia) (by lia) k1 (by lia) (fun i i1 i2 z hz=>leA O hUa hUb hsa (by lia) (by lia) hz (y2' i i1 i2));by_cases e3:k1=1
         ·rw [if_pos (by simpa using e3)];exact wpS_pure ⟨sim',.inl ⟨_,rfl,J3.first e3 ha hb hf (by lia)⟩⟩
         ·rw [if_neg (by simpa using e3)];by_cases e3':k1=0
          ·rw [if_pos (by simpa using e3')];exact wpS_pure ⟨sim',.inl ⟨_,rfl,J3.nG e3'⟩⟩
          ·rw [if_neg (by simpa using e3')];have J4:=JH.pa J3 (by lia) (by lia) (by lia) (fun z hz=>y1' z hz);refine wpS_bind (aQ (by lia) ?_)
           try dsimp only
           by_cases e4:at_-1=0
           ·rw [if_pos (by simpa using e4)];exact wpS_pure ⟨sim',.inl ⟨_,rfl,J4.nH e4⟩⟩
           ·rw [if_neg (by simpa using e4)];split
            ·exact wpS_pure ⟨sim',.inr ⟨_,_,_,_,_,_,rfl,J4,by lia,by lia,by lia,by lia,by lia⟩⟩
            ·exact wpS_pure ⟨sim',_,_,_,_,_,_,rfl,J4,by lia,by lia,by lia,by lia,by lia,by lia⟩
        ·rw [if_neg k1p];obtain rfl:k1=nb-1:=by lia
         have J3:=J2;have J4:=JH.pa J3 (by lia) (by lia) (by lia) (fun z hz=>y1' z hz);refine wpS_bind (aQ (by lia) ?_)
         try dsimp only
         by_cases e4:at_-1=0
         ·rw [if_pos (by simpa using e4)];exact wpS_pure ⟨sim',.inl ⟨_,rfl,J4.nH e4⟩⟩
         ·rw [if_neg (by simpa using e4)];split
          ·exact wpS_pure ⟨sim',.inr ⟨_,_,_,_,_,_,rfl,J4,by lia,by lia,by lia,by lia,by lia⟩⟩
          ·exact wpS_pure ⟨sim',_,_,_,_,_,_,rfl,J4,by lia,by lia,by lia,by lia,by lia,by lia⟩
end
end TS
end
section
namespace TS
open PySem PyProof.Rows
section
variable {blt:Keyed->Keyed->Bool} {U:Keyed->Prop}
noncomputable def SL (blt:Keyed->Keyed->Bool) (l:List Keyed):Prop:=l.Pairwise fun u v=>blt v u=false
theorem uT (xs ys:List Keyed):(mrg blt xs ys).Perm (xs++ys):=List.merge_perm_append _
theorem z8 {xs ys:List Keyed} {z:Keyed}:z∈mrg blt xs ys↔z∈xs\/z∈ys:=by
 rw [(uT xs ys).mem_iff,List.mem_append]
theorem Ord.le_trans (O:Ord U blt) {x y z:Keyed} (hx:U x) (hy:U y) (hz:U z) (h1:blt y x=false) (h2:blt z y=false):blt z x=false:=by
 cases e:blt z x with
 | false=>rfl
 | true=>
  rcases O.ntr _ y _ hz hy hx e with p|p
  ·rw [h2] at p;cases p
  ·rw [h1] at p;cases p
theorem Ord.T_ (O:Ord U blt) {x y:Keyed} (hx:U x) (hy:U y) (h:blt x y=true):blt y x=false:=by
 cases e:blt y x with
 | false=>rfl
 | true=>
  have:=O.tr _ _ _ hx hy hx h e;rw [O.irr x hx] at this;cases this
theorem N_ (O:Ord U blt):∀(xs ys:List Keyed),(∀z∈xs,U z)->(∀z∈ys,U z)->SL blt xs->SL blt ys->SL blt (mrg blt xs ys)
 | [],ys,_,_,_,h=>by rw [nF];exact h
 | x::xs,[],_,_,h,_=>by rw [lA];exact h
 | x::xs,y::ys,ux,uy,sx,sy=>by
  rw [fW];have ux0:=ux x (List.mem_cons_self ..);have uy0:=uy y (List.mem_cons_self ..);have sx':=List.pairwise_cons.mp sx;have sy':=List.pairwise_cons.mp sy;by_cases q:blt y x=true
  ·rw [if_pos q];refine List.pairwise_cons.mpr ⟨fun z hz=>?_,N_ O (x::xs) ys ux (fun z hz=>uy z (List.mem_cons_of_mem _ hz)) sx sy'.2⟩;rcases z8.mp hz with hz|hz
   ·rcases List.mem_cons.mp hz with rfl|hz
    ·exact O.T_ uy0 ux0 q
    ·exact O.le_trans uy0 ux0 (ux z (List.mem_cons_of_mem _ hz)) (O.T_ uy0 ux0 q) (sx'.1 z hz)
   ·exact sy'.1 z hz
  ·rw [if_neg q];have q':blt y x=false:=by simpa using q
   refine List.pairwise_cons.mpr ⟨fun z hz=>?_,N_ O xs (y::ys) (fun z hz=>ux z (List.mem_cons_of_mem _ hz)) uy sx'.2 sy⟩;rcases z8.mp hz with hz|hz
   ·exact sx'.1 z hz
   ·rcases List.mem_cons.mp hz with rfl|hz
    ·exact q'
    ·exact O.le_trans ux0 uy0 (uy z (List.mem_cons_of_mem _ hz)) q' (sy'.1 z hz)
 termination_by xs ys=>xs.length+ys.length
noncomputable def str (a:Array Keyed) (lo n:Nat):List Keyed:=(a.toList.drop lo).take n
theorem jQ {a:Array Keyed} {lo n i:Nat} (hi:i<n) (h:lo+n<=a.size):(str a lo n)[i]?=some (gt a (lo+i)):=by
 unfold str;rw [List.getElem?_take_of_lt hi,List.getElem?_drop,Array.getElem?_toList];exact kZ (by lia)
theorem str_len {a:Array Keyed} {lo n:Nat} (h:lo+n<=a.size):(str a lo n).length=n:=by
 unfold str;rw [List.length_take,List.length_drop,Array.length_toList];lia
theorem Srt.sl {a:Array Keyed} {lo n:Nat} (h:Srt blt a lo (lo+n)) (hn:lo+n<=a.size):SL blt (str a lo n):=by
 unfold SL;rw [List.pairwise_iff_getElem];intro i j hi hj hij;rw [str_len hn] at hi hj;have e1:=jQ (a:=a) (lo:=lo) hi hn;have e2:=jQ (a:=a) (lo:=lo) hj hn;rw [List.getElem?_eq_getElem (by rw [str_len hn];exact hi)] at e1;rw [List.getElem?_eq_getElem (by rw [str_len hn];exact hj)] at e2;rw [Option.some.inj e1,Option.some.inj e2];exact h _ _ (by lia) (by lia) (by lia)
theorem SL.srt {a:Array Keyed} {lo n:Nat} (O:Ord U blt) (hU:nY U a) (h:SL blt (str a lo n)) (hn:lo+n<=a.size):Srt blt a lo (lo+n):=by
 intro i j h1 h2 h3;by_cases e:i=j
 ·subst e;exact O.irr _ (hU _ (by lia))
 ·unfold SL at h;rw [List.pairwise_iff_getElem] at h;have q:=h (i-lo) (j-lo) (by rw [str_len hn];lia) (by rw [str_len hn];lia) (by lia);have e1:=jQ (a:=a) (lo:=lo) (i:=i-lo) (n:=n) (by lia) hn;have e2:=jQ (a:=a) (lo:=lo) (i:=j-lo) (n:=n) (by lia) hn;rw [List.getElem?_eq_getElem (by rw [str_len hn];lia)] at e1 e2;rw [Option.some.inj e1,Option.some.inj e2,show lo+(i-lo)=i by lia,show lo+(j-lo)=j by lia] at q;exact q
theorem z_ (a:Array Keyed) (lo m n:Nat):str a lo (m+n)=str a lo m++str a (lo+m) n:=by
 unfold str;rw [List.take_add,List.drop_drop]
theorem uU {a:Array Keyed} {lo n:Nat} {z:Keyed} (h:z∈str a lo n):∃i,lo<=i/\i<lo+n/\i<a.size/\z=gt a i:=by
 obtain ⟨i,hi,e⟩:=List.getElem_of_mem h;unfold str at hi;rw [List.length_take,List.length_drop,Array.length_toList] at hi;refine ⟨lo+i,by lia,by lia,by lia,?_⟩;have h2:(str a lo n)[i]?=some z:=by rw [<-e];exact List.getElem?_eq_getElem _
 unfold str at h2;rw [List.getElem?_take_of_lt (by lia),List.getElem?_drop,Array.getElem?_toList,kZ (by lia)] at h2;exact (Option.some.inj h2).symm
theorem OD (a:Array Keyed) (i j:Nat):(a.extract i j).toList=str a i (j-i):=by
 unfold str;rw [Array.toList_extract,List.extract_eq_take_drop]
noncomputable def put (a:Array Keyed) (off:Nat) (l:List Keyed):Array Keyed:=l.zipIdx.foldl (fun a (p,j)=>a.setIfInBounds (off+j) p) a
theorem YS (off:Nat):∀(l:List Keyed) (k:Nat) (a:Array Keyed),off+k+l.length<=a.size->
  ((l.zipIdx k).foldl (fun a (p,j)=>a.setIfInBounds (off+j) p) a).toList=a.toList.take (off+k)++l++a.toList.drop (off+k+l.length)
 | [],k,a,_=>by simp
 | x::l,k,a,h=>by
  rw [List.zipIdx_cons,List.foldl_cons];rw [List.length_cons] at h;rw [YS off l (k+1) _ (by rw [Array.size_setIfInBounds];lia)];rw [Array.toList_setIfInBounds];have e1:(a.toList.set (off+k) x).take (off+(k+1))=a.toList.take (off+k)++[x]:=by
   rw [show off+(k+1)=(off+k)+1 by lia,List.take_add_one,List.take_set_of_le (Nat.le_refl _),List.getElem?_set_self (by rw [Array.length_toList];lia)];rfl
  have e2:(a.toList.set (off+k) x).drop (off+(k+1)+l.length)=a.toList.drop (off+k+(x::l).length):=by
   rw [List.drop_set_of_lt (by lia),List.length_cons]
   congr 1
   lia
  rw [e1,e2];simp
theorem uV {a:Array Keyed} {off:Nat} {l:List Keyed} (h:off+l.length<=a.size):(put a off l).toList=a.toList.take off++l++a.toList.drop (off+l.length):=by
 have:=YS off l 0 a (by lia);rw [Nat.add_zero] at this;exact this
theorem A_ {a:Array Keyed} {i:Nat}:gt a i=a.toList.getD i dk:=by
 unfold gt;by_cases h:i<a.size
 ·simp [Array.getD,h]
 ·simp [Array.getD,h]
structure Stp (lo hi:Nat) (st st':SortSt):Prop where
 kd:kindOf st'=kindOf st
 fl:failedOf st'=failedOf st
 pm:(arrOf st').Perm (arrOf st)
 out:∀j,j<lo\/hi<=j->gt (arrOf st') j=gt (arrOf st) j
theorem Stp.sz {lo hi:Nat} {st st':SortSt} (h:Stp lo hi st st'):(arrOf st').size=(arrOf st).size:=h.pm.size_eq
theorem bD {a b:Array Keyed} (hU:nY U a) (p:b.Perm a):nY U b:=fun i hi=>by
 have:gt b i∈b.toList:=by
  rw [A_,List.getD_eq_getElem?_getD,List.getElem?_eq_getElem (by simpa using hi)];exact List.getElem_mem _
 obtain ⟨j,hj,e⟩:=YQ ((Array.perm_iff_toList_perm.mp p).mem_iff.mp this);rw [e];exact hU j hj
theorem Srt.mono {a:Array Keyed} {lo hi lo' hi':Nat} (h:Srt blt a lo hi) (h1:lo<=lo') (h2:hi'<=hi):Srt blt a lo' hi':=fun i j a1 a2 a3=>h i j (by lia) a2 (by lia)
theorem Srt.out {a b:Array Keyed} {lo hi:Nat} (h:Srt blt a lo hi) (e:∀j,lo<=j->j<hi->gt b j=gt a j):Srt blt b lo hi:=fun i j a1 a2 a3=>by
 rw [e i (by lia) (by lia),e j (by lia) a3];exact h i j a1 a2 a3
theorem JR (a:Array Keyed) (i m n:Nat):a.toList=a.toList.take i++(str a i m++str a (i+m) n)++a.toList.drop (i+(m+n)):=by
 rw [<-z_];unfold str;rw [List.append_assoc,<-List.drop_drop,List.take_append_drop,List.take_append_drop]
theorem aA5 {a:Array Keyed} {off:Nat} {l:List Keyed} (h:off+l.length<=a.size):str (put a off l) off l.length=l:=by
 unfold str;rw [uV h,List.append_assoc,List.drop_left' (by rw [List.length_take,Array.length_toList];lia),List.take_left' rfl]
theorem qY {a:Array Keyed} {off:Nat} {l:List Keyed} (h:off+l.length<=a.size) {j:Nat} (hj:j<off\/off+l.length<=j):gt (put a off l) j=gt a j:=by
 rw [A_,A_,uV h,List.getD_eq_getElem?_getD,List.getD_eq_getElem?_getD]
 congr 1
 have hl:(a.toList.take off).length=off:=by rw [List.length_take,Array.length_toList];lia
 rcases hj with hj|hj
 ·rw [List.append_assoc,List.getElem?_append_left (by lia),List.getElem?_take_of_lt hj]
 ·rw [List.getElem?_append_right (by rw [List.length_append];lia),List.length_append,hl,List.getElem?_drop]
  congr 1
  lia
end
section
variable {prog:Program} {w:World} {A:Around} {E:Value->Shared->Prop} {s:Shared} {kd:SortKind} {U:Keyed->Prop} {blt:Keyed->Keyed->Bool}
theorem aA6 {σ:Type} {M:Model} {st st':σ} {Q:PUnit->σ->Prop} (h:Q ⟨⟩ st'):wpS M A E s (set st':StateT σ Sem PUnit) Q st:=by
 unfold wpS;rw [StateT.run_set];exact wpAny_pure ⟨rfl,h⟩
theorem BJ (O:Ord U blt) (hL:JP prog w A E s kd U blt) {i:Nat} {st:SortSt} {Q:Bool->SortSt->Prop} (hk:kindOf st=kd) (hU:nY U (arrOf st)) (hF:failedOf st=none) {sa na pw sb nb pw2:Nat}
  (p1:(pendingOf st)[i]?=some (sa,na,pw)) (p2:(pendingOf st)[i+1]?=some (sb,nb,pw2)) (hsb:sb=sa+na) (hsz:sb+nb<=(arrOf st).size) (hna:0<na) (hnb:0<nb)
  (s1:Srt blt (arrOf st) sa (sa+na)) (s2:Srt blt (arrOf st) sb (sb+nb))
  (h:∀st',Stp sa (sb+nb) st st'->Srt blt (arrOf st') sa (sb+nb)->pendingOf st'=((pendingOf st).setIfInBounds i (sa,na+nb,pw)).eraseIdxIfInBounds (i+1)->Q true st') :
  wpS (model prog w) A E s (mergeAt' i) Q st:=by
 subst hsb
 with_unfolding_all refine wpS_bind (wpS_get ?_)
 dsimp only;rw [p1,p2];dsimp only;refine wpS_bind (aA6 ?_);have hk':kindOf (setPending st (((pendingOf st).setIfInBounds i (sa,na+nb,pw)).eraseIdxIfInBounds (i+1)))=kd:=hk;refine wpS_bind (aQ (arr:=arrOf st) (by lia) ?_);refine wpS_bind (fH (arr:=arrOf st) O hL hk' (by lia) hU (hU _ (by lia)) (s1.mono (Nat.le_refl _) (by lia)) (by lia) fun k hk1 y1 y2=>?_);dsimp only;have y1':∀i,i<k->blt (gt (arrOf st) (sa+na)) (gt (arrOf st) (sa+i))=false:=fun i hi=>by have:=y1 i hi;simpa [gp] using this
 have y2':∀i,k<=i->i<na->blt (gt (arrOf st) (sa+na)) (gt (arrOf st) (sa+i))=true:=fun i i1 i2=>by have:=y2 i i1 i2;simpa [gp] using this
 -- the whole stretch is sorted as soon as the first part's last is no more than the second's first
 have whole:(∀i j,sa<=i->i<sa+na->sa+na<=j->j<sa+na+nb->blt (gt (arrOf st) j) (gt (arrOf st) i)=false)->Srt blt (arrOf st) sa (sa+na+nb):=fun q i j a1 a2 a3=>by
  by_cases c1:j<sa+na
  ·exact s1 i j a1 a2 c1
  ·by_cases c2:sa+na<=i
   ·exact s2 i j c2 a2 a3
   ·exact q i j a1 (by lia) (by lia) a3
 have stp0:Stp sa (sa+na+nb) st (setPending st (((pendingOf st).setIfInBounds i (sa,na+nb,pw)).eraseIdxIfInBounds (i+1))):=⟨rfl,rfl,Array.Perm.refl _,fun _ _=>rfl⟩
 by_cases e1:na-k=0
 ·rw [if_pos (by simpa using e1)];refine wpS_pure (h _ stp0 (whole fun i j i1 i2 j1 j2=>?_) rfl);have q:=y1' (i-sa) (by lia);rw [show sa+(i-sa)=i by lia] at q;exact O.le_trans (hU _ (by lia)) (hU _ (by lia)) (hU _ (by lia)) q (s2 _ _ (Nat.le_refl _) j1 j2)
 rw [if_neg (by simpa using e1)];refine wpS_bind (aQ (arr:=arrOf st) (by lia) ?_);refine wpS_bind (fH (arr:=arrOf st) O hL hk' (by lia) hU (hU _ (by lia)) (s2.mono (Nat.le_refl _) (by lia)) (by lia) fun nb' hnb1 z1 z2=>?_);dsimp only;have ez:sa+k+(na-k)-1=sa+na-1:=by lia
 have z1':∀i,i<nb'->blt (gt (arrOf st) (sa+na+i)) (gt (arrOf st) (sa+na-1))=true:=fun i hi=>by have:=z1 i hi;rw [ez] at this;simpa [gp] using this
 have z2':∀i,nb'<=i->i<nb->blt (gt (arrOf st) (sa+na+i)) (gt (arrOf st) (sa+na-1))=false:=fun i i1 i2=>by have:=z2 i i1 i2;rw [ez] at this;simpa [gp] using this
 by_cases e2:nb'=0
 ·rw [if_pos (by simpa using e2)];refine wpS_pure (h _ stp0 (whole fun i j i1 i2 j1 j2=>?_) rfl);have q:=z2' (j-(sa+na)) (by lia) (by lia);rw [show sa+na+(j-(sa+na))=j by lia] at q;exact O.le_trans (hU _ (by lia)) (hU (sa+na-1) (by lia)) (hU _ (by lia)) (s1 i (sa+na-1) i1 (by lia) (by lia)) q
 rw [if_neg (by simpa using e2)];have ex:((arrOf st).extract (sa+k) (sa+na)).toList=str (arrOf st) (sa+k) (na-k):=by rw [OD];congr 1;lia
 have ey:((arrOf st).extract (sa+na) (sa+na+nb')).toList=str (arrOf st) (sa+na) nb':=by rw [OD];congr 1;lia
 have zx:((arrOf st).extract (sa+k) (sa+na)).size=na-k:=by rw [Array.size_extract];lia
 have zy:((arrOf st).extract (sa+na) (sa+na+nb')).size=nb':=by rw [Array.size_extract];lia
 have gx:∀i,i<na-k->gt ((arrOf st).extract (sa+k) (sa+na)) i=gt (arrOf st) (sa+k+i):=fun i hi=>by
  have e:=jQ (a:=arrOf st) (lo:=sa+k) (i:=i) (n:=na-k) hi (by lia);rw [<-ex,Array.getElem?_toList,kZ (by lia)] at e;exact Option.some.inj e
 have gy:∀i,i<nb'->gt ((arrOf st).extract (sa+na) (sa+na+nb')) i=gt (arrOf st) (sa+na+i):=fun i hi=>by
  have e:=jQ (a:=arrOf st) (lo:=sa+na) (i:=i) (n:=nb') hi (by lia);rw [<-ey,Array.getElem?_toList,kZ (by lia)] at e;exact Option.some.inj e
 have fin:∀(r:Array Keyed) (st2:SortSt),Sim (setPending st (((pendingOf st).setIfInBounds i (sa,na+nb,pw)).eraseIdxIfInBounds (i+1))) st2->
   r.toList=mrg blt ((arrOf st).extract (sa+k) (sa+na)).toList ((arrOf st).extract (sa+na) (sa+na+nb')).toList->
   wpS (model prog w) A E s (do
    modify fun s=>setArr s (r.toList.zipIdx.foldl (fun a (p,j)=>a.setIfInBounds (sa+k+j) p) (arrOf s))
    return (failedOf (<- get)).isNone) Q st2:=by
  intro r st2 sim hr;rw [ex,ey] at hr;have hlen:r.toList.length=(na-k)+nb':=by
   rw [hr,(uT _ _).length_eq,List.length_append,str_len (by lia),str_len (by lia)]
  have hfit:sa+k+r.toList.length<=(arrOf st).size:=by lia
  have ear:arrOf st2=arrOf st:=sim.ar;refine wpS_bind (wpS_modify (wpS_bind (wpS_get (wpS_pure ?_))));show Q (failedOf st2).isNone (setArr st2 (put (arrOf st2) (sa+k) r.toList));rw [sim.fl,show failedOf (setPending st _)=none from hF,ear];have hp:(put (arrOf st) (sa+k) r.toList).Perm (arrOf st):=by
   rw [Array.perm_iff_toList_perm,uV hfit,hlen];have sp:=JR (arrOf st) (sa+k) (na-k) nb';rw [show sa+k+(na-k)=sa+na by lia] at sp
   conv=>rhs;rw [sp]
   rw [hr];exact (((uT _ _).append_left _).append_right _)
  have hU':=bD hU hp;refine h _ ⟨sim.kd,sim.fl,hp,fun j hj=>?_⟩ ?_ ?_
  ·show gt (put (arrOf st) (sa+k) r.toList) j=gt (arrOf st) j;exact qY hfit (by lia)
  ·show Srt blt (put (arrOf st) (sa+k) r.toList) sa (sa+na+nb);have hsz':(put (arrOf st) (sa+k) r.toList).size=(arrOf st).size:=hp.size_eq;have e0:str (put (arrOf st) (sa+k) r.toList) (sa+k) ((na-k)+nb')=mrg blt (str (arrOf st) (sa+k) (na-k)) (str (arrOf st) (sa+na) nb'):=by
    rw [<-hlen,aA5 hfit,hr]
   have ux:∀z∈str (arrOf st) (sa+k) (na-k),U z:=fun z hz=>by obtain ⟨i,_,_,i3,rfl⟩:=uU hz;exact hU i i3
   have uy:∀z∈str (arrOf st) (sa+na) nb',U z:=fun z hz=>by obtain ⟨i,_,_,i3,rfl⟩:=uU hz;exact hU i i3
   have sm:SL blt (mrg blt (str (arrOf st) (sa+k) (na-k)) (str (arrOf st) (sa+na) nb')):=
    N_ O _ _ ux uy (Srt.sl (s1.mono (by lia) (by lia)) (by lia)) (Srt.sl (s2.mono (Nat.le_refl _) (by lia)) (by lia))
   have mid:Srt blt (put (arrOf st) (sa+k) r.toList) (sa+k) (sa+k+((na-k)+nb')):=SL.srt O hU' (by rw [e0];exact sm) (by lia);have inmid:∀j,sa+k<=j->j<sa+na+nb'->∃q,gt (put (arrOf st) (sa+k) r.toList) j=gt (arrOf st) q/\((sa+k<=q/\q<sa+na)\/(sa+na<=q/\q<sa+na+nb')):=by
    intro j j1 j2;have e:=jQ (a:=put (arrOf st) (sa+k) r.toList) (lo:=sa+k) (i:=j-(sa+k)) (n:=(na-k)+nb') (by lia) (by lia);rw [e0,show sa+k+(j-(sa+k))=j by lia] at e;have hm:=List.mem_of_getElem? e;rcases z8.mp hm with hm|hm
    ·obtain ⟨q,q1,q2,q3,q4⟩:=uU hm;exact ⟨q,q4,.inl ⟨q1,by lia⟩⟩
    ·obtain ⟨q,q1,q2,q3,q4⟩:=uU hm;exact ⟨q,q4,.inr ⟨q1,q2⟩⟩
   intro i j a1 a2 a3
   -- three zones
   by_cases ci:i<sa+k
   ·have ei:gt (put (arrOf st) (sa+k) r.toList) i=gt (arrOf st) i:=qY hfit (by lia);by_cases cj:j<sa+k
    ·have ej:gt (put (arrOf st) (sa+k) r.toList) j=gt (arrOf st) j:=qY hfit (by lia);rw [ei,ej];exact s1 i j a1 a2 (by lia)
    ·have yi:=y1' (i-sa) (by lia);rw [show sa+(i-sa)=i by lia] at yi;have leB:∀q,sa+na<=q->q<sa+na+nb->blt (gt (arrOf st) q) (gt (arrOf st) i)=false:=fun q q1 q2=>
      O.le_trans (hU _ (by lia)) (hU _ (by lia)) (hU _ (by lia)) yi (s2 _ _ (Nat.le_refl _) q1 q2)
     by_cases cj2:j<sa+na+nb'
     ·obtain ⟨q,eq,hq⟩:=inmid j (by lia) cj2;rw [ei,eq];rcases hq with ⟨q1,q2⟩|⟨q1,q2⟩
      ·exact s1 i q a1 (by lia) q2
      ·exact leB q q1 (by lia)
     ·have ej:gt (put (arrOf st) (sa+k) r.toList) j=gt (arrOf st) j:=qY hfit (by lia);rw [ei,ej];exact leB j (by lia) a3
   ·by_cases ci2:i<sa+na+nb'
    ·by_cases cj2:j<sa+na+nb'
     ·exact mid i j (by lia) a2 (by lia)
     ·have ej:gt (put (arrOf st) (sa+k) r.toList) j=gt (arrOf st) j:=qY hfit (by lia);obtain ⟨q,eq,hq⟩:=inmid i (by lia) ci2;rw [eq,ej];rcases hq with ⟨q1,q2⟩|⟨q1,q2⟩
      ·have zj:=z2' (j-(sa+na)) (by lia) (by lia);rw [show sa+na+(j-(sa+na))=j by lia] at zj;exact O.le_trans (hU _ (by lia)) (hU (sa+na-1) (by lia)) (hU _ (by lia)) (s1 q (sa+na-1) (by lia) (by lia) (by lia)) zj
      ·exact s2 q j q1 (by lia) a3
    ·have ei:gt (put (arrOf st) (sa+k) r.toList) i=gt (arrOf st) i:=qY hfit (by lia);have ej:gt (put (arrOf st) (sa+k) r.toList) j=gt (arrOf st) j:=qY hfit (by lia);rw [ei,ej];exact s2 i j (by lia) a2 a3
  ·show pendingOf st2=_;exact sim.pd
 have hUx:nY U ((arrOf st).extract (sa+k) (sa+na)):=fun i hi=>by rw [zx] at hi;rw [gx i hi];exact hU _ (by lia)
 have hUy:nY U ((arrOf st).extract (sa+na) (sa+na+nb')):=fun i hi=>by rw [zy] at hi;rw [gy i hi];exact hU _ (by lia)
 have hsx:Srt blt ((arrOf st).extract (sa+k) (sa+na)) 0 ((arrOf st).extract (sa+k) (sa+na)).size:=fun i j a1 a2 a3=>by
  rw [zx] at a3;rw [gx i (by lia),gx j a3];exact s1 _ _ (by lia) (by lia) (by lia)
 have hsy:Srt blt ((arrOf st).extract (sa+na) (sa+na+nb')) 0 ((arrOf st).extract (sa+na) (sa+na+nb')).size:=fun i j a1 a2 a3=>by
  rw [zy] at a3;rw [gy i (by lia),gy j a3];exact s2 _ _ (by lia) (by lia) (by lia)
 have hfst:blt (gt ((arrOf st).extract (sa+na) (sa+na+nb')) 0) (gt ((arrOf st).extract (sa+k) (sa+na)) 0)=true:=by
  rw [gx 0 (by lia),gy 0 (by lia)];exact y2' k (Nat.le_refl _) (by lia)
 have hlst:∀i,i<((arrOf st).extract (sa+na) (sa+na+nb')).size->blt (gt ((arrOf st).extract (sa+na) (sa+na+nb')) i) (gt ((arrOf st).extract (sa+k) (sa+na)) (((arrOf st).extract (sa+k) (sa+na)).size-1))=true:=fun i hi=>by
  rw [zy] at hi;rw [zx,gx (na-k-1) (by lia),gy i hi,show sa+k+(na-k-1)=sa+na-1 by lia];exact z1' i hi
 by_cases ce:na-k<=nb'
 ·rw [if_pos ce];exact wpS_bind (zZ (a:=(arrOf st).extract (sa+k) (sa+na)) (b:=(arrOf st).extract (sa+na) (sa+na+nb')) O hL hk' hUx hUy hsx hsy (by lia) (by lia) hfst hlst fin)
 ·rw [if_neg ce];exact wpS_bind (z7 (a:=(arrOf st).extract (sa+k) (sa+na)) (b:=(arrOf st).extract (sa+na) (sa+na+nb')) O hL hk' hUx hUy hsx hsy (by lia) (by lia) hfst hlst fin)
end
end TS
end
section
namespace TS
open PySem PyProof.Rows
section
variable {blt:Keyed->Keyed->Bool} {U:Keyed->Prop}
noncomputable def Eqv (blt:Keyed->Keyed->Bool) (x y:Keyed):Prop:=blt x y=false/\blt y x=false
theorem Eqv.UG (O:Ord U blt) {x:Keyed} (h:U x):Eqv blt x x:=⟨O.irr x h,O.irr x h⟩
theorem Eqv.symm {x y:Keyed} (h:Eqv blt x y):Eqv blt y x:=⟨h.2,h.1⟩
theorem Eqv.trans (O:Ord U blt) {x y z:Keyed} (hx:U x) (hy:U y) (hz:U z) (h:Eqv blt x y) (g:Eqv blt y z):Eqv blt x z:=⟨O.le_trans hz hy hx g.1 h.1,O.le_trans hx hy hz h.2 g.2⟩
noncomputable def NonInc (blt:Keyed->Keyed->Bool) (a:Array Keyed) (lo n:Nat):Prop:=∀i j,lo<=i->i<=j->j<lo+n->blt (gt a i) (gt a j)=false
theorem aE2 (a:Array Keyed) (i:Nat):gt a i=(a[i]?).getD dk:=by
 unfold gt;by_cases h:i<a.size
 ·simp [Array.getD,h]
 ·simp [Array.getD,h]
theorem lB {a:Array Keyed} {i j:Nat} (hj:j<=a.size) (k:Nat):gt (mirror a i j ((j-i) / 2)) k=if i<=k/\k<j then gt a (i+j-1-k) else gt a k:=by
 rw [aE2,getElem?_mirror_all hj];split <;> rw [aE2]
theorem Stp.mir {lo hi:Nat} {st st':SortSt} (h:Stp lo hi st st') {i j:Nat} (hi':lo<=i) (hj:j<=hi) (hs:j<=(arrOf st').size):Stp lo hi st (setArr st' (mirror (arrOf st') i j ((j-i) / 2))):=
 ⟨h.kd,h.fl,(mirror_perm _ _ _ _).trans h.pm,fun k hk=>by
  show gt (mirror (arrOf st') i j ((j-i) / 2)) k=_;rw [lB hs,if_neg (by lia)];exact h.out k hk⟩
theorem nZ (O:Ord U blt) {a:Array Keyed} {lo x:Nat} (hU:nY U a) (hx:lo+x<a.size) (h0:1<=x) (h:Srt blt a lo (lo+x)) (e:blt (gt a (lo+x)) (gt a (lo+x-1))=false):Srt blt a lo (lo+(x+1)):=fun i j a1 a2 a3=>by
 by_cases c:j<lo+x
 ·exact h i j a1 a2 c
 ·obtain rfl:j=lo+x:=by lia
  by_cases d:i=lo+x
  ·rw [d];exact O.irr _ (hU _ hx)
  ·exact O.le_trans (hU _ (by lia)) (hU _ (by lia)) (hU _ hx) (h i (lo+x-1) a1 (by lia) (by lia)) e
theorem oZ (O:Ord U blt) {a:Array Keyed} {lo x:Nat} (hU:nY U a) (hx:lo+x<a.size) (h0:1<=x) (h:NonInc blt a lo x) (e:blt (gt a (lo+x-1)) (gt a (lo+x))=false):NonInc blt a lo (x+1):=fun i j a1 a2 a3=>by
 by_cases c:j<lo+x
 ·exact h i j a1 a2 c
 ·obtain rfl:j=lo+x:=by lia
  by_cases d:i=lo+x
  ·rw [d];exact O.irr _ (hU _ hx)
  ·exact O.le_trans (hU _ hx) (hU _ (by lia)) (hU _ (by lia)) e (h i (lo+x-1) a1 (by lia) (by lia))
theorem uW {a:Array Keyed} {lo m:Nat} (hs:lo+m<=a.size) (h:NonInc blt a lo m):Srt blt (mirror a lo (lo+m) ((lo+m-lo) / 2)) lo (lo+m):=fun i j a1 a2 a3=>by
 rw [lB hs,lB hs,if_pos (by lia),if_pos (by lia)];exact h _ _ (by lia) (by lia) (by lia)
theorem uX (O:Ord U blt) {a:Array Keyed} {lo m neq:Nat} (hU:nY U a) (hs:lo+m<=a.size) (hq:neq+1<=m) (h:∀i,lo+m-(neq+1)<=i->i<lo+m->Eqv blt (gt a i) (gt a (lo+m-1))) :
  ∀k,k<a.size->Eqv blt (gt (mirror a (lo+m-(neq+1)) (lo+m) ((lo+m-(lo+m-(neq+1))) / 2)) k) (gt a k):=fun k hk=>by
 rw [lB hs];by_cases c:lo+m-(neq+1)<=k/\k<lo+m
 ·rw [if_pos c];exact (h _ (by lia) (by lia)).trans O (hU _ (by lia)) (hU _ (by lia)) (hU _ (by lia)) (h k c.1 c.2).symm
 ·rw [if_neg c];exact Eqv.UG O (hU _ hk)
theorem xH (O:Ord U blt) {a b:Array Keyed} {lo n:Nat} (hU:nY U a) (hV:nY U b) (hs:lo+n<=a.size) (ht:lo+n<=b.size) (h:NonInc blt a lo n) (e:∀k,k<a.size->Eqv blt (gt b k) (gt a k)):NonInc blt b lo n:=fun i j a1 a2 a3=>
 O.le_trans (hV j (by lia)) (hU j (by lia)) (hV i (by lia)) (e j (by lia)).2 (O.le_trans (hU j (by lia)) (hU i (by lia)) (hV i (by lia)) (h i j a1 a2 a3) (e i (by lia)).1)
end
section
variable {prog:Program} {w:World} {A:Around} {E:Value->Shared->Prop} {s:Shared} {kd:SortKind} {U:Keyed->Prop} {blt:Keyed->Keyed->Bool}
theorem wpS_ltAt (hL:JP prog w A E s kd U blt) {i j:Nat} {st:SortSt} {Q:Option Bool->SortSt->Prop} (hk:kindOf st=kd) (hU:nY U (arrOf st)) (hi:i<(arrOf st).size) (hj:j<(arrOf st).size)
  (h:Q (some (blt (gt (arrOf st) i) (gt (arrOf st) j))) st):wpS (model prog w) A E s (ltAt' i j) Q st:=by
 rw [ltAt'_eq];exact wpS_bind (wpS_get (wpS_bind (aQ hi (wpS_bind (aQ hj (hL _ _ _ _ (hU _ hi) (hU _ hj) hk h))))))
theorem wpS_countRun (O:Ord U blt) (hL:JP prog w A E s kd U blt) {lo nrem:Nat} {st:SortSt} {Q:Option Nat->SortSt->Prop} (hk:kindOf st=kd) (hU:nY U (arrOf st)) (hn:lo+nrem<=(arrOf st).size) (h1:1<=nrem)
  (h:∀m st',Stp lo (lo+nrem) st st'->pendingOf st'=pendingOf st->1<=m->m<=nrem->Srt blt (arrOf st') lo (lo+m)->Q (some m) st'):wpS (model prog w) A E s (countRun' lo nrem) Q st:=by
 rw [countRun'_eq];have stp0:Stp lo (lo+nrem) st st:=⟨rfl,rfl,Array.Perm.refl _,fun _ _=>rfl⟩
 refine wpS_bind (wpS_mono (wpS_forRange
  (I:=fun x c st'=>st'=st/\c=(none,x)/\Srt blt (arrOf st) lo (lo+x))
  (Q:=fun c st'=>st'=st/\∃m,c=(none,m)/\1<=m/\m<=nrem/\Srt blt (arrOf st) lo (lo+m)/\(m=nrem\/(m<nrem/\blt (gt (arrOf st) (lo+m)) (gt (arrOf st) (lo+m-1))=true))) ?step ?fin ?init) ?post)
 case init=>exact ⟨rfl,rfl,fun i j a1 a2 a3=>by rw [show i=lo by lia,show j=lo by lia];exact O.irr _ (hU _ (by lia))⟩
 case fin=>
  rintro c st' ⟨rfl,rfl,q⟩;rw [show max 1 nrem=nrem by lia] at q ⊢;exact ⟨rfl,nrem,rfl,h1,Nat.le_refl _,q,.inl rfl⟩
 case step=>
  rintro x c st' x1 x2 ⟨rfl,rfl,q⟩;dsimp only;refine wpS_bind (wpS_ltAt hL hk hU (by lia) (by lia) ?_);dsimp only;cases e:blt (gt (arrOf st') (lo+x)) (gt (arrOf st') (lo+x-1)) with
  | true=>
   simp only [if_true];exact wpS_pure ⟨rfl,x,rfl,x1,by lia,q,.inr ⟨x2,e⟩⟩
  | false=>
   simp only [Bool.false_eq_true,if_false];exact wpS_pure ⟨rfl,rfl,nZ O hU (by lia) x1 q e⟩
 case post=>
  rintro c st ⟨hst,n,rfl,n1,n2,q,hor⟩;have hst:=hst.symm;subst hst;dsimp only;by_cases hnn:n=nrem
  ·rw [if_pos (by simpa using hnn)];exact wpS_pure (h n _ stp0 rfl n1 n2 q)
  rw [if_neg (by simpa using hnn)];obtain ⟨n3,hlt⟩:=hor.resolve_left hnn;by_cases hgt:n > 1
  ·rw [if_pos hgt];refine wpS_bind (wpS_ltAt hL hk hU (by lia) (by lia) ?_);dsimp only;cases e:blt (gt (arrOf st) lo) (gt (arrOf st) (lo+n-1)) with
   | true=>
    simp only [if_true];exact wpS_pure (h n _ stp0 rfl n1 n2 q)
   | false=>
    simp only [Bool.false_eq_true,if_false];refine wpS_bind (wpS_reverse ?_);have stp2:Stp lo (lo+nrem) st (setArr st (mirror (arrOf st) lo (lo+n) ((lo+n-lo) / 2))):=stp0.mir (Nat.le_refl _) (by lia) (by lia);have pd2:pendingOf (setArr st (mirror (arrOf st) lo (lo+n) ((lo+n-lo) / 2)))=pendingOf st:=rfl;have ev:∀i,lo<=i->i<lo+n->Eqv blt (gt (arrOf st) i) (gt (arrOf st) (lo+n-1)):=fun i i1 i2=>by
     refine ⟨?_,q i (lo+n-1) i1 (by lia) (by lia)⟩
     ·cases z:blt (gt (arrOf st) i) (gt (arrOf st) (lo+n-1)) with
      | false=>rfl
      | true=>
       rcases O.ntr _ (gt (arrOf st) lo) _ (hU i (by lia)) (hU lo (by lia)) (hU (lo+n-1) (by lia)) z with p|p
       ·rw [q lo i (Nat.le_refl _) i1 i2] at p;cases p
       ·rw [e] at p;cases p
    have hm:∀k,k<(arrOf st).size->Eqv blt (gt (mirror (arrOf st) lo (lo+n) ((lo+n-lo) / 2)) k) (gt (arrOf st) k):=fun k hk'=>by
     rw [lB (by lia)];by_cases c:lo<=k/\k<lo+n
     ·rw [if_pos c];exact (ev _ (by lia) (by lia)).trans O (hU _ (by lia)) (hU _ (by lia)) (hU _ (by lia)) (ev k c.1 c.2).symm
     ·rw [if_neg c];exact Eqv.UG O (hU _ hk')
    have ni1:NonInc blt (arrOf st) lo n:=fun i j a1 a2 a3=>((ev i a1 (by lia)).trans O (hU _ (by lia)) (hU _ (by lia)) (hU _ (by lia)) (ev j (by lia) a3).symm).1
    have ni2:NonInc blt (arrOf (setArr st (mirror (arrOf st) lo (lo+n) ((lo+n-lo) / 2)))) lo (n+1):=
     xH O hU (bD hU (mirror_perm _ _ _ _)) (by lia) (by show lo+(n+1)<=(mirror _ _ _ _).size;rw [mirror_size];lia) (oZ O hU (by lia) n1 ni1 (O.T_ (hU _ (by lia)) (hU _ (by lia)) hlt)) hm
    refine wpS_bind (wpS_lift (wpAny_rule ⟨rfl,?_⟩));refine wpS_bind (wpS_mono (wpS_forRange
     (I:=fun x c st'=>∃neq,c=(none,x,neq)/\Stp lo (lo+nrem) st st'/\pendingOf st'=pendingOf st/\NonInc blt (arrOf st') lo x/\neq+1<=x/\∀i,lo+x-(neq+1)<=i->i<lo+x->Eqv blt (gt (arrOf st') i) (gt (arrOf st') (lo+x-1)))
     (Q:=fun c st'=>∃m neq,c=(none,m,neq)/\n+1<=m/\m<=nrem/\Stp lo (lo+nrem) st st'/\pendingOf st'=pendingOf st/\NonInc blt (arrOf st') lo m/\neq+1<=m/\∀i,lo+m-(neq+1)<=i->i<lo+m->Eqv blt (gt (arrOf st') i) (gt (arrOf st') (lo+m-1))) ?dstep ?dfin ?dinit) ?dpost)
    case dinit=>exact ⟨0,rfl,stp2,pd2,ni2,by lia,fun i i1 i2=>by rw [show i=lo+(n+1)-1 by lia];exact Eqv.UG O (bD hU stp2.pm _ (by rw [stp2.sz];lia))⟩
    case dfin=>
     rintro c st' ⟨neq,rfl,q1,q2,q3,q4,q5⟩;rw [show max (n+1) nrem=nrem by lia] at q3 q4 q5 ⊢;exact ⟨nrem,neq,rfl,by lia,Nat.le_refl _,q1,q2,q3,q4,q5⟩
    case dstep=>
     rintro x c st' x1 x2 ⟨neq,rfl,q1,q2,q3,q4,q5⟩;dsimp only;have hUx:=bD hU q1.pm;have hzx:lo+nrem<=(arrOf st').size:=by rw [q1.sz];lia
     refine wpS_bind (wpS_ltAt hL (q1.kd.trans hk) hUx (by lia) (by lia) ?_);dsimp only;cases e:blt (gt (arrOf st') (lo+x)) (gt (arrOf st') (lo+x-1)) with
     | true=>
      simp only [if_true];have ni':NonInc blt (arrOf st') lo (x+1):=oZ O hUx (by lia) (by lia) q3 (O.T_ (hUx _ (by lia)) (hUx _ (by lia)) e);by_cases hq:neq > 0
      ·rw [if_pos hq];refine wpS_bind (wpS_reverse (wpS_pure ⟨0,rfl,q1.mir (by lia) (by lia) (by lia),q2,?_,by lia,fun i i1 i2=>?_⟩))
       ·exact xH O hUx (bD hUx (mirror_perm _ _ _ _)) (by lia) (by rw [mirror_size];lia) ni' (uX O hUx (by lia) (by lia) q5)
       ·rw [show i=lo+(x+1)-1 by lia];exact Eqv.UG O (bD hUx (mirror_perm _ _ _ _) _ (by rw [mirror_size];lia))
      ·rw [if_neg hq];exact wpS_pure ⟨0,rfl,q1,q2,ni',by lia,fun i i1 i2=>by rw [show i=lo+(x+1)-1 by lia];exact Eqv.UG O (hUx _ (by lia))⟩
     | false=>
      simp only [Bool.false_eq_true,if_false];refine wpS_bind (wpS_ltAt hL (q1.kd.trans hk) hUx (by lia) (by lia) ?_);dsimp only;cases e2:blt (gt (arrOf st') (lo+x-1)) (gt (arrOf st') (lo+x)) with
      | true=>
       simp only [if_true];exact wpS_pure ⟨x,neq,rfl,x1,by lia,q1,q2,q3,q4,q5⟩
      | false=>
       simp only [Bool.false_eq_true,if_false];refine wpS_pure ⟨neq+1,rfl,q1,q2,oZ O hUx (by lia) (by lia) q3 e2,by lia,fun i i1 i2=>?_⟩;rw [show lo+(x+1)-1=lo+x by lia];by_cases c:i=lo+x
       ·rw [c];exact Eqv.UG O (hUx _ (by lia))
       ·exact (q5 i (by lia) (by lia)).trans O (hUx _ (by lia)) (hUx _ (by lia)) (hUx _ (by lia)) ⟨e2,e⟩
    case dpost=>
     rintro c st3 ⟨m,neq,rfl,m1,m2,q1,q2,q3,q4,q5⟩;dsimp only;have hU3:=bD hU q1.pm;have hz3:lo+nrem<=(arrOf st3).size:=by rw [q1.sz];lia
     by_cases hq:neq > 0
     ·rw [if_pos hq];refine wpS_bind (wpS_reverse ?_);have stp4:=q1.mir (i:=lo+m-(neq+1)) (j:=lo+m) (by lia) (by lia) (by lia);have ni4:NonInc blt (mirror (arrOf st3) (lo+m-(neq+1)) (lo+m) ((lo+m-(lo+m-(neq+1))) / 2)) lo m:=
       xH O hU3 (bD hU3 (mirror_perm _ _ _ _)) (by lia) (by rw [mirror_size];lia) q3 (uX O hU3 (by lia) (by lia) q5)
      refine wpS_bind (wpS_reverse ?_);have stpA:Stp lo (lo+nrem) st (setArr (setArr st3 (mirror (arrOf st3) (lo+m-(neq+1)) (lo+m) ((lo+m-(lo+m-(neq+1))) / 2))) (mirror (arrOf (setArr st3 (mirror (arrOf st3) (lo+m-(neq+1)) (lo+m) ((lo+m-(lo+m-(neq+1))) / 2)))) lo (lo+m) ((lo+m-lo) / 2))):=stp4.mir (Nat.le_refl _) (by lia) (by rw [stp4.sz];lia);have pdA:pendingOf (setArr (setArr st3 (mirror (arrOf st3) (lo+m-(neq+1)) (lo+m) ((lo+m-(lo+m-(neq+1))) / 2))) (mirror (arrOf (setArr st3 (mirror (arrOf st3) (lo+m-(neq+1)) (lo+m) ((lo+m-(lo+m-(neq+1))) / 2)))) lo (lo+m) ((lo+m-lo) / 2)))=pendingOf st:=q2;have hsA:Srt blt (arrOf (setArr (setArr st3 (mirror (arrOf st3) (lo+m-(neq+1)) (lo+m) ((lo+m-(lo+m-(neq+1))) / 2))) (mirror (arrOf (setArr st3 (mirror (arrOf st3) (lo+m-(neq+1)) (lo+m) ((lo+m-(lo+m-(neq+1))) / 2)))) lo (lo+m) ((lo+m-lo) / 2)))) lo (lo+m):=uW (by rw [stp4.sz];lia) ni4;refine wpS_bind (wpS_mono (wpS_forRange
       (I:=fun x c st'=>st'=(setArr (setArr st3 (mirror (arrOf st3) (lo+m-(neq+1)) (lo+m) ((lo+m-(lo+m-(neq+1))) / 2))) (mirror (arrOf (setArr st3 (mirror (arrOf st3) (lo+m-(neq+1)) (lo+m) ((lo+m-(lo+m-(neq+1))) / 2)))) lo (lo+m) ((lo+m-lo) / 2)))/\c=(none,x)/\Srt blt (arrOf (setArr (setArr st3 (mirror (arrOf st3) (lo+m-(neq+1)) (lo+m) ((lo+m-(lo+m-(neq+1))) / 2))) (mirror (arrOf (setArr st3 (mirror (arrOf st3) (lo+m-(neq+1)) (lo+m) ((lo+m-(lo+m-(neq+1))) / 2)))) lo (lo+m) ((lo+m-lo) / 2)))) lo (lo+x))
       (Q:=fun c st'=>st'=(setArr (setArr st3 (mirror (arrOf st3) (lo+m-(neq+1)) (lo+m) ((lo+m-(lo+m-(neq+1))) / 2))) (mirror (arrOf (setArr st3 (mirror (arrOf st3) (lo+m-(neq+1)) (lo+m) ((lo+m-(lo+m-(neq+1))) / 2)))) lo (lo+m) ((lo+m-lo) / 2)))/\∃mm,c=(none,mm)/\m<=mm/\mm<=nrem/\Srt blt (arrOf (setArr (setArr st3 (mirror (arrOf st3) (lo+m-(neq+1)) (lo+m) ((lo+m-(lo+m-(neq+1))) / 2))) (mirror (arrOf (setArr st3 (mirror (arrOf st3) (lo+m-(neq+1)) (lo+m) ((lo+m-(lo+m-(neq+1))) / 2)))) lo (lo+m) ((lo+m-lo) / 2)))) lo (lo+mm)) ?stepA ?finA ?initA) ?postA)
      case initA=>exact ⟨rfl,rfl,hsA⟩
      case finA=>
       rintro c st' ⟨rfl,rfl,q⟩;rw [show max m nrem=nrem by lia] at q ⊢;exact ⟨rfl,nrem,rfl,by lia,Nat.le_refl _,q⟩
      case postA=>
       rintro c st' ⟨rfl,mm,rfl,mm1,mm2,q⟩;exact wpS_pure (h mm _ stpA pdA (by lia) mm2 q)
      case stepA=>
       rintro x c st' x1 x2 ⟨rfl,rfl,q⟩;dsimp only;refine wpS_bind (wpS_ltAt hL (stpA.kd.trans hk) (bD hU stpA.pm) (by rw [stpA.sz];lia) (by rw [stpA.sz];lia) ?_);dsimp only;cases e:blt (gt (arrOf (setArr (setArr st3 (mirror (arrOf st3) (lo+m-(neq+1)) (lo+m) ((lo+m-(lo+m-(neq+1))) / 2))) (mirror (arrOf (setArr st3 (mirror (arrOf st3) (lo+m-(neq+1)) (lo+m) ((lo+m-(lo+m-(neq+1))) / 2)))) lo (lo+m) ((lo+m-lo) / 2)))) (lo+x)) (gt (arrOf (setArr (setArr st3 (mirror (arrOf st3) (lo+m-(neq+1)) (lo+m) ((lo+m-(lo+m-(neq+1))) / 2))) (mirror (arrOf (setArr st3 (mirror (arrOf st3) (lo+m-(neq+1)) (lo+m) ((lo+m-(lo+m-(neq+1))) / 2)))) lo (lo+m) ((lo+m-lo) / 2)))) (lo+x-1)) with
       | true=>
        simp only [if_true];exact wpS_pure ⟨rfl,x,rfl,x1,by lia,q⟩
       | false=>
        simp only [Bool.false_eq_true,if_false];exact wpS_pure ⟨rfl,rfl,nZ O (bD hU stpA.pm) (by rw [stpA.sz];lia) (by lia) q e⟩
     ·rw [if_neg hq];refine wpS_bind (wpS_reverse ?_);have stpB:Stp lo (lo+nrem) st (setArr st3 (mirror (arrOf st3) lo (lo+m) ((lo+m-lo) / 2))):=q1.mir (Nat.le_refl _) (by lia) (by rw [q1.sz];lia);have pdB:pendingOf (setArr st3 (mirror (arrOf st3) lo (lo+m) ((lo+m-lo) / 2)))=pendingOf st:=q2;have hsB:Srt blt (arrOf (setArr st3 (mirror (arrOf st3) lo (lo+m) ((lo+m-lo) / 2)))) lo (lo+m):=uW (by rw [q1.sz];lia) q3;refine wpS_bind (wpS_mono (wpS_forRange
       (I:=fun x c st'=>st'=(setArr st3 (mirror (arrOf st3) lo (lo+m) ((lo+m-lo) / 2)))/\c=(none,x)/\Srt blt (arrOf (setArr st3 (mirror (arrOf st3) lo (lo+m) ((lo+m-lo) / 2)))) lo (lo+x))
       (Q:=fun c st'=>st'=(setArr st3 (mirror (arrOf st3) lo (lo+m) ((lo+m-lo) / 2)))/\∃mm,c=(none,mm)/\m<=mm/\mm<=nrem/\Srt blt (arrOf (setArr st3 (mirror (arrOf st3) lo (lo+m) ((lo+m-lo) / 2)))) lo (lo+mm)) ?stepB ?finB ?initB) ?postB)
      case initB=>exact ⟨rfl,rfl,hsB⟩
      case finB=>
       rintro c st' ⟨rfl,rfl,q⟩;rw [show max m nrem=nrem by lia] at q ⊢;exact ⟨rfl,nrem,rfl,by lia,Nat.le_refl _,q⟩
      case postB=>
       rintro c st' ⟨rfl,mm,rfl,mm1,mm2,q⟩;exact wpS_pure (h mm _ stpB pdB (by lia) mm2 q)
      case stepB=>
       rintro x c st' x1 x2 ⟨rfl,rfl,q⟩;dsimp only;refine wpS_bind (wpS_ltAt hL (stpB.kd.trans hk) (bD hU stpB.pm) (by rw [stpB.sz];lia) (by rw [stpB.sz];lia) ?_);dsimp only;cases e:blt (gt (arrOf (setArr st3 (mirror (arrOf st3) lo (lo+m) ((lo+m-lo) / 2)))) (lo+x)) (gt (arrOf (setArr st3 (mirror (arrOf st3) lo (lo+m) ((lo+m-lo) / 2)))) (lo+x-1)) with
       | true=>
        simp only [if_true];exact wpS_pure ⟨rfl,x,rfl,x1,by lia,q⟩
       | false=>
        simp only [Bool.false_eq_true,if_false];exact wpS_pure ⟨rfl,rfl,nZ O (bD hU stpB.pm) (by rw [stpB.sz];lia) (by lia) q e⟩
  ·rw [if_neg hgt];obtain rfl:n=1:=by lia
   have stp2:=stp0;have pd2:pendingOf st=pendingOf st:=rfl;have ni2:NonInc blt (arrOf st) lo (1+1):=oZ O hU (by lia) (Nat.le_refl _) (fun i j a1 a2 a3=>by rw [show i=lo by lia,show j=lo by lia];exact O.irr _ (hU _ (by lia))) (O.T_ (hU _ (by lia)) (hU _ (by lia)) hlt);refine wpS_bind (wpS_lift (wpAny_rule ⟨rfl,?_⟩));refine wpS_bind (wpS_mono (wpS_forRange
    (I:=fun x c st'=>∃neq,c=(none,x,neq)/\Stp lo (lo+nrem) st st'/\pendingOf st'=pendingOf st/\NonInc blt (arrOf st') lo x/\neq+1<=x/\∀i,lo+x-(neq+1)<=i->i<lo+x->Eqv blt (gt (arrOf st') i) (gt (arrOf st') (lo+x-1)))
    (Q:=fun c st'=>∃m neq,c=(none,m,neq)/\1+1<=m/\m<=nrem/\Stp lo (lo+nrem) st st'/\pendingOf st'=pendingOf st/\NonInc blt (arrOf st') lo m/\neq+1<=m/\∀i,lo+m-(neq+1)<=i->i<lo+m->Eqv blt (gt (arrOf st') i) (gt (arrOf st') (lo+m-1))) ?dstep ?dfin ?dinit) ?dpost)
   case dinit=>exact ⟨0,rfl,stp2,pd2,ni2,by lia,fun i i1 i2=>by rw [show i=lo+(1+1)-1 by lia];exact Eqv.UG O (bD hU stp2.pm _ (by rw [stp2.sz];lia))⟩
   case dfin=>
    rintro c st' ⟨neq,rfl,q1,q2,q3,q4,q5⟩;rw [show max (1+1) nrem=nrem by lia] at q3 q4 q5 ⊢;exact ⟨nrem,neq,rfl,by lia,Nat.le_refl _,q1,q2,q3,q4,q5⟩
   case dstep=>
    rintro x c st' x1 x2 ⟨neq,rfl,q1,q2,q3,q4,q5⟩;dsimp only;have hUx:=bD hU q1.pm;have hzx:lo+nrem<=(arrOf st').size:=by rw [q1.sz];lia
    refine wpS_bind (wpS_ltAt hL (q1.kd.trans hk) hUx (by lia) (by lia) ?_);dsimp only;cases e:blt (gt (arrOf st') (lo+x)) (gt (arrOf st') (lo+x-1)) with
    | true=>
     simp only [if_true];have ni':NonInc blt (arrOf st') lo (x+1):=oZ O hUx (by lia) (by lia) q3 (O.T_ (hUx _ (by lia)) (hUx _ (by lia)) e);by_cases hq:neq > 0
     ·rw [if_pos hq];refine wpS_bind (wpS_reverse (wpS_pure ⟨0,rfl,q1.mir (by lia) (by lia) (by lia),q2,?_,by lia,fun i i1 i2=>?_⟩))
      ·exact xH O hUx (bD hUx (mirror_perm _ _ _ _)) (by lia) (by rw [mirror_size];lia) ni' (uX O hUx (by lia) (by lia) q5)
      ·rw [show i=lo+(x+1)-1 by lia];exact Eqv.UG O (bD hUx (mirror_perm _ _ _ _) _ (by rw [mirror_size];lia))
     ·rw [if_neg hq];exact wpS_pure ⟨0,rfl,q1,q2,ni',by lia,fun i i1 i2=>by rw [show i=lo+(x+1)-1 by lia];exact Eqv.UG O (hUx _ (by lia))⟩
    | false=>
     simp only [Bool.false_eq_true,if_false];refine wpS_bind (wpS_ltAt hL (q1.kd.trans hk) hUx (by lia) (by lia) ?_);dsimp only;cases e2:blt (gt (arrOf st') (lo+x-1)) (gt (arrOf st') (lo+x)) with
     | true=>
      simp only [if_true];exact wpS_pure ⟨x,neq,rfl,x1,by lia,q1,q2,q3,q4,q5⟩
     | false=>
      simp only [Bool.false_eq_true,if_false];refine wpS_pure ⟨neq+1,rfl,q1,q2,oZ O hUx (by lia) (by lia) q3 e2,by lia,fun i i1 i2=>?_⟩;rw [show lo+(x+1)-1=lo+x by lia];by_cases c:i=lo+x
      ·rw [c];exact Eqv.UG O (hUx _ (by lia))
      ·exact (q5 i (by lia) (by lia)).trans O (hUx _ (by lia)) (hUx _ (by lia)) (hUx _ (by lia)) ⟨e2,e⟩
   case dpost=>
    rintro c st3 ⟨m,neq,rfl,m1,m2,q1,q2,q3,q4,q5⟩;dsimp only;have hU3:=bD hU q1.pm;have hz3:lo+nrem<=(arrOf st3).size:=by rw [q1.sz];lia
    by_cases hq:neq > 0
    ·rw [if_pos hq];refine wpS_bind (wpS_reverse ?_);have stp4:=q1.mir (i:=lo+m-(neq+1)) (j:=lo+m) (by lia) (by lia) (by lia);have ni4:NonInc blt (mirror (arrOf st3) (lo+m-(neq+1)) (lo+m) ((lo+m-(lo+m-(neq+1))) / 2)) lo m:=
      xH O hU3 (bD hU3 (mirror_perm _ _ _ _)) (by lia) (by rw [mirror_size];lia) q3 (uX O hU3 (by lia) (by lia) q5)
     refine wpS_bind (wpS_reverse ?_);have stpA:Stp lo (lo+nrem) st (setArr (setArr st3 (mirror (arrOf st3) (lo+m-(neq+1)) (lo+m) ((lo+m-(lo+m-(neq+1))) / 2))) (mirror (arrOf (setArr st3 (mirror (arrOf st3) (lo+m-(neq+1)) (lo+m) ((lo+m-(lo+m-(neq+1))) / 2)))) lo (lo+m) ((lo+m-lo) / 2))):=stp4.mir (Nat.le_refl _) (by lia) (by rw [stp4.sz];lia);have pdA:pendingOf (setArr (setArr st3 (mirror (arrOf st3) (lo+m-(neq+1)) (lo+m) ((lo+m-(lo+m-(neq+1))) / 2))) (mirror (arrOf (setArr st3 (mirror (arrOf st3) (lo+m-(neq+1)) (lo+m) ((lo+m-(lo+m-(neq+1))) / 2)))) lo (lo+m) ((lo+m-lo) / 2)))=pendingOf st:=q2;have hsA:Srt blt (arrOf (setArr (setArr st3 (mirror (arrOf st3) (lo+m-(neq+1)) (lo+m) ((lo+m-(lo+m-(neq+1))) / 2))) (mirror (arrOf (setArr st3 (mirror (arrOf st3) (lo+m-(neq+1)) (lo+m) ((lo+m-(lo+m-(neq+1))) / 2)))) lo (lo+m) ((lo+m-lo) / 2)))) lo (lo+m):=uW (by rw [stp4.sz];lia) ni4;refine wpS_bind (wpS_mono (wpS_forRange
      (I:=fun x c st'=>st'=(setArr (setArr st3 (mirror (arrOf st3) (lo+m-(neq+1)) (lo+m) ((lo+m-(lo+m-(neq+1))) / 2))) (mirror (arrOf (setArr st3 (mirror (arrOf st3) (lo+m-(neq+1)) (lo+m) ((lo+m-(lo+m-(neq+1))) / 2)))) lo (lo+m) ((lo+m-lo) / 2)))/\c=(none,x)/\Srt blt (arrOf (setArr (setArr st3 (mirror (arrOf st3) (lo+m-(neq+1)) (lo+m) ((lo+m-(lo+m-(neq+1))) / 2))) (mirror (arrOf (setArr st3 (mirror (arrOf st3) (lo+m-(neq+1)) (lo+m) ((lo+m-(lo+m-(neq+1))) / 2)))) lo (lo+m) ((lo+m-lo) / 2)))) lo (lo+x))
      (Q:=fun c st'=>st'=(setArr (setArr st3 (mirror (arrOf st3) (lo+m-(neq+1)) (lo+m) ((lo+m-(lo+m-(neq+1))) / 2))) (mirror (arrOf (setArr st3 (mirror (arrOf st3) (lo+m-(neq+1)) (lo+m) ((lo+m-(lo+m-(neq+1))) / 2)))) lo (lo+m) ((lo+m-lo) / 2)))/\∃mm,c=(none,mm)/\m<=mm/\mm<=nrem/\Srt blt (arrOf (setArr (setArr st3 (mirror (arrOf st3) (lo+m-(neq+1)) (lo+m) ((lo+m-(lo+m-(neq+1))) / 2))) (mirror (arrOf (setArr st3 (mirror (arrOf st3) (lo+m-(neq+1)) (lo+m) ((lo+m-(lo+m-(neq+1))) / 2)))) lo (lo+m) ((lo+m-lo) / 2)))) lo (lo+mm)) ?stepA ?finA ?initA) ?postA)
     case initA=>exact ⟨rfl,rfl,hsA⟩
     case finA=>
      rintro c st' ⟨rfl,rfl,q⟩;rw [show max m nrem=nrem by lia] at q ⊢;exact ⟨rfl,nrem,rfl,by lia,Nat.le_refl _,q⟩
     case postA=>
      rintro c st' ⟨rfl,mm,rfl,mm1,mm2,q⟩;exact wpS_pure (h mm _ stpA pdA (by lia) mm2 q)
     case stepA=>
      rintro x c st' x1 x2 ⟨rfl,rfl,q⟩;dsimp only;refine wpS_bind (wpS_ltAt hL (stpA.kd.trans hk) (bD hU stpA.pm) (by rw [stpA.sz];lia) (by rw [stpA.sz];lia) ?_);dsimp only;cases e:blt (gt (arrOf (setArr (setArr st3 (mirror (arrOf st3) (lo+m-(neq+1)) (lo+m) ((lo+m-(lo+m-(neq+1))) / 2))) (mirror (arrOf (setArr st3 (mirror (arrOf st3) (lo+m-(neq+1)) (lo+m) ((lo+m-(lo+m-(neq+1))) / 2)))) lo (lo+m) ((lo+m-lo) / 2)))) (lo+x)) (gt (arrOf (setArr (setArr st3 (mirror (arrOf st3) (lo+m-(neq+1)) (lo+m) ((lo+m-(lo+m-(neq+1))) / 2))) (mirror (arrOf (setArr st3 (mirror (arrOf st3) (lo+m-(neq+1)) (lo+m) ((lo+m-(lo+m-(neq+1))) / 2)))) lo (lo+m) ((lo+m-lo) / 2)))) (lo+x-1)) with
      | true=>
       simp only [if_true];exact wpS_pure ⟨rfl,x,rfl,x1,by lia,q⟩
      | false=>
       simp only [Bool.false_eq_true,if_false];exact wpS_pure ⟨rfl,rfl,nZ O (bD hU stpA.pm) (by rw [stpA.sz];lia) (by lia) q e⟩
    ·rw [if_neg hq];refine wpS_bind (wpS_reverse ?_);have stpB:Stp lo (lo+nrem) st (setArr st3 (mirror (arrOf st3) lo (lo+m) ((lo+m-lo) / 2))):=q1.mir (Nat.le_refl _) (by lia) (by rw [q1.sz];lia);have pdB:pendingOf (setArr st3 (mirror (arrOf st3) lo (lo+m) ((lo+m-lo) / 2)))=pendingOf st:=q2;have hsB:Srt blt (arrOf (setArr st3 (mirror (arrOf st3) lo (lo+m) ((lo+m-lo) / 2)))) lo (lo+m):=uW (by rw [q1.sz];lia) q3;refine wpS_bind (wpS_mono (wpS_forRange
      (I:=fun x c st'=>st'=(setArr st3 (mirror (arrOf st3) lo (lo+m) ((lo+m-lo) / 2)))/\c=(none,x)/\Srt blt (arrOf (setArr st3 (mirror (arrOf st3) lo (lo+m) ((lo+m-lo) / 2)))) lo (lo+x))
      (Q:=fun c st'=>st'=(setArr st3 (mirror (arrOf st3) lo (lo+m) ((lo+m-lo) / 2)))/\∃mm,c=(none,mm)/\m<=mm/\mm<=nrem/\Srt blt (arrOf (setArr st3 (mirror (arrOf st3) lo (lo+m) ((lo+m-lo) / 2)))) lo (lo+mm)) ?stepB ?finB ?initB) ?postB)
     case initB=>exact ⟨rfl,rfl,hsB⟩
     case finB=>
      rintro c st' ⟨rfl,rfl,q⟩;rw [show max m nrem=nrem by lia] at q ⊢;exact ⟨rfl,nrem,rfl,by lia,Nat.le_refl _,q⟩
     case postB=>
      rintro c st' ⟨rfl,mm,rfl,mm1,mm2,q⟩;exact wpS_pure (h mm _ stpB pdB (by lia) mm2 q)
     case stepB=>
      rintro x c st' x1 x2 ⟨rfl,rfl,q⟩;dsimp only;refine wpS_bind (wpS_ltAt hL (stpB.kd.trans hk) (bD hU stpB.pm) (by rw [stpB.sz];lia) (by rw [stpB.sz];lia) ?_);dsimp only;cases e:blt (gt (arrOf (setArr st3 (mirror (arrOf st3) lo (lo+m) ((lo+m-lo) / 2)))) (lo+x)) (gt (arrOf (setArr st3 (mirror (arrOf st3) lo (lo+m) ((lo+m-lo) / 2)))) (lo+x-1)) with
      | true=>
       simp only [if_true];exact wpS_pure ⟨rfl,x,rfl,x1,by lia,q⟩
      | false=>
       simp only [Bool.false_eq_true,if_false];exact wpS_pure ⟨rfl,rfl,nZ O (bD hU stpB.pm) (by rw [stpB.sz];lia) (by lia) q e⟩
end
end TS
end
section
namespace TS
open PySem PyProof.Rows
section
variable {blt:Keyed->Keyed->Bool} {U:Keyed->Prop}
theorem qZ {a:Array Keyed} {src d:Nat} (hs:src<a.size) (hd:d<=src) (k:Nat) :
  gt (bubble a src d) k=if k=src-d then gt a src else if src-d<k/\k<=src then gt a (k-1) else gt a k:=by
 rw [aE2,getElem?_bubble hs d hd]
 repeat' split
 all_goals rw [aE2]
end
section
variable {prog:Program} {w:World} {A:Around} {E:Value->Shared->Prop} {s:Shared} {kd:SortKind} {U:Keyed->Prop} {blt:Keyed->Keyed->Bool}
theorem wpS_binarySort (O:Ord U blt) (hL:JP prog w A E s kd U blt) {lo n ok:Nat} {st:SortSt} {Q:Bool->SortSt->Prop} (hk:kindOf st=kd) (hU:nY U (arrOf st)) (hn:lo+n<=(arrOf st).size) (hok:ok<=n)
  (hs:Srt blt (arrOf st) lo (lo+ok))
  (h:∀st',Stp lo (lo+n) st st'->pendingOf st'=pendingOf st->Srt blt (arrOf st') lo (lo+n)->Q true st'):wpS (model prog w) A E s (binarySort' lo n ok) Q st:=by
 rw [binarySort'_eq];have stp0:Stp lo (lo+n) st st:=⟨rfl,rfl,Array.Perm.refl _,fun _ _=>rfl⟩
 refine wpS_bind (wpS_mono (wpS_forRange (I:=fun k c st'=>c=(none,())/\Stp lo (lo+n) st st'/\pendingOf st'=pendingOf st/\Srt blt (arrOf st') lo (lo+min k n))
  (Q:=fun c st'=>c=(none,())/\Stp lo (lo+n) st st'/\pendingOf st'=pendingOf st/\Srt blt (arrOf st') lo (lo+n)) ?step ?fin ?init) ?post)
 case post=>
  rintro c st' ⟨rfl,q1,q2,q3⟩;exact wpS_pure (h st' q1 q2 q3)
 case init=>
  refine ⟨rfl,stp0,rfl,fun i j a1 a2 a3=>?_⟩;by_cases h1:ok=0
  ·rw [show i=j by lia];exact O.irr _ (hU _ (by lia))
  ·exact hs i j a1 a2 (by lia)
 case fin=>
  rintro c st' ⟨hc,q1,q2,q3⟩;rw [show min (max (max ok 1) n) n=n by lia] at q3;exact ⟨hc,q1,q2,q3⟩
 case step=>
  rintro k c st' k1 k2 ⟨rfl,q1,q2,q3⟩;rw [show min k n=k by lia] at q3;have hU':=bD hU q1.pm;have hz:lo+n<=(arrOf st').size:=by rw [q1.sz];exact hn
  refine wpS_bind (wpS_mono (wpS_forRange (I:=fun x c st''=>st''=st'/\∃l r,c=(none,l,r)/\l<=r/\r<=k/\r-l<=k-x/\
    (∀i,lo<=i->i<lo+l->blt (gt (arrOf st') (lo+k)) (gt (arrOf st') i)=false)/\(∀i,lo+r<=i->i<lo+k->blt (gt (arrOf st') (lo+k)) (gt (arrOf st') i)=true))
   (Q:=fun c st''=>st''=st'/\∃l r,c=(none,l,r)/\l<=k/\
    (∀i,lo<=i->i<lo+l->blt (gt (arrOf st') (lo+k)) (gt (arrOf st') i)=false)/\(∀i,lo+l<=i->i<lo+k->blt (gt (arrOf st') (lo+k)) (gt (arrOf st') i)=true)) ?istep ?ifin ?iinit) ?ipost)
  case iinit=>exact ⟨rfl,0,k,rfl,by lia,by lia,by lia,fun i i1 i2=>by lia,fun i i1 i2=>by lia⟩
  case ifin=>
   rintro c st'' ⟨rfl,l,r,rfl,b1,b2,b3,b4,b5⟩;obtain rfl:l=r:=by lia
   exact ⟨rfl,l,l,rfl,b2,b4,b5⟩
  case istep=>
   rintro x c st'' _ hx ⟨rfl,l,r,rfl,b1,b2,b3,b4,b5⟩;dsimp only;by_cases hge:l >= r
   ·rw [if_pos hge];obtain rfl:l=r:=by lia
    exact wpS_pure ⟨rfl,l,l,rfl,b2,b4,b5⟩
   ·rw [if_neg hge];refine wpS_bind (wpS_ltAt hL (q1.kd.trans hk) hU' (by lia) (by lia) ?_);dsimp only;cases e:blt (gt (arrOf st'') (lo+k)) (gt (arrOf st'') (lo+(l+r) / 2)) with
    | true=>
     simp only [if_true];refine wpS_pure ⟨rfl,l,(l+r) / 2,rfl,by lia,by lia,by lia,b4,fun i i1 i2=>?_⟩;rcases O.ntr _ (gt (arrOf st'') i) _ (hU' _ (by lia)) (hU' i (by lia)) (hU' _ (by lia)) e with p|p
     ·exact p
     ·rw [q3 _ i (by lia) i1 (by lia)] at p;cases p
    | false=>
     simp only [Bool.false_eq_true,if_false];refine wpS_pure ⟨rfl,(l+r) / 2+1,r,rfl,by lia,by lia,by lia,fun i i1 i2=>?_,b5⟩;exact O.le_trans (hU' _ (by lia)) (hU' (lo+(l+r) / 2) (by lia)) (hU' _ (by lia)) (q3 i (lo+(l+r) / 2) i1 (by lia) (by lia)) e
  case ipost=>
   rintro c st'' ⟨rfl,l,r,rfl,b1,b4,b5⟩;show wpS _ _ _ _ (moveDown' (lo+k) (lo+l) >>= fun _=>pure (ForInStep.yield (none,()))) _ _;rw [moveDown'_eq];refine wpS_bind (wpS_modify (wpS_pure ⟨rfl,⟨q1.kd,q1.fl,(bubble_perm _ _ _).trans q1.pm,fun j hj=>?_⟩,q2,?_⟩))
   ·show gt (bubble (arrOf st'') (lo+k) (lo+k-(lo+l))) j=_;rw [qZ (by lia) (by lia),if_neg (by lia),if_neg (by lia)];exact q1.out j hj
   ·rw [show min (k+1) n=k+1 by lia];intro i j a1 a2 a3;show blt (gt (bubble (arrOf st'') (lo+k) (lo+k-(lo+l))) j) (gt (bubble (arrOf st'') (lo+k) (lo+k-(lo+l))) i)=false;rw [qZ (by lia) (by lia),qZ (by lia) (by lia),show lo+k-(lo+k-(lo+l))=lo+l by lia]
    repeat' split
    all_goals first
     | (exfalso;lia)
     | exact O.irr _ (hU' _ (by lia))
     | exact b4 _ (by lia) (by lia)
     | exact O.T_ (hU' _ (by lia)) (hU' _ (by lia)) (b5 _ (by lia) (by lia))
     | exact q3 _ _ (by lia) (by lia) (by lia)
end
section
variable {blt:Keyed->Keyed->Bool} {U:Keyed->Prop}
noncomputable def Runs (blt:Keyed->Keyed->Bool) (a:Array Keyed):List (Nat×Nat×Nat)->Nat->Nat->Prop
 | [],b,e=>b=e
 | (s,n,_)::r,b,e=>s=b/\0<n/\Srt blt a b (b+n)/\Runs blt a r (b+n) e
theorem Runs.le {a:Array Keyed}:∀{l:List (Nat×Nat×Nat)} {b e:Nat},Runs blt a l b e->b+l.length<=e
 | [],b,e,h=>by have:b=e:=h;simp;lia
 | (s,n,p)::r,b,e,h=>by
  obtain ⟨_,h1,_,h2⟩:=h;have:=Runs.le h2;rw [List.length_cons];lia
theorem Runs.app {a:Array Keyed}:∀{l r:List (Nat×Nat×Nat)} {b e:Nat},Runs blt a (l++r) b e↔∃m,Runs blt a l b m/\Runs blt a r m e
 | [],r,b,e=>⟨fun h=>⟨b,rfl,h⟩,fun ⟨m,h1,h2⟩=>by have:b=m:=h1;subst this;exact h2⟩
 | (s,n,p)::l,r,b,e=>by
  constructor
  ·rintro ⟨h1,h2,h3,h4⟩;obtain ⟨m,h5,h6⟩:=Runs.app.mp h4;exact ⟨m,⟨h1,h2,h3,h5⟩,h6⟩
  ·rintro ⟨m,⟨h1,h2,h3,h5⟩,h6⟩;exact ⟨h1,h2,h3,Runs.app.mpr ⟨m,h5,h6⟩⟩
theorem Runs.out {a a':Array Keyed}:∀{l:List (Nat×Nat×Nat)} {b e:Nat},Runs blt a l b e->(∀j,b<=j->j<e->gt a' j=gt a j)->Runs blt a' l b e
 | [],b,e,h,_=>h
 | (s,n,p)::l,b,e,⟨h1,h2,h3,h4⟩,q=>by
  have:=h4.le;exact ⟨h1,h2,h3.out fun j j1 j2=>q j j1 (by lia),Runs.out h4 fun j j1 j2=>q j (by lia) j2⟩
theorem Runs.two {a : Array Keyed} {l1 l2 : List (Nat × Nat × Nat)} {sa na p sb nb q b e : Nat} (h : Runs blt a (l1 ++ (sa,na,p) :: (sb,nb,q) :: l2) b e) :
  b<=sa/\sb=sa+na/\0<na/\0<nb/\sb+nb<=e/\Srt blt a sa (sa+na)/\Srt blt a sb (sb+nb):=by
 obtain ⟨m,h1,h2,h3,h4,h5,h6,h7,h8⟩:=Runs.app.mp h;subst h2 h5;have e1:=h1.le;have e2:=h8.le;exact ⟨by lia,rfl,h3,h6,by lia,h4,h7⟩
theorem Runs.merge {a a':Array Keyed} {l1 l2:List (Nat×Nat×Nat)} {sa na p sb nb q b e:Nat} (h:Runs blt a (l1++(sa,na,p)::(sb,nb,q)::l2) b e)
  (ho:∀j,j<sa\/sb+nb<=j->gt a' j=gt a j) (hs:Srt blt a' sa (sb+nb)):Runs blt a' (l1++(sa,na+nb,p)::l2) b e:=by
 obtain ⟨m,h1,h2,h3,h4,h5,h6,h7,h8⟩:=Runs.app.mp h;subst h2 h5;have e1:=h1.le;have e2:=h8.le;refine Runs.app.mpr ⟨sa,h1.out fun j _ j2=>ho j (by lia),rfl,by lia,?_,?_⟩
 ·rw [<-Nat.add_assoc];exact hs
 ·rw [<-Nat.add_assoc];exact h8.out fun j j1 _=>ho j (by lia)
theorem ers {p:Array (Nat×Nat×Nat)} {i:Nat} {x y v:Nat×Nat×Nat} {l1 l2:List (Nat×Nat×Nat)} (h:p.toList=l1++x::y::l2) (hi:l1.length=i) :
  ((p.setIfInBounds i v).eraseIdxIfInBounds (i+1)).toList=l1++v::l2:=by
 have hz:p.size=l1.length+(l2.length+2):=by
  have:=congrArg List.length h;simpa using this
 have:i+1<(p.setIfInBounds i v).size:=by rw [Array.size_setIfInBounds];lia
 rw [Array.eraseIdxIfInBounds,dif_pos this,Array.toList_eraseIdx,Array.toList_setIfInBounds,h,List.set_append_right _ _ (by lia),show i-l1.length=0 by lia,List.set_cons_zero,
  List.eraseIdx_append_of_length_le (by lia),show i+1-l1.length=1 by lia]
 rfl
theorem aCn {p:Array (Nat×Nat×Nat)} {i:Nat} (h:i+1<p.size):∃x y l1 l2,p.toList=l1++x::y::l2/\l1.length=i/\p[i]?=some x/\p[i+1]?=some y:=by
 refine ⟨p[i],p[i+1],p.toList.take i,p.toList.drop (i+2),?_,?_,by simp,by simp⟩
 ·conv=>lhs;rw [<-List.take_append_drop i p.toList]
  rw [List.drop_eq_getElem_cons (by simp;lia),List.drop_eq_getElem_cons (i:=i+1) (by simp;lia)];rfl
 ·simp;lia
end
end TS
end
section
namespace TS
open PySem PyProof.Rows
section
variable {prog:Program} {w:World} {A:Around} {E:Value->Shared->Prop} {s:Shared} {kd:SortKind} {U:Keyed->Prop} {blt:Keyed->Keyed->Bool}
structure Bs (U:Keyed->Prop) (kd:SortKind) (a₀:Array Keyed) (st:SortSt):Prop where
 kd:kindOf st=kd
 fl:failedOf st=none
 pm:(arrOf st).Perm a₀
theorem Bs.stp {a₀:Array Keyed} {st st':SortSt} {lo hi:Nat} (b:Bs U kd a₀ st) (h:Stp lo hi st st'):Bs U kd a₀ st':=⟨h.kd.trans b.kd,h.fl.trans b.fl,h.pm.trans b.pm⟩
theorem uY {a:Array Keyed} (pw:Nat):∀(i:Nat) {l:List (Nat×Nat×Nat)} {b e:Nat},Runs blt a l b e->Runs blt a (l.modify i fun x=>(x.1,x.2.1,pw)) b e
 | _,[],_,_,h=>by
  rw [List.modify_nil];exact h
 | 0,(s,n,p)::l,b,e,h=>h
 | i+1,(s,n,p)::l,b,e,⟨h1,h2,h3,h4⟩=>⟨h1,h2,h3,uY pw i h4⟩
theorem q_ (O:Ord U blt) (hL:JP prog w A E s kd U blt) {a₀:Array Keyed} (hU:nY U a₀) {st:SortSt} {e i:Nat} {Q:Bool->SortSt->Prop} (B:Bs U kd a₀ st) (he:e<=a₀.size) (R:Runs blt (arrOf st) (pendingOf st).toList 0 e)
  (hi:i+1<(pendingOf st).size)
  (h:∀st',Bs U kd a₀ st'->Runs blt (arrOf st') (pendingOf st').toList 0 e->(pendingOf st').size+1=(pendingOf st).size->(∀j,e<=j->gt (arrOf st') j=gt (arrOf st) j)->Q true st'):wpS (model prog w) A E s (mergeAt' i) Q st:=by
 obtain ⟨⟨sa,na,p⟩,⟨sb,nb,q⟩,l1,l2,e1,e2,e3,e4⟩:=aCn hi;rw [e1] at R;obtain ⟨r1,r2,r3,r4,r5,r6,r7⟩:=R.two;have hz:(arrOf st).size=a₀.size:=B.pm.size_eq;refine BJ O hL B.kd (bD hU B.pm) B.fl e3 e4 r2 (by lia) r3 r4 r6 r7 fun st' S Z P=>?_
 have P':(pendingOf st').toList=l1++(sa,na+nb,p)::l2:=by rw [P];exact ers e1 e2
 refine h st' (B.stp S) ?_ ?_ fun j hj=>S.out j (by lia)
 ·rw [P'];exact R.merge S.out Z
 ·have h1:=congrArg List.length P';have h2:=congrArg List.length e1;simp at h1 h2;lia
theorem wpS_sortRuns (O:Ord U blt) (hL:JP prog w A E s kd U blt) {a₀:Array Keyed} (hU:nY U a₀) {st:SortSt} {Q:Unit->SortSt->Prop} (B:Bs U kd a₀ st) (hp:pendingOf st=#[]) (hz:0<a₀.size)
  (h:∀st',Bs U kd a₀ st'->Srt blt (arrOf st') 0 a₀.size->Q () st'):wpS (model prog w) A E s sortRuns' Q st:=by
 have sz:∀{st':SortSt},Bs U kd a₀ st'->(arrOf st').size=a₀.size:=fun b=>b.pm.size_eq
 rw [sortRuns'_eq];refine wpS_bind (wpS_get ?_);dsimp only;rw [sz B];generalize minRun' a₀.size a₀.size 0=minrun;refine wpS_bind (wpS_mono (wpS_forRange
  (I:=fun x c st'=>∃lo,c=(none,lo)/\lo<=a₀.size/\(x<=lo\/lo=a₀.size)/\Bs U kd a₀ st'/\Runs blt (arrOf st') (pendingOf st').toList 0 lo)
  (Q:=fun c st'=>c=(none,a₀.size)/\Bs U kd a₀ st'/\Runs blt (arrOf st') (pendingOf st').toList 0 a₀.size) ?step ?fin ?init) ?post)
 case init=>exact ⟨0,rfl,Nat.zero_le _,.inl (Nat.le_refl _),B,by rw [hp];rfl⟩
 case fin=>
  rintro c st' ⟨lo,rfl,a1,a2,b,r⟩;obtain rfl:lo=a₀.size:=by lia
  exact ⟨rfl,b,r⟩
 case step=>
  rintro x c st1 _ hx ⟨lo,rfl,a1,a2,b,r⟩;dsimp only;by_cases hge:lo >= a₀.size
  ·rw [if_pos hge];obtain rfl:lo=a₀.size:=by lia
   exact wpS_pure ⟨rfl,b,r⟩
  rw [if_neg hge];refine wpS_bind (wpS_countRun O hL b.kd (bD hU b.pm) (by rw [sz b];lia) (by lia) fun m st2 S2 P2 m1 m2 Z2=>?_);dsimp only;have b2:=b.stp S2;have r2:Runs blt (arrOf st2) (pendingOf st2).toList 0 lo:=by rw [P2];exact r.out fun j _ j2=>S2.out j (.inl j2)
  have rest:∀(n:Nat),1<=n->lo+n<=a₀.size->∀(st4:SortSt),Bs U kd a₀ st4->∀l,(pendingOf st4).toList=l++[(lo,n,0)]->Runs blt (arrOf st4) l 0 lo->Srt blt (arrOf st4) lo (lo+n)->
    ∃lo',((none,lo+n):Option Unit×Nat)=(none,lo')/\lo'<=a₀.size/\(x+1<=lo'\/lo'=a₀.size)/\Bs U kd a₀ st4/\Runs blt (arrOf st4) (pendingOf st4).toList 0 lo':=by
   intro n n1 n2 st4 b4 l e r4 z4;refine ⟨lo+n,rfl,n2,?_,b4,?_⟩
   ·rcases a2 with a2|a2
    ·exact .inl (by lia)
    ·lia
   ·rw [e];exact Runs.app.mpr ⟨lo,r4,rfl,by lia,z4,rfl⟩
  by_cases hm:m<minrun
  ·rw [if_pos hm];refine wpS_bind (wpS_lift (wpAny_rule ⟨rfl,?_⟩));refine wpS_bind (wpS_binarySort O hL b2.kd (bD hU b2.pm) (by rw [sz b2];lia) (by lia) Z2 fun st3 S3 P3 Z3=>?_);simp only [Bool.not_true,Bool.false_eq_true,if_false];have b3:=b2.stp S3;have r3:Runs blt (arrOf st3) (pendingOf st3).toList 0 lo:=by rw [P3];exact r2.out fun j _ j2=>S3.out j (.inl j2)
   have hmm:1<=min (a₀.size-lo) minrun/\lo+min (a₀.size-lo) minrun<=a₀.size:=⟨by lia,by lia⟩
   refine wpS_bind (wpS_get ?_);cases hbk:(pendingOf st3).back? with
   | none=>
    dsimp only;refine wpS_bind (wpS_modify (wpS_pure (rest (min (a₀.size-lo) minrun) (by lia) (by lia) _ ⟨b3.kd,b3.fl,b3.pm⟩ _ ?_ r3 Z3)));show ((pendingOf st3).push (lo,(min (a₀.size-lo) minrun),0)).toList=_;rw [Array.toList_push]
   | some t=>
    obtain ⟨s1,n1',pw1⟩:=t;dsimp only;refine wpS_bind (wpS_mono (wpS_forRange
     (I:=fun y c st'=>c=(none,())/\Bs U kd a₀ st'/\Runs blt (arrOf st') (pendingOf st').toList 0 lo/\∀j,lo<=j->gt (arrOf st') j=gt (arrOf st3) j)
     (Q:=fun c st'=>c=(none,())/\Bs U kd a₀ st'/\Runs blt (arrOf st') (pendingOf st').toList 0 lo/\∀j,lo<=j->gt (arrOf st') j=gt (arrOf st3) j) ?mstep (fun c st' q=>q) ⟨rfl,b3,r3,fun _ _=>rfl⟩) ?mpost)
    case mpost=>
     rintro c st4 ⟨rfl,b4,r4,o4⟩;dsimp only;refine wpS_bind (wpS_modify (wpS_bind (wpS_modify (wpS_pure (rest (min (a₀.size-lo) minrun) (by lia) (by lia) _ ⟨b4.kd,b4.fl,b4.pm⟩ _ ?_ (uY (power' a₀.size (2*s1+n1') (2*s1+n1'+n1'+min (a₀.size-lo) minrun) a₀.size) ((pendingOf st4).size-1) r4) (Z3.out fun j j1 j2=>o4 j j1))))));show (((pendingOf st4).modify _ _).push (lo,(min (a₀.size-lo) minrun),0)).toList=_;rw [Array.toList_push,Array.toList_modify]
    case mstep=>
     rintro y c st4 _ hy ⟨rfl,b4,r4,o4⟩;refine wpS_bind (wpS_get ?_);by_cases hp:(pendingOf st4).size > 1
     ·rw [if_pos hp];obtain ⟨t,ht⟩:∃t,(pendingOf st4)[(pendingOf st4).size-2]?=some t:=⟨_,getElem?_pos _ _ (by lia)⟩
      rw [ht];obtain ⟨t1,t2,older⟩:=t;dsimp only;split
      ·exact wpS_pure ⟨rfl,b4,r4,o4⟩
      ·refine wpS_bind (q_ O hL hU b4 (by lia) r4 (by lia) fun st5 b5 r5 _ o5=>?_);simp only [Bool.not_true,Bool.false_eq_true,if_false];exact wpS_pure ⟨rfl,b5,r5,fun j hj=>(o5 j hj).trans (o4 j hj)⟩
     ·rw [if_neg hp];exact wpS_pure ⟨rfl,b4,r4,o4⟩
  ·rw [if_neg hm];refine wpS_bind (wpS_get ?_);cases hbk:(pendingOf st2).back? with
   | none=>
    dsimp only;refine wpS_bind (wpS_modify (wpS_pure (rest m (by lia) (by lia) _ ⟨b2.kd,b2.fl,b2.pm⟩ _ ?_ r2 Z2)));show ((pendingOf st2).push (lo,m,0)).toList=_;rw [Array.toList_push]
   | some t=>
    obtain ⟨s1,n1',pw1⟩:=t;dsimp only;refine wpS_bind (wpS_mono (wpS_forRange
     (I:=fun y c st'=>c=(none,())/\Bs U kd a₀ st'/\Runs blt (arrOf st') (pendingOf st').toList 0 lo/\∀j,lo<=j->gt (arrOf st') j=gt (arrOf st2) j)
     (Q:=fun c st'=>c=(none,())/\Bs U kd a₀ st'/\Runs blt (arrOf st') (pendingOf st').toList 0 lo/\∀j,lo<=j->gt (arrOf st') j=gt (arrOf st2) j) ?mstep (fun c st' q=>q) ⟨rfl,b2,r2,fun _ _=>rfl⟩) ?mpost)
    case mpost=>
     rintro c st4 ⟨rfl,b4,r4,o4⟩;dsimp only;refine wpS_bind (wpS_modify (wpS_bind (wpS_modify (wpS_pure (rest m (by lia) (by lia) _ ⟨b4.kd,b4.fl,b4.pm⟩ _ ?_ (uY (power' a₀.size (2*s1+n1') (2*s1+n1'+n1'+m) a₀.size) ((pendingOf st4).size-1) r4) (Z2.out fun j j1 j2=>o4 j j1))))));show (((pendingOf st4).modify _ _).push (lo,m,0)).toList=_;rw [Array.toList_push,Array.toList_modify]
    case mstep=>
     rintro y c st4 _ hy ⟨rfl,b4,r4,o4⟩;refine wpS_bind (wpS_get ?_);by_cases hp:(pendingOf st4).size > 1
     ·rw [if_pos hp];obtain ⟨t,ht⟩:∃t,(pendingOf st4)[(pendingOf st4).size-2]?=some t:=⟨_,getElem?_pos _ _ (by lia)⟩
      rw [ht];obtain ⟨t1,t2,older⟩:=t;dsimp only;split
      ·exact wpS_pure ⟨rfl,b4,r4,o4⟩
      ·refine wpS_bind (q_ O hL hU b4 (by lia) r4 (by lia) fun st5 b5 r5 _ o5=>?_);simp only [Bool.not_true,Bool.false_eq_true,if_false];exact wpS_pure ⟨rfl,b5,r5,fun j hj=>(o5 j hj).trans (o4 j hj)⟩
     ·rw [if_neg hp];exact wpS_pure ⟨rfl,b4,r4,o4⟩
 case post=>
  rintro c st1 ⟨rfl,b,r⟩;dsimp only;have hle:=r.le;rw [Array.length_toList] at hle;refine wpS_bind (wpS_mono (wpS_forRange
   (I:=fun x c st'=>c=(none,())/\Bs U kd a₀ st'/\Runs blt (arrOf st') (pendingOf st').toList 0 a₀.size/\((pendingOf st').size+x<=a₀.size\/(pendingOf st').size<=1))
   (Q:=fun c st'=>c=(none,())/\Bs U kd a₀ st'/\Runs blt (arrOf st') (pendingOf st').toList 0 a₀.size/\(pendingOf st').size<=1) ?fstep ?ffin ?finit) ?fpost)
  case finit=>exact ⟨rfl,b,r,.inl (by lia)⟩
  case ffin=>
   rintro c st' ⟨rfl,q1,q2,q3⟩;exact ⟨rfl,q1,q2,by lia⟩
  case fpost=>
   rintro c st' ⟨rfl,q1,q2,q3⟩;refine wpS_pure (h st' q1 ?_)
   match hl:(pendingOf st').toList with
   | []=>rw [hl] at q2;have:0=a₀.size:=q2;lia
   | [(s0,n0,p0)]=>
    rw [hl] at q2;obtain ⟨_,_,z,e⟩:=q2;have e:0+n0=a₀.size:=e;rw [e] at z;exact z
   | _::_::_=>
    have:=congrArg List.length hl;rw [Array.length_toList] at this;simp at this;lia
  case fstep=>
   rintro x c st4 _ hx ⟨rfl,b4,r4,o4⟩;refine wpS_bind (wpS_get ?_);by_cases hp1:(pendingOf st4).size<=1
   ·rw [if_pos hp1];exact wpS_pure ⟨rfl,b4,r4,hp1⟩
   rw [if_neg hp1];refine wpS_bind (q_ O hL hU b4 (Nat.le_refl _) r4 ?hi fun st5 b5 r5 e5 _=>?_)
   case hi=>
    repeat' split
    all_goals lia
   simp only [Bool.not_true,Bool.false_eq_true,if_false];exact wpS_pure ⟨rfl,b5,r5,by lia⟩
end
end TS
end
section
namespace Mi
open PySem
inductive D where
 | uDf|non|bl (b:Bool)|int (i:Int)|str (x:Str)
 | tup (xs:List D)|lst (xs:List D)|dct (kvs:List (D×D))|scr (xs:List D)|fdc (kvs:List (D×D))
 deriving Inhabited
mutual
noncomputable def D.pure:D->Bool
 | .tup xs=>D.a_ xs
 | .lst _=>false
 | .dct _=>false
 | .uDf=>false
 | .scr _=>false
 | .fdc _=>false
 | _=>true
noncomputable def D.a_:List D->Bool
 | []=>true
 | x::xs=>x.pure&&D.a_ xs
end
mutual
noncomputable def eqD:D->D->Bool
 | .non,.non=>true
 | .bl a,.bl b=>a==b
 | .int a,.int b=>a==b
 | .bl a,.int b=>(if a then (1:Int) else 0)==b
 | .int a,.bl b=>a==(if b then (1:Int) else 0)
 | .str a,.str b=>a==b
 | .tup xs,.tup ys=>tK xs ys
 | .lst xs,.lst ys=>tK xs ys
 | _,_=>false
noncomputable def tK:List D->List D->Bool
 | [],[]=>true
 | x::xs,y::ys=>eqD x y&&tK xs ys
 | _,_=>false
end
mutual
noncomputable def D.b7:Nat->D->Bool
 | n+1,.tup xs=>D.gW n xs
 | n+1,.lst xs=>D.gW n xs
 | 0,.tup _=>false
 | 0,.lst _=>false
 | _,.dct _=>false
 | _,.uDf=>false
 | _,.scr _=>false
 | _,.fdc _=>false
 | _,_=>true
noncomputable def D.gW:Nat->List D->Bool
 | _,[]=>true
 | n,x::xs=>D.b7 n x&&D.gW n xs
end
inductive gY where|lt|le|gt|ge
 deriving DecidableEq
noncomputable def gY.int:gY->Int->Int->Bool
 | .lt,a,b=>decide (a<b)|.le,a,b=>decide (a<=b)|.gt,a,b=>decide (b<a)|.ge,a,b=>decide (b<=a)
noncomputable def gY.nat:gY->Nat->Nat->Bool
 | .lt,a,b=>decide (a<b)|.le,a,b=>decide (a<=b)|.gt,a,b=>decide (b<a)|.ge,a,b=>decide (b<=a)
noncomputable def OJ (a b:Str):Bool:=decide (a.cps.toList<b.cps.toList)
noncomputable def gY.str:gY->Str->Str->Bool
 | .lt,a,b=>OJ a b|.le,a,b=>!OJ b a|.gt,a,b=>OJ b a|.ge,a,b=>!OJ a b
mutual
noncomputable def dG (o:gY):D->D->Option Bool
 | .int a,.int b=>some (o.int a b)
 | .str a,.str b=>some (o.str a b)
 | .tup xs,.tup ys=>cV o xs ys
 | _,_=>none
noncomputable def cV (o:gY):List D->List D->Option Bool
 | [],ys=>some (o.nat 0 ys.length)
 | x::xs,[]=>some (o.nat (x::xs).length 0)
 | x::xs,y::ys=>if eqD x y then cV o xs ys else dG o x y
end
inductive Res (α:Type) where
 | ok (a:α)|err (c:Str) (as:List D)|bad
noncomputable def Res.bind {α β:Type}:Res α->(α->Res β)->Res β
 | .ok a,f=>f a
 | .err c as,_=>.err c as
 | .bad,_=>.bad
noncomputable instance:Monad Res where
 pure:=.ok
 bind:=Res.bind
@[simp] theorem Res.aR {α β:Type} (a:α) (f:α->Res β):((Res.ok a) >>= f)=f a:=rfl
@[simp] theorem Res.aE3 {α β:Type} (c:Str) (as:List D) (f:α->Res β):((Res.err c as:Res α) >>= f)=.err c as:=rfl
@[simp] theorem Res.aE4 {α β:Type} (f:α->Res β):((Res.bad:Res α) >>= f)=.bad:=rfl
@[simp] theorem Res.pure_eq {α:Type} (a:α):(pure a:Res α)=.ok a:=rfl
theorem Res.aA7 {α β:Type} {m:Res α} {f:α->Res β} {b:β} (h:(m >>= f)=.ok b):∃a,m=.ok a/\f a=.ok b:=by
 cases m with
 | ok a=>exact ⟨a,rfl,h⟩
 | err c as=>cases h
 | bad=>cases h
noncomputable def Res.ofOpt {α:Type}:Option α->Res α
 | some a=>.ok a
 | none=>.bad
@[simp] theorem Res.aBn {α:Type} (a:α):Res.ofOpt (some a)=.ok a:=rfl
theorem Res.mJ {α:Type} {o:Option α} {a:α} (h:Res.ofOpt o=.ok a):o=some a:=by
 cases o with
 | none=>cases h
 | some b=>cases h;rfl
noncomputable def lim:Nat:=1000000
inductive Bop where|add|sub|mul|fdiv|mod|pow
 deriving DecidableEq
inductive Cop where|eq|ne|ord (o:gY)|isin|notin|isN|notN
 deriving DecidableEq
noncomputable def rA (i:Int):Bool:=decide (-(2 ^ 64)<i)&&decide (i<2 ^ 64)
noncomputable def aW:Bop->D->D->Res D
 | .add,.int a,.int b=>.ok (.int (a+b))
 | .sub,.int a,.int b=>.ok (.int (a-b))
 | .mul,.int a,.int b=>if rA a||rA b then .ok (.int (a*b)) else .bad
 | .fdiv,.int a,.int b=>if decide (0<b)&&decide (b<1073741824) then .ok (.int (a / b)) else .bad
 | .mod,.int a,.int b=>if decide (0<b) then .ok (.int (a % b)) else .bad
 | .pow,.int a,.int b=>if decide (0<=b)&&decide (b<=1000000)&&decide (a.natAbs<2 ^ 64) then .ok (.int (a ^ b.toNat)) else .bad
 | .add,.str a,.str b=>if decide (a.length+b.length<=lim) then .ok (.str (a++b)) else .bad
 | .add,.lst a,.lst b=>if decide (a.length+b.length<=lim)&&D.a_ a&&D.a_ b then .ok (.lst (a++b)) else .bad
 | _,_,_=>.bad
noncomputable def aEs:D->Res Bool
 | .non=>.ok false
 | .bl b=>.ok b
 | .int i=>.ok (i != 0)
 | .str x=>if decide (x.length<=lim) then .ok ((x.length:Int) != 0) else .bad
 | .tup xs=>.ok (!xs.isEmpty)
 | .lst xs=>.ok (!xs.isEmpty)
 | .dct kvs=>.ok (!kvs.isEmpty)
 | .uDf=>.bad
 | .fdc _=>.bad
 | .scr xs=>.ok (!xs.isEmpty)
noncomputable def uZ:D->Bool
 | .int _=>true
 | .str _=>true
 | _=>false
noncomputable def keyOk:D->Bool
 | .int _=>true
 | .str _=>true
 | .tup xs=>xs.all uZ
 | _=>false
noncomputable def isTup:D->Bool
 | .tup _=>true
 | _=>false
noncomputable def cY:List (D×D)->D->Option D
 | [],_=>none
 | (k,v)::r,q=>if eqD k q then some v else cY r q
noncomputable def putD:List (D×D)->D->D->List (D×D)
 | [],q,w=>[(q,w)]
 | (k,v)::r,q,w=>if eqD k q then (k,w)::r else (k,v)::putD r q w
noncomputable def FP (kvs:List (D×D)) (k:D):Bool:=keyOk k&&kvs.all (fun p=>isTup p.1==isTup k)
noncomputable def aY:Nat:=12
noncomputable def bV:Cop->D->D->Res D
 | .eq,a,b=>if a.b7 aY&&b.b7 aY then .ok (.bl (eqD a b)) else .bad
 | .ne,a,b=>if a.b7 aY&&b.b7 aY then .ok (.bl (!eqD a b)) else .bad
 | .ord o,a,b=>if a.b7 aY&&b.b7 aY then (match dG o a b with|some k=>.ok (.bl k)|none=>.bad) else .bad
 | .isin,a,.tup ys=>if a.b7 aY&&D.gW aY ys then .ok (.bl (ys.any fun y=>eqD y a)) else .bad
 | .isin,a,.lst ys=>if a.b7 aY&&D.gW aY ys then .ok (.bl (ys.any fun y=>eqD y a)) else .bad
 | .isin,a,.dct kvs=>if FP kvs a then .ok (.bl (cY kvs a).isSome) else .bad
 | .notin,a,.tup ys=>if a.b7 aY&&D.gW aY ys then .ok (.bl (!(ys.any fun y=>eqD y a))) else .bad
 | .notin,a,.lst ys=>if a.b7 aY&&D.gW aY ys then .ok (.bl (!(ys.any fun y=>eqD y a))) else .bad
 | .notin,a,.dct kvs=>if FP kvs a then .ok (.bl (!(cY kvs a).isSome)) else .bad
 | .isN,.scr _,.non=>.bad
 | .notN,.scr _,.non=>.bad
 | .isN,.fdc _,.non=>.bad
 | .notN,.fdc _,.non=>.bad
 | .isN,.non,.non=>.ok (.bl true)
 | .isN,a,.non=>.ok (.bl false)
 | .notN,.non,.non=>.ok (.bl false)
 | .notN,a,.non=>.ok (.bl true)
 | _,_,_=>.bad
noncomputable def ixD (n:Nat) (i:Int):Option Nat:=if 0<=i then (if i<n then some i.toNat else none) else if -(n:Int)<=i then some (i+n).toNat else none
noncomputable def getD (d i:D):Res D:=
 match d,i with
 | .tup xs,.int i=>Res.ofOpt ((ixD xs.length i).bind fun j=>xs[j]?)
 | .lst xs,.int i=>Res.ofOpt ((ixD xs.length i).bind fun j=>xs[j]?)
 | .scr xs,.int i=>Res.ofOpt ((ixD xs.length i).bind fun j=>xs[j]?)
 | .str x,.int i=>if decide (x.length<=lim) then Res.ofOpt (((ixD x.cps.toList.length i).bind fun j=>x.cps.toList[j]?).map fun c=>D.str ⟨#[c]⟩) else .bad
 | .dct kvs,k=>if keyOk k then Res.ofOpt (cY kvs k) else .bad
 | .fdc kvs,k=>if keyOk k then Res.ofOpt (cY kvs k) else .bad
 | _,_=>.bad
noncomputable def UJ (n d:Nat):Option Int->Nat
 | none=>d
 | some v=>if v<0 then (max (v+(n:Int)) 0).toNat else (min v (n:Int)).toNat
noncomputable def cutD {α:Type} (xs:List α) (lo hi:Option Int):List α:=(xs.drop (UJ xs.length 0 lo)).take (UJ xs.length xs.length hi-UJ xs.length 0 lo)
inductive Ty where|int|str|bool|list|tuple|dict
 deriving DecidableEq
noncomputable def O1:Ty->D->Res Bool
 | _,.uDf=>.bad
 | _,.scr _=>.bad
 | _,.fdc _=>.bad
 | .int,.int _=>.ok true
 | .int,.bl _=>.ok true
 | .bool,.bl _=>.ok true
 | .str,.str _=>.ok true
 | .tuple,.tup _=>.ok true
 | .list,.lst _=>.ok true
 | .dict,.dct _=>.ok true
 | _,_=>.ok false
mutual
noncomputable def D.plain:D->Bool
 | .int _=>true
 | .str _=>true
 | .tup xs=>D.h_ xs
 | _=>false
noncomputable def D.h_:List D->Bool
 | []=>true
 | x::xs=>x.plain&&D.h_ xs
end
mutual
noncomputable def enc:D->List Int
 | .int i=>[0,i]
 | .str x=>1::(x.cps.toList.map (fun (c:Nat)=>(c:Int)+1)++[0])
 | .tup xs=>2::zL xs
 | _=>[]
noncomputable def zL:List D->List Int
 | []=>[0]
 | x::xs=>1::(enc x++zL xs)
end
noncomputable def d_:D->Nat
 | .int _=>1
 | .str _=>2
 | .tup (.int _::_)=>3
 | .tup (.str _::_)=>4
 | .tup (.tup _::_)=>5
 | _=>0
noncomputable def bF (xs:List D):Bool:=xs.all fun a=>a.plain&&a.b7 aY&&d_ a != 0&&d_ a==d_ (xs.headD .non)&&xs.all fun b=>(dG .lt a b).isSome
noncomputable def leE (a b:D):Bool:=!decide (enc b<enc a)
noncomputable def jC (xs:List D):List D:=xs.mergeSort leE
noncomputable def iB (i:Int):Bool:=decide (-(2 ^ 62)<=i)&&decide (i<2 ^ 62)
noncomputable def asB:D->Res Bool
 | .bl b=>.ok b
 | _=>.bad
noncomputable def asI:D->Res Int
 | .int i=>.ok i
 | _=>.bad
inductive Fl where
 | nx (ρ:List D)|rt (d:D)|bk (ρ:List D)|ct (ρ:List D)
noncomputable def YT:Fl->Res D
 | .rt d=>.ok d
 | .nx _=>.ok .non
 | _=>.bad
noncomputable abbrev FE:=List D->Res D
noncomputable abbrev FT:=List D->Res Bool
noncomputable abbrev FA:=List D->Res (List D)
noncomputable def aF (i:Nat):FE:=fun ρ=>match ρ.getD i .uDf with|.uDf=>.bad|d=>.ok d
noncomputable def bC (d:D):FE:=fun _=>.ok d
noncomputable def b2 (f:D->D->Res D) (a b:FE):FE:=fun ρ=>do let x <- a ρ;let y <- b ρ;f x y
noncomputable def b1 (f:D->Res D) (a:FE):FE:=fun ρ=>do let x <- a ρ;f x
noncomputable def bTB (a:FE):FT:=fun ρ=>do let x <- a ρ;asB x
noncomputable def pZ (a:FT):FT:=fun ρ=>do let x <- a ρ;pure (!x)
noncomputable def JS (a b:FT):FT:=fun ρ=>do let x <- a ρ;if x then b ρ else pure false
noncomputable def bOr (a b:FT):FT:=fun ρ=>do let x <- a ρ;if x then pure true else b ρ
noncomputable def O2 (a:FE):FE:=fun ρ=>do let x <- a ρ;let k <- asB x;pure (.bl (!k))
noncomputable def p6 (a b:FE):FE:=fun ρ=>do let x <- a ρ;let k <- asB x;if k then b ρ else pure (.bl false)
noncomputable def bCh (f g:D->D->Res D) (a b c:FE):FE:=fun ρ=>do let x <- a ρ;let y <- b ρ;let z <- f x y;let k <- asB z;if k then (do let u <- c ρ;g y u) else pure (.bl false)
noncomputable def aV:FA:=fun _=>.ok []
noncomputable def aC (a:FE) (b:FA):FA:=fun ρ=>do let x <- a ρ;let xs <- b ρ;pure (x::xs)
noncomputable def dM (a:FA):FE:=fun ρ=>do let xs <- a ρ;if decide (xs.length<=lim) then pure (.tup xs) else .bad
noncomputable def aBo (a:FA):FE:=fun ρ=>do let xs <- a ρ;if decide (xs.length<=lim) then pure (.lst xs) else .bad
noncomputable def aO (f:List D->Res D) (a:FA):FE:=fun ρ=>do let xs <- a ρ;f xs
noncomputable def tL (a:FE):List D->Res (Option Int):=fun ρ=>do let x <- a ρ;let i <- asI x;pure (some i)
noncomputable def aCo:List D->Res (Option Int):=fun _=>.ok none
noncomputable def aFm:D->Res Bool
 | .dct _=>.bad
 | .scr _=>.bad
 | .fdc _=>.bad
 | d=>aEs d
noncomputable def bTr (a:FE):FT:=fun ρ=>do let x <- a ρ;aFm x
noncomputable def O3:D->Res D
 | .int i=>.ok (.int (-i))
 | _=>.bad
noncomputable def VR:D->Option Int->Option Int->Res D
 | .lst xs,lo,hi=>if D.a_ xs then .ok (.lst (cutD xs lo hi)) else .bad
 | .scr xs,lo,hi=>if D.a_ xs then .ok (.lst (cutD xs lo hi)) else .bad
 | .tup xs,lo,hi=>if !D.a_ xs||decide (UJ xs.length 0 lo=0/\UJ xs.length xs.length hi=xs.length) then .bad else .ok (.tup (cutD xs lo hi))
 | _,_,_=>.bad
noncomputable def VV (a:FE) (lo hi:List D->Res (Option Int)):FE:=fun ρ=>do let x <- a ρ;let l <- lo ρ;let h <- hi ρ;VR x l h
noncomputable def j_ (o:gY):List D->Res D
 | []=>.bad
 | x::xs=>if ((x::xs).all fun a=>a.b7 aY&&(x::xs).all fun b=>(dG o a b).isSome) then .ok (xs.foldl (fun m y=>if (dG o y m).getD false then y else m) x) else .bad
noncomputable def btD (o:gY) (ds:List D) (i j:Nat):Bool:=(dG o (ds.getD i .non) (ds.getD j .non)).getD false
noncomputable def fO (o:gY):List D->Res D
 | [.lst xs]=>j_ o xs
 | [.tup xs]=>j_ o xs
 | [a,b]=>j_ o [a,b]
 | _=>.bad
noncomputable def fM:List D->Res D
 | [.tup xs]=>.ok (.int xs.length)
 | [.lst xs]=>.ok (.int xs.length)
 | [.scr xs]=>.ok (.int xs.length)
 | [.str x]=>if decide (x.length<=lim) then .ok (.int x.length) else .bad
 | _=>.bad
noncomputable def eE (kvs:List (D×D)):List D:=kvs.map (·.1)
noncomputable def V0:List D->Res D
 | [.tup xs]=>if D.a_ xs then .ok (.lst xs) else .bad
 | [.lst xs]=>if D.a_ xs then .ok (.lst xs) else .bad
 | [.dct kvs]=>if kvs.all (fun p=>!isTup p.1) then .ok (.lst (eE kvs)) else .bad
 | _=>.bad
noncomputable def rB:List D->Res D
 | [.tup xs]=>.ok (.tup xs)
 | [.lst xs]=>.ok (.tup xs)
 | _=>.bad
noncomputable def lC:List D->Res D
 | [.lst xs]=>if bF xs then .ok (.lst (jC xs)) else .bad
 | _=>.bad
noncomputable def Ty.nm:Ty->String
 | .int => "int" | .str => "str" | .bool => "bool" | .list => "list" | .tuple => "tuple" | .dict => "dict"
noncomputable def n6 (t:Ty) (d:D):Res D:=do let k <- O1 t d;pure (.bl k)
noncomputable def cW (n:Nat) (f:List D->Res D):List D->Res D:=fun ds=>if decide (ds.length=n) then f ds else .bad
noncomputable abbrev FI:=List D->Res (List D×Bool)
noncomputable def rC:D->Res (List D)
 | .lst xs=>.ok xs
 | .tup xs=>.ok xs
 | _=>.bad
noncomputable def dJ (a:FE) (fr:Bool):FI:=fun ρ=>do let x <- a ρ;let xs <- rC x;pure (xs,fr||x.pure)
noncomputable def mZ:List D->Res (List D×Bool)
 | [.int n]=>if iB n then .ok ((List.range n.toNat).map fun (k:Nat)=>D.int (0+(k:Int)),true) else .bad
 | _=>.bad
noncomputable def V1:List D->Res (List D×Bool)
 | [.int a,.int b]=>if iB a&&iB b then .ok ((List.range (b-a).toNat).map fun (k:Nat)=>D.int (a+(k:Int)),true) else .bad
 | _=>.bad
noncomputable def jD (f:FA) (g:List D->Res (List D×Bool)):FI:=fun ρ=>do let xs <- f ρ;g xs
noncomputable def BK (n:Nat) (ρ:List D):List D:=(List.range n).map fun i=>ρ.getD i .uDf
noncomputable def j7:D->Res (List D):=fun d=>.ok [d]
noncomputable def YW (m:Nat):D->Res (List D)
 | .tup ds=>if decide (ds.length=m) then .ok ds else .bad
 | _=>.bad
noncomputable def jE (n:Nat) (t:D->Res (List D)) (c:FT) (f:FE) (k:Bool) (ρ:List D) (acc:List D) (x:D):Res (List D):=do
 let bs <- t x
 let ok <- c (BK n ρ++bs)
 if ok then (do
  let y <- f (BK n ρ++bs)
  if k||y.pure then pure (acc++[y]) else .bad)
 else pure acc
noncomputable def gD (g:List D->D->Res (List D)):List D->List D->Res (List D)
 | acc,[]=>.ok acc
 | acc,x::xs=>do let a <- g acc x;gD g a xs
noncomputable def eU (n:Nat) (it:FI) (t:D->Res (List D)) (c:FT) (f:FE) (k:Bool):FE:=fun ρ=>do
 let xs <- it ρ
 if decide (xs.1.length<=lim) then (do
  let ys <- gD (jE n t c f k ρ) [] xs.1
  pure (.lst ys)) else .bad
noncomputable def lD:FT:=fun _=>.ok true
noncomputable abbrev FS:=List D->Res Fl
noncomputable def inner:D->Bool
 | .lst xs=>D.a_ xs
 | .dct kvs=>D.a_ (kvs.map (·.2))
 | _=>false
noncomputable def jO:FS:=fun ρ=>.ok (.nx ρ)
noncomputable def bW (f g:FS):FS:=fun ρ=>do
 let r <- f ρ
 match r with
 | .nx ρ'=>g ρ'
 | r=>.ok r
noncomputable def cA (o:Bool) (i:Nat) (f:FE) (k:Bool):FS:=fun ρ=>do
 let d <- f ρ
 if (if o then k&&inner d else k||d.pure) then .ok (.nx (ρ.set i d)) else .bad
noncomputable def sAl (i j:Nat):FS:=fun ρ=>do
 let d <- aF j ρ
 .ok (.nx (ρ.set i d))
noncomputable def sIf (c:FT) (f g:FS):FS:=fun ρ=>do
 let k <- c ρ
 if k then f ρ else g ρ
noncomputable def j8 (f:FE) (k:Bool):FS:=fun ρ=>do
 let d <- f ρ
 if k||d.pure then .ok (.rt d) else .bad
noncomputable def O4 (i:Nat):FS:=fun ρ=>do
 let d <- aF i ρ
 .ok (.rt d)
noncomputable def FQ (i:Nat) (f:FE):FS:=fun ρ=>do
 let d <- f ρ
 match ρ.getD i .uDf with
 | .lst xs=>if decide (xs.length<lim)&&d.pure then .ok (.nx (ρ.set i (.lst (xs++[d])))) else .bad
 | _=>.bad
noncomputable def aCp (i:Nat) (f:FE) (g:FE):FS:=fun ρ=>do
 let j <- f ρ
 let d <- g ρ
 match ρ.getD i .uDf,j with
 | .lst xs,.int j=>if decide (xs.length<lim)&&d.pure&&decide (0<=j)&&decide (j<=xs.length) then .ok (.nx (ρ.set i (.lst (xs.take j.toNat++d::xs.drop j.toNat)))) else .bad
 | _,_=>.bad
noncomputable def BL (i:Nat) (f:FE) (g:FE):FS:=fun ρ=>do
 let d <- g ρ
 let k <- f ρ
 match ρ.getD i .uDf with
 | .dct kvs=>if decide (kvs.length<lim)&&FP kvs k&&d.pure then .ok (.nx (ρ.set i (.dct (putD kvs k d)))) else .bad
 | _=>.bad
noncomputable def tg1 (i:Nat):D->List D->Res (List D):=fun d ρ=>.ok (ρ.set i d)
noncomputable def O5:List Nat->List D->List D->List D
 | i::is,d::ds,ρ=>O5 is ds (ρ.set i d)
 | _,_,ρ=>ρ
noncomputable def tgN (is:List Nat):D->List D->Res (List D)
 | .tup ds,ρ=>if decide (ds.length=is.length) then .ok (O5 is ds ρ) else .bad
 | _,_=>.bad
noncomputable def n8 (t:D->List D->Res (List D)) (body:FS):List D->List D->Res Fl
 | [],ρ=>.ok (.nx ρ)
 | x::xs,ρ=>do
  let ρ1 <- t x ρ
  let r <- body ρ1
  match r with
  | .nx ρ'=>n8 t body xs ρ'
  | .ct ρ'=>n8 t body xs ρ'
  | .bk ρ'=>.ok (.nx ρ')
  | .rt d=>.ok (.rt d)
noncomputable def zM (it:FI) (t:D->List D->Res (List D)) (body:FS):FS:=fun ρ=>do
 let xs <- it ρ
 if xs.2 then n8 t body xs.1 ρ else .bad
noncomputable def O6 (i:Nat) (t:D->List D->Res (List D)) (body:FS):FS:=fun ρ=>do
 let d <- aF i ρ
 let xs <- rC d
 n8 t body xs ρ
noncomputable def fnS (n m:Nat) (f:FS):List D->Res D:=fun ds=>do
 let r <- f (ds++List.replicate (m-n) .uDf)
 YT r
end Mi
end
section
namespace Mi
open PySem
mutual
theorem YX:∀(a b:D),a.plain=true->b.plain=true->eqD a b=true->a=b
 | .int i,.int j,_,_,h=>by rw [eqD] at h;rw [eq_of_beq h]
 | .str i,.str j,_,_,h=>by rw [eqD] at h;rw [eq_of_beq h]
 | .tup xs,.tup ys,h1,h2,h=>by
  rw [D.plain] at h1 h2;rw [eqD] at h;rw [O7 xs ys h1 h2 h]
 | .int _,.str _,_,_,h=>by simp [eqD] at h
 | .int _,.tup _,_,_,h=>by simp [eqD] at h
 | .str _,.int _,_,_,h=>by simp [eqD] at h
 | .str _,.tup _,_,_,h=>by simp [eqD] at h
 | .tup _,.int _,_,_,h=>by simp [eqD] at h
 | .tup _,.str _,_,_,h=>by simp [eqD] at h
 | .uDf,_,h,_,_=>by simp [D.plain] at h
 | .scr _,_,h,_,_=>by simp [D.plain] at h
 | .non,_,h,_,_=>by simp [D.plain] at h
 | .bl _,_,h,_,_=>by simp [D.plain] at h
 | .lst _,_,h,_,_=>by simp [D.plain] at h
 | .dct _,_,h,_,_=>by simp [D.plain] at h
 | .int _,.uDf,_,h,_=>by simp [D.plain] at h
 | .int _,.scr _,_,h,_=>by simp [D.plain] at h
 | .int _,.non,_,h,_=>by simp [D.plain] at h
 | .int _,.bl _,_,h,_=>by simp [D.plain] at h
 | .int _,.lst _,_,h,_=>by simp [D.plain] at h
 | .int _,.dct _,_,h,_=>by simp [D.plain] at h
 | .str _,.uDf,_,h,_=>by simp [D.plain] at h
 | .str _,.scr _,_,h,_=>by simp [D.plain] at h
 | .str _,.non,_,h,_=>by simp [D.plain] at h
 | .str _,.bl _,_,h,_=>by simp [D.plain] at h
 | .str _,.lst _,_,h,_=>by simp [D.plain] at h
 | .str _,.dct _,_,h,_=>by simp [D.plain] at h
 | .tup _,.uDf,_,h,_=>by simp [D.plain] at h
 | .tup _,.scr _,_,h,_=>by simp [D.plain] at h
 | .tup _,.non,_,h,_=>by simp [D.plain] at h
 | .tup _,.bl _,_,h,_=>by simp [D.plain] at h
 | .tup _,.lst _,_,h,_=>by simp [D.plain] at h
 | .tup _,.dct _,_,h,_=>by simp [D.plain] at h
theorem O7:∀(a b:List D),D.h_ a=true->D.h_ b=true->tK a b=true->a=b
 | [],[],_,_,_=>rfl
 | x::xs,y::ys,h1,h2,h=>by
  rw [D.h_,Bool.and_eq_true] at h1 h2;rw [tK,Bool.and_eq_true] at h;rw [YX x y h1.1 h2.1 h.1,O7 xs ys h1.2 h2.2 h.2]
 | [],_::_,_,_,h=>by simp [tK] at h
 | _::_,[],_,_,h=>by simp [tK] at h
end
mutual
theorem FW:∀(a:D),a.plain=true->eqD a a=true
 | .int i,_=>by simp [eqD]
 | .str i,_=>by simp [eqD]
 | .tup xs,h=>by rw [D.plain] at h;rw [eqD];exact xJ xs h
 | .uDf,h=>by simp [D.plain] at h
 | .scr _,h=>by simp [D.plain] at h
 | .non,h=>by simp [D.plain] at h
 | .bl _,h=>by simp [D.plain] at h
 | .lst _,h=>by simp [D.plain] at h
 | .dct _,h=>by simp [D.plain] at h
theorem xJ:∀(a:List D),D.h_ a=true->tK a a=true
 | [],_=>rfl
 | x::xs,h=>by
  rw [D.h_,Bool.and_eq_true] at h;rw [tK,FW x h.1,xJ xs h.2];rfl
end
theorem O8:∀(a b:List Nat) (r t:List Int),(a.map (fun (c:Nat)=>(c:Int)+1)++[0])++r=(b.map (fun (c:Nat)=>(c:Int)+1)++[0])++t->a=b/\r=t
 | [],[],r,t,h=>by simpa using h
 | [],c::b,r,t,h=>by
  simp only [List.map_nil,List.nil_append,List.cons_append,List.map_cons,List.cons.injEq] at h;lia
 | c::a,[],r,t,h=>by
  simp only [List.map_nil,List.nil_append,List.cons_append,List.map_cons,List.cons.injEq] at h;lia
 | c::a,d::b,r,t,h=>by
  simp only [List.cons_append,List.map_cons,List.cons.injEq] at h;obtain ⟨e1,e2⟩:=O8 a b r t h.2;exact ⟨by rw [e1,show c=d by lia],e2⟩
mutual
theorem u5:∀(a b:D) (r t:List Int),a.plain=true->b.plain=true->enc a++r=enc b++t->a=b/\r=t
 | .int i,b,r,t,_,h2,h=>by
  cases b <;> simp only [enc,D.plain,Bool.false_eq_true,List.cons_append,List.cons.injEq,List.nil_append] at h h2 <;> try omega
  ·exact ⟨by rw [h.2.1],h.2.2⟩
 | .str x,b,r,t,_,h2,h=>by
  cases b with
  | str y=>
   simp only [enc,List.cons_append,List.cons.injEq,true_and] at h;obtain ⟨e1,e2⟩:=O8 _ _ _ _ h;refine ⟨?_,e2⟩;cases x;cases y;simp only [] at e1
   congr 2
   exact Array.toList_inj.mp e1
  | _=>simp [enc,D.plain] at h h2
 | .tup xs,b,r,t,h1,h2,h=>by
  cases b with
  | tup ys=>
   rw [D.plain] at h1 h2;simp only [enc,List.cons_append,List.cons.injEq,true_and] at h;obtain ⟨e1,e2⟩:=FZ xs ys r t h1 h2 h;exact ⟨by rw [e1],e2⟩
  | _=>simp [enc,D.plain] at h h2
 | .uDf,_,_,_,h,_,_=>by simp [D.plain] at h
 | .scr _,_,_,_,h,_,_=>by simp [D.plain] at h
 | .non,_,_,_,h,_,_=>by simp [D.plain] at h
 | .bl _,_,_,_,h,_,_=>by simp [D.plain] at h
 | .lst _,_,_,_,h,_,_=>by simp [D.plain] at h
 | .dct _,_,_,_,h,_,_=>by simp [D.plain] at h
theorem FZ:∀(a b:List D) (r t:List Int),D.h_ a=true->D.h_ b=true->zL a++r=zL b++t->a=b/\r=t
 | [],[],r,t,_,_,h=>by simpa [zL] using h
 | [],_::_,r,t,_,_,h=>by simp [zL] at h
 | _::_,[],r,t,_,_,h=>by simp [zL] at h
 | x::xs,y::ys,r,t,h1,h2,h=>by
  rw [D.h_,Bool.and_eq_true] at h1 h2;simp only [zL,List.cons_append,List.cons.injEq,true_and,List.append_assoc] at h;obtain ⟨e1,e2⟩:=u5 x y _ _ h1.1 h2.1 h;obtain ⟨e3,e4⟩:=FZ xs ys r t h1.2 h2.2 e2;exact ⟨by rw [e1,e3],e4⟩
end
theorem aA8 {a b:D} (h1:a.plain=true) (h2:b.plain=true) (h:enc a=enc b):a=b:=(u5 a b [] [] h1 h2 (by rw [h])).1
theorem BP (p:List Int) (r t:List Int):p++r<p++t↔r<t:=by
 induction p with
 | nil=>rfl
 | cons x p ih=>rw [List.cons_append,List.cons_append,List.cons_lt_cons_iff];simp [ih]
theorem YZ:∀(u v r t:List Int),(∀z,u++z≠v)->(∀z,v++z≠u)->(u++r<v++t↔u<v)
 | [],v,_,_,h,_=>absurd rfl (h v)
 | u,[],_,_,_,h=>absurd rfl (h u)
 | x::u,y::v,r,t,h1,h2=>by
  rw [List.cons_append,List.cons_append,List.cons_lt_cons_iff,List.cons_lt_cons_iff];by_cases e:x=y
  ·subst e;have:=YZ u v r t (fun z hz=>h1 z (by rw [List.cons_append,hz])) (fun z hz=>h2 z (by rw [List.cons_append,hz]));simp [this]
  ·simp [e]
theorem O9:∀(a b:List Nat),(a.map (fun (c:Nat)=>(c:Int)+1)++[0]<b.map (fun (c:Nat)=>(c:Int)+1)++[0])↔a<b
 | [],[]=>by simp
 | [],c::b=>by
  simp only [List.map_nil,List.nil_append,List.map_cons,List.cons_append,List.cons_lt_cons_iff,List.nil_lt_cons,iff_true]
  left;lia
 | c::a,[]=>by
  simp only [List.map_nil,List.nil_append,List.map_cons,List.cons_append,List.cons_lt_cons_iff,List.not_lt_nil,iff_false,not_or,not_and];exact ⟨by lia,fun h=>by lia⟩
 | c::a,d::b=>by
  simp only [List.map_cons,List.cons_append,List.cons_lt_cons_iff,O9 a b];constructor
  ·rintro (h|⟨h,k⟩)
   ·left;lia
   ·right;exact ⟨by lia,k⟩
  ·rintro (h|⟨h,k⟩)
   ·left;lia
   ·right;exact ⟨by lia,k⟩
mutual
theorem u_:∀(a b:D) (k:Bool),a.plain=true->b.plain=true->dG .lt a b=some k->k=decide (enc a<enc b)
 | .int i,.int j,k,_,_,h=>by
  rw [dG] at h;rw [<-Option.some.inj h];simp [enc,gY.int,List.cons_lt_cons_iff]
 | .str x,.str y,k,_,_,h=>by
  rw [dG] at h;rw [<-Option.some.inj h];have:=O9 x.cps.toList y.cps.toList;simp only [enc,gY.str,OJ,List.cons_lt_cons_iff,true_and];simp [this]
 | .tup xs,.tup ys,k,h1,h2,h=>by
  rw [D.plain] at h1 h2;rw [dG] at h;rw [F_ xs ys k h1 h2 h];simp [enc,List.cons_lt_cons_iff]
 | .int _,.str _,_,_,_,h=>by simp [dG] at h
 | .int _,.tup _,_,_,_,h=>by simp [dG] at h
 | .int _,.uDf,_,_,_,h=>by simp [dG] at h
 | .int _,.scr _,_,_,_,h=>by simp [dG] at h
 | .int _,.non,_,_,_,h=>by simp [dG] at h
 | .int _,.bl _,_,_,_,h=>by simp [dG] at h
 | .int _,.lst _,_,_,_,h=>by simp [dG] at h
 | .int _,.dct _,_,_,_,h=>by simp [dG] at h
 | .str _,.int _,_,_,_,h=>by simp [dG] at h
 | .str _,.tup _,_,_,_,h=>by simp [dG] at h
 | .str _,.uDf,_,_,_,h=>by simp [dG] at h
 | .str _,.scr _,_,_,_,h=>by simp [dG] at h
 | .str _,.non,_,_,_,h=>by simp [dG] at h
 | .str _,.bl _,_,_,_,h=>by simp [dG] at h
 | .str _,.lst _,_,_,_,h=>by simp [dG] at h
 | .str _,.dct _,_,_,_,h=>by simp [dG] at h
 | .tup _,.int _,_,_,_,h=>by simp [dG] at h
 | .tup _,.str _,_,_,_,h=>by simp [dG] at h
 | .tup _,.uDf,_,_,_,h=>by simp [dG] at h
 | .tup _,.scr _,_,_,_,h=>by simp [dG] at h
 | .tup _,.non,_,_,_,h=>by simp [dG] at h
 | .tup _,.bl _,_,_,_,h=>by simp [dG] at h
 | .tup _,.lst _,_,_,_,h=>by simp [dG] at h
 | .tup _,.dct _,_,_,_,h=>by simp [dG] at h
 | .uDf,_,_,h,_,_=>by simp [D.plain] at h
 | .scr _,_,_,h,_,_=>by simp [D.plain] at h
 | .non,_,_,h,_,_=>by simp [D.plain] at h
 | .bl _,_,_,h,_,_=>by simp [D.plain] at h
 | .lst _,_,_,h,_,_=>by simp [D.plain] at h
 | .dct _,_,_,h,_,_=>by simp [D.plain] at h
theorem F_:∀(a b:List D) (k:Bool),D.h_ a=true->D.h_ b=true->cV .lt a b=some k->k=decide (zL a<zL b)
 | [],[],k,_,_,h=>by rw [cV] at h;rw [<-Option.some.inj h];simp [zL,gY.nat]
 | [],y::ys,k,_,_,h=>by rw [cV] at h;rw [<-Option.some.inj h];simp [zL,gY.nat,List.cons_lt_cons_iff]
 | x::xs,[],k,_,_,h=>by rw [cV] at h;rw [<-Option.some.inj h];simp [zL,gY.nat,List.cons_lt_cons_iff]
 | x::xs,y::ys,k,h1,h2,h=>by
  rw [D.h_,Bool.and_eq_true] at h1 h2;rw [cV] at h;simp only [zL,List.cons_lt_cons_iff,true_and,Int.lt_irrefl,false_or];cases e:eqD x y with
  | true=>
   rw [e,if_pos rfl] at h;have:=YX x y h1.1 h2.1 e;subst this;rw [F_ xs ys k h1.2 h2.2 h];simp [BP]
  | false=>
   rw [e,if_neg (by simp)] at h;rw [u_ x y k h1.1 h2.1 h];have hne:x≠y:=fun z=>by subst z;rw [FW x h1.1] at e;cases e
   have:=YZ (enc x) (enc y) (zL xs) (zL ys) (fun z hz=>hne (u5 x y z [] h1.1 h2.1 (by simpa using hz)).1) (fun z hz=>hne (u5 y x z [] h2.1 h1.1 (by simpa using hz)).1.symm);simp [this]
end
theorem O_ (a b c:D) (h1:leE a b=true) (h2:leE b c=true):leE a c=true:=by
 simp only [leE,Bool.not_eq_true',decide_eq_false_iff_not] at *;exact fun h=>by
  rcases (inferInstance:Std.Trichotomous (α:=List Int) (·<·)) with _
  exact h1 (List.lt_of_le_of_lt (List.not_lt.mp h2) h)
theorem PB (a b:D):(leE a b||leE b a)=true:=by
 simp only [leE,Bool.or_eq_true,Bool.not_eq_true',decide_eq_false_iff_not];by_cases h:enc b<enc a
 ·right;exact List.lt_asymm h
 ·left;exact h
theorem dW (ds:List D):(jC ds).Perm ds:=List.mergeSort_perm ds leE
theorem iT (ds:List D):(jC ds).Pairwise fun a b=>leE a b=true:=List.pairwise_mergeSort (fun a b c=>O_ a b c) (fun a b=>PB a b) ds
theorem rD {ds es:List D} (hp:∀d∈ds,d.plain=true) (h:ds.Perm es) (h1:ds.Pairwise fun a b=>leE a b=true) (h2:es.Pairwise fun a b=>leE a b=true):ds=es:=by
 refine List.Perm.eq_of_pairwise (le:=fun a b=>leE a b=true) (fun a b ha hb h1 h2=>?_) h1 h2 h;simp only [leE,Bool.not_eq_true',decide_eq_false_iff_not] at h1 h2;exact aA8 (hp a ha) (hp b (h.mem_iff.mpr hb)) (List.le_antisymm h1 h2)
end Mi
end
section
namespace Mi
open PySem L2
class KFrag where
 K:PySem.W.Frag
variable [KFrag]
noncomputable def aA9 (H:Hp) (a:Addr) (xs:List V):Prop:=(∃o,H a=some (.frz o (.lst xs)))\/
 ∃(o:Obj) (its:Array Value) (n:Nat),KFrag.K.lookup a=some o/\o.cls=.type "list"/\o.dict=none/\o.data=.seq its n/\its.size<=sizeLine/\Vals xs its.toList
theorem aA9.sq {H:Hp} {a:Addr} {xs:List V} {K:PySem.W.Frag} (h:aA9 H a xs) (hK:KFrag.K=K):SqL K H a xs:=by
 subst hK;rcases h with ⟨o,h⟩|h
 ·exact .inl (.inr ⟨o,h⟩)
 ·exact .inr h
noncomputable def kD:Key->D
 | .inl i=>.int i
 | .inr x=>.str x
noncomputable def PJ:HO->Bool
 | .lst _=>true
 | .dK _=>true
 | .dT _=>true
 | _=>false
mutual
inductive Rep (P:Addr->Prop) (H:Hp):V->D->Prop
 | non:Rep P H .non .non
 | bl (b:Bool):Rep P H (.bl b) (.bl b)
 | int (i:Int):Rep P H (.int i) (.int i)
 | str (x:Str):Rep P H (.str x) (.str x)
 | tup {a:Addr} {xs:List V} {ds:List D}:H a=some (.tup xs)->bN P H xs ds->Rep P H (.ref a) (.tup ds)
 | lst {a:Addr} {xs:List V} {ds:List D}:H a=some (.lst xs)->P a->bN P H xs ds->Rep P H (.ref a) (.lst ds)
 | frz {a:Addr} {xs:List V} {ds:List D}:aA9 H a xs->bN P H xs ds->Rep P H (.ref a) (.scr ds)
 | dK {a:Addr} {kvs:List (Key×V)} {ds:List (D×D)}:H a=some (.dK kvs)->P a->m5 P H kvs ds->(kvs.map (·.1)).Nodup->Rep P H (.ref a) (.dct ds)
 | dT {a:Addr} {kvs:List (List Key×V)} {ds:List (D×D)}:H a=some (.dT kvs)->P a->kI P H kvs ds->(kvs.map (·.1)).Nodup->Rep P H (.ref a) (.dct ds)
 | fdK {a:Addr} {o:Obj} {kvs:List (Key×V)} {ds:List (D×D)}:H a=some (.frz o (.dK kvs))->m5 P H kvs ds->(kvs.map (·.1)).Nodup->Rep P H (.ref a) (.fdc ds)
 | fdT {a:Addr} {o:Obj} {kvs:List (List Key×V)} {ds:List (D×D)}:H a=some (.frz o (.dT kvs))->kI P H kvs ds->(kvs.map (·.1)).Nodup->Rep P H (.ref a) (.fdc ds)
inductive bN (P:Addr->Prop) (H:Hp):List V->List D->Prop
 | nil:bN P H [] []
 | cons {v:V} {d:D} {vs:List V} {ds:List D}:Rep P H v d->bN P H vs ds->bN P H (v::vs) (d::ds)
inductive m5 (P:Addr->Prop) (H:Hp):List (Key×V)->List (D×D)->Prop
 | nil:m5 P H [] []
 | cons {k:Key} {v:V} {d:D} {r:List (Key×V)} {ds:List (D×D)}:Rep P H v d->m5 P H r ds->m5 P H ((k,v)::r) ((kD k,d)::ds)
inductive kI (P:Addr->Prop) (H:Hp):List (List Key×V)->List (D×D)->Prop
 | nil:kI P H [] []
 | cons {k:List Key} {v:V} {d:D} {r:List (List Key×V)} {ds:List (D×D)}:Rep P H v d->kI P H r ds->kI P H ((k,v)::r) ((.tup (k.map kD),d)::ds)
end
noncomputable def V2 (P:Addr->Prop) (H H':Hp):Prop:=∀a o,H a=some o->(P a\/PJ o=false)->H' a=some o
theorem V2.same {P:Addr->Prop} {H H':Hp} (h:cJ H H'):V2 P H H':=fun a o e _=>h a o e
mutual
theorem Rep.keep {P P':Addr->Prop} {H H':Hp} (k:V2 P H H') (m:∀a,P a->P' a):∀{v:V} {d:D},Rep P H v d->Rep P' H' v d
 | _,_,.non=>.non
 | _,_,.bl b=>.bl b
 | _,_,.int i=>.int i
 | _,_,.str x=>.str x
 | _,_,.tup e r=>.tup (k _ _ e (.inr rfl)) (bN.keep k m r)
 | _,_,.lst e p r=>.lst (k _ _ e (.inl p)) (m _ p) (bN.keep k m r)
 | _,_,.frz e r=>.frz (e.imp (fun ⟨o,e⟩=>⟨o,k _ _ e (.inr rfl)⟩) id) (bN.keep k m r)
 | _,_,.dK e p r n=>.dK (k _ _ e (.inl p)) (m _ p) (m5.keep k m r) n
 | _,_,.dT e p r n=>.dT (k _ _ e (.inl p)) (m _ p) (kI.keep k m r) n
 | _,_,.fdK e r n=>.fdK (k _ _ e (.inr rfl)) (m5.keep k m r) n
 | _,_,.fdT e r n=>.fdT (k _ _ e (.inr rfl)) (kI.keep k m r) n
theorem bN.keep {P P':Addr->Prop} {H H':Hp} (k:V2 P H H') (m:∀a,P a->P' a):∀{v:List V} {d:List D},bN P H v d->bN P' H' v d
 | _,_,.nil=>.nil
 | _,_,.cons r t=>.cons (Rep.keep k m r) (bN.keep k m t)
theorem m5.keep {P P':Addr->Prop} {H H':Hp} (k:V2 P H H') (m:∀a,P a->P' a):∀{v:List (Key×V)} {d:List (D×D)},m5 P H v d->m5 P' H' v d
 | _,_,.nil=>.nil
 | _,_,.cons r t=>.cons (Rep.keep k m r) (m5.keep k m t)
theorem kI.keep {P P':Addr->Prop} {H H':Hp} (k:V2 P H H') (m:∀a,P a->P' a):∀{v:List (List Key×V)} {d:List (D×D)},kI P H v d->kI P' H' v d
 | _,_,.nil=>.nil
 | _,_,.cons r t=>.cons (Rep.keep k m r) (kI.keep k m t)
end
theorem Rep.mono {P P':Addr->Prop} {H:Hp} {v:V} {d:D} (r:Rep P H v d) (m:∀a,P a->P' a):Rep P' H v d:=r.keep (fun _ _ e _=>e) m
theorem bN.mono {P P':Addr->Prop} {H:Hp} {v:List V} {d:List D} (r:bN P H v d) (m:∀a,P a->P' a):bN P' H v d:=r.keep (fun _ _ e _=>e) m
theorem Rep.same {P:Addr->Prop} {H H':Hp} {v:V} {d:D} (r:Rep P H v d) (s:cJ H H'):Rep P H' v d:=r.keep (.same s) fun _ h=>h
theorem bN.same {P:Addr->Prop} {H H':Hp} {v:List V} {d:List D} (r:bN P H v d) (s:cJ H H'):bN P H' v d:=r.keep (.same s) fun _ h=>h
mutual
theorem Rep.bY {P P':Addr->Prop} {H:Hp}:∀{v:V} {d:D},Rep P H v d->d.pure=true->Rep P' H v d
 | _,_,.non,_=>.non
 | _,_,.bl b,_=>.bl b
 | _,_,.int i,_=>.int i
 | _,_,.str x,_=>.str x
 | _,_,.tup e r,h=>.tup e (bN.bY r (by rw [D.pure] at h;exact h))
 | _,_,.lst _ _ _,h=>by rw [D.pure] at h;cases h
 | _,_,.frz _ _,h=>by rw [D.pure] at h;cases h
 | _,_,.dK _ _ _ _,h=>by rw [D.pure] at h;cases h
 | _,_,.dT _ _ _ _,h=>by rw [D.pure] at h;cases h
 | _,_,.fdK _ _ _,h=>by rw [D.pure] at h;cases h
 | _,_,.fdT _ _ _,h=>by rw [D.pure] at h;cases h
theorem bN.bY {P P':Addr->Prop} {H:Hp}:∀{v:List V} {d:List D},bN P H v d->D.a_ d=true->bN P' H v d
 | _,_,.nil,_=>.nil
 | _,_,.cons r t,h=>by
  rw [D.a_,Bool.and_eq_true] at h;exact .cons (Rep.bY r h.1) (bN.bY t h.2)
end
theorem bN.length {P:Addr->Prop} {H:Hp}:∀{v:List V} {d:List D},bN P H v d->v.length=d.length
 | _,_,.nil=>rfl
 | _,_,.cons _ t=>by rw [List.length_cons,List.length_cons,bN.length t]
theorem bN.get {P:Addr->Prop} {H:Hp}:∀{vs:List V} {ds:List D} {i:Nat} {d:D},bN P H vs ds->ds[i]?=some d->∃v,vs[i]?=some v/\Rep P H v d
 | _,_,_,_,.nil,e=>by simp at e
 | _,_,0,_,.cons r _,e=>by simp at e;subst e;exact ⟨_,rfl,r⟩
 | _,_,i+1,d,.cons _ t,e=>by
  obtain ⟨v,h1,h2⟩:=bN.get (i:=i) (d:=d) t (by simpa using e);exact ⟨v,by simpa using h1,h2⟩
theorem bN.at {P:Addr->Prop} {H:Hp}:∀{vs:List V} {ds:List D} {i:Nat} {v:V},bN P H vs ds->vs[i]?=some v->∃d,ds[i]?=some d/\Rep P H v d
 | _,_,_,_,.nil,e=>by simp at e
 | _,_,0,_,.cons r _,e=>by simp at e;subst e;exact ⟨_,rfl,r⟩
 | _,_,i+1,d,.cons _ t,e=>by
  obtain ⟨v,h1,h2⟩:=bN.at (i:=i) (v:=d) t (by simpa using e);exact ⟨v,by simpa using h1,h2⟩
theorem bN.append {P:Addr->Prop} {H:Hp}:∀{vs ws:List V} {ds es:List D},bN P H vs ds->bN P H ws es->bN P H (vs++ws) (ds++es)
 | _,_,_,_,.nil,s=>s
 | _,_,_,_,.cons r t,s=>.cons r (bN.append t s)
theorem bN.take {P:Addr->Prop} {H:Hp}:∀{vs:List V} {ds:List D} (n:Nat),bN P H vs ds->bN P H (vs.take n) (ds.take n)
 | _,_,0,_=>.nil
 | _,_,_+1,.nil=>.nil
 | _,_,n+1,.cons r t=>.cons r (bN.take n t)
theorem bN.drop {P:Addr->Prop} {H:Hp}:∀{vs:List V} {ds:List D} (n:Nat),bN P H vs ds->bN P H (vs.drop n) (ds.drop n)
 | _,_,0,r=>r
 | _,_,_+1,.nil=>.nil
 | _,_,n+1,.cons _ t=>bN.drop n t
theorem bN.snoc {P:Addr->Prop} {H:Hp} {vs:List V} {ds:List D} {v:V} {d:D} (t:bN P H vs ds) (r:Rep P H v d):bN P H (vs++[v]) (ds++[d]):=t.append (.cons r .nil)
theorem Rep.uDf {P:Addr->Prop} {H:Hp} {v:V}:¬Rep P H v .uDf:=fun h=>by cases h
noncomputable abbrev All:Addr->Prop:=fun _=>True
noncomputable abbrev New (H:Hp):Addr->Prop:=fun a=>H a=none
theorem Rep.all {P:Addr->Prop} {H:Hp} {v:V} {d:D} (r:Rep P H v d):Rep All H v d:=r.mono fun _ _=>trivial
theorem bN.all {P:Addr->Prop} {H:Hp} {v:List V} {d:List D} (r:bN P H v d):bN All H v d:=r.mono fun _ _=>trivial
theorem cJ.new {H H':Hp} (s:cJ H H'):∀a,New H' a->New H a:=fun a h=>s.free h
theorem cJ.upd {H:Hp} {a:Addr} {o:HO} (h:H a=none):cJ H (upd H a o):=fun b u e=>by rw [aX (bJ e h)];exact e
noncomputable def ER (H:Hp) (σ:St) (ρ:List D):Prop:=∀i,ρ.getD i .uDf≠.uDf->∃v,σ[i]?=some (some v)/\Rep All H v (ρ.getD i .uDf)
theorem ER.same {H H':Hp} {σ:St} {ρ:List D} (e:ER H σ ρ) (s:cJ H H'):ER H' σ ρ:=fun i h=>by
 obtain ⟨v,h1,h2⟩:=e i h;exact ⟨v,h1,h2.same s⟩
section
variable (cf:Nat->List D->Res D) (ff:Nat->Bool)
end
theorem PE.imp {X:Cx} {e:PySem.Expr} {t t':TE} (h:PE X e t) (i:∀σ H Q,t' σ H Q->t σ H Q):PE X e t':=fun pins s σ H Q I q=>h pins s σ H Q I (i σ H Q q)
theorem PT.imp {X:Cx} {e:PySem.Expr} {t t':TT} (h:PT X e t) (i:∀σ H Q,t' σ H Q->t σ H Q):PT X e t':=fun pins s σ H Q I q=>h pins s σ H Q I (i σ H Q q)
theorem PA.imp {X:Cx} {e:List PySem.Expr} {t t':TA} (h:PA X e t) (i:∀σ H Q,t' σ H Q->t σ H Q):PA X e t':=fun pos pins s σ H Q I q=>h pos pins s σ H Q I (i σ H Q q)
end Mi
end
section
namespace L2
open PySem PySem.Spec PyProof.Rows
noncomputable def iR (own:List Str) (x:Str):Str:=if own.contains x then x++(" " : Str) else x
noncomputable def clF (env:Env):List (Str×NameKind)->List (Str×Addr)->List (Str×Addr)
 | [],acc=>acc
 | (n,k)::r,acc=>clF env r (if k==.free then (n,(env.cells.lookup n).getD 0)::acc else acc)
theorem o6 {env:Env}:∀(names:List (Str×NameKind)) (acc:List (Str×Addr)),(∀y∈names,y.2=.free->∃c,env.cells.lookup y.1=some c)->
  (forIn names acc fun x cs=>(match x with
   | (name,kind)=>if (kind==.free)=true then cellOf env name >>= fun c=>pure (ForInStep.yield ((name,c)::cs)) else pure (ForInStep.yield cs):Sem (ForInStep (List (Str×Addr)))))=(pure (clF env names acc):Sem _)
 | [],acc,_=>by rw [List.forIn_nil];rfl
 | (n,k)::r,acc,h=>by
  rw [List.forIn_cons];by_cases hk:(k==.free)=true
  ·have hk':k=.free:=by simpa using hk
   obtain ⟨c,e⟩:=h (n,k) (List.mem_cons_self ..) hk';have e':cellOf env n=pure c:=by
    unfold cellOf;have e2:env.cells.lookup n=some c:=e;rw [e2]
   dsimp only;rw [if_pos hk,e',pure_bind,pure_bind];dsimp only;rw [o6 r _ fun y hy=>h y (List.mem_cons_of_mem _ hy)];have e2:env.cells.lookup n=some c:=e;simp only [clF,hk,if_true,e2,Option.getD_some]
  ·dsimp only;rw [if_neg hk,pure_bind];dsimp only;rw [o6 r _ fun y hy=>h y (List.mem_cons_of_mem _ hy)];simp only [clF,hk,Bool.false_eq_true,if_false]
theorem mK {env:Env} {scope:Scope} (h:∀y∈scope.names,y.2=.free->∃c,env.cells.lookup y.1=some c):closureFor scope env=pure (clF env scope.names []):=by
 unfold closureFor;have:=o6 (env:=env) scope.names [] h;simp only [bind_pure] at *;exact this
theorem o7 {env:Env}:∀{names:List (Str×NameKind)} {acc:List (Str×Addr)} {x:Str} {c:Addr},(∀y∈names,y.2=.free->∃c,env.cells.lookup y.1=some c)->(∀x c,acc.lookup x=some c->env.cells.lookup x=some c)->
  (clF env names acc).lookup x=some c->env.cells.lookup x=some c
 | [],acc,x,c,_,h,e=>h x c e
 | (n,k)::r,acc,x,c,q,h,e=>by
  unfold clF at e;refine o7 (fun y hy=>q y (List.mem_cons_of_mem _ hy)) (fun y d hy=>?_) e;by_cases hk:(k==.free)=true
  ·rw [if_pos hk,List.lookup_cons] at hy;obtain ⟨c',e'⟩:=q (n,k) (List.mem_cons_self ..) (by simpa using hk);have e2:env.cells.lookup n=some c':=e';cases hyn:y==n with
   | true=>
    rw [hyn] at hy;have:y=n:=by simpa using hyn
    subst this;rw [e2] at hy;simp only [Option.getD_some] at hy;rw [e2];exact hy
   | false=>rw [hyn] at hy;exact h y d hy
  ·rw [if_neg hk] at hy;exact h y d hy
theorem PK {env:Env}:∀{names:List (Str×NameKind)} {acc:List (Str×Addr)} {x:Str},(∃c,acc.lookup x=some c)->∃c,(clF env names acc).lookup x=some c
 | [],_,_,h=>h
 | (n,k)::r,acc,x,⟨c,h⟩=>by
  unfold clF;refine PK ?_;by_cases hk:(k==.free)=true
  ·rw [if_pos hk,List.lookup_cons];cases x==n with
   | true=>exact ⟨_,rfl⟩
   | false=>exact ⟨c,h⟩
  ·rw [if_neg hk];exact ⟨c,h⟩
theorem BR {env:Env}:∀{names:List (Str×NameKind)} {acc:List (Str×Addr)} {x:Str},(x,NameKind.free)∈names->∃c,(clF env names acc).lookup x=some c
 | (n,k)::r,acc,x,h=>by
  unfold clF;rcases List.mem_cons.mp h with e|h
  ·cases e;refine PK ?_;rw [if_pos (by decide),List.lookup_cons];simp
  ·exact BR h
structure cO (N:List Str) (sc scope:Scope) (own:List Str):Prop where
 kind:scope.kind=.function
 nocell:∀y∈scope.names,y.2≠.cell
 names:∀y∈scope.names,y.2=.local->scope.names.lookup y.1=some .local
 free:∀y∈scope.names,y.2=.free->sc.names.lookup y.1=some .cell\/sc.names.lookup y.1=some .free
 ownl:∀x∈own,scope.names.lookup x=some .local
 hid:∀x∈own,scope.names.lookup (x++(" " : Str))=none
 loc:∀y∈scope.names,y.2=.local->y.1∈own\/y.1∉N
structure cT (X X':Cx) (scope:Scope) (own:List Str):Prop where
 prog:X'.prog=X.prog
 w:X'.w=X.w
 K:X'.K=X.K
 mg:X'.mg=X.mg
 base:X'.base=X.base
 A:X'.A=X.A
 N:X'.N=X.N.map (iR own)++own
 scope:X'.env.scope=relabel scope X.env
 calm:X'.calm=X.calm
 xe:X'.xe=fun _ _=>False
noncomputable def rG (X:Cx) (scope:Scope) (cl:List (Str×Addr)) (C:Addr) (own:List Str) (s₂:Shared) (H₂:Hp) (fp:List Addr):Cx:=
 {X with N:=X.N.map (iR own)++own,s₀:=s₂,H₀:=H₂,env:=compEnvC scope cl C X.env,outer:=X.stack,stack:=X.stack,ex:=fp,fn:=fun _=>false,pn:=[],xe:=fun _ _=>False}
theorem n_ {X:Cx} {scope:Scope} {cl:List (Str×Addr)} {C:Addr} {own:List Str} {s₂:Shared} {H₂:Hp} {fp:List Addr}:cT X (rG X scope cl C own s₂ H₂ fp) scope own:=
 ⟨rfl,rfl,rfl,rfl,rfl,rfl,rfl,rfl,rfl,rfl⟩
noncomputable def Ext (σ σ2:St):Prop:=σ2.length=σ.length/\∀(i:Nat) v,σ[i]?=some (some v)->σ2[i]?=some (some v)
noncomputable def PL (wi:TI) (g:TG) (tc:TT) (te:TE) (m:Nat):TE:=fun σ H Q=>wi σ H fun J H1=>∀p,H1 p=none->
 ∃W:Nat->Nat->List V->Hp->Prop,(∃n,W 0 n [] (upd H1 p (.lst [])))/\∀i n ys H,W i n ys H->H p=some (.lst ys)/\((J.stop i H/\Q (.ref p) H)\/(J.go i H/\ys.length<sizeLine/\
  ∀x H2,J.yld i H x H2->g x (σ++List.replicate m none) H2 fun σ2 H3=>Ext (σ++List.replicate m none) σ2/\tc σ2 H3 fun b H4=>if b=true then te σ2 H4 fun y H5=>H5 p=some (.lst ys)/\∃n',n'<n/\W (i+1) n' (ys++[y]) (upd H5 p (.lst (ys++[y])))
   else ∃n',n'<n/\W (i+1) n' ys H4))
theorem Un.but {fs ex:List Addr} {H H1:Hp} {h h1 h':Heap} {C:Addr} (u:Un fs ex H H1 h h1) (sb:Heap.SameBut C h1 h') (hC:h.objs.size<=C) (hx:C∉ex):Un fs ex H H1 h h':=by
 have ne:∀b o,h.get? b=some o->b≠C:=fun b o e=>Nat.ne_of_lt (Nat.lt_of_lt_of_le (Heap.lt_size e) hC)
 refine ⟨fun b o e n h1 h2=>sb.extBut b o (ne b o e) (u.keep b o e n h1 h2),fun b o e n h1 h2=>?_,u.free,fun b o e h2=>?_,u.tups,u.frzs,u.tbls⟩
 ·obtain ⟨sl,q⟩:=u.slot b o e n h1 h2;exact ⟨sl,sb.extBut b _ (ne b o e) q⟩
 ·obtain ⟨o',q⟩:=u.there b o e h2;exact ⟨o',sb.extBut b _ (ne b o e) q⟩
theorem HOk.but {P:Program} {w:World} {H:Hp} {h h':Heap} {C:Addr} (ok:HOk P w H h) (sb:Heap.SameBut C h h') (hC:H C=none):HOk P w H h':=fun a o e=>by
 refine (ok a o e).stay (fun b u hb q=>sb.extBut b u ?_ q) (fun _ q=>q) fun _ _ q=>q
 intro z;subst z;rcases hb with z|z
 ·subst z;rw [hC] at e;cases e
 ·rw [hC] at z;cases z
section
variable {X:Cx} {scope:Scope} {own:List Str}
theorem Inv.comp {pins:List (Addr×Obj)} {σ:St} {H2:Hp} {s2:Shared} {fp:List Addr} {h1:Heap} {t1:Nat} (I:Inv X pins σ H2 s2) (S:cO X.N X.env.scope scope own) (hf:∀b∈fp,MN X pins H2 b)
  (hfx:∀b∈fp,b<s2.heap.objs.size) (hns:h1.Ns (s2.heap.objs.size+1) (fun _=>none))
  (hk:∀b o,s2.heap.get? b=some o->h1.get? b=some o) (hacc:h1.get? s2.heap.objs.size=some {cls:=.type "list",data:=.seq #[]}) :
  Inv (rG X scope (clF X.env scope.names []) (s2.heap.objs.size+1) own s2 H2 fp) [] (σ++List.replicate own.length none) (upd H2 s2.heap.objs.size (.lst [])) {s2 with heap:=h1,toks:=t1}:=by
 have hD:H2 s2.heap.objs.size=none:=I.hok.fresh (Nat.le_refl _);have hC:H2 (s2.heap.objs.size+1)=none:=I.hok.fresh (Nat.le_succ _);have cells:∀y∈scope.names,y.2=.free->∃c,X.env.cells.lookup y.1=some c:=fun y hy hk=>I.ok.has y.1 (S.free y hy hk)
 have sub:∀x c,(clF X.env scope.names []).lookup x=some c->X.env.cells.lookup x=some c:=fun x c e=>o7 cells (fun _ _ h=>by simp at h) e
 have relk:∀x,(relabel scope X.env).names.lookup x=some .cell\/(relabel scope X.env).names.lookup x=some .free->(x,NameKind.free)∈scope.names:=by
  intro x hx;have go:∀(l:List (Str×NameKind)),(∀y∈l,y.2≠.cell)->((l.map fun (n,k)=>if (k==NameKind.free&&X.env.scope.kind==.function&&X.env.kindOf n==some .cell) then (n,NameKind.cell) else (n,k)).lookup x=some .cell\/(l.map fun (n,k)=>if (k==NameKind.free&&X.env.scope.kind==.function&&X.env.kindOf n==some .cell) then (n,NameKind.cell) else (n,k)).lookup x=some .free)->(x,NameKind.free)∈l:=by
   intro l;induction l with
   | nil=>intro _ h;rcases h with h|h <;> simp at h
   | cons p l ih=>
    obtain ⟨n,k⟩:=p;intro nc h;rw [List.map_cons] at h;dsimp only at h;by_cases hc:(k==NameKind.free&&X.env.scope.kind==.function&&X.env.kindOf n==some .cell)=true
    ·rw [if_pos hc] at h;rw [List.lookup_cons] at h;cases e:x==n with
     | true=>
      have:x=n:=by simpa using e
      subst this;simp only [Bool.and_eq_true] at hc;have:k=.free:=by simpa using hc.1.1
      subst this;exact List.mem_cons_self ..
     | false=>
      rw [e] at h;exact List.mem_cons_of_mem _ (ih (fun y hy=>nc y (List.mem_cons_of_mem _ hy)) h)
    ·rw [if_neg hc] at h;rw [List.lookup_cons] at h;cases e:x==n with
     | true=>
      have:x=n:=by simpa using e
      subst this;rw [e] at h;dsimp only at h;rcases h with h|h
      ·exact absurd (Option.some.inj h) (nc (x,k) (List.mem_cons_self ..))
      ·have:=Option.some.inj h;subst this;exact List.mem_cons_self ..
     | false=>
      rw [e] at h;exact List.mem_cons_of_mem _ (ih (fun y hy=>nc y (List.mem_cons_of_mem _ hy)) h)
  exact go scope.names S.nocell hx
 have hne:s2.heap.objs.size≠s2.heap.objs.size+1:=Nat.ne_of_lt (Nat.lt_succ_self _);have hlt:∀b o,s2.heap.get? b=some o->b<s2.heap.objs.size:=fun b o e=>Heap.lt_size e
 have hstk:∀b∈frs X.stack,b<s2.heap.objs.size:=fun b hb=>by
  obtain ⟨_,o,ho,_⟩:=I.stack.mem hb;exact hlt b o ho
 refine ⟨⟨I.mod,?_,I.ok.glob,I.ok.blt,Nat.le_succ _,fun x y c e1 e2=>I.ok.inj x y c (sub x c e1) (sub y c e2),fun x hx=>?_,fun _ _ h=>(by cases h),I.ok.hd,I.ok.frames,.inl rfl,fun b hb=>?_,fun b o e=>I.bs b o e,?_,fun b o e hb=>?_,fun b hb hz=>?_,I.stack,I.zR⟩,
  rfl,I.bare,Un.laid hk (Nat.le_refl _) hD,?_,fun x c e=>?_,?_,fun x c e=>?_,fun p hp=>(by simp [rG] at hp),?_,?_⟩
 ·exact S.kind
 ·have hx':(relabel scope X.env).names.lookup x=some .cell\/(relabel scope X.env).names.lookup x=some .free:=hx;exact BR (relk x hx')
 ·refine ⟨Nat.ne_of_lt (Nat.lt_succ_of_lt (hfx b hb)),fun x c e z=>?_⟩;exact (hf b hb).2.2.2.2.1 x c (sub x c e) z
 ·exact Nat.le_trans I.ok.bsz I.sz
 ·rcases (hf b hb).2.2.2.1 with z|z
  ·exact I.ok.noex b o e z
  ·exact absurd (Nat.lt_of_lt_of_le (Heap.lt_size e) (Nat.le_trans I.ok.bsz z)) (Nat.lt_irrefl _)
 ·rcases List.mem_cons.mp (I.qM b hz) with z'|z'
  ·exact (hf b hb).2.1 z'
  ·exact (hf b hb).2.2.1 z'
 ·refine ⟨_,hns,fun i x v e1 e2 e3=>?_⟩;have hi:i<σ.length:=by
   rcases Nat.lt_or_ge i σ.length with h|h
   ·exact h
   ·rw [List.getElem?_append_right h,List.getElem?_replicate] at e2;split at e2 <;> cases e2
  rw [List.getElem?_append_left hi] at e2;have hiN:i<X.N.length:=by rw [<-I.len];exact hi
  have e1':(X.N.map (iR own))[i]?=some x:=by
   have:(X.N.map (iR own)++own)[i]?=some x:=e1;rwa [List.getElem?_append_left (by rw [List.length_map];exact hiN)] at this
  rw [List.getElem?_map] at e1';obtain ⟨y,hy,ey⟩:=Option.map_eq_some_iff.mp e1';have hyN:y∈X.N:=List.mem_of_getElem? hy;have e3':(relabel scope X.env).names.lookup x=some .local\/(relabel scope X.env).names.lookup x=some .cell\/(relabel scope X.env).names.lookup x=some .free:=e3;have keys:∀z k,(relabel scope X.env).names.lookup z=some k->∃k',scope.names.lookup z=some k'/\(k=.local->k'=.local):=by
   intro z k;show (scope.names.map fun (n,k)=>if (k==NameKind.free&&X.env.scope.kind==.function&&X.env.kindOf n==some .cell) then (n,NameKind.cell) else (n,k)).lookup z=some k->_;generalize scope.names=l;induction l with
   | nil=>intro h;simp at h
   | cons p l ih=>
    obtain ⟨n,k0⟩:=p;intro h;rw [List.map_cons] at h;dsimp only at h;by_cases hc:(k0==NameKind.free&&X.env.scope.kind==.function&&X.env.kindOf n==some .cell)=true
    ·rw [if_pos hc,List.lookup_cons] at h;rw [List.lookup_cons];cases e:z==n with
     | true=>
      rw [e] at h;dsimp only at h;cases h;exact ⟨k0,rfl,fun q=>by cases q⟩
     | false=>rw [e] at h;exact ih h
    ·rw [if_neg hc,List.lookup_cons] at h;rw [List.lookup_cons];cases e:z==n with
     | true=>
      rw [e] at h;dsimp only at h;cases h;exact ⟨_,rfl,fun q=>q⟩
     | false=>rw [e] at h;exact ih h
  by_cases hown:own.contains y=true
  ·exfalso;have ex:x=y++(" " : Str):=by rw [<-ey];unfold iR;rw [if_pos hown]
   have hn:=S.hid y (by simpa using hown);rw [<-ex] at hn;rcases e3' with q|q|q
   all_goals
    obtain ⟨k',hk',_⟩:=keys _ _ q;rw [hn] at hk';cases hk'
  ·have ex:x=y:=by rw [<-ey];unfold iR;rw [if_neg hown]
   subst ex;rcases e3' with q|q
   ·exfalso;obtain ⟨k',hk',hl⟩:=keys _ _ q;have:=hl rfl;subst this;rcases S.loc _ (PySem.mem_of_lookup hk') rfl with z|z
    ·exact hown (by simpa using z)
    ·exact z hyN
   ·have hfr:=relk x q;have hv:=S.free _ hfr rfl;obtain ⟨m,_,hl⟩:=I.loc;obtain ⟨u,ru,lk⟩:=hl i x v hy e2 (.inr hv);refine ⟨u,ru,.inr ⟨q,?_⟩⟩;rcases lk with ⟨z,_⟩|⟨_,c,hc,o,ho,hd⟩
    ·have z':X.env.scope.names.lookup x=some .local:=z;rcases hv with hv|hv <;> (rw [z'] at hv;cases hv)
    ·obtain ⟨c',hc'⟩:=BR (env:=X.env) (acc:=[]) hfr;have:=sub x c' hc';rw [hc] at this;cases this;exact ⟨c,hc',o,hk c o ho,hd⟩
 ·obtain ⟨v,z⟩:=I.cell x c (sub x c e);obtain ⟨o,ho,hd⟩:=z;exact ⟨v,o,hk c o ho,hd⟩
 ·show upd H2 _ _ (s2.heap.objs.size+1)=none;rw [aX (Ne.symm hne)];exact hC
 ·obtain ⟨v,o,ho,_⟩:=I.cell x c (sub x c e);show upd H2 _ _ c=none;rw [aX (Nat.ne_of_lt (hlt c o ho))];exact I.freeC x c (sub x c e)
 ·exact I.hok.laid hk (Nat.le_refl _) ⟨Nat.zero_le _,[],0,.nil,hacc⟩
 ·show (σ++List.replicate own.length none).length=(X.N.map (iR own)++own).length;rw [List.length_append,List.length_append,List.length_replicate,List.length_map,I.len]
end
section
variable {X:Cx} {scope:Scope} {own:List Str}
theorem PN {elt iter tg c:Expr} {wi:TI} {g:TG} {tc:TT} {te:TE} {pos:Pos} (S:cO X.N X.env.scope scope own) (hcalm:X.calm=true) (hi:PI X tg iter wi)
  (hg:∀X',cT X X' scope own->PG X' tg g) (hc:∀X',cT X X' scope own->PT X' c tc) (he:∀X',cT X X' scope own->PE X' elt te)
  (hs:∀x,foldedSetIterable iter X.env x=pure x):PE X (.ListComp elt [⟨tg,iter,[c],0⟩] scope pos) (PL wi g tc te own.length):=by
 intro pins s σ H Q I h;rw [eval_ListComp];have cells:∀y∈scope.names,y.2=.free->∃c,X.env.cells.lookup y.1=some c:=fun y hy hk=>I.ok.has y.1 (S.free y hy hk)
 refine wpAny_comprehension_free (use:=none) rfl hs (mK cells) S.kind S.names (thn (hi pins s σ H _ I h) fun xv s1 h1=>thn h1 fun itv s2 h2=>?_);obtain ⟨it,fp,tn,J,H2,e,I2,T,st2,f2,hW⟩:=h2;subst e;have hD:H2 s2.heap.objs.size=none:=I2.hok.fresh (Nat.le_refl _);obtain ⟨W,⟨n0,w0⟩,turn⟩:=hW _ hD;have hfx:∀b∈fp,b<s2.heap.objs.size:=fun b hb=>by
  obtain ⟨o,ho,_⟩:=T.obj 0 _ st2 b hb;exact Heap.lt_size ho
 refine wpAny_newObj_type (wpAny_newFunctionEnv S.nocell (by intro y hy;simp at hy) (fun h₁ hns₁ hsb₁=>?_) S.kind);dsimp only at hns₁ hsb₁ ⊢;have hC:(s2.heap.push {cls:=.type "list",dict:=none,data:=.seq ([]:List Value).toArray}).objs.size=s2.heap.objs.size+1:=Heap.size_push ..;have hne:s2.heap.objs.size≠s2.heap.objs.size+1:=Nat.ne_of_lt (Nat.lt_succ_self _);rw [hC] at hns₁ hsb₁ ⊢;have old:∀b o,s2.heap.get? b=some o->h₁.get? b=some o:=fun b o e=>hsb₁.extBut b o (Nat.ne_of_lt (Nat.lt_succ_of_lt (Heap.lt_size e))) (Heap.get?_push_of_some _ (Heap.get?_push_of_some _ e))
 have hacc:h₁.get? s2.heap.objs.size=some {cls:=.type "list",data:=.seq #[]}:=hsb₁.extBut _ _ hne (Heap.get?_push_of_some _ (Heap.get?_push_size _ rfl));have I4:=Inv.comp (t1:=s2.toks+([]:List (Str×Value)).length) I2 S f2 hfx hns₁ old hacc;generalize hX':rG X scope (clF X.env scope.names []) (s2.heap.objs.size+1) own s2 H2 fp=X' at I4;have cc:cT X X' scope own:=by rw [<-hX'];exact n_
 have eenv:X'.env=compEnvC scope (clF X.env scope.names []) (s2.heap.objs.size+1) X.env:=by rw [<-hX'];rfl
 have eA:X'.A=X.A:=cc.A;have ep:X'.prog=X.prog:=cc.prog;have ew:X'.w=X.w:=cc.w;have efs:X'.fs=frs X.stack:=by rw [<-hX'];rfl
 have eex:X'.ex=fp:=by rw [<-hX'];rfl
 have es0:X'.s₀=s2:=by rw [<-hX'];rfl
 have eH0:X'.H₀=H2:=by rw [<-hX'];rfl
 have epn:X'.pn=[]:=by rw [<-hX'];rfl
 have eK:X'.K=X.K:=cc.K;have exe:=cc.xe;have ecalm:X'.calm=true:=cc.calm.trans hcalm
 -- the iterator's records within the block
 have fpok:∀{H':Hp},(∀b∈fp,H' b=none)->∀b∈fp,MN X' [] H' b:=fun {H'} hn b hb=>by
  obtain ⟨_,f1,f3,_,f5,_⟩:=f2 b hb;refine ⟨hn b hb,?_,?_,.inl (by rw [eex];exact hb),fun x c e=>?_,fun p hp=>by rw [epn] at hp;simp at hp⟩
  ·rw [eenv];exact Nat.ne_of_lt (Nat.lt_succ_of_lt (hfx b hb))
  ·rw [efs];intro z;rcases List.mem_cons.mp (I2.qM b z) with z|z
   ·exact f1 z
   ·exact f3 z
  ·rw [eenv] at e;exact f5 x c (o7 cells (fun _ _ h=>by simp at h) e)
 have st4:tn 0 h₁:=T.keep _ _ _ st2 fun b _ o e=>old b o e
 have fr4:∀b∈fp,(upd H2 s2.heap.objs.size (.lst [])) b=none:=fun b hb=>by rw [aX (Nat.ne_of_lt (hfx b hb))];exact (f2 b hb).1
 have loop:∀s4:Shared,s4={s2 with heap:=h₁,toks:=s2.toks+([]:List (Str×Value)).length}->
   codeAny (model X.prog X.w) X.A (.compLoop (.ListComp elt [⟨tg,iter,[c],0⟩] scope pos) 0 (.ref it) (.ref s2.heap.objs.size) X'.env)
    (compPost (model X.prog X.w) X.A X.xe none (EP X pins σ Q) (.ref s2.heap.objs.size) (s2.heap.objs.size+1)) s4:=by
  rintro s4 rfl;refine PySem.W.kct_loop (fun n s'=>∃i ys H',Inv X' [] (σ++List.replicate own.length none) H' s'/\tn i s'.heap/\(∀b∈fp,H' b=none)/\W i n ys H') ?_ n0 ⟨0,[],_,I4,st4,fr4,w0⟩;rintro n s5 ⟨i,ys,H5,I5,st5,fr5,w5⟩;obtain ⟨hacc5,tr⟩:=turn i n ys H5 w5;rcases tr with ⟨stop,q⟩|⟨go,hlen,step⟩
  ·have done:=T.done X' ep ew eK ecalm i [] s5 _ H5 (notedBy (model X.prog X.w) X.A X'.env fun e s'=>compPost (model X.prog X.w) X.A X.xe none (EP X pins σ Q) (.ref s2.heap.objs.size) (s2.heap.objs.size+1) (.error e) s') I5 (fpok fr5) st5 stop;rw [eA] at done;refine thn done fun r s6 ⟨hr,I6⟩=>?_
   subst hr;obtain ⟨m6,hn6,_⟩:=id I6.loc;rw [eenv] at hn6;refine ⟨m6,hn6,fun h' sb=>⟨.ref s2.heap.objs.size,H5,?_,rfl,q⟩⟩;have u6:Un (frs X.stack) fp H2 H5 s2.heap s6.heap:=by
    have:=I6.base;rw [efs,eex,eH0,es0] at this;exact this
   have hCn:H5 (s2.heap.objs.size+1)=none:=by
    have:=I6.free;rw [eenv] at this;exact this
   have u7:=u6.but sb (Nat.le_succ _) (fun z=>absurd (hfx _ z) (Nat.not_lt.mpr (Nat.le_succ _)));have hok7:HOk X.prog X.w H5 h':=by
    have:=I6.hok;rw [ep,ew] at this;exact this.but sb hCn
   have hos:s6.os=s2.os:=by have:=I6.os;rw [es0] at this;exact this
   obtain ⟨hh,gg,dd,tt,oo⟩:=s6;obtain rfl:oo=s2.os:=hos;have fin:=Inv.call (h':=h') (g':=gg) (d':=dd) (t':=tt) (ch:=fp) I2 u7 hok7 I6.bare fun b hb=>⟨(f2 b hb).2.2.2.1,(f2 b hb).2.1,(f2 b hb).2.2.2.2.1,(f2 b hb).2.2.2.2.2⟩
   exact fin
  ·have item:=T.item X' ep ew eK ecalm i [] s5 _ H5 (notedBy (model X.prog X.w) X.A X'.env fun e s'=>compPost (model X.prog X.w) X.A X.xe none (EP X pins σ Q) (.ref s2.heap.objs.size) (s2.heap.objs.size+1) (.error e) s') I5 (fpok fr5) st5 go;rw [eA] at item;refine thn item fun r s6 ⟨u,hr,h6⟩=>?_
   subst hr;refine thn h6 fun _ s7 ⟨x,H7,I7,r7,y7,st7,fr7⟩=>?_
   have I7':=I7.pinned (fpok fr7) (T.obj _ _ st7);have hg':=hg X' cc _ s7 _ H7 x u _ I7' r7 (step x H7 y7);rw [ep,ew,eA,exe] at hg';refine wpAny_mono hg' (fun _ s8 ⟨σ8,H8,I8,ext8,q8⟩=>?_) fun _ _ z=>False.elim z
   have back:∀{ys':List V} {H9:Hp} {s9:Shared} {σ9:St},Ext (σ++List.replicate own.length none) σ9->Inv X' ([]++pK fp s7.heap) σ9 H9 s9->(∃n',n'<n/\W (i+1) n' ys' H9)->∃m,m<n/\∃i ys H',Inv X' [] (σ++List.replicate own.length none) H' s9/\tn i s9.heap/\(∀b∈fp,H' b=none)/\W i m ys H':=by
    rintro ys' H9 s9 σ9 ex9 I9 ⟨n',hn',w9⟩;refine ⟨n',hn',i+1,ys',H9,(I9.weak ex9.1.symm ex9.2).gU,T.keep _ _ _ st7 fun b hb o e=>(I9.pin (b,o) (List.mem_append_right _ (List.mem_append_right _ (dF hb e)))).1,fun b hb=>?_,w9⟩;obtain ⟨o,e,d⟩:=T.obj _ _ st7 b hb;exact (I9.pin (b,o) (List.mem_append_right _ (List.mem_append_right _ (dF hb e)))).2.1
   have hc':=hc X' cc _ s8 _ H8 _ I8 q8;rw [ep,ew,eA,exe] at hc';refine wpAny_mono hc' (fun b s9 ⟨H9,I9,q9⟩=>?_) fun _ _ z=>False.elim z
   cases b with
   | false=>
    simp only [Bool.false_eq_true,if_false] at q9 ⊢;exact back ext8 I9 q9
   | true=>
    simp only [if_true] at q9 ⊢;have he':=he X' cc _ s9 _ H9 _ I9 q9;rw [ep,ew,eA,exe] at he';refine wpAny_mono he' (fun yv s10 ⟨y,H10,I10,r10,p10,q10⟩=>?_) fun _ _ z=>False.elim z
    have hm:=kY (X:=X') _ s10 σ8 H10 (.ref s2.heap.objs.size) [y] (.ref s2.heap.objs.size) [yv] (fun _ H11=>∃n',n'<n/\W (i+1) n' (ys++[y]) H11) I10 rfl (.cons r10 .nil) ⟨s2.heap.objs.size,ys,y,rfl,rfl,p10,hlen,q10⟩;rw [ep,ew,eA,exe] at hm;exact wpAny_mono hm (fun _ s11 ⟨_,H11,I11,_,q11⟩=>back ext8 I11 q11) fun _ _ z=>False.elim z
 have l4:=loop _ rfl;rw [eenv] at l4;exact codeAny_compStart_list l4 (T.self X.A 0 _ _ _ st4 l4)
theorem V3 {elt iter tg:Expr} {wi:TI} {g:TG} {te:TE} {pos:Pos} (S:cO X.N X.env.scope scope own) (hcalm:X.calm=true) (hi:PI X tg iter wi)
  (hg:∀X',cT X X' scope own->PG X' tg g) (he:∀X',cT X X' scope own->PE X' elt te)
  (hs:∀x,foldedSetIterable iter X.env x=pure x):PE X (.ListComp elt [⟨tg,iter,[],0⟩] scope pos) (PL wi g (fun _ H Q=>Q true H) te own.length):=by
 intro pins s σ H Q I h;rw [eval_ListComp];have cells:∀y∈scope.names,y.2=.free->∃c,X.env.cells.lookup y.1=some c:=fun y hy hk=>I.ok.has y.1 (S.free y hy hk)
 refine wpAny_comprehension_free (use:=none) rfl hs (mK cells) S.kind S.names (thn (hi pins s σ H _ I h) fun xv s1 h1=>thn h1 fun itv s2 h2=>?_);obtain ⟨it,fp,tn,J,H2,e,I2,T,st2,f2,hW⟩:=h2;subst e;have hD:H2 s2.heap.objs.size=none:=I2.hok.fresh (Nat.le_refl _);obtain ⟨W,⟨n0,w0⟩,turn⟩:=hW _ hD;have hfx:∀b∈fp,b<s2.heap.objs.size:=fun b hb=>by
  obtain ⟨o,ho,_⟩:=T.obj 0 _ st2 b hb;exact Heap.lt_size ho
 refine wpAny_newObj_type (wpAny_newFunctionEnv S.nocell (by intro y hy;simp at hy) (fun h₁ hns₁ hsb₁=>?_) S.kind);dsimp only at hns₁ hsb₁ ⊢;have hC:(s2.heap.push {cls:=.type "list",dict:=none,data:=.seq ([]:List Value).toArray}).objs.size=s2.heap.objs.size+1:=Heap.size_push ..;have hne:s2.heap.objs.size≠s2.heap.objs.size+1:=Nat.ne_of_lt (Nat.lt_succ_self _);rw [hC] at hns₁ hsb₁ ⊢;have old:∀b o,s2.heap.get? b=some o->h₁.get? b=some o:=fun b o e=>hsb₁.extBut b o (Nat.ne_of_lt (Nat.lt_succ_of_lt (Heap.lt_size e))) (Heap.get?_push_of_some _ (Heap.get?_push_of_some _ e))
 have hacc:h₁.get? s2.heap.objs.size=some {cls:=.type "list",data:=.seq #[]}:=hsb₁.extBut _ _ hne (Heap.get?_push_of_some _ (Heap.get?_push_size _ rfl));have I4:=Inv.comp (t1:=s2.toks+([]:List (Str×Value)).length) I2 S f2 hfx hns₁ old hacc;generalize hX':rG X scope (clF X.env scope.names []) (s2.heap.objs.size+1) own s2 H2 fp=X' at I4;have cc:cT X X' scope own:=by rw [<-hX'];exact n_
 have eenv:X'.env=compEnvC scope (clF X.env scope.names []) (s2.heap.objs.size+1) X.env:=by rw [<-hX'];rfl
 have eA:X'.A=X.A:=cc.A;have ep:X'.prog=X.prog:=cc.prog;have ew:X'.w=X.w:=cc.w;have efs:X'.fs=frs X.stack:=by rw [<-hX'];rfl
 have eex:X'.ex=fp:=by rw [<-hX'];rfl
 have es0:X'.s₀=s2:=by rw [<-hX'];rfl
 have eH0:X'.H₀=H2:=by rw [<-hX'];rfl
 have epn:X'.pn=[]:=by rw [<-hX'];rfl
 have eK:X'.K=X.K:=cc.K;have exe:=cc.xe;have ecalm:X'.calm=true:=cc.calm.trans hcalm
 -- the iterator's records within the block
 have fpok:∀{H':Hp},(∀b∈fp,H' b=none)->∀b∈fp,MN X' [] H' b:=fun {H'} hn b hb=>by
  obtain ⟨_,f1,f3,_,f5,_⟩:=f2 b hb;refine ⟨hn b hb,?_,?_,.inl (by rw [eex];exact hb),fun x c e=>?_,fun p hp=>by rw [epn] at hp;simp at hp⟩
  ·rw [eenv];exact Nat.ne_of_lt (Nat.lt_succ_of_lt (hfx b hb))
  ·rw [efs];intro z;rcases List.mem_cons.mp (I2.qM b z) with z|z
   ·exact f1 z
   ·exact f3 z
  ·rw [eenv] at e;exact f5 x c (o7 cells (fun _ _ h=>by simp at h) e)
 have st4:tn 0 h₁:=T.keep _ _ _ st2 fun b _ o e=>old b o e
 have fr4:∀b∈fp,(upd H2 s2.heap.objs.size (.lst [])) b=none:=fun b hb=>by rw [aX (Nat.ne_of_lt (hfx b hb))];exact (f2 b hb).1
 have loop:∀s4:Shared,s4={s2 with heap:=h₁,toks:=s2.toks+([]:List (Str×Value)).length}->
   codeAny (model X.prog X.w) X.A (.compLoop (.ListComp elt [⟨tg,iter,[],0⟩] scope pos) 0 (.ref it) (.ref s2.heap.objs.size) X'.env)
    (compPost (model X.prog X.w) X.A X.xe none (EP X pins σ Q) (.ref s2.heap.objs.size) (s2.heap.objs.size+1)) s4:=by
  rintro s4 rfl;refine PySem.W.kcp_loop (fun n s'=>∃i ys H',Inv X' [] (σ++List.replicate own.length none) H' s'/\tn i s'.heap/\(∀b∈fp,H' b=none)/\W i n ys H') ?_ n0 ⟨0,[],_,I4,st4,fr4,w0⟩;rintro n s5 ⟨i,ys,H5,I5,st5,fr5,w5⟩;obtain ⟨hacc5,tr⟩:=turn i n ys H5 w5;rcases tr with ⟨stop,q⟩|⟨go,hlen,step⟩
  ·have done:=T.done X' ep ew eK ecalm i [] s5 _ H5 (notedBy (model X.prog X.w) X.A X'.env fun e s'=>compPost (model X.prog X.w) X.A X.xe none (EP X pins σ Q) (.ref s2.heap.objs.size) (s2.heap.objs.size+1) (.error e) s') I5 (fpok fr5) st5 stop;rw [eA] at done;refine thn done fun r s6 ⟨hr,I6⟩=>?_
   subst hr;obtain ⟨m6,hn6,_⟩:=id I6.loc;rw [eenv] at hn6;refine ⟨m6,hn6,fun h' sb=>⟨.ref s2.heap.objs.size,H5,?_,rfl,q⟩⟩;have u6:Un (frs X.stack) fp H2 H5 s2.heap s6.heap:=by
    have:=I6.base;rw [efs,eex,eH0,es0] at this;exact this
   have hCn:H5 (s2.heap.objs.size+1)=none:=by
    have:=I6.free;rw [eenv] at this;exact this
   have u7:=u6.but sb (Nat.le_succ _) (fun z=>absurd (hfx _ z) (Nat.not_lt.mpr (Nat.le_succ _)));have hok7:HOk X.prog X.w H5 h':=by
    have:=I6.hok;rw [ep,ew] at this;exact this.but sb hCn
   have hos:s6.os=s2.os:=by have:=I6.os;rw [es0] at this;exact this
   obtain ⟨hh,gg,dd,tt,oo⟩:=s6;obtain rfl:oo=s2.os:=hos;have fin:=Inv.call (h':=h') (g':=gg) (d':=dd) (t':=tt) (ch:=fp) I2 u7 hok7 I6.bare fun b hb=>⟨(f2 b hb).2.2.2.1,(f2 b hb).2.1,(f2 b hb).2.2.2.2.1,(f2 b hb).2.2.2.2.2⟩
   exact fin
  ·have item:=T.item X' ep ew eK ecalm i [] s5 _ H5 (notedBy (model X.prog X.w) X.A X'.env fun e s'=>compPost (model X.prog X.w) X.A X.xe none (EP X pins σ Q) (.ref s2.heap.objs.size) (s2.heap.objs.size+1) (.error e) s') I5 (fpok fr5) st5 go;rw [eA] at item;refine thn item fun r s6 ⟨u,hr,h6⟩=>?_
   subst hr;refine thn h6 fun _ s7 ⟨x,H7,I7,r7,y7,st7,fr7⟩=>?_
   have I7':=I7.pinned (fpok fr7) (T.obj _ _ st7);have hg':=hg X' cc _ s7 _ H7 x u _ I7' r7 (step x H7 y7);rw [ep,ew,eA,exe] at hg';refine wpAny_mono hg' (fun _ s8 ⟨σ8,H8,I8,ext8,q8⟩=>?_) fun _ _ z=>False.elim z
   have back:∀{ys':List V} {H9:Hp} {s9:Shared} {σ9:St},Ext (σ++List.replicate own.length none) σ9->Inv X' ([]++pK fp s7.heap) σ9 H9 s9->(∃n',n'<n/\W (i+1) n' ys' H9)->∃m,m<n/\∃i ys H',Inv X' [] (σ++List.replicate own.length none) H' s9/\tn i s9.heap/\(∀b∈fp,H' b=none)/\W i m ys H':=by
    rintro ys' H9 s9 σ9 ex9 I9 ⟨n',hn',w9⟩;refine ⟨n',hn',i+1,ys',H9,(I9.weak ex9.1.symm ex9.2).gU,T.keep _ _ _ st7 fun b hb o e=>(I9.pin (b,o) (List.mem_append_right _ (List.mem_append_right _ (dF hb e)))).1,fun b hb=>?_,w9⟩;obtain ⟨o,e,d⟩:=T.obj _ _ st7 b hb;exact (I9.pin (b,o) (List.mem_append_right _ (List.mem_append_right _ (dF hb e)))).2.1
   simp only [if_true] at q8;have he':=he X' cc _ s8 _ H8 _ I8 q8;rw [ep,ew,eA,exe] at he';refine wpAny_mono he' (fun yv s10 ⟨y,H10,I10,r10,p10,q10⟩=>?_) fun _ _ z=>False.elim z
   have hm:=kY (X:=X') _ s10 σ8 H10 (.ref s2.heap.objs.size) [y] (.ref s2.heap.objs.size) [yv] (fun _ H11=>∃n',n'<n/\W (i+1) n' (ys++[y]) H11) I10 rfl (.cons r10 .nil) ⟨s2.heap.objs.size,ys,y,rfl,rfl,p10,hlen,q10⟩;rw [ep,ew,eA,exe] at hm;exact wpAny_mono hm (fun _ s11 ⟨_,H11,I11,_,q11⟩=>back ext8 I11 q11) fun _ _ z=>False.elim z
 have l4:=loop _ rfl;rw [eenv] at l4;exact codeAny_compStart_list l4 (T.self X.A 0 _ _ _ st4 l4)
end
end L2
end
section
namespace Mi
open PySem L2 PySem.SeqAt
variable [KFrag]
theorem fP {X:Cx} {pins:List (Addr×Obj)} {σ:St} {H:Hp} {s:Shared} {a:Addr} {xs:List V} (I:Inv X pins σ H s) (e:H a=some (.tup xs)):∃its:List Value,Vals xs its/\s.heap.IsTuple a its.toArray:=by
 obtain ⟨_,its,r,p⟩:xs.length<=sizeLine/\∃its:List Value,Vals xs its/\j5 s.heap a its.toArray:=I.hok a _ e;exact ⟨its,r,p.tup⟩
theorem lF {X:Cx} {pins:List (Addr×Obj)} {σ:St} {H:Hp} {s:Shared} {a:Addr} {xs:List V} (I:Inv X pins σ H s) (e:SqL X.K H a xs):∃its:List Value,Vals xs its/\s.heap.IsList a its.toArray:=by
 obtain ⟨its,r,p,_⟩:=I.list e;exact ⟨its,r,p.isList⟩
theorem Rep.iC {P:Addr->Prop} {H:Hp} {K:PySem.W.Frag} {v:V} {ds:List D} (r:Rep P H v (.lst ds)):∃a xs,v=.ref a/\SqL K H a xs/\bN P H xs ds:=by
 cases r with
 | lst e p r=>exact ⟨_,_,rfl,.inl (.inl e),r⟩
theorem Rep.eV {P:Addr->Prop} {H:Hp} {v:V} {ds:List D} (r:Rep P H v (.tup ds)):∃a xs,v=.ref a/\H a=some (.tup xs)/\bN P H xs ds:=by
 cases r with
 | tup e r=>exact ⟨_,_,rfl,e,r⟩
mutual
theorem vA:∀(n:Nat) (d:D),d.b7 n=true->eqD d d=true
 | _,.non,_=>rfl
 | _,.bl b,_=>by simp [eqD]
 | _,.int i,_=>by simp [eqD]
 | _,.str x,_=>by simp [eqD]
 | n+1,.tup xs,h=>by rw [D.b7] at h;rw [eqD];exact rH n xs h
 | n+1,.lst xs,h=>by rw [D.b7] at h;rw [eqD];exact rH n xs h
 | 0,.tup xs,h=>by simp [D.b7] at h
 | 0,.lst xs,h=>by simp [D.b7] at h
 | n,.dct _,h=>by cases n <;> simp [D.b7] at h
 | n,.uDf,h=>by cases n <;> simp [D.b7] at h
 | n,.scr _,h=>by cases n <;> simp [D.b7] at h
 | n,.fdc _,h=>by cases n <;> simp [D.b7] at h
theorem rH:∀(n:Nat) (ds:List D),D.gW n ds=true->tK ds ds=true
 | _,[],_=>rfl
 | n,d::ds,h=>by
  rw [D.gW,Bool.and_eq_true] at h;rw [tK,vA n d h.1,rH n ds h.2];rfl
end
mutual
theorem Rep.inj {P P':Addr->Prop} {H:Hp}:∀(n:Nat) {v:V} {d e:D},d.b7 n=true->e.b7 n=true->Rep P H v d->Rep P' H v e->d=e
 | _,_,_,_,_,_,.non,.non=>rfl
 | _,_,_,_,_,_,.bl _,.bl _=>rfl
 | _,_,_,_,_,_,.int _,.int _=>rfl
 | _,_,_,_,_,_,.str _,.str _=>rfl
 | n+1,_,.tup ds,_,h,h',.tup e1 r1,q=>by
  cases q with
  | tup e2 r2=>
   rw [e1] at e2;cases e2;rw [D.b7] at h h';rw [bN.inj n h h' r1 r2]
  | lst e2 _ _=>rw [e1] at e2;cases e2
  | frz e2 _=>simp [D.b7] at h'
  | fdK e2 _ _=>simp [D.b7] at h'
  | fdT e2 _ _=>simp [D.b7] at h'
  | dK e2 _ _ _=>rw [e1] at e2;cases e2
  | dT e2 _ _ _=>rw [e1] at e2;cases e2
 | n+1,_,.lst ds,_,h,h',.lst e1 p r1,q=>by
  cases q with
  | tup e2 r2=>rw [e1] at e2;cases e2
  | lst e2 _ r2=>
   rw [e1] at e2;cases e2;rw [D.b7] at h h';rw [bN.inj n h h' r1 r2]
  | frz e2 _=>simp [D.b7] at h'
  | fdK e2 _ _=>simp [D.b7] at h'
  | fdT e2 _ _=>simp [D.b7] at h'
  | dK e2 _ _ _=>rw [e1] at e2;cases e2
  | dT e2 _ _ _=>rw [e1] at e2;cases e2
 | 0,_,.tup ds,_,h,_,_,_=>by simp [D.b7] at h
 | 0,_,.lst ds,_,h,_,_,_=>by simp [D.b7] at h
 | n,_,.dct _,_,h,_,_,_=>by cases n <;> simp [D.b7] at h
 | n,_,.scr _,_,h,_,_,_=>by cases n <;> simp [D.b7] at h
 | n,_,.fdc _,_,h,_,_,_=>by cases n <;> simp [D.b7] at h
theorem bN.inj {P P':Addr->Prop} {H:Hp}:∀(n:Nat) {v:List V} {d e:List D},D.gW n d=true->D.gW n e=true->bN P H v d->bN P' H v e->d=e
 | _,_,_,_,_,_,.nil,.nil=>rfl
 | n,_,_,_,h,h',.cons r t,.cons r' t'=>by
  rw [D.gW,Bool.and_eq_true] at h h';rw [Rep.inj n h.1 h'.1 r r',bN.inj n h.2 h'.2 t t']
end
theorem o8:∀(xs ys:List D),tK xs ys=((List.range (min xs.length ys.length)).all (fun j=>eqD (xs.getD j .non) (ys.getD j .non))&&xs.length==ys.length)
 | [],[]=>by simp [tK]
 | [],y::ys=>by simp [tK]
 | x::xs,[]=>by simp [tK]
 | x::xs,y::ys=>by
  have e:min (x::xs).length (y::ys).length=min xs.length ys.length+1:=by simp only [List.length_cons];lia
  rw [tK,o8 xs ys,e,List.range_succ_eq_map,List.all_cons,List.all_map,Bool.and_assoc]
  congr 1
  simp [Function.comp_def]
theorem eF {n:Nat}:∀{ds:List D} {j:Nat},D.gW n ds=true->j<ds.length->(ds.getD j .non).b7 n=true
 | [],j,_,h=>by simp at h
 | d::ds,0,h,_=>by rw [D.gW,Bool.and_eq_true] at h;exact h.1
 | d::ds,j+1,h,hj=>by
  rw [D.gW,Bool.and_eq_true] at h;simpa using eF (ds:=ds) (j:=j) h.2 (by simpa using hj)
theorem bN.getD {P:Addr->Prop} {H:Hp} {vs:List V} {ds:List D} {j:Nat} (r:bN P H vs ds) (hj:j<ds.length):∃v,vs[j]?=some v/\Rep P H v (ds.getD j .non):=by
 obtain ⟨v,h1,h2⟩:=r.get (i:=j) (d:=ds.getD j .non) (by simp [hj]);exact ⟨v,h1,h2⟩
section
variable {X:Cx} {pins:List (Addr×Obj)} {σ:St} {H:Hp} {s:Shared}
theorem xK (I:Inv X pins σ H s):∀(n:Nat) (A:Around) {x y:V} {a b:D} {u v:Value},A.units+n<cLine->a.b7 n=true->b.b7 n=true->Rep All H x a->Rep All H y b->RelV x u->RelV y v->
  RcAt A s u v (eqD a b)/\RcNeAt A s u v (!eqD a b)/\EqAt A s u v (eqD a b):=by
 intro n;induction n with
 | zero=>
  intro A x y a b u v hu ha hb rx ry ru rv;cases rx with
  | non=>
   cases ru;cases ry with
   | non=>cases rv;exact ⟨RcAt.none_none,RcNeAt.none_none,EqAt.same _⟩
   | bl _=>cases rv;exact ⟨RcAt.none_bool _,RcNeAt.none_bool _,EqAt.none_bool _⟩
   | int _=>obtain ⟨t,rfl⟩:=rv;exact ⟨RcAt.none_int _ _,RcNeAt.none_int _ _,EqAt.none_int _ _⟩
   | str _=>obtain ⟨t,rfl⟩:=rv;exact ⟨RcAt.none_str _ _,RcNeAt.none_str _ _,EqAt.none_str _ _⟩
   | _=>simp [D.b7] at hb
  | bl _=>
   cases ru;cases ry with
   | non=>cases rv;exact ⟨RcAt.bool_none _,RcNeAt.bool_none _,EqAt.bool_none _⟩
   | bl _=>cases rv;exact ⟨RcAt.bool_bool _ _,RcNeAt.bool_bool _ _,EqAt.bool_bool _ _⟩
   | int _=>obtain ⟨t,rfl⟩:=rv;exact ⟨RcAt.bool_int _ _ _,RcNeAt.bool_int _ _ _,EqAt.bool_int _ _ _⟩
   | str _=>obtain ⟨t,rfl⟩:=rv;exact ⟨RcAt.bool_str _ _ _,RcNeAt.bool_str _ _ _,EqAt.bool_str _ _ _⟩
   | _=>simp [D.b7] at hb
  | int _=>
   obtain ⟨t,rfl⟩:=ru;cases ry with
   | non=>cases rv;exact ⟨RcAt.int_none _ _,RcNeAt.int_none _ _,EqAt.int_none _ _⟩
   | bl _=>cases rv;exact ⟨RcAt.int_bool _ _ _,RcNeAt.int_bool _ _ _,EqAt.int_bool _ _ _⟩
   | int _=>obtain ⟨t',rfl⟩:=rv;exact ⟨RcAt.int_int _ _ _ _,RcNeAt.int_int _ _ _ _,EqAt.int_int _ _ _ _⟩
   | str _=>obtain ⟨t',rfl⟩:=rv;exact ⟨RcAt.int_str _ _ _ _,RcNeAt.int_str _ _ _ _,EqAt.int_str _ _ _ _⟩
   | _=>simp [D.b7] at hb
  | str _=>
   obtain ⟨t,rfl⟩:=ru;cases ry with
   | non=>cases rv;exact ⟨RcAt.str_none _ _,RcNeAt.str_none _ _,EqAt.str_none _ _⟩
   | bl _=>cases rv;exact ⟨RcAt.str_bool _ _ _,RcNeAt.str_bool _ _ _,EqAt.str_bool _ _ _⟩
   | int _=>obtain ⟨t',rfl⟩:=rv;exact ⟨RcAt.str_int _ _ _ _,RcNeAt.str_int _ _ _ _,EqAt.str_int _ _ _ _⟩
   | str _=>obtain ⟨t',rfl⟩:=rv;exact ⟨RcAt.str_str _ _ _ _,RcNeAt.str_str _ _ _ _,EqAt.str_str _ _ _ _⟩
   | _=>simp [D.b7] at hb
  | _=>simp [D.b7] at ha
 | succ n ih=>
  intro A x y a b u v hu ha hb rx ry ru rv;have hu0:A.units<cLine:=by lia
  have hu1:A.in1.units+n<cLine:=by show A.units+1+n<cLine;lia
  cases a with
  | uDf=>exact absurd rx Rep.uDf
  | dct _=>simp [D.b7] at ha
  | scr _=>simp [D.b7] at ha
  | fdc _=>simp [D.b7] at ha
  | non=>
   cases rx;cases ru;cases b with
   | uDf=>exact absurd ry Rep.uDf
   | dct _=>simp [D.b7] at hb
   | scr _=>simp [D.b7] at hb
   | fdc _=>simp [D.b7] at hb
   | non=>cases ry;cases rv;exact ⟨RcAt.none_none,RcNeAt.none_none,EqAt.same _⟩
   | bl _=>cases ry;cases rv;exact ⟨RcAt.none_bool _,RcNeAt.none_bool _,EqAt.none_bool _⟩
   | int _=>cases ry;obtain ⟨t2,rfl⟩:=rv;exact ⟨RcAt.none_int _ _,RcNeAt.none_int _ _,EqAt.none_int _ _⟩
   | str _=>cases ry;obtain ⟨t2,rfl⟩:=rv;exact ⟨RcAt.none_str _ _,RcNeAt.none_str _ _,EqAt.none_str _ _⟩
   | tup es=>
    obtain ⟨q,ys,rfl,e2,r2⟩:=ry.eV;cases rv;obtain ⟨its2,vr2,h2⟩:=fP I e2;exact ⟨RcAt.none_tuple h2 hu0,RcNeAt.none_tuple h2 hu0,EqAt.none_tuple h2 hu0⟩
   | lst es=>
    obtain ⟨q,ys,rfl,e2,r2⟩:=ry.iC (K:=X.K);cases rv;obtain ⟨its2,vr2,h2⟩:=lF I e2;exact ⟨RcAt.none_list h2 hu0,RcNeAt.none_list h2 hu0,EqAt.none_list h2 hu0⟩
  | bl _=>
   cases rx;cases ru;cases b with
   | uDf=>exact absurd ry Rep.uDf
   | dct _=>simp [D.b7] at hb
   | scr _=>simp [D.b7] at hb
   | fdc _=>simp [D.b7] at hb
   | non=>cases ry;cases rv;exact ⟨RcAt.bool_none _,RcNeAt.bool_none _,EqAt.bool_none _⟩
   | bl _=>cases ry;cases rv;exact ⟨RcAt.bool_bool _ _,RcNeAt.bool_bool _ _,EqAt.bool_bool _ _⟩
   | int _=>cases ry;obtain ⟨t2,rfl⟩:=rv;exact ⟨RcAt.bool_int _ _ _,RcNeAt.bool_int _ _ _,EqAt.bool_int _ _ _⟩
   | str _=>cases ry;obtain ⟨t2,rfl⟩:=rv;exact ⟨RcAt.bool_str _ _ _,RcNeAt.bool_str _ _ _,EqAt.bool_str _ _ _⟩
   | tup es=>
    obtain ⟨q,ys,rfl,e2,r2⟩:=ry.eV;cases rv;obtain ⟨its2,vr2,h2⟩:=fP I e2;exact ⟨RcAt.bool_tuple _ h2 hu0,RcNeAt.bool_tuple _ h2 hu0,EqAt.bool_tuple _ h2 hu0⟩
   | lst es=>
    obtain ⟨q,ys,rfl,e2,r2⟩:=ry.iC (K:=X.K);cases rv;obtain ⟨its2,vr2,h2⟩:=lF I e2;exact ⟨RcAt.bool_list _ h2 hu0,RcNeAt.bool_list _ h2 hu0,EqAt.bool_list _ h2 hu0⟩
  | int _=>
   cases rx;obtain ⟨t1,rfl⟩:=ru;cases b with
   | uDf=>exact absurd ry Rep.uDf
   | dct _=>simp [D.b7] at hb
   | scr _=>simp [D.b7] at hb
   | fdc _=>simp [D.b7] at hb
   | non=>cases ry;cases rv;exact ⟨RcAt.int_none _ _,RcNeAt.int_none _ _,EqAt.int_none _ _⟩
   | bl _=>cases ry;cases rv;exact ⟨RcAt.int_bool _ _ _,RcNeAt.int_bool _ _ _,EqAt.int_bool _ _ _⟩
   | int _=>cases ry;obtain ⟨t2,rfl⟩:=rv;exact ⟨RcAt.int_int _ _ _ _,RcNeAt.int_int _ _ _ _,EqAt.int_int _ _ _ _⟩
   | str _=>cases ry;obtain ⟨t2,rfl⟩:=rv;exact ⟨RcAt.int_str _ _ _ _,RcNeAt.int_str _ _ _ _,EqAt.int_str _ _ _ _⟩
   | tup es=>
    obtain ⟨q,ys,rfl,e2,r2⟩:=ry.eV;cases rv;obtain ⟨its2,vr2,h2⟩:=fP I e2;exact ⟨RcAt.int_tuple _ _ h2 hu0,RcNeAt.int_tuple _ _ h2 hu0,EqAt.int_tuple _ _ h2 hu0⟩
   | lst es=>
    obtain ⟨q,ys,rfl,e2,r2⟩:=ry.iC (K:=X.K);cases rv;obtain ⟨its2,vr2,h2⟩:=lF I e2;exact ⟨RcAt.int_list _ _ h2 hu0,RcNeAt.int_list _ _ h2 hu0,EqAt.int_list _ _ h2 hu0⟩
  | str _=>
   cases rx;obtain ⟨t1,rfl⟩:=ru;cases b with
   | uDf=>exact absurd ry Rep.uDf
   | dct _=>simp [D.b7] at hb
   | scr _=>simp [D.b7] at hb
   | fdc _=>simp [D.b7] at hb
   | non=>cases ry;cases rv;exact ⟨RcAt.str_none _ _,RcNeAt.str_none _ _,EqAt.str_none _ _⟩
   | bl _=>cases ry;cases rv;exact ⟨RcAt.str_bool _ _ _,RcNeAt.str_bool _ _ _,EqAt.str_bool _ _ _⟩
   | int _=>cases ry;obtain ⟨t2,rfl⟩:=rv;exact ⟨RcAt.str_int _ _ _ _,RcNeAt.str_int _ _ _ _,EqAt.str_int _ _ _ _⟩
   | str _=>cases ry;obtain ⟨t2,rfl⟩:=rv;exact ⟨RcAt.str_str _ _ _ _,RcNeAt.str_str _ _ _ _,EqAt.str_str _ _ _ _⟩
   | tup es=>
    obtain ⟨q,ys,rfl,e2,r2⟩:=ry.eV;cases rv;obtain ⟨its2,vr2,h2⟩:=fP I e2;exact ⟨RcAt.str_tuple _ _ h2 hu0,RcNeAt.str_tuple _ _ h2 hu0,EqAt.str_tuple _ _ h2 hu0⟩
   | lst es=>
    obtain ⟨q,ys,rfl,e2,r2⟩:=ry.iC (K:=X.K);cases rv;obtain ⟨its2,vr2,h2⟩:=lF I e2;exact ⟨RcAt.str_list _ _ h2 hu0,RcNeAt.str_list _ _ h2 hu0,EqAt.str_list _ _ h2 hu0⟩
  | tup ds=>
   obtain ⟨p,xs,rfl,e1,r1⟩:=rx.eV;cases ru;obtain ⟨its1,vr1,h1⟩:=fP I e1;rw [D.b7] at ha;cases b with
   | uDf=>exact absurd ry Rep.uDf
   | dct _=>simp [D.b7] at hb
   | scr _=>simp [D.b7] at hb
   | fdc _=>simp [D.b7] at hb
   | non=>cases ry;cases rv;exact ⟨RcAt.tuple_none h1 hu0,RcNeAt.tuple_none h1 hu0,EqAt.tuple_none h1 hu0⟩
   | bl _=>cases ry;cases rv;exact ⟨RcAt.tuple_bool _ h1 hu0,RcNeAt.tuple_bool _ h1 hu0,EqAt.tuple_bool _ h1 hu0⟩
   | int _=>cases ry;obtain ⟨t2,rfl⟩:=rv;exact ⟨RcAt.tuple_int _ _ h1 hu0,RcNeAt.tuple_int _ _ h1 hu0,EqAt.tuple_int _ _ h1 hu0⟩
   | str _=>cases ry;obtain ⟨t2,rfl⟩:=rv;exact ⟨RcAt.tuple_str _ _ h1 hu0,RcNeAt.tuple_str _ _ h1 hu0,EqAt.tuple_str _ _ h1 hu0⟩
   | tup es=>
    obtain ⟨q,ys,rfl,e2,r2⟩:=ry.eV;cases rv;obtain ⟨its2,vr2,h2⟩:=fP I e2;rw [D.b7] at hb;have z1:its1.toArray.size=ds.length:=by rw [List.size_toArray,<-vr1.length,r1.length]
    have z2:its2.toArray.size=es.length:=by rw [List.size_toArray,<-vr2.length,r2.length]
    have he:∀j (g1:j<its1.toArray.size) (g2:j<its2.toArray.size),EqAt A.in1 s its1.toArray[j] its2.toArray[j] (eqD (ds.getD j .non) (es.getD j .non)):=fun j g1 g2=>by
     obtain ⟨v1,w1,rr1⟩:=r1.getD (j:=j) (by lia);obtain ⟨v2,w2,rr2⟩:=r2.getD (j:=j) (by lia);obtain ⟨u1,k1,l1⟩:=vr1.get w1;obtain ⟨u2,k2,l2⟩:=vr2.get w2;have m1:its1.toArray[j]=u1:=by
      rw [List.getElem?_eq_getElem (by simpa using g1)] at k1;simpa using Option.some.inj k1
     have m2:its2.toArray[j]=u2:=by
      rw [List.getElem?_eq_getElem (by simpa using g2)] at k2;simpa using Option.some.inj k2
     rw [m1,m2];exact (ih A.in1 hu1 (eF ha (by lia)) (eF hb (by lia)) rr1 rr2 l1 l2).2.2
    have ee:eqD (.tup ds) (.tup es)=((List.range (min its1.toArray.size its2.toArray.size)).all (fun j=>eqD (ds.getD j .non) (es.getD j .non))&&its1.toArray.size==its2.toArray.size):=by
     rw [eqD,o8,z1,z2]
    have r0:=RcAt.tuples h1 h2 hu0 he;have r0':=RcNeAt.tuples h1 h2 hu0 he;rw [<-ee] at r0 r0';refine ⟨r0,r0',?_⟩;by_cases hpq:p=q
    ·subst hpq;have hab:(D.tup ds)=(.tup es):=Rep.inj (n+1) (by rw [D.b7];exact ha) (by rw [D.b7];exact hb) rx ry;rw [<-hab,vA (n+1) _ (by rw [D.b7];exact ha)];exact EqAt.same _
    ·exact EqAt.of_refs hpq r0
   | lst es=>
    obtain ⟨q,ys,rfl,e2,r2⟩:=ry.iC (K:=X.K);cases rv;obtain ⟨its2,vr2,h2⟩:=lF I e2;exact ⟨RcAt.tuple_list h1 h2 hu0,RcNeAt.tuple_list h1 h2 hu0,EqAt.tuple_list h1 h2 hu0⟩
  | lst ds=>
   obtain ⟨p,xs,rfl,e1,r1⟩:=rx.iC (K:=X.K);cases ru;obtain ⟨its1,vr1,h1⟩:=lF I e1;rw [D.b7] at ha;cases b with
   | uDf=>exact absurd ry Rep.uDf
   | dct _=>simp [D.b7] at hb
   | scr _=>simp [D.b7] at hb
   | fdc _=>simp [D.b7] at hb
   | non=>cases ry;cases rv;exact ⟨RcAt.list_none h1 hu0,RcNeAt.list_none h1 hu0,EqAt.list_none h1 hu0⟩
   | bl _=>cases ry;cases rv;exact ⟨RcAt.list_bool _ h1 hu0,RcNeAt.list_bool _ h1 hu0,EqAt.list_bool _ h1 hu0⟩
   | int _=>cases ry;obtain ⟨t2,rfl⟩:=rv;exact ⟨RcAt.list_int _ _ h1 hu0,RcNeAt.list_int _ _ h1 hu0,EqAt.list_int _ _ h1 hu0⟩
   | str _=>cases ry;obtain ⟨t2,rfl⟩:=rv;exact ⟨RcAt.list_str _ _ h1 hu0,RcNeAt.list_str _ _ h1 hu0,EqAt.list_str _ _ h1 hu0⟩
   | tup es=>
    obtain ⟨q,ys,rfl,e2,r2⟩:=ry.eV;cases rv;obtain ⟨its2,vr2,h2⟩:=fP I e2;exact ⟨RcAt.list_tuple h1 h2 hu0,RcNeAt.list_tuple h1 h2 hu0,EqAt.list_tuple h1 h2 hu0⟩
   | lst es=>
    obtain ⟨q,ys,rfl,e2,r2⟩:=ry.iC (K:=X.K);cases rv;obtain ⟨its2,vr2,h2⟩:=lF I e2;rw [D.b7] at hb;have z1:its1.toArray.size=ds.length:=by rw [List.size_toArray,<-vr1.length,r1.length]
    have z2:its2.toArray.size=es.length:=by rw [List.size_toArray,<-vr2.length,r2.length]
    have he:∀j (g1:j<its1.toArray.size) (g2:j<its2.toArray.size),EqAt A.in1 s its1.toArray[j] its2.toArray[j] (eqD (ds.getD j .non) (es.getD j .non)):=fun j g1 g2=>by
     obtain ⟨v1,w1,rr1⟩:=r1.getD (j:=j) (by lia);obtain ⟨v2,w2,rr2⟩:=r2.getD (j:=j) (by lia);obtain ⟨u1,k1,l1⟩:=vr1.get w1;obtain ⟨u2,k2,l2⟩:=vr2.get w2;have m1:its1.toArray[j]=u1:=by
      rw [List.getElem?_eq_getElem (by simpa using g1)] at k1;simpa using Option.some.inj k1
     have m2:its2.toArray[j]=u2:=by
      rw [List.getElem?_eq_getElem (by simpa using g2)] at k2;simpa using Option.some.inj k2
     rw [m1,m2];exact (ih A.in1 hu1 (eF ha (by lia)) (eF hb (by lia)) rr1 rr2 l1 l2).2.2
    have r00:RcAt A s (.ref p) (.ref q) (eqD (.lst ds) (.lst es))/\RcNeAt A s (.ref p) (.ref q) (!eqD (.lst ds) (.lst es)):=by
     rw [eqD,o8];by_cases hz:ds.length=es.length
     ·have r0:=RcAt.lists h1 h2 (by lia) hu0 he;have r0':=RcNeAt.lists h1 h2 (by lia) hu0 he;rw [z1] at r0 r0';rw [show min ds.length es.length=ds.length by lia,show (ds.length==es.length)=true by simpa using hz,Bool.and_true];exact ⟨r0,r0'⟩
     ·have hz':(its1.toArray.size != its2.toArray.size)=true:=by rw [z1,z2];simpa using hz
      rw [show (ds.length==es.length)=false by simpa using hz,Bool.and_false];exact ⟨RcAt.lists_lengths h1 h2 hz' hu0,RcNeAt.lists_lengths h1 h2 hz' hu0⟩
    obtain ⟨r0,r0'⟩:=r00;refine ⟨r0,r0',?_⟩;by_cases hpq:p=q
    ·subst hpq;have hab:(D.lst ds)=(.lst es):=Rep.inj (n+1) (by rw [D.b7];exact ha) (by rw [D.b7];exact hb) rx ry;rw [<-hab,vA (n+1) _ (by rw [D.b7];exact ha)];exact EqAt.same _
    ·exact EqAt.of_refs hpq r0
end
end Mi
end
section
namespace Mi
open PySem L2 PySem.SeqAt
open PySem.AutoSeq1 (wpAny_loadPart')
open PySem.MeetsSeq PySem.MeetsSeq2 PySem.MeetsSeq3
variable [KFrag]
noncomputable def gY.op:gY->CmpOp
 | .lt=>.Lt|.le=>.LtE|.gt=>.Gt|.ge=>.GtE
noncomputable def GC (op:CmpOp) (A:Around) (s:Shared) (u v:Value) (b:Bool):Prop:=
 ∀(prog:Program) (w:World) (E:Value->Shared->Prop) (Q:Value->Shared->Prop),Q (.bool b) s->wpAny (model prog w) A (richCompare op u v) Q E s
noncomputable def C2 (o:gY) (A:Around) (s:Shared) (vs ws:List Value) (xs ys:List D):Prop:=
 vs.length=xs.length/\ws.length=ys.length/\∀(j:Nat) (v w:Value) (x y:D),vs[j]?=some v->ws[j]?=some w->xs[j]?=some x->ys[j]?=some y->
  EqAt A s v w (eqD x y)/\(eqD x y=false->∀k,dG o x y=some k->GC o.op A s v w k)
theorem C2.tail {o:gY} {A:Around} {s:Shared} {v w:Value} {vs ws:List Value} {x y:D} {xs ys:List D} (h:C2 o A s (v::vs) (w::ws) (x::xs) (y::ys)):C2 o A s vs ws xs ys:=
 ⟨by simpa using h.1,by simpa using h.2.1,fun j a b c d e1 e2 e3 e4=>h.2.2 (j+1) a b c d (by simpa using e1) (by simpa using e2) (by simpa using e3) (by simpa using e4)⟩
theorem JT (l b:Addr) (items items2:Array Value) (n n2:Nat) (dd dd2:Option Addr) (sl sl2:Array (Option Value)) (xs ys:List D) (res:Bool) (hr:cV .lt xs ys=some res) :
  Meets (Builtin.«tuple.__lt__» ⟨[.ref l,.ref b],[]⟩)
   (fun A R s=>s.heap.get? l=some {cls:=.type "tuple",dict:=dd,data:=.seq items n,slots:=sl}/\s.heap.get? b=some {cls:=.type "tuple",dict:=dd2,data:=.seq items2 n2,slots:=sl2}/\
    C2 .lt A.in1 s items.toList items2.toList xs ys/\R (.ok (.ret (.bool res))) s):=
 .of_wp fun prog w A R s h=>by
  obtain ⟨hp,g,d,tk,os⟩:=s;obtain ⟨hl,hb,hC,h⟩:=h;have f2:=AutoSeq1.sub_tuple_tuple;have z1:items.size=xs.length:=by rw [<-hC.1];simp
  have z2:items2.size=ys.length:=by rw [<-hC.2.1];simp
  wp_walk using wpAny_loadPart' hl,wpAny_loadPart' hb,wpAny_forIn_list _ (fun rest b s'=>b.1=none/\s'=⟨hp,g,d,tk,os⟩/\∃(vs ws:List Value) (xs' ys':List D),rest=vs.zip ws/\
   C2 .lt A.in1 ⟨hp,g,d,tk,os⟩ vs ws xs' ys'/\xs'.length+items2.size=ys'.length+items.size/\cV .lt xs' ys'=some res) _
  case turn=>
   rintro ⟨y,x⟩ rest b s' ⟨hb',rfl,vs,ws,xs',ys',hz,hC',hlen,hR⟩;cases vs with
   | nil=>rw [List.zip_nil_left] at hz;cases hz
   | cons v vs=>
    cases ws with
    | nil=>rw [List.zip_nil_right] at hz;cases hz
    | cons w' ws=>
     rw [List.zip_cons_cons] at hz;injection hz with hyx hrest
     injection hyx with hy hx
     subst hy hx;cases xs' with
     | nil=>exact absurd hC'.1 (by simp)
     | cons x0 xs'=>
      cases ys' with
      | nil=>exact absurd hC'.2.1 (by simp)
      | cons y0 ys'=>
       rw [cV] at hR;simp only [List.length_cons] at hlen;obtain ⟨he,hlt⟩:=hC'.2.2 0 _ _ _ _ rfl rfl rfl rfl;refine wpAny_bind (he prog w _ _ ?_);cases e:eqD x0 y0 with
       | true=>
        rw [e] at hR;simp only [if_true] at hR
        wp_walk
        exact ⟨rfl,rfl,_,_,_,_,hrest,hC'.tail,by lia,hR⟩
       | false=>
        rw [e] at hR;simp only [Bool.false_eq_true,if_false] at hR;have hri:∀(E:Value->Shared->Prop) (Q:Value->Shared->Prop),Q (.bool res) ⟨hp,g,d,tk,os⟩->wpAny (model prog w) A.in1 (richCompare .Lt _ _) Q E ⟨hp,g,d,tk,os⟩:=fun E Q q=>hlt e res hR prog w E Q q
        wp_walk using hri
        exact ⟨_,rfl,by simpa using h⟩
  case fin=>
   rintro ⟨b1,b2⟩ s' ⟨hb',rfl,vs,ws,xs',ys',hz,hC',hlen,hR⟩;simp only at hb';subst hb';have hv:res=decide (items.size<items2.size):=by
    cases xs' with
    | nil=>
     rw [cV] at hR;have:=Option.some.inj hR;rw [<-this];simp only [List.length_nil] at hlen;simp only [gY.nat]
     congr 1
     simp only [eq_iff_iff];lia
    | cons x0 xs'=>
     cases ys' with
     | nil=>
      rw [cV] at hR;have:=Option.some.inj hR;rw [<-this];simp only [List.length_nil,List.length_cons] at hlen;simp only [gY.nat,List.length_cons]
      congr 1
      simp only [eq_iff_iff];lia
     | cons y0 ys'=>
      exfalso;cases vs with
      | nil=>exact absurd hC'.1 (by simp)
      | cons v vs=>
       cases ws with
       | nil=>exact absurd hC'.2.1 (by simp)
       | cons w' ws=>rw [List.zip_cons_cons] at hz;cases hz
   rw [hv] at h
   wp_walk
   exact ⟨_,rfl,by simpa [Builtin.Tuple.tupleCompareSizes] using h⟩
  case h=>
   exact ⟨rfl,rfl,items.toList,items2.toList,xs,ys,rfl,hC,by lia,hr⟩
theorem GC.aCq {A:Around} {s:Shared} {l b:Addr} {items items2:Array Value} {xs ys:List D} {res:Bool} (hl:s.heap.IsTuple l items) (hb:s.heap.IsTuple b items2) (hC:C2 .lt A.in1 s items.toList items2.toList xs ys) (hr:cV .lt xs ys=some res) (hu:A.units<cLine) :
  GC .Lt A s (.ref l) (.ref b) res:=fun prog w E Q h=>by
 obtain ⟨⟨cls,dd,data,sl⟩,ho,hc,n,hd⟩:=id hl;obtain ⟨⟨cls2,dd2,data2,sl2⟩,ho2,hc2,n2,hd2⟩:=id hb;simp only at hc hd hc2 hd2;subst hc hd hc2 hd2;exact richCompare_meets_room (op:=.Lt) ⟨_,ho,rfl⟩ ⟨_,ho2,rfl⟩ PySem.F.slot_tuple_lt PySem.F.entry_tuple_lt (PySem.F.args_tuple_lt_2 _ _) (JT l b items items2 n n2 dd dd2 sl sl2 xs ys res hr)
  ⟨ho,ho2,hC,show Value.bool res≠Value.notImplemented/\Q (.bool res) s from ⟨(fun x=>nomatch x),h⟩⟩ hu
theorem JV (l b:Addr) (items items2:Array Value) (n n2:Nat) (dd dd2:Option Addr) (sl sl2:Array (Option Value)) (xs ys:List D) (res:Bool) (hr:cV .le xs ys=some res) :
  Meets (Builtin.«tuple.__le__» ⟨[.ref l,.ref b],[]⟩)
   (fun A R s=>s.heap.get? l=some {cls:=.type "tuple",dict:=dd,data:=.seq items n,slots:=sl}/\s.heap.get? b=some {cls:=.type "tuple",dict:=dd2,data:=.seq items2 n2,slots:=sl2}/\
    C2 .le A.in1 s items.toList items2.toList xs ys/\R (.ok (.ret (.bool res))) s):=
 .of_wp fun prog w A R s h=>by
  obtain ⟨hp,g,d,tk,os⟩:=s;obtain ⟨hl,hb,hC,h⟩:=h;have f2:=AutoSeq1.sub_tuple_tuple;have z1:items.size=xs.length:=by rw [<-hC.1];simp
  have z2:items2.size=ys.length:=by rw [<-hC.2.1];simp
  wp_walk using wpAny_loadPart' hl,wpAny_loadPart' hb,wpAny_forIn_list _ (fun rest b s'=>b.1=none/\s'=⟨hp,g,d,tk,os⟩/\∃(vs ws:List Value) (xs' ys':List D),rest=vs.zip ws/\
   C2 .le A.in1 ⟨hp,g,d,tk,os⟩ vs ws xs' ys'/\xs'.length+items2.size=ys'.length+items.size/\cV .le xs' ys'=some res) _
  case turn=>
   rintro ⟨y,x⟩ rest b s' ⟨hb',rfl,vs,ws,xs',ys',hz,hC',hlen,hR⟩;cases vs with
   | nil=>rw [List.zip_nil_left] at hz;cases hz
   | cons v vs=>
    cases ws with
    | nil=>rw [List.zip_nil_right] at hz;cases hz
    | cons w' ws=>
     rw [List.zip_cons_cons] at hz;injection hz with hyx hrest
     injection hyx with hy hx
     subst hy hx;cases xs' with
     | nil=>exact absurd hC'.1 (by simp)
     | cons x0 xs'=>
      cases ys' with
      | nil=>exact absurd hC'.2.1 (by simp)
      | cons y0 ys'=>
       rw [cV] at hR;simp only [List.length_cons] at hlen;obtain ⟨he,hlt⟩:=hC'.2.2 0 _ _ _ _ rfl rfl rfl rfl;refine wpAny_bind (he prog w _ _ ?_);cases e:eqD x0 y0 with
       | true=>
        rw [e] at hR;simp only [if_true] at hR
        wp_walk
        exact ⟨rfl,rfl,_,_,_,_,hrest,hC'.tail,by lia,hR⟩
       | false=>
        rw [e] at hR;simp only [Bool.false_eq_true,if_false] at hR;have hri:∀(E:Value->Shared->Prop) (Q:Value->Shared->Prop),Q (.bool res) ⟨hp,g,d,tk,os⟩->wpAny (model prog w) A.in1 (richCompare .LtE _ _) Q E ⟨hp,g,d,tk,os⟩:=fun E Q q=>hlt e res hR prog w E Q q
        wp_walk using hri
        exact ⟨_,rfl,by simpa using h⟩
  case fin=>
   rintro ⟨b1,b2⟩ s' ⟨hb',rfl,vs,ws,xs',ys',hz,hC',hlen,hR⟩;simp only at hb';subst hb';have hv:res=decide (items.size<=items2.size):=by
    cases xs' with
    | nil=>
     rw [cV] at hR;have:=Option.some.inj hR;rw [<-this];simp only [List.length_nil] at hlen;simp only [gY.nat]
     congr 1
     simp only [eq_iff_iff];lia
    | cons x0 xs'=>
     cases ys' with
     | nil=>
      rw [cV] at hR;have:=Option.some.inj hR;rw [<-this];simp only [List.length_nil,List.length_cons] at hlen;simp only [gY.nat,List.length_cons]
      congr 1
      simp only [eq_iff_iff];lia
     | cons y0 ys'=>
      exfalso;cases vs with
      | nil=>exact absurd hC'.1 (by simp)
      | cons v vs=>
       cases ws with
       | nil=>exact absurd hC'.2.1 (by simp)
       | cons w' ws=>rw [List.zip_cons_cons] at hz;cases hz
   rw [hv] at h
   wp_walk
   exact ⟨_,rfl,by simpa [Builtin.Tuple.tupleCompareSizes] using h⟩
  case h=>
   exact ⟨rfl,rfl,items.toList,items2.toList,xs,ys,rfl,hC,by lia,hr⟩
theorem GC.aCr {A:Around} {s:Shared} {l b:Addr} {items items2:Array Value} {xs ys:List D} {res:Bool} (hl:s.heap.IsTuple l items) (hb:s.heap.IsTuple b items2) (hC:C2 .le A.in1 s items.toList items2.toList xs ys) (hr:cV .le xs ys=some res) (hu:A.units<cLine) :
  GC .LtE A s (.ref l) (.ref b) res:=fun prog w E Q h=>by
 obtain ⟨⟨cls,dd,data,sl⟩,ho,hc,n,hd⟩:=id hl;obtain ⟨⟨cls2,dd2,data2,sl2⟩,ho2,hc2,n2,hd2⟩:=id hb;simp only at hc hd hc2 hd2;subst hc hd hc2 hd2;exact richCompare_meets_room (op:=.LtE) ⟨_,ho,rfl⟩ ⟨_,ho2,rfl⟩ PySem.F.slot_tuple_le PySem.F.entry_tuple_le (PySem.F.args_tuple_le_2 _ _) (JV l b items items2 n n2 dd dd2 sl sl2 xs ys res hr)
  ⟨ho,ho2,hC,show Value.bool res≠Value.notImplemented/\Q (.bool res) s from ⟨(fun x=>nomatch x),h⟩⟩ hu
theorem JW (l b:Addr) (items items2:Array Value) (n n2:Nat) (dd dd2:Option Addr) (sl sl2:Array (Option Value)) (xs ys:List D) (res:Bool) (hr:cV .gt xs ys=some res) :
  Meets (Builtin.«tuple.__gt__» ⟨[.ref l,.ref b],[]⟩)
   (fun A R s=>s.heap.get? l=some {cls:=.type "tuple",dict:=dd,data:=.seq items n,slots:=sl}/\s.heap.get? b=some {cls:=.type "tuple",dict:=dd2,data:=.seq items2 n2,slots:=sl2}/\
    C2 .gt A.in1 s items.toList items2.toList xs ys/\R (.ok (.ret (.bool res))) s):=
 .of_wp fun prog w A R s h=>by
  obtain ⟨hp,g,d,tk,os⟩:=s;obtain ⟨hl,hb,hC,h⟩:=h;have f2:=AutoSeq1.sub_tuple_tuple;have z1:items.size=xs.length:=by rw [<-hC.1];simp
  have z2:items2.size=ys.length:=by rw [<-hC.2.1];simp
  wp_walk using wpAny_loadPart' hl,wpAny_loadPart' hb,wpAny_forIn_list _ (fun rest b s'=>b.1=none/\s'=⟨hp,g,d,tk,os⟩/\∃(vs ws:List Value) (xs' ys':List D),rest=vs.zip ws/\
   C2 .gt A.in1 ⟨hp,g,d,tk,os⟩ vs ws xs' ys'/\xs'.length+items2.size=ys'.length+items.size/\cV .gt xs' ys'=some res) _
  case turn=>
   rintro ⟨y,x⟩ rest b s' ⟨hb',rfl,vs,ws,xs',ys',hz,hC',hlen,hR⟩;cases vs with
   | nil=>rw [List.zip_nil_left] at hz;cases hz
   | cons v vs=>
    cases ws with
    | nil=>rw [List.zip_nil_right] at hz;cases hz
    | cons w' ws=>
     rw [List.zip_cons_cons] at hz;injection hz with hyx hrest
     injection hyx with hy hx
     subst hy hx;cases xs' with
     | nil=>exact absurd hC'.1 (by simp)
     | cons x0 xs'=>
      cases ys' with
      | nil=>exact absurd hC'.2.1 (by simp)
      | cons y0 ys'=>
       rw [cV] at hR;simp only [List.length_cons] at hlen;obtain ⟨he,hlt⟩:=hC'.2.2 0 _ _ _ _ rfl rfl rfl rfl;refine wpAny_bind (he prog w _ _ ?_);cases e:eqD x0 y0 with
       | true=>
        rw [e] at hR;simp only [if_true] at hR
        wp_walk
        exact ⟨rfl,rfl,_,_,_,_,hrest,hC'.tail,by lia,hR⟩
       | false=>
        rw [e] at hR;simp only [Bool.false_eq_true,if_false] at hR;have hri:∀(E:Value->Shared->Prop) (Q:Value->Shared->Prop),Q (.bool res) ⟨hp,g,d,tk,os⟩->wpAny (model prog w) A.in1 (richCompare .Gt _ _) Q E ⟨hp,g,d,tk,os⟩:=fun E Q q=>hlt e res hR prog w E Q q
        wp_walk using hri
        exact ⟨_,rfl,by simpa using h⟩
  case fin=>
   rintro ⟨b1,b2⟩ s' ⟨hb',rfl,vs,ws,xs',ys',hz,hC',hlen,hR⟩;simp only at hb';subst hb';have hv:res=decide (items2.size<items.size):=by
    cases xs' with
    | nil=>
     rw [cV] at hR;have:=Option.some.inj hR;rw [<-this];simp only [List.length_nil] at hlen;simp only [gY.nat]
     congr 1
     simp only [eq_iff_iff];lia
    | cons x0 xs'=>
     cases ys' with
     | nil=>
      rw [cV] at hR;have:=Option.some.inj hR;rw [<-this];simp only [List.length_nil,List.length_cons] at hlen;simp only [gY.nat,List.length_cons]
      congr 1
      simp only [eq_iff_iff];lia
     | cons y0 ys'=>
      exfalso;cases vs with
      | nil=>exact absurd hC'.1 (by simp)
      | cons v vs=>
       cases ws with
       | nil=>exact absurd hC'.2.1 (by simp)
       | cons w' ws=>rw [List.zip_cons_cons] at hz;cases hz
   rw [hv] at h
   wp_walk
   exact ⟨_,rfl,by simpa [Builtin.Tuple.tupleCompareSizes] using h⟩
  case h=>
   exact ⟨rfl,rfl,items.toList,items2.toList,xs,ys,rfl,hC,by lia,hr⟩
theorem GC.aCs {A:Around} {s:Shared} {l b:Addr} {items items2:Array Value} {xs ys:List D} {res:Bool} (hl:s.heap.IsTuple l items) (hb:s.heap.IsTuple b items2) (hC:C2 .gt A.in1 s items.toList items2.toList xs ys) (hr:cV .gt xs ys=some res) (hu:A.units<cLine) :
  GC .Gt A s (.ref l) (.ref b) res:=fun prog w E Q h=>by
 obtain ⟨⟨cls,dd,data,sl⟩,ho,hc,n,hd⟩:=id hl;obtain ⟨⟨cls2,dd2,data2,sl2⟩,ho2,hc2,n2,hd2⟩:=id hb;simp only at hc hd hc2 hd2;subst hc hd hc2 hd2;exact richCompare_meets_room (op:=.Gt) ⟨_,ho,rfl⟩ ⟨_,ho2,rfl⟩ PySem.F.slot_tuple_gt PySem.F.entry_tuple_gt (PySem.F.args_tuple_gt_2 _ _) (JW l b items items2 n n2 dd dd2 sl sl2 xs ys res hr)
  ⟨ho,ho2,hC,show Value.bool res≠Value.notImplemented/\Q (.bool res) s from ⟨(fun x=>nomatch x),h⟩⟩ hu
theorem JX (l b:Addr) (items items2:Array Value) (n n2:Nat) (dd dd2:Option Addr) (sl sl2:Array (Option Value)) (xs ys:List D) (res:Bool) (hr:cV .ge xs ys=some res) :
  Meets (Builtin.«tuple.__ge__» ⟨[.ref l,.ref b],[]⟩)
   (fun A R s=>s.heap.get? l=some {cls:=.type "tuple",dict:=dd,data:=.seq items n,slots:=sl}/\s.heap.get? b=some {cls:=.type "tuple",dict:=dd2,data:=.seq items2 n2,slots:=sl2}/\
    C2 .ge A.in1 s items.toList items2.toList xs ys/\R (.ok (.ret (.bool res))) s):=
 .of_wp fun prog w A R s h=>by
  obtain ⟨hp,g,d,tk,os⟩:=s;obtain ⟨hl,hb,hC,h⟩:=h;have f2:=AutoSeq1.sub_tuple_tuple;have z1:items.size=xs.length:=by rw [<-hC.1];simp
  have z2:items2.size=ys.length:=by rw [<-hC.2.1];simp
  wp_walk using wpAny_loadPart' hl,wpAny_loadPart' hb,wpAny_forIn_list _ (fun rest b s'=>b.1=none/\s'=⟨hp,g,d,tk,os⟩/\∃(vs ws:List Value) (xs' ys':List D),rest=vs.zip ws/\
   C2 .ge A.in1 ⟨hp,g,d,tk,os⟩ vs ws xs' ys'/\xs'.length+items2.size=ys'.length+items.size/\cV .ge xs' ys'=some res) _
  case turn=>
   rintro ⟨y,x⟩ rest b s' ⟨hb',rfl,vs,ws,xs',ys',hz,hC',hlen,hR⟩;cases vs with
   | nil=>rw [List.zip_nil_left] at hz;cases hz
   | cons v vs=>
    cases ws with
    | nil=>rw [List.zip_nil_right] at hz;cases hz
    | cons w' ws=>
     rw [List.zip_cons_cons] at hz;injection hz with hyx hrest
     injection hyx with hy hx
     subst hy hx;cases xs' with
     | nil=>exact absurd hC'.1 (by simp)
     | cons x0 xs'=>
      cases ys' with
      | nil=>exact absurd hC'.2.1 (by simp)
      | cons y0 ys'=>
       rw [cV] at hR;simp only [List.length_cons] at hlen;obtain ⟨he,hlt⟩:=hC'.2.2 0 _ _ _ _ rfl rfl rfl rfl;refine wpAny_bind (he prog w _ _ ?_);cases e:eqD x0 y0 with
       | true=>
        rw [e] at hR;simp only [if_true] at hR
        wp_walk
        exact ⟨rfl,rfl,_,_,_,_,hrest,hC'.tail,by lia,hR⟩
       | false=>
        rw [e] at hR;simp only [Bool.false_eq_true,if_false] at hR;have hri:∀(E:Value->Shared->Prop) (Q:Value->Shared->Prop),Q (.bool res) ⟨hp,g,d,tk,os⟩->wpAny (model prog w) A.in1 (richCompare .GtE _ _) Q E ⟨hp,g,d,tk,os⟩:=fun E Q q=>hlt e res hR prog w E Q q
        wp_walk using hri
        exact ⟨_,rfl,by simpa using h⟩
  case fin=>
   rintro ⟨b1,b2⟩ s' ⟨hb',rfl,vs,ws,xs',ys',hz,hC',hlen,hR⟩;simp only at hb';subst hb';have hv:res=decide (items2.size<=items.size):=by
    cases xs' with
    | nil=>
     rw [cV] at hR;have:=Option.some.inj hR;rw [<-this];simp only [List.length_nil] at hlen;simp only [gY.nat]
     congr 1
     simp only [eq_iff_iff];lia
    | cons x0 xs'=>
     cases ys' with
     | nil=>
      rw [cV] at hR;have:=Option.some.inj hR;rw [<-this];simp only [List.length_nil,List.length_cons] at hlen;simp only [gY.nat,List.length_cons]
      congr 1
      simp only [eq_iff_iff];lia
     | cons y0 ys'=>
      exfalso;cases vs with
      | nil=>exact absurd hC'.1 (by simp)
      | cons v vs=>
       cases ws with
       | nil=>exact absurd hC'.2.1 (by simp)
       | cons w' ws=>rw [List.zip_cons_cons] at hz;cases hz
   rw [hv] at h
   wp_walk
   exact ⟨_,rfl,by simpa [Builtin.Tuple.tupleCompareSizes] using h⟩
  case h=>
   exact ⟨rfl,rfl,items.toList,items2.toList,xs,ys,rfl,hC,by lia,hr⟩
theorem GC.aCt {A:Around} {s:Shared} {l b:Addr} {items items2:Array Value} {xs ys:List D} {res:Bool} (hl:s.heap.IsTuple l items) (hb:s.heap.IsTuple b items2) (hC:C2 .ge A.in1 s items.toList items2.toList xs ys) (hr:cV .ge xs ys=some res) (hu:A.units<cLine) :
  GC .GtE A s (.ref l) (.ref b) res:=fun prog w E Q h=>by
 obtain ⟨⟨cls,dd,data,sl⟩,ho,hc,n,hd⟩:=id hl;obtain ⟨⟨cls2,dd2,data2,sl2⟩,ho2,hc2,n2,hd2⟩:=id hb;simp only at hc hd hc2 hd2;subst hc hd hc2 hd2;exact richCompare_meets_room (op:=.GtE) ⟨_,ho,rfl⟩ ⟨_,ho2,rfl⟩ PySem.F.slot_tuple_ge PySem.F.entry_tuple_ge (PySem.F.args_tuple_ge_2 _ _) (JX l b items items2 n n2 dd dd2 sl sl2 xs ys res hr)
  ⟨ho,ho2,hC,show Value.bool res≠Value.notImplemented/\Q (.bool res) s from ⟨(fun x=>nomatch x),h⟩⟩ hu
section
variable {X:Cx} {pins:List (Addr×Obj)} {σ:St} {H:Hp} {s:Shared}
theorem BV (I:Inv X pins σ H s) (o:gY):∀(n:Nat) (A:Around) {x y:V} {a b:D} {u v:Value} {k:Bool},A.units+n<cLine->a.b7 n=true->b.b7 n=true->Rep All H x a->Rep All H y b->RelV x u->RelV y v->
  dG o a b=some k->GC o.op A s u v k:=by
 intro n;induction n with
 | zero=>
  intro A x y a b u v k hu ha hb rx ry ru rv hk;cases a with
  | int i=>
   cases b with
   | int j=>
    cases rx;cases ry;obtain ⟨t,rfl⟩:=ru;obtain ⟨t',rfl⟩:=rv;rw [dG] at hk;have:=Option.some.inj hk;subst this;cases o with
    | lt=>exact fun prog w E Q h=>(PyProof.Rows.lt_int h:wpAny (model prog w) A (compareOp .Lt (.int i t) (.int j t')) Q E s)
    | le=>exact fun prog w E Q h=>(PyProof.Rows.le_int h:wpAny (model prog w) A (compareOp .LtE (.int i t) (.int j t')) Q E s)
    | gt=>exact fun prog w E Q h=>(PyProof.Rows.gt_int h:wpAny (model prog w) A (compareOp .Gt (.int i t) (.int j t')) Q E s)
    | ge=>exact fun prog w E Q h=>(PyProof.Rows.ge_int h:wpAny (model prog w) A (compareOp .GtE (.int i t) (.int j t')) Q E s)
   | _=>simp [dG] at hk
  | str i=>
   cases b with
   | str j=>
    cases rx;cases ry;obtain ⟨t,rfl⟩:=ru;obtain ⟨t',rfl⟩:=rv;rw [dG] at hk;have:=Option.some.inj hk;subst this;cases o with
    | lt=>exact fun prog w E Q h=>(PyProof.Rows.lt_str h:wpAny (model prog w) A (compareOp .Lt (.str i t) (.str j t')) Q E s)
    | le=>exact fun prog w E Q h=>(PySem.P.le_str h:wpAny (model prog w) A (compareOp .LtE (.str i t) (.str j t')) Q E s)
    | gt=>exact fun prog w E Q h=>(PySem.P.gt_str h:wpAny (model prog w) A (compareOp .Gt (.str i t) (.str j t')) Q E s)
    | ge=>exact fun prog w E Q h=>(PySem.P.ge_str h:wpAny (model prog w) A (compareOp .GtE (.str i t) (.str j t')) Q E s)
   | _=>simp [dG] at hk
  | tup _=>simp [D.b7] at ha
  | _=>cases b <;> simp [dG] at hk
 | succ n ih=>
  intro A x y a b u v k hu ha hb rx ry ru rv hk;have hu0:A.units<cLine:=by lia
  have hu1:A.in1.units+n<cLine:=by show A.units+1+n<cLine;lia
  cases a with
  | int i=>
   cases b with
   | int j=>
    cases rx;cases ry;obtain ⟨t,rfl⟩:=ru;obtain ⟨t',rfl⟩:=rv;rw [dG] at hk;have:=Option.some.inj hk;subst this;cases o with
    | lt=>exact fun prog w E Q h=>(PyProof.Rows.lt_int h:wpAny (model prog w) A (compareOp .Lt (.int i t) (.int j t')) Q E s)
    | le=>exact fun prog w E Q h=>(PyProof.Rows.le_int h:wpAny (model prog w) A (compareOp .LtE (.int i t) (.int j t')) Q E s)
    | gt=>exact fun prog w E Q h=>(PyProof.Rows.gt_int h:wpAny (model prog w) A (compareOp .Gt (.int i t) (.int j t')) Q E s)
    | ge=>exact fun prog w E Q h=>(PyProof.Rows.ge_int h:wpAny (model prog w) A (compareOp .GtE (.int i t) (.int j t')) Q E s)
   | _=>simp [dG] at hk
  | str i=>
   cases b with
   | str j=>
    cases rx;cases ry;obtain ⟨t,rfl⟩:=ru;obtain ⟨t',rfl⟩:=rv;rw [dG] at hk;have:=Option.some.inj hk;subst this;cases o with
    | lt=>exact fun prog w E Q h=>(PyProof.Rows.lt_str h:wpAny (model prog w) A (compareOp .Lt (.str i t) (.str j t')) Q E s)
    | le=>exact fun prog w E Q h=>(PySem.P.le_str h:wpAny (model prog w) A (compareOp .LtE (.str i t) (.str j t')) Q E s)
    | gt=>exact fun prog w E Q h=>(PySem.P.gt_str h:wpAny (model prog w) A (compareOp .Gt (.str i t) (.str j t')) Q E s)
    | ge=>exact fun prog w E Q h=>(PySem.P.ge_str h:wpAny (model prog w) A (compareOp .GtE (.str i t) (.str j t')) Q E s)
   | _=>simp [dG] at hk
  | tup ds=>
   cases b with
   | tup es=>
    obtain ⟨p,xs,rfl,e1,r1⟩:=rx.eV;cases ru;obtain ⟨its1,vr1,h1⟩:=fP I e1;obtain ⟨q,ys,rfl,e2,r2⟩:=ry.eV;cases rv;obtain ⟨its2,vr2,h2⟩:=fP I e2;rw [D.b7] at ha hb;rw [dG] at hk;have hC:∀o',o'=o->C2 o' A.in1 s its1.toArray.toList its2.toArray.toList ds es:=by
     rintro o' rfl;refine ⟨by rw [List.toList_toArray,<-vr1.length,r1.length],by rw [List.toList_toArray,<-vr2.length,r2.length],fun j v w x y a1 a2 a3 a4=>?_⟩;rw [List.toList_toArray] at a1 a2;obtain ⟨v1,w1,rr1⟩:=r1.get a3;obtain ⟨v2,w2,rr2⟩:=r2.get a4;obtain ⟨u1,k1,l1⟩:=vr1.get w1;obtain ⟨u2,k2,l2⟩:=vr2.get w2;rw [a1] at k1;cases k1;rw [a2] at k2;cases k2;have g1:x.b7 n=true:=by
      have:=eF (j:=j) ha (List.getElem?_eq_some_iff.mp a3).1;rwa [List.getD_eq_getElem?_getD,a3] at this
     have g2:y.b7 n=true:=by
      have:=eF (j:=j) hb (List.getElem?_eq_some_iff.mp a4).1;rwa [List.getD_eq_getElem?_getD,a4] at this
     exact ⟨(xK I n A.in1 hu1 g1 g2 rr1 rr2 l1 l2).2.2,fun _ k hk=>ih A.in1 hu1 g1 g2 rr1 rr2 l1 l2 hk⟩
    cases o with
    | lt=>exact GC.aCq h1 h2 (hC .lt rfl) hk hu0
    | le=>exact GC.aCr h1 h2 (hC .le rfl) hk hu0
    | gt=>exact GC.aCs h1 h2 (hC .gt rfl) hk hu0
    | ge=>exact GC.aCt h1 h2 (hC .ge rfl) hk hu0
   | _=>simp [dG] at hk
  | _=>cases b <;> simp [dG] at hk
end
end Mi
end
section
namespace TS
open PySem PyProof.Rows
theorem vB {prog:Program} {w:World} {A:Around} {E:Value->Shared->Prop} {s:Shared} {a:Addr} {vs:List Value} {n:Nat} {P:Fin->Shared->Prop} (ho:s.heap.get? a=some (seqObj "list" vs.toArray n)) (hn:vs.length<=sizeLine)
  (hk:2<=vs.length->∃κ U blt,Ord U blt/\nY U (pairsOf vs)/\
   (∀Q:SortKind->Shared->Prop,Q κ {s with heap:=((s.heap.update a (Obj.mapSeq fun _=>(#[]:Array Value))).push (seqObj "tuple" vs.toArray 0)).push (seqObj "list" #[] 0)}->wpAny (model prog w) A (keyKind' vs.toArray) Q E {s with heap:=((s.heap.update a (Obj.mapSeq fun _=>(#[]:Array Value))).push (seqObj "tuple" vs.toArray 0)).push (seqObj "list" #[] 0)})/\
   JP prog w A E {s with heap:=((s.heap.update a (Obj.mapSeq fun _=>(#[]:Array Value))).push (seqObj "tuple" vs.toArray 0)).push (seqObj "list" #[] 0)} κ U blt/\
   ∀arr:Array Keyed,arr.Perm (pairsOf vs)->Srt blt arr 0 (pairsOf vs).size->P (.done (.ret .none)) {s with heap:=sortedHeap s.heap a vs (arr.map (·.2))})
  (h1:vs.length<2->P (.done (.ret .none)) {s with heap:=sortedHeap s.heap a vs ((pairsOf vs).map (·.2))}) :
  wpAny (model prog w) A (Builtin.«list.sort» ⟨[.ref a],[]⟩) P E s:=by
 rw [list_sort_plain];have ha:a<s.heap.objs.size:=Heap.lt_size ho;refine wpAny_bind (listItems_at ho rfl ?_);refine wpAny_bind (listUpdate_at ho rfl ?_ (by rw [List.size_toArray];exact hn) (Nat.zero_le _));obtain ⟨e1,ho1⟩:∃e1,(s.heap.update a (Obj.mapSeq fun _=>(#[]:Array Value))).get? a=some (seqObj "list" #[] e1):=⟨_,get?_update_seq ho (fun _=>#[])⟩
 refine wpAny_bind (seqEpoch_at ho1 rfl ?_);refine wpAny_bind (wpAny_newTuple ?_ (by show vs.length<=_;exact hn));refine wpAny_bind (wpAny_newList ?_ (Nat.zero_le _));refine wpAny_holding ?_;have ho6:(((s.heap.update a (Obj.mapSeq fun _=>(#[]:Array Value))).push (seqObj "tuple" vs.toArray 0)).push (seqObj "list" #[] 0)).get? a=some (seqObj "list" #[] e1):=by
  rw [Heap.get?_push_ne _ _ _ (by rw [size_push',Heap.size_update];exact Nat.ne_of_lt (Nat.lt_succ_of_lt ha)),Heap.get?_push_ne _ _ _ (by rw [Heap.size_update];exact Nat.ne_of_lt ha)];exact ho1
 show wpAny (model prog w) A _ P E {s with heap:=((s.heap.update a (Obj.mapSeq fun _=>(#[]:Array Value))).push (seqObj "tuple" vs.toArray 0)).push (seqObj "list" #[] 0)};dsimp only;have hsz:vs.toArray.size=vs.length:=by simp
 by_cases h2:vs.toArray.size<2
 ·rw [if_pos h2,if_pos h2];refine wpAny_bind (wpAny_pure ?_);rw [StateT.run_pure];refine wpAny_bind (wpAny_pure ?_);dsimp only;refine wpAny_bind (seqEpoch_at ho6 rfl ?_);refine wpAny_bind (listUpdate_at ho6 rfl ?_ (Nat.zero_le _) (hsz2:=by rw [Array.size_map];show (pairsOf vs).size<=_;rw [pairsOf_size];exact Nat.le_succ_of_le hn));simp only [bne_self_eq_false,Bool.false_eq_true,if_false];exact wpAny_pure (h1 (by lia))
 ·rw [if_neg h2,if_neg h2];obtain ⟨κ,U,blt,O,hU,hkk,hL,fin⟩:=hk (by lia);refine wpAny_bind (hkk _ ?_);refine wpAny_bind (wpAny_mono (wpS_sortRuns (a₀:=pairsOf vs) (st:=SortSt.mk' κ (vs.toArray.zip vs.toArray) #[] 7 none)
   (Q:=fun _ st'=>(arrOf st').Perm (pairsOf vs)/\failedOf st'=none/\Srt blt (arrOf st') 0 (pairsOf vs).size) O hL hU ⟨rfl,rfl,Array.Perm.refl _⟩ rfl (by rw [pairsOf_size];lia) fun st' b z=>⟨b.pm,b.fl,z⟩) ?_ fun _ _ e=>e)
  rintro ⟨⟨⟩,st'⟩ s' ⟨rfl,hp,hf,hs⟩;dsimp only;refine wpAny_bind (seqEpoch_at ho6 rfl ?_);refine wpAny_bind (listUpdate_at ho6 rfl ?_ (Nat.zero_le _) (hsz2:=by refine Nat.le_trans (Nat.le_of_eq ((Array.size_map ..).trans (hp.size_eq.trans (pairsOf_size _)))) ?_;exact Nat.le_succ_of_le hn));rw [hf];simp only [bne_self_eq_false,Bool.false_eq_true,if_false];exact wpAny_pure (fin (arrOf st') hp hs)
noncomputable def aBp (h:Heap) (vs:List Value):Heap:=
 (((h.push (seqObj "list" vs.toArray 0)).update h.objs.size (Obj.mapSeq fun _=>(#[]:Array Value))).push (seqObj "tuple" vs.toArray 0)).push (seqObj "list" #[] 0)
theorem V4 {h:Heap} {vs:List Value} {b:Addr} {o:Obj} (hb:h.get? b=some o):(aBp h vs).get? b=some o:=by
 have hlt:b<h.objs.size:=Heap.lt_size hb;unfold aBp;refine Heap.get?_push_of_some _ (Heap.get?_push_of_some _ ?_);rw [Heap.get?_update_ne _ _ _ _ (Nat.ne_of_lt hlt)];exact Heap.get?_push_of_some _ hb
noncomputable def aBq (h:Heap) (vs:List Value) (out:Array Value):Heap:=sortedHeap (h.push (seqObj "list" vs.toArray 0)) h.objs.size vs out
theorem V5 {h:Heap} {vs:List Value} {out:Array Value} {b:Addr} {o:Obj} (hb:h.get? b=some o):(aBq h vs out).get? b=some o:=by
 have hlt:b<h.objs.size:=Heap.lt_size hb;unfold aBq;rw [sortedHeap_old (Nat.ne_of_lt hlt) (by rw [size_push'];exact Nat.lt_succ_of_lt hlt)];exact Heap.get?_push_of_some _ hb
theorem aAa (h:Heap) (vs:List Value) (out:Array Value):∃e,(aBq h vs out).get? h.objs.size=some (seqObj "list" out e):=sortedHeap_at (n:=0) (Heap.get?_push_size _ rfl)
theorem JZ {prog:Program} {w:World} {A:Around} {E:Value->Shared->Prop} {s:Shared} {v:Value} {vs:List Value} {Q:Value->Shared->Prop} (hn:vs.length<=sizeLine)
  (hcol:∀(Q':List Value->Shared->Prop) (E':Value->Shared->Prop),(∀h1 tk,(∀b o,s.heap.get? b=some o->h1.get? b=some o)->s.heap.objs.size<=h1.objs.size->Q' vs {s with heap:=h1,toks:=tk})->wpAny (model prog w) A.in1 (collect v) Q' E' s)
  (hk:∀h1 tk,(∀b o,s.heap.get? b=some o->h1.get? b=some o)->s.heap.objs.size<=h1.objs.size->2<=vs.length->∃κ U blt,Ord U blt/\nY U (pairsOf vs)/\
   (∀Q:SortKind->Shared->Prop,Q κ {s with heap:=aBp h1 vs,toks:=tk}->wpAny (model prog w) A.in1.in1 (keyKind' vs.toArray) Q (fun _ _=>False) {s with heap:=aBp h1 vs,toks:=tk})/\
   JP prog w A.in1.in1 (fun _ _=>False) {s with heap:=aBp h1 vs,toks:=tk} κ U blt/\
   ∀arr:Array Keyed,arr.Perm (pairsOf vs)->Srt blt arr 0 (pairsOf vs).size->Q (.ref h1.objs.size) {s with heap:=aBq h1 vs (arr.map (·.2)),toks:=tk})
  (h1:∀h1 tk,(∀b o,s.heap.get? b=some o->h1.get? b=some o)->s.heap.objs.size<=h1.objs.size->vs.length<2->Q (.ref h1.objs.size) {s with heap:=aBq h1 vs ((pairsOf vs).map (·.2)),toks:=tk}) :
  wpAny (model prog w) A (call (.builtin "sorted") [v]) Q E s:=by
 refine Calls.call_function_entry kind_sorted plain_sorted entry_sorted (args_sorted1 _) ?_;unfold Builtin.«sorted»;refine wpAny_bind (m:=checkCount "sorted" 1 1 _) (wpAny_pure ?_);refine wpAny_bind (hcol _ _ fun hh tk kp hle=>?_);refine wpAny_bind (wpAny_newList ?_ hn);have hoL:(hh.push (seqObj "list" vs.toArray 0)).get? hh.objs.size=some (seqObj "list" vs.toArray 0):=Heap.get?_push_size _ rfl;show wpAny _ _ _ _ _ {s with heap:=hh.push (seqObj "list" vs.toArray 0),toks:=tk};refine wpAny_bind (wpAny_holding (wpAny_call_entry slot_list_sort ⟨_,hoL,rfl⟩ entry_list_sort ?body (args_list_sort _)))
 case body=>
  refine wpAny_mono (vB (s:={s with heap:=hh.push (seqObj "list" vs.toArray 0),toks:=tk}) (E:=fun _ _=>False) (P:=fun f s'=>∃v,f=.done (.ret v)/\v=Value.none/\Q (.ref hh.objs.size) s') hoL hn (fun h2=>?_) (fun h2=>⟨_,rfl,rfl,h1 hh tk kp hle h2⟩)) (fun f s' h=>?_) fun _ _ z=>False.elim z
  ·obtain ⟨κ,U,blt,O,hU,hkk,hL,fin⟩:=hk hh tk kp hle h2;exact ⟨κ,U,blt,O,hU,hkk,hL,fun arr p z=>⟨_,rfl,rfl,fin arr p z⟩⟩
  ·obtain ⟨v,rfl,rfl,q⟩:=h;exact ⟨_,rfl,wpAny_pure ⟨_,rfl,q⟩⟩
end TS
end
section
namespace Mi
open PySem L2 PySem.SeqAt
open PyProof.Rows (Keyed lt' keyLt' oneLt' SortKind SortSt kindOf tuples' oneType' pairsOf wpS wpS_bind wpS_pure wpS_get wpS_lift keyKind')
variable [KFrag]
noncomputable def kE (H:Hp) (u:Value):D:=by
 classical
 exact if h:∃d,d.plain=true/\d.b7 aY=true/\∃v,RelV v u/\Rep All H v d then Classical.choose h else .non
theorem qF {H:Hp} {u:Value} {v:V} {d:D} (hp:d.plain=true) (hq:d.b7 aY=true) (rv:RelV v u) (r:Rep All H v d):kE H u=d:=by
 unfold kE;have h:∃d,d.plain=true/\d.b7 aY=true/\∃v,RelV v u/\Rep All H v d:=⟨d,hp,hq,v,rv,r⟩
 rw [dif_pos h];obtain ⟨h1,h2,v',rv',r'⟩:=Classical.choose_spec h;have:=rv'.inj rv;subst this;exact Rep.inj aY h2 hq r' r
theorem d9 {ds:List D} (h:bF ds=true) {a:D} (ha:a∈ds):a.plain=true/\a.b7 aY=true/\d_ a≠0/\d_ a=d_ (ds.headD .non)/\∀b∈ds,∃k,dG .lt a b=some k:=by
 unfold bF at h;have:=List.all_eq_true.mp h a ha;simp only [Bool.and_eq_true,bne_iff_ne,beq_iff_eq] at this;obtain ⟨⟨⟨⟨h1,h2⟩,h3⟩,h4⟩,h5⟩:=this;refine ⟨h1,h2,h3,h4,fun b hb=>Option.isSome_iff_exists.mp (List.all_eq_true.mp h5 b hb)⟩
theorem aCu {ds:List D} (h:bF ds=true) {a b:D} (ha:a∈ds) (hb:b∈ds):dG .lt a b=some (decide (enc a<enc b)):=by
 obtain ⟨p1,_,_,_,q⟩:=d9 h ha;obtain ⟨p2,_⟩:=d9 h hb;obtain ⟨k,hk⟩:=q b hb;rw [hk,u_ a b k p1 p2 hk]
noncomputable def sU (H:Hp) (ds:List D) (k:Keyed):Prop:=∃v d,RelV v k.1/\Rep All H v d/\d∈ds
noncomputable def sLt (H:Hp) (x y:Keyed):Bool:=decide (enc (kE H x.1)<enc (kE H y.1))
theorem aGb (H:Hp) (ds:List D):TS.Ord (sU H ds) (sLt H):=by
 refine ⟨fun x _=>?_,fun x y z _ _ _ h1 h2=>?_,fun x y z _ _ _ h=>?_⟩
 ·simp [sLt,List.lt_irrefl]
 ·simp only [sLt,decide_eq_true_eq] at *;exact List.lt_trans h1 h2
 ·simp only [sLt,decide_eq_true_eq] at *;by_cases q:enc (kE H x.1)<enc (kE H y.1)
  ·exact .inl q
  ·exact .inr (List.lt_of_le_of_lt (List.not_lt.mp q) h)
section
variable {X:Cx} {pins:List (Addr×Obj)} {σ:L2.St} {H:Hp} {s:Shared}
open PySem.W in
theorem vC {prog:Program} {w:World} {A:Around} {b k:Bool} {n1 n2:Nat} {Q:Bool->Shared->Prop}:∀(vs ws:List Value) (xs ys:List D) (i:Nat),(b&&i==0)=false->C2 .lt A s vs ws xs ys->cV .lt xs ys=some k->xs.length+n2=ys.length+n1->Q k s->
  KatLex prog w A b (decide (n1<n2)) Q (vs.zip ws) i s
 | [],ws,xs,ys,i,_,hC,hk,hf,q=>by
  have:xs=[]:=List.eq_nil_of_length_eq_zero hC.1.symm;subst this;rw [List.zip_nil_left];rw [cV] at hk;have e:k=decide (n1<n2):=by
   rw [<-Option.some.inj hk];simp only [gY.nat,List.length_nil] at hf ⊢
   congr 1
   simp only [eq_iff_iff];lia
  rw [<-e];exact q
 | v::vs,[],xs,ys,i,_,hC,hk,hf,q=>by
  have:ys=[]:=List.eq_nil_of_length_eq_zero hC.2.1.symm;subst this;rw [List.zip_nil_right];cases xs with
  | nil=>exact absurd hC.1 (by simp)
  | cons x xs=>
   rw [cV] at hk;have e:k=decide (n1<n2):=by
    rw [<-Option.some.inj hk];simp only [gY.nat,List.length_nil,List.length_cons] at hf ⊢
    congr 1
    simp only [eq_iff_iff];lia
   rw [<-e];exact q
 | v::vs,w'::ws,[],ys,i,_,hC,hk,hf,q=>absurd hC.1 (by simp)
 | v::vs,w'::ws,x::xs,[],i,_,hC,hk,hf,q=>absurd hC.2.1 (by simp)
 | v::vs,w'::ws,x::xs,y::ys,i,hi,hC,hk,hf,q=>by
  rw [List.zip_cons_cons];obtain ⟨he,hlt⟩:=hC.2.2 0 _ _ _ _ rfl rfl rfl rfl;rw [cV] at hk;refine kat_cons (he prog w _ _ ?_);cases e:eqD x y with
  | true=>
   rw [e,if_pos rfl] at hk;exact kat_yes (vC vs ws xs ys (i+1) (by simp) hC.tail hk (by simp only [List.length_cons] at hf;lia) q)
  | false=>
   rw [e,if_neg (by simp)] at hk;refine kat_no ?_;rw [hi];exact kat_one _ _ (hlt e k hk prog w _ _ q)
theorem aEt (I:Inv X pins σ H s) {A:Around} {n:Nat} (hu:A.units+n<cLine) {xs ys:List V} {ds es:List D} {its1 its2:List Value} (ha:D.gW n ds=true) (hb:D.gW n es=true) (r1:bN All H xs ds) (r2:bN All H ys es) (vr1:Vals xs its1) (vr2:Vals ys its2) :
  C2 .lt A s its1 its2 ds es:=by
 refine ⟨by rw [<-vr1.length,r1.length],by rw [<-vr2.length,r2.length],fun j v w x y a1 a2 a3 a4=>?_⟩;obtain ⟨v1,w1,rr1⟩:=r1.get a3;obtain ⟨v2,w2,rr2⟩:=r2.get a4;obtain ⟨u1,k1,l1⟩:=vr1.get w1;obtain ⟨u2,k2,l2⟩:=vr2.get w2;rw [a1] at k1;cases k1;rw [a2] at k2;cases k2;have g1:x.b7 n=true:=by
  have:=eF (j:=j) ha (List.getElem?_eq_some_iff.mp a3).1;rwa [List.getD_eq_getElem?_getD,a3] at this
 have g2:y.b7 n=true:=by
  have:=eF (j:=j) hb (List.getElem?_eq_some_iff.mp a4).1;rwa [List.getD_eq_getElem?_getD,a4] at this
 exact ⟨(xK I n A hu g1 g2 rr1 rr2 l1 l2).2.2,fun _ k hk=>BV I .lt n A hu g1 g2 rr1 rr2 l1 l2 hk⟩
theorem kind_le (d:D):d_ d<=5:=by
 unfold d_;split <;> lia
theorem aAb {d:D} (h:d_ d=1):∃i,d=.int i:=by
 unfold d_ at h;split at h <;> first|lia|exact ⟨_,rfl⟩
theorem aAc {d:D} (h:d_ d=2):∃i,d=.str i:=by
 unfold d_ at h;split at h <;> first|lia|exact ⟨_,rfl⟩
theorem V6 {d:D} (h:d_ d=3):∃i r,d=.tup (.int i::r):=by
 unfold d_ at h;split at h <;> first|lia|exact ⟨_,_,rfl⟩
theorem V7 {d:D} (h:d_ d=4):∃i r,d=.tup (.str i::r):=by
 unfold d_ at h;split at h <;> first|lia|exact ⟨_,_,rfl⟩
theorem aCv {d:D} (h:d_ d=5):∃i r,d=.tup (.tup i::r):=by
 unfold d_ at h;split at h <;> first|lia|exact ⟨_,_,rfl⟩
theorem GD {xs:List V} {ds:List D} {its:List Value} (r:bN All H xs ds) (vr:Vals xs its) {u:Value} (hu:u∈its):∃v d,RelV v u/\Rep All H v d/\d∈ds:=by
 obtain ⟨j,hj,e⟩:=List.getElem_of_mem hu;have hj':j<ds.length:=by rw [<-r.length,vr.length];exact hj
 obtain ⟨v,h1,h2⟩:=r.get (i:=j) (d:=ds[j]) (by simp [hj']);obtain ⟨u',h3,h4⟩:=vr.get h1;rw [List.getElem?_eq_getElem hj,e] at h3;cases h3;exact ⟨v,_,h4,h2,List.getElem_mem _⟩
open PySem.W in
theorem vD (I:Inv X pins σ H s) {T:Value} {F:D->Prop} (hF:∀(d:D) (v:V) (u:Value),F d->RelV v u->Rep All H v d->Looks (model X.prog X.w) s.heap (typeOf u) T) :
  ∀{xs:List V} {ds:List D} {its:List Value},bN All H xs ds->Vals xs its->(∀d∈ds,∃f r,d=.tup (f::r)/\F f)->∃fs,KatTups s.heap its fs/\fs.length=its.length/\∀f∈fs,Looks (model X.prog X.w) s.heap (typeOf f) T
 | _,_,_,.nil,.nil,_=>⟨[],.nil,rfl,fun _ h=>by simp at h⟩
 | _,_,_,.cons r t,.cons v vt,h=>by
  obtain ⟨fs,h1,h2,h3⟩:=vD I hF t vt fun d hd=>h d (List.mem_cons_of_mem _ hd)
  obtain ⟨f,rr,rfl,hf⟩:=h _ (List.mem_cons_self ..);obtain ⟨a,ys,rfl,e,rs⟩:=r.eV;cases v;obtain ⟨its2,vr2,o,ho,hc,n,hd⟩:=fP I e;cases rs with
  | cons r0 rs=>
   cases vr2 with
   | cons v0 vr2=>
    refine ⟨_::fs,.cons ho hc hd rfl h1,by simp [h2],fun g hg=>?_⟩;rcases List.mem_cons.mp hg with rfl|hg
    ·exact hF _ _ _ hf v0 r0
    ·exact h3 g hg
open PySem.W in
theorem PP (I:Inv X pins σ H s) {A:Around} (hu:A.units+aY<cLine) {xs:List V} {ds:List D} {its:List Value} (hc:bF ds=true) (r:bN All H xs ds) (vr:Vals xs its) (h2:2<=its.length) :
  ∃κ:SortKind,(∀Q:SortKind->Shared->Prop,Q κ s->wpAny (model X.prog X.w) A (keyKind' its.toArray) Q (fun _ _=>False) s)/\
   ∀(x y:Keyed) (Q:Bool->Shared->Prop),sU H ds x->sU H ds y->Q (sLt H x y) s->wpAny (model X.prog X.w) A (keyLt' κ x.1 y.1) Q (fun _ _=>False) s:=by
 have hlen:ds.length=its.length:=by rw [<-r.length,vr.length]
 have hkind:∀d∈ds,d_ d=d_ (ds.headD .non):=fun d hd=>(d9 hc hd).2.2.2.1
 have hne:d_ (ds.headD .non)≠0:=by
  have hd:ds.headD .non∈ds:=by
   cases ds with
   | nil=>simp at hlen;lia
   | cons d ds=>simp
  exact (d9 hc hd).2.2.1
 have lty:∀{x y:Keyed} {v v':V} {d d':D},RelV v x.1->Rep All H v d->d∈ds->RelV v' y.1->Rep All H v' d'->d'∈ds->dG .lt d d'=some (sLt H x y):=fun {x y v v' d d'} rv rp hd rv' rp' hd'=>by
  have e1:=qF (d9 hc hd).1 (d9 hc hd).2.1 rv rp;have e2:=qF (d9 hc hd').1 (d9 hc hd').2.1 rv' rp';rw [aCu hc hd hd'];unfold sLt;rw [e1,e2]
 -- two tuples whose first items are told by a rule of their own,or by the common one
 have tupl:∀(b:Bool) (x y:Keyed) (Q:Bool->Shared->Prop),sU H ds x->sU H ds y->(∀d∈ds,∃f r,d=.tup (f::r))->
   (b=true->∀(f g:D) (v v':V) (u u':Value) (k:Bool) (Q:Bool->Shared->Prop),(∃r,D.tup (f::r)∈ds)->(∃r,D.tup (g::r)∈ds)->RelV v u->Rep All H v f->RelV v' u'->Rep All H v' g->dG .lt f g=some k->Q k s->wpAny (model X.prog X.w) A (oneLt' true u u') Q (fun _ _=>False) s)->
   Q (sLt H x y) s->wpAny (model X.prog X.w) A (keyLt' (tuples' b) x.1 y.1) Q (fun _ _=>False) s:=by
  rintro b ⟨x1,x2⟩ ⟨y1,y2⟩ Q ⟨v,d,rv,rp,hd⟩ ⟨v',d',rv',rp',hd'⟩ htup hone q;have hk:=lty rv rp hd rv' rp' hd';have q1:=(d9 hc hd).2.1;have q2:=(d9 hc hd').2.1;obtain ⟨f,rr,rfl⟩:=htup d hd;obtain ⟨g,rr',rfl⟩:=htup d' hd';obtain ⟨a,ys,rfl,e,rs⟩:=rp.eV;obtain ⟨a',ys',rfl,e',rs'⟩:=rp'.eV;cases rv;cases rv';obtain ⟨i1,vr1,o1,ho1,hc1,n1,hd1⟩:=fP I e;obtain ⟨i2,vr2,o2,ho2,hc2,n2,hd2⟩:=fP I e';rw [dG] at hk;have q1':D.gW 11 (f::rr)=true:=by rw [show aY=11+1 from rfl,D.b7] at q1;exact q1
  have q2':D.gW 11 (g::rr')=true:=by rw [show aY=11+1 from rfl,D.b7] at q2;exact q2
  have hu':A.units+11<cLine:=by have:A.units+12<cLine:=hu;lia
  have C:=aEt I hu' q1' q2' rs rs' vr1 vr2;refine kat_lt ho1 hd1 ho2 hd2 ?_;have z1:i1.toArray.size=(f::rr).length:=by rw [List.size_toArray,<-vr1.length,rs.length]
  have z2:i2.toArray.size=(g::rr').length:=by rw [List.size_toArray,<-vr2.length,rs'.length]
  rw [List.toList_toArray,List.toList_toArray,z1,z2];cases b with
  | false=>exact vC i1 i2 (f::rr) (g::rr') 0 rfl C hk (by lia) q
  | true=>
   cases rs with
   | cons r0 rs=>
    cases rs' with
    | cons r0' rs'=>
     cases vr1 with
     | cons v0 vr1=>
      cases vr2 with
      | cons v0' vr2=>
       rw [List.zip_cons_cons];obtain ⟨he,_⟩:=C.2.2 0 _ _ _ _ rfl rfl rfl rfl;rw [cV] at hk;refine kat_cons (he X.prog X.w _ _ ?_);cases e0:eqD f g with
       | true=>
        rw [e0,if_pos rfl] at hk;exact kat_yes (vC _ _ rr rr' 1 (by simp) C.tail hk (by simp only [List.length_cons];lia) q)
       | false=>
        rw [e0,if_neg (by simp)] at hk;refine kat_no ?_;exact hone rfl f g _ _ _ _ _ Q ⟨_,hd⟩ ⟨_,hd'⟩ v0 r0 v0' r0' hk q
 have h5:=kind_le (ds.headD .non);have cases5:d_ (ds.headD .non)=1\/d_ (ds.headD .non)=2\/d_ (ds.headD .non)=3\/d_ (ds.headD .non)=4\/d_ (ds.headD .non)=5:=by lia
 rcases cases5 with c|c|c|c|c
 ·refine ⟨oneType',fun Q q=>kas_kind (T:=.type "int") h2 (fun u hm=>?_) (by decide) (by decide) q,fun x y Q hx hy q=>?_⟩
  ·obtain ⟨v,d,rv,rp,hd⟩:=GD r vr hm;obtain ⟨i,rfl⟩:=aAb ((hkind d hd).trans c);cases rp;obtain ⟨t,rfl⟩:=rv;exact Looks.of_pure rfl
  ·obtain ⟨v,d,rv,rp,hd⟩:=hx;obtain ⟨v',d',rv',rp',hd'⟩:=hy;have hk:=lty rv rp hd rv' rp' hd';obtain ⟨i,rfl⟩:=aAb ((hkind d hd).trans c);obtain ⟨j,rfl⟩:=aAb ((hkind d' hd').trans c);cases rp;cases rp';obtain ⟨t,e1⟩:=rv;obtain ⟨t',e2⟩:=rv';rw [dG] at hk;rw [<-Option.some.inj hk] at q;rw [e1,e2,PyProof.Rows.keyLt'_oneType];exact PyProof.Rows.oneLt_int q
 ·refine ⟨oneType',fun Q q=>kas_kind (T:=.type "str") h2 (fun u hm=>?_) (by decide) (by decide) q,fun x y Q hx hy q=>?_⟩
  ·obtain ⟨v,d,rv,rp,hd⟩:=GD r vr hm;obtain ⟨i,rfl⟩:=aAc ((hkind d hd).trans c);cases rp;obtain ⟨t,rfl⟩:=rv;exact Looks.of_pure rfl
  ·obtain ⟨v,d,rv,rp,hd⟩:=hx;obtain ⟨v',d',rv',rp',hd'⟩:=hy;have hk:=lty rv rp hd rv' rp' hd';obtain ⟨i,rfl⟩:=aAc ((hkind d hd).trans c);obtain ⟨j,rfl⟩:=aAc ((hkind d' hd').trans c);cases rp;cases rp';obtain ⟨t,e1⟩:=rv;obtain ⟨t',e2⟩:=rv';rw [dG] at hk;rw [<-Option.some.inj hk] at q;rw [e1,e2,PyProof.Rows.keyLt'_oneType];exact PyProof.Rows.oneLt_str q
 ·obtain ⟨fs,t1,t2,t3⟩:=vD I (T:=.type "int") (F:=fun f=>∃i,f=.int i) (fun d v u hf rv rp=>by
   obtain ⟨i,rfl⟩:=hf;cases rp;obtain ⟨t,rfl⟩:=rv;exact Looks.of_pure rfl) r vr (fun d hd=>by
   obtain ⟨i,rr,rfl⟩:=V6 ((hkind d hd).trans c);exact ⟨_,_,rfl,i,rfl⟩)
  refine ⟨tuples' true,fun Q q=>kat_kind (T:=.type "int") t1 (by lia) t3 (by decide) q,fun x y Q hx hy q=>tupl true x y Q hx hy (fun d hd=>?_) (fun _ f g v v' u u' k Q hf hg rv rp rv' rp' hk q=>?_) q⟩
  ·obtain ⟨i,rr,rfl⟩:=V6 ((hkind d hd).trans c);exact ⟨_,_,rfl⟩
  ·obtain ⟨r1,hf⟩:=hf;obtain ⟨r2,hg⟩:=hg;obtain ⟨i,rr,e1⟩:=V6 ((hkind _ hf).trans c);obtain ⟨j,rr',e2⟩:=V6 ((hkind _ hg).trans c);cases e1;cases e2;cases rp;cases rp';obtain ⟨t,rfl⟩:=rv;obtain ⟨t',rfl⟩:=rv';rw [dG] at hk;rw [<-Option.some.inj hk] at q;exact PyProof.Rows.oneLt_int q
 ·obtain ⟨fs,t1,t2,t3⟩:=vD I (T:=.type "str") (F:=fun f=>∃i,f=.str i) (fun d v u hf rv rp=>by
   obtain ⟨i,rfl⟩:=hf;cases rp;obtain ⟨t,rfl⟩:=rv;exact Looks.of_pure rfl) r vr (fun d hd=>by
   obtain ⟨i,rr,rfl⟩:=V7 ((hkind d hd).trans c);exact ⟨_,_,rfl,i,rfl⟩)
  refine ⟨tuples' true,fun Q q=>kat_kind (T:=.type "str") t1 (by lia) t3 (by decide) q,fun x y Q hx hy q=>tupl true x y Q hx hy (fun d hd=>?_) (fun _ f g v v' u u' k Q hf hg rv rp rv' rp' hk q=>?_) q⟩
  ·obtain ⟨i,rr,rfl⟩:=V7 ((hkind d hd).trans c);exact ⟨_,_,rfl⟩
  ·obtain ⟨r1,hf⟩:=hf;obtain ⟨r2,hg⟩:=hg;obtain ⟨i,rr,e1⟩:=V7 ((hkind _ hf).trans c);obtain ⟨j,rr',e2⟩:=V7 ((hkind _ hg).trans c);cases e1;cases e2;cases rp;cases rp';obtain ⟨t,rfl⟩:=rv;obtain ⟨t',rfl⟩:=rv';rw [dG] at hk;rw [<-Option.some.inj hk] at q;exact PyProof.Rows.oneLt_str q
 ·obtain ⟨fs,t1,t2,t3⟩:=vD I (T:=.type "tuple") (F:=fun f=>∃i,f=.tup i) (fun d v u hf rv rp=>by
   obtain ⟨i,rfl⟩:=hf;obtain ⟨a,ys,rfl,e,rs⟩:=rp.eV;cases rv;obtain ⟨i1,vr1,o1,ho1,hc1,n1,hd1⟩:=fP I e;have:=(show Looks (model X.prog X.w) s.heap (typeOf (.ref a)) o1.cls from (Looks.ld ho1).andThen .now)
   rwa [hc1] at this) r vr (fun d hd=>by
   obtain ⟨i,rr,rfl⟩:=aCv ((hkind d hd).trans c);exact ⟨_,_,rfl,i,rfl⟩)
  refine ⟨tuples' false,fun Q q=>kat_kind (T:=.type "tuple") t1 (by lia) t3 (by decide) q,fun x y Q hx hy q=>tupl false x y Q hx hy (fun d hd=>?_) (fun h=>by cases h) q⟩;obtain ⟨i,rr,rfl⟩:=aCv ((hkind d hd).trans c);exact ⟨_,_,rfl⟩
theorem aAd (I:Inv X pins σ H s) {A:Around} {ds:List D} {κ:SortKind} (h:∀(x y:Keyed) (Q:Bool->Shared->Prop),sU H ds x->sU H ds y->Q (sLt H x y) s->wpAny (model X.prog X.w) A (keyLt' κ x.1 y.1) Q (fun _ _=>False) s) :
  TS.JP X.prog X.w A (fun _ _=>False) s κ (sU H ds) (sLt H):=by
 intro x y st Q hx hy hk q;rw [PyProof.Rows.lt'_eq];refine wpS_bind (wpS_get ?_);rw [hk];refine wpS_bind (wpS_lift (wpAny_attempt (wpAny_mono (h x y (fun b s'=>s'=s/\b=sLt H x y) hx hy ⟨rfl,rfl⟩) (fun b s' ⟨e1,e2⟩=>⟨e1,?_⟩) fun _ _ z=>False.elim z)));subst e2;exact wpS_pure q
theorem jR {Q:VK} {v:Value} {its:List Value} {xs:List V} {ds:List D} (I:Inv X pins σ H s) (hu:X.A.units+20<cLine) (vr:Vals xs its) (hn:its.length<=sizeLine) (r:bN All H xs ds) (hc:bF ds=true)
  (hcol:∀(Q':List Value->Shared->Prop) (E':Value->Shared->Prop),(∀h1 tk,(∀b o,s.heap.get? b=some o->h1.get? b=some o)->s.heap.objs.size<=h1.objs.size->Q' its {s with heap:=h1,toks:=tk})->wpAny (model X.prog X.w) X.A.in1 (collect v) Q' E' s)
  (q:∀p xs',H p=none->bN All H xs' (jC ds)->Q (.ref p) (upd H p (.lst xs'))):wpAny (model X.prog X.w) X.A (call (.builtin "sorted") [v]) (EP X pins σ Q) X.xe s:=by
 have hz:xs.length<=sizeLine:=by rw [vr.length];exact hn
 -- what comes,told by its data
 have fin:∀(h1:Heap) (tk:Nat),(∀b o,s.heap.get? b=some o->h1.get? b=some o)->s.heap.objs.size<=h1.objs.size->∀arr:Array Keyed,arr.Perm (pairsOf its)->(∀i j,i<=j->j<arr.size->leE (kE H (TS.gt arr i).1) (kE H (TS.gt arr j).1)=true)->EP X pins σ Q (.ref h1.objs.size) {s with heap:=TS.aBq h1 its (arr.map (·.2)),toks:=tk}:=by
  intro h1' tk kp hle arr hp hs;have hpl:arr.toList.Perm (its.zip its):=by rw [<-PyProof.Rows.pairsOf_toList];exact Array.perm_iff_toList_perm.mp hp
  have hmem:∀p∈arr.toList,p.1=p.2/\p.1∈its:=fun p hp'=>PyProof.Rows.mem_zip_self (hpl.mem_iff.mp hp')
  have e1:(arr.map (·.2)).toList=arr.toList.map (·.1):=by
   rw [Array.toList_map];exact List.map_congr_left fun p hp'=>(hmem p hp').1.symm
  -- the values and their data
  have all:∀l:List Keyed,(∀p∈l,p∈arr.toList)->∃ys,Vals ys (l.map (·.1))/\bN All H ys (l.map fun p=>kE H p.1):=by
   intro l;induction l with
   | nil=>intro _;exact ⟨[],.nil,.nil⟩
   | cons p l ih=>
    intro h;obtain ⟨ys,h1,h2⟩:=ih fun p hp'=>h p (List.mem_cons_of_mem _ hp')
    obtain ⟨v,d,rv,rp,hd⟩:=GD r vr (hmem p (h p (List.mem_cons_self ..))).2;refine ⟨v::ys,.cons rv h1,?_⟩;rw [List.map_cons,qF (d9 hc hd).1 (d9 hc hd).2.1 rv rp];exact .cons rp h2
  obtain ⟨ys,h1,h2⟩:=all arr.toList fun _ h=>h
  have dats:its.map (kE H)=ds:=by
   clear all h1 h2 hp hs hpl hmem e1;have:∀{xs:List V} {es:List D} {us:List Value},bN All H xs es->Vals xs us->(∀d∈es,d∈ds)->us.map (kE H)=es:=by
    intro xs es us r;induction us generalizing xs es with
    | nil=>intro v _;cases v;cases r;rfl
    | cons u us ih=>
     intro v hsub;cases v with
     | cons v0 vt=>
      cases r with
      | cons r0 rt=>
       have hd:=hsub _ (List.mem_cons_self ..);rw [List.map_cons,ih rt vt fun d hd=>hsub d (List.mem_cons_of_mem _ hd),qF (d9 hc hd).1 (d9 hc hd).2.1 v0 r0]
   exact this r vr fun _ h=>h
  have hperm:(arr.toList.map fun p=>kE H p.1).Perm ds:=by
   have:=hpl.map fun p=>kE H p.1
   have e2:(its.zip its).map (fun p=>kE H p.1)=ds:=by
    have:(its.zip its).map (fun p=>kE H p.1)=((its.zip its).map Prod.fst).map (kE H):=by rw [List.map_map];rfl
    rw [this,List.map_fst_zip (Nat.le_refl _),dats]
   rwa [e2] at this
  have hsorted:(arr.toList.map fun p=>kE H p.1).Pairwise fun a b=>leE a b=true:=by
   rw [List.pairwise_map,List.pairwise_iff_getElem];intro i j hi hj hij;have:=hs i j (Nat.le_of_lt hij) (by simpa using hj);have g:∀k (hk:k<arr.toList.length),TS.gt arr k=arr.toList[k]:=fun k hk=>by
    unfold TS.gt;have hk':k<arr.size:=by simpa using hk
    simp [Array.getD,hk']
   rwa [g i hi,g j hj] at this
  have eq:(arr.toList.map fun p=>kE H p.1)=jC ds:=by
   refine rD (fun d hd=>?_) (hperm.trans (dW ds).symm) hsorted (iT ds);exact (d9 hc (hperm.mem_iff.mp hd)).1
  rw [eq] at h2;rw [<-e1] at h1;have hfr:H h1'.objs.size=none:=I.hok.fresh hle;obtain ⟨ee,he⟩:=TS.aAa h1' its (arr.map (·.2));refine ⟨.ref h1'.objs.size,_,I.laid (t':=tk) (fun b o e=>TS.V5 (kp b o e)) hle ?_,rfl,q _ ys hfr h2⟩;refine ⟨?_,(arr.map (·.2)).toList,ee,h1,by rw [he]⟩;rw [h2.length,(dW ds).length_eq,<-r.length];exact hz
 refine TS.JZ hn hcol (fun hh tk kp hle h2=>?_) (fun hh tk kp hle h2=>?_)
 ·have I':Inv X pins σ H {s with heap:=TS.aBp hh its,toks:=tk}:=I.kept (t':=tk) fun b o e=>TS.V4 (kp b o e)
  have hu2:X.A.in1.in1.units+aY<cLine:=by show X.A.units+1+1+12<cLine;lia
  obtain ⟨κ,k1,k2⟩:=PP I' hu2 hc r vr h2;refine ⟨κ,sU H ds,sLt H,aGb H ds,fun i hi=>?_,k1,aAd I' k2,fun arr p z=>fin hh tk kp hle arr p fun i j a1 a2=>?_⟩
  ·rw [PyProof.Rows.pairsOf_size] at hi;have e:TS.gt (pairsOf its) i=(its[i],its[i]):=by
    unfold TS.gt pairsOf;simp [Array.getD,hi]
   rw [e];exact GD r vr (List.getElem_mem hi)
  ·have:=z i j (Nat.zero_le _) a1 (by rw [<-p.size_eq];exact a2);unfold leE;unfold sLt at this;rw [this];rfl
 ·refine fin hh tk kp hle _ (Array.Perm.refl _) fun i j a1 a2=>?_
  rw [PyProof.Rows.pairsOf_size] at a2;rw [show i=j by lia];simp [leE,List.lt_irrefl]
theorem J5 {Q:VK} {l:Addr} {xs:List V} {ds:List D} (I:Inv X pins σ H s) (hu:X.A.units+20<cLine) (hl:SqL X.K H l xs) (r:bN All H xs ds) (hc:bF ds=true)
  (q:∀p xs',H p=none->bN All H xs' (jC ds)->Q (.ref p) (upd H p (.lst xs'))):wpAny (model X.prog X.w) X.A (call (.builtin "sorted") [.ref l]) (EP X pins σ Q) X.xe s:=by
 obtain ⟨its,vr,pl,hz⟩:=I.list hl;have hn:its.length<=sizeLine:=by rw [<-vr.length];exact hz
 refine jR I hu vr hn r hc (fun Q' E' h=>PyProof.Rows.collect_list pl.isList (h _ s.toks (fun b o e=>?_) ?_) hn) q
 ·rw [Heap.get?_update_ne _ _ _ _ (Nat.ne_of_lt (Heap.lt_size e))];exact Heap.get?_push_of_some _ e
 ·rw [Heap.size_update,PyProof.Rows.size_push'];exact Nat.le_succ _
end
end Mi
end
section
namespace Mi
open PySem L2 PySem.SeqAt PySem.Spec PyProof.Rows
variable [KFrag]
noncomputable def kR (H:Hp) (d:D) (fr:Bool) (Q:VK):Prop:=∀v H',cJ H H'->Rep All H' v d->(fr=true->Rep (New H) H' v d)->Q v H'
noncomputable def gE (f:FE) (fr:Bool):TE:=fun σ H Q=>∃ρ d,ER H σ ρ/\f ρ=.ok d/\kR H d fr Q
noncomputable def gT (f:FT):TT:=fun σ H Q=>∃ρ b,ER H σ ρ/\f ρ=.ok b/\∀H',cJ H H'->Q b H'
noncomputable def gA (f:FA) (fr:Bool):TA:=fun σ H Q=>∃ρ ds,ER H σ ρ/\f ρ=.ok ds/\∀vs H',cJ H H'->bN All H' vs ds->(fr=true->bN (New H) H' vs ds)->Q vs H'
theorem kR.self {H:Hp} {d:D} {fr:Bool} {Q:VK} {v:V} (q:kR H d fr Q) (r:Rep All H v d) (r2:fr=true->Rep (New H) H v d):Q v H:=q v H (cJ.refl H) r r2
theorem kR.imp {H H':Hp} {d:D} {fr fr':Bool} {Q:VK} (q:kR H d fr Q) (s:cJ H H') (h:fr=true->fr'=true):kR H' d fr' Q:=fun v H2 s2 r n=>q v H2 (s.trans s2) r fun hf=>(n (h hf)).mono (cJ.new s)
theorem kR.int {H:Hp} {i:Int} {fr:Bool} {Q:VK} (q:kR H (.int i) fr Q):Q (.int i) H:=q.self (.int i) fun _=>.int i
theorem kR.bl {H:Hp} {i:Bool} {fr:Bool} {Q:VK} (q:kR H (.bl i) fr Q):Q (.bl i) H:=q.self (.bl i) fun _=>.bl i
theorem kR.str {H:Hp} {i:Str} {fr:Bool} {Q:VK} (q:kR H (.str i) fr Q):Q (.str i) H:=q.self (.str i) fun _=>.str i
noncomputable def r2 (f:D->D->Res D) (fr:Bool):R2:=fun x y H Q=>∃a b d,Rep All H x a/\Rep All H y b/\f a b=.ok d/\kR H d fr Q
noncomputable def r1 (f:D->Res D) (fr:Bool):V->Hp->VK->Prop:=fun x H Q=>∃a d,Rep All H x a/\f a=.ok d/\kR H d fr Q
noncomputable def rs (f:List D->Res D) (fr:Bool):List V->Hp->VK->Prop:=fun xs H Q=>∃ds d,bN All H xs ds/\f ds=.ok d/\kR H d fr Q
theorem bI {α β:Type} {m:Res α} {f:α->Res β} {b:β} (h:(do let x <- m;f x)=.ok b):∃a,m=.ok a/\f a=.ok b:=Res.aA7 h
section
variable {X:Cx} {a b c e:Expr} {pos:Pos} {fa fb fc fe:FE} {ra rb rc re:Bool} {ga gb gc:FT}
theorem ER.var {H:Hp} {σ:L2.St} {ρ:List D} {i:Nat} {d:D} (E:ER H σ ρ) (h:aF i ρ=.ok d):∃v,σ[i]?=some (some v)/\Rep All H v d/\ρ.getD i .uDf=d:=by
 have:ρ.getD i .uDf=d/\d≠.uDf:=by
  unfold aF at h;split at h
  ·cases h
  ·cases h;refine ⟨rfl,fun z=>?_⟩;rename_i q;exact q z
 obtain ⟨e1,e2⟩:=this;obtain ⟨v,h1,h2⟩:=E i (by rw [e1];exact e2);exact ⟨v,h1,by rw [e1] at h2;exact h2,e1⟩
theorem aA {i:Nat} {x:Str} (hN:X.N[i]?=some x:=by exact rfl) (hv:Vis X.env.scope x:=by trivial) (hd:(x==("__debug__" : Str))=false:=by decide) (hcd:(x==("__classdict__" : Str))=false:=by decide):PE X (.Name x pos) (gE (aF i) false):=
 PE.imp (j6 hN hv hd hcd) fun σ H Q ⟨ρ,d,E,h,q⟩=>by
  obtain ⟨v,h1,h2,_⟩:=E.var h;exact ⟨v,h1,q.self h2 (fun z=>by cases z)⟩
theorem aK {i j}:PE X (.Constant (.int i) j pos) (gE (bC (.int i)) true):=PE.imp aBw fun σ H Q ⟨ρ,d,E,h,q⟩=>by cases h;exact q.int
theorem BW {i j}:PE X (.Constant (.bool i) j pos) (gE (bC (.bl i)) true):=PE.imp ZX fun σ H Q ⟨ρ,d,E,h,q⟩=>by cases h;exact q.bl
theorem Y0 {i j}:PE X (.Constant (.str i) j pos) (gE (bC (.str i)) true):=PE.imp YD fun σ H Q ⟨ρ,d,E,h,q⟩=>by cases h;exact q.str
theorem two {f:D->D->Res D} {fr:Bool} {σ:L2.St} {H:Hp} {Q:VK} (h:gE (b2 f fa fb) fr σ H Q):tOp (r2 f fr) (gE fa ra) (gE fb rb) σ H Q:=by
 obtain ⟨ρ,d,E,h,q⟩:=h;obtain ⟨x,h1,h⟩:=bI h;obtain ⟨y,h2,h⟩:=bI h;refine ⟨ρ,x,E,h1,fun v H1 s1 rp1 _=>⟨ρ,y,E.same s1,h2,fun u H2 s2 rp2 _=>⟨x,y,d,rp1.same s2,rp2,h,q.imp (s1.trans s2) id⟩⟩⟩
theorem bH {o:Operator} {f:D->D->Res D} {fr:Bool} (ho:OpR X (binaryOp o) (r2 f fr)) (ha:PE X a (gE fa ra)) (hb:PE X b (gE fb rb)):PE X (.BinOp a o b pos) (gE (b2 f fa fb) fr):=PE.imp (aEh ho ha hb) fun _ _ _=>two
theorem GF {o:CmpOp} {f:D->D->Res D} {fr:Bool} (ho:OpR X (compareOp o) (r2 f fr)) (ha:PE X a (gE fa ra)) (hb:PE X b (gE fb rb)) (hm:behindInMarks o b=false):PE X (.Compare a [o] [b] pos) (gE (b2 f fa fb) fr):=PE.imp (Z4 ho ha hb hm) fun _ _ _=>two
theorem cH {o:CmpOp} {f:D->D->Res D} {fr:Bool} (ho:OpR X (compareOp o) (r2 f fr)) (ha:PE X a (gE fa ra)) (hb:PE X b (gE fb rb)) (hm:behindInMarks o b=false):PT X (.Compare a [o] [b] pos) (gT (bTB (b2 f fa fb))):=
 PT.imp (Z5 ho ha hb hm) fun σ H Q ⟨ρ,k,E,h,q⟩=>by
  obtain ⟨d,h1,h2⟩:=bI h;refine two ⟨ρ,d,E,h1,fun v H' s r _=>?_⟩;cases d <;> simp only [asB] at h2 <;> cases h2
  cases r;exact ⟨_,rfl,q H' s⟩
theorem PQ {o:UnaryOp} {f:D->Res D} {fr:Bool} (ho:UnR X (unaryOp o) (r1 f fr)) (ha:PE X a (gE fa ra)):PE X (.UnaryOp o a pos) (gE (b1 f fa) fr):=
 PE.imp (aEi ho ha) fun σ H Q ⟨ρ,d,E,h,q⟩=>by
  obtain ⟨x,h1,h⟩:=bI h;exact ⟨ρ,x,E,h1,fun v H1 s1 rp1 _=>⟨x,d,rp1,h,q.imp s1 id⟩⟩
theorem cL {f:D->D->Res D} {fr:Bool} (ho:IxR X (r2 f fr)) (ha:PE X a (gE fa ra)) (hb:PE X b (gE fb rb)) (hs:M9 b):PE X (.Subscript a b pos) (gE (b2 f fa fb) fr):=PE.imp (aEp ho ha hb hs) fun _ _ _=>two
theorem aGc {H:Hp} {v:V} {d:D} {k:Bool} (r:Rep All H v d) (h:aEs d=.ok k) (hd:∀kvs,d≠.dct kvs) (hs:∀xs,d≠.scr xs):aEk X.K v H k:=by
 cases r with
 | non=>cases h;rfl
 | bl b=>cases h;rfl
 | int i=>cases h;rfl
 | str x=>
  simp only [aEs] at h;split at h
  ·rename_i hl;cases h;exact ⟨Nat.le_trans (of_decide_eq_true hl) (by rw [sizeLine_eq];decide),rfl⟩
  ·cases h
 | tup e rr=>cases h;exact .inr (.inl ⟨_,.of e,by cases rr <;> rfl⟩)
 | lst e p rr=>cases h;exact .inl ⟨_,.of e,by cases rr <;> rfl⟩
 | frz e rr=>exact absurd rfl (hs _)
 | dK e p rr n=>exact absurd rfl (hd _)
 | dT e p rr n=>exact absurd rfl (hd _)
 | fdK e rr n=>cases h
 | fdT e rr n=>cases h
theorem iD (ha:PE X a (gE fa ra)) (he:∀whole,isTrue a X.env whole=(do let v <- whole;standAt a.pos;holding [v] (truthy v)):=by intro _;rfl):PT X a (gT (bTr fa)):=
 PT.imp (U6 ha he) fun σ H Q ⟨ρ,k,E,h,q⟩=>by
  obtain ⟨d,h1,h2⟩:=bI h;refine ⟨ρ,d,E,h1,fun v H' s r _=>⟨k,aGc r ?_ ?_ ?_,q H' s⟩⟩
  ·cases d <;> first|exact h2|cases h2
  ·rintro kvs rfl;cases h2
  ·rintro kvs rfl;cases h2
theorem lG (ha:PT X a (gT ga)):PT X (.UnaryOp .Not a pos) (gT (pZ ga)):=PT.imp (aC0 ha) fun σ H Q ⟨ρ,k,E,h,q⟩=>by
  obtain ⟨d,h1,h2⟩:=bI h;cases h2;exact ⟨ρ,d,E,h1,fun H' s=>q H' s⟩
theorem xN {op} (ha:PE X a (gE fa ra)):PE X (.BoolOp op [a] pos) (gE fa ra):=YG ha
theorem GJ {d:D} {k:Bool} (h:asB d=.ok k):d=.bl k:=by cases d <;> simp only [asB] at h <;> cases h;rfl
theorem aCw {d:D} {k:Int} (h:asI d=.ok k):d=.int k:=by cases d <;> simp only [asI] at h <;> cases h;rfl
theorem Y4 (ha:PE X a (gE fa ra)):PE X (.UnaryOp .Not a pos) (gE (O2 fa) true):=PE.imp (aC2 ha) fun σ H Q ⟨ρ,k,E,h,q⟩=>by
  obtain ⟨d,h1,h⟩:=bI h;obtain ⟨z,h2,h⟩:=bI h;cases h;cases GJ h2;exact ⟨ρ,_,E,h1,fun v H' s r _=>by cases r;exact ⟨_,rfl,(q.imp s id).bl⟩⟩
theorem pN {rest:List Expr} (ha:PE X a (gE fa ra)) (hb:PE X (.BoolOp .And (b::rest) pos) (gE fb rb)):PE X (.BoolOp .And (a::b::rest) pos) (gE (p6 fa fb) rb):=PE.imp (YH ha hb) fun σ H Q ⟨ρ,k,E,h,q⟩=>by
  obtain ⟨d,h1,h⟩:=bI h;obtain ⟨z,h2,h3⟩:=bI h;cases GJ h2;refine ⟨ρ,_,E,h1,fun v H' s r _=>?_⟩;cases r;refine ⟨_,rfl,?_⟩;cases z with
  | true=>rw [if_pos rfl];rw [if_pos rfl] at h3;exact ⟨ρ,k,E.same s,h3,q.imp s id⟩
  | false=>rw [if_neg (by simp)];rw [if_neg (by simp)] at h3;cases h3;exact (q.imp s id).bl
theorem aH:PA X [] (gA aV true):=PA.imp kO fun σ H Q ⟨ρ,ds,E,h,q⟩=>by cases h;exact q [] H (cJ.refl H) .nil fun _=>.nil
theorem aB {es:List Expr} {f:FA} {r:Bool} (he:PE X e (gE fe re)) (hes:PA X es (gA f r)) (hs:starEach (e::es) X.env=(false,eval e X.env)::starEach es X.env:=by rfl):PA X (e::es) (gA (aC fe f) (re&&r)):=PA.imp (bT he hes hs) fun σ H Q ⟨ρ,ds,E,h,q⟩=>by
  obtain ⟨x,h1,h⟩:=bI h;obtain ⟨xs,h2,h⟩:=bI h;cases h;refine ⟨ρ,x,E,h1,fun v H1 s1 r1 n1=>⟨ρ,xs,E.same s1,h2,fun vs H2 s2 r2 n2=>q _ _ (s1.trans s2) (.cons (r1.same s2) r2) fun hf=>?_⟩⟩;obtain ⟨f1,f2⟩:=(Bool.and_eq_true _ _▸hf:re=true/\r=true)
  exact .cons ((n1 f1).same s2) ((n2 f2).mono (cJ.new s1))
theorem bZ {es:List Expr} {f:FA} {r:Bool} {x1} (h:PA X es (gA f r)):PE X (.Tuple es x1 pos) (gE (dM f) r):=PE.imp (YL h) fun σ H Q ⟨ρ,d,E,h,q⟩=>by
  obtain ⟨xs,h1,h⟩:=bI h;split at h
  ·rename_i hl;cases h;refine ⟨ρ,xs,E,h1,fun vs H1 s1 r1 n1=>⟨?_,fun p hp=>?_⟩⟩
   ·rw [r1.length];exact Nat.le_trans (of_decide_eq_true hl) (by rw [sizeLine_eq];decide)
   ·have sp:cJ H1 (upd H1 p (.tup vs)):=cJ.upd hp;exact q _ _ (s1.trans sp) (.tup aJ (r1.same sp)) fun hf=>.tup aJ ((n1 hf).same sp)
  ·cases h
theorem xO {es:List Expr} {f:FA} {r:Bool} (h:PA X es (gA f r)):PE X (.List es pos) (gE (aBo f) r):=PE.imp (aCc h) fun σ H Q ⟨ρ,d,E,h,q⟩=>by
  obtain ⟨xs,h1,h⟩:=bI h;split at h
  ·rename_i hl;cases h;refine ⟨ρ,xs,E,h1,fun vs H1 s1 r1 n1=>⟨?_,fun p hp=>?_⟩⟩
   ·rw [r1.length];exact Nat.le_trans (of_decide_eq_true hl) (by rw [sizeLine_eq];decide)
   ·have sp:cJ H1 (upd H1 p (.lst vs)):=cJ.upd hp;exact q _ _ (s1.trans sp) (.lst aJ trivial (r1.same sp)) fun hf=>.lst aJ (s1.free hp) ((n1 hf).same sp)
  ·cases h
theorem vG:PE X (.Dict [] [] pos) (gE (bC (.dct [])) true):=PE.imp VJ fun σ H Q ⟨ρ,d,E,h,q⟩=>by
  cases h;exact fun p hp=>q _ _ (cJ.upd hp) (.dK aJ trivial .nil List.nodup_nil) fun _=>.dK aJ hp .nil List.nodup_nil
end
end Mi
end
section
namespace Mi
open PySem L2 PySem.SeqAt PySem.Spec PyProof.Rows
variable [KFrag]
section
variable {X:Cx} {a b c e:Expr} {pos:Pos} {fa fb fc fe:FE} {ra rb rc re:Bool} {ga gb gc:FT}
theorem qG {n:Nat} (h:decide (n<=lim)=true):n<=sizeLine:=Nat.le_trans (of_decide_eq_true h) (by rw [sizeLine_eq];decide)
theorem Y5 {n:Nat} (h:decide (n<lim)=true):n<sizeLine:=Nat.lt_of_lt_of_le (of_decide_eq_true h) (by rw [sizeLine_eq];decide)
theorem Rep.aCx {P:Addr->Prop} {H:Hp} {v:V} {ds:List D} (r:Rep P H v (.lst ds)):∃a xs,v=.ref a/\Rd H a (.lst xs)/\bN P H xs ds:=by
 cases r with
 | lst e p rr=>exact ⟨_,_,rfl,.inl e,rr⟩
theorem PW.imp {X:Cx} {e:PySem.Expr} {t t':TT} (h:PW X e t) (i:∀σ H Q,t' σ H Q->t σ H Q):PW X e t':=fun wh pins s σ H Q I q=>h wh pins s σ H Q I (i σ H Q q)
theorem BX (ha:PT X a (gT ga)):PW X (.BoolOp .And [a] pos) (gT ga):=ZZ ha
theorem xP (ha:PT X a (gT ga)):PW X (.BoolOp .Or [a] pos) (gT ga):=aBy ha
theorem PX {rest:List Expr} (ha:PT X a (gT ga)) (hb:PW X (.BoolOp .And (b::rest) pos) (gT gb)):PW X (.BoolOp .And (a::b::rest) pos) (gT (JS ga gb)):=PW.imp (aBz ha hb) fun σ H Q ⟨ρ,k,E,h,q⟩=>by
 obtain ⟨z,h1,h3⟩:=bI h;refine ⟨ρ,z,E,h1,fun H' s=>?_⟩;cases z with
 | true=>rw [if_pos rfl];rw [if_pos rfl] at h3;exact ⟨ρ,k,E.same s,h3,fun H2 s2=>q H2 (s.trans s2)⟩
 | false=>rw [if_neg (by simp)];rw [if_neg (by simp)] at h3;cases h3;exact q H' s
theorem J6 {rest:List Expr} (ha:PT X a (gT ga)) (hb:PW X (.BoolOp .Or (b::rest) pos) (gT gb)):PW X (.BoolOp .Or (a::b::rest) pos) (gT (bOr ga gb)):=PW.imp (aE9 ha hb) fun σ H Q ⟨ρ,k,E,h,q⟩=>by
 obtain ⟨z,h1,h3⟩:=bI h;refine ⟨ρ,z,E,h1,fun H' s=>?_⟩;cases z with
 | true=>rw [if_pos rfl];rw [if_pos rfl] at h3;cases h3;exact q H' s
 | false=>rw [if_neg (by simp)];rw [if_neg (by simp)] at h3;exact ⟨ρ,k,E.same s,h3,fun H2 s2=>q H2 (s.trans s2)⟩
theorem aCy {f g:D->D->Res D} {r r':Bool} {σ:L2.St} {H:Hp} {Q:VK} (h:gE (bCh f g fa fb fc) r' σ H Q):YK (r2 f r) (r2 g r') (gE fa ra) (gE fb rb) (gE fc rc) σ H Q:=by
 obtain ⟨ρ,d,E,h,q⟩:=h;obtain ⟨x,h1,h⟩:=bI h;obtain ⟨y,h2,h⟩:=bI h;obtain ⟨z,h3,h⟩:=bI h;obtain ⟨k,h4,h7⟩:=bI h;refine ⟨ρ,x,E,h1,fun v H1 s1 rp1 _=>⟨ρ,y,E.same s1,h2,fun u H2 s2 rp2 _=>⟨x,y,z,rp1.same s2,rp2,h3,fun t H3 s3 rp3 _=>?_⟩⟩⟩;have e:=GJ h4;subst e;cases rp3;refine ⟨k,rfl,?_⟩;have s13:=(s1.trans s2).trans s3;cases k with
 | true=>
  rw [if_pos rfl];rw [if_pos rfl] at h7;obtain ⟨w,h5,h6⟩:=bI h7;exact ⟨ρ,w,E.same s13,h5,fun t H4 s4 rp4 _=>⟨y,w,d,(rp2.same s3).same s4,rp4,h6,q.imp (s13.trans s4) id⟩⟩
 | false=>
  rw [if_neg (by simp)];rw [if_neg (by simp)] at h7;cases h7;exact (q.imp s13 id).bl
theorem V8 {o o':CmpOp} {f g:D->D->Res D} {r r':Bool} (ho:OpR X (compareOp o) (r2 f r)) (ho':OpR X (compareOp o') (r2 g r')) (ha:PE X a (gE fa ra)) (hb:PE X b (gE fb rb)) (hc:PE X c (gE fc rc))
  (hm:lastMarks [o,o'] [b,c]=false:=by with_unfolding_all rfl):PT X (.Compare a [o,o'] [b,c] pos) (gT (bTB (bCh f g fa fb fc))):=PT.imp (U5 ho ho' ha hb hc hm) fun σ H Q ⟨ρ,k,E,h,q⟩=>by
  obtain ⟨d,h1,h2⟩:=bI h;refine aCy ⟨ρ,d,E,h1,fun v H' s r _=>?_⟩;have e:=GJ h2;subst e;cases r;exact ⟨_,rfl,q H' s⟩
theorem cZ:OpR X (binaryOp .Add) (r2 (aW .add) true):=by
 intro pins s σ H x y v u Q I rx ry h;obtain ⟨a,b,d,p,q,e,k⟩:=h;cases p with
 | int i=>
  cases q with
  | int j=>cases e;exact aC4 pins s σ H _ _ v u Q I rx ry ⟨i,j,rfl,rfl,k.int⟩
  | _=>simp [aW] at e
 | str i=>
  cases q with
  | str j=>
   simp only [aW] at e;split at e
   ·rename_i hl;cases e;exact JG pins s σ H _ _ v u Q I rx ry ⟨i,j,rfl,rfl,qG hl,k.str⟩
   ·cases e
  | _=>simp [aW] at e
 | non=>simp [aW] at e
 | bl _=>simp [aW] at e
 | tup _ _=>simp [aW] at e
 | dK _ _ _ _=>simp [aW] at e
 | dT _ _ _ _=>simp [aW] at e
 | fdK _ _ _=>simp [aW] at e
 | fdT _ _ _=>simp [aW] at e
 | @lst a1 xs ds e1 p1 r1=>
  have hR:Rep All H (.ref a1) (.lst ds):=.lst e1 p1 r1;cases b with
  | lst es=>
   simp only [aW] at e;split at e
   ·rename_i hl;cases e;rw [Bool.and_eq_true,Bool.and_eq_true] at hl;obtain ⟨⟨hl,hp1⟩,hp2⟩:=hl;obtain ⟨l1,xs1,e1',rd1,rr1⟩:=hR.aCx;obtain ⟨l2,xs2,rfl,rd2,rr2⟩:=q.aCx;cases e1';cases rx;cases ry;obtain ⟨z,its,n,vr1,ee1⟩:=rd1.ok I.hok;obtain ⟨z2,its2,n2,vr2,ee2⟩:=rd2.ok I.hok;have hz:xs1.length+xs2.length<=sizeLine:=by rw [rr1.length,rr2.length];exact qG hl
    have t1:=vr1.length;have t2:=vr2.length;refine PySem.P.add_list ee1 ee2 ?_ (by rw [List.size_toArray,List.size_toArray];lia);have ea:its.toArray++its2.toArray=(its++its2).toArray:=by simp
    rw [ea];refine ⟨.ref _,_,I.aGa (t':=s.toks) (vr1.append vr2) (by rw [List.length_append];lia),rfl,?_⟩;have sp:cJ H (upd H s.heap.objs.size (.lst (xs1++xs2))):=cJ.upd I.fresh;exact k _ _ sp (.lst aJ trivial ((rr1.append rr2).same sp)) fun _=>.lst aJ I.fresh (((rr1.bY hp1).append (rr2.bY hp2)).same sp)
   ·cases e
  | _=>simp [aW] at e
 | frz _ _=>simp [aW] at e
theorem vH {f:Value->Value->Sem Value} {C:Int->Int->Prop} {g:Int->Int->V} {op:D->D->Res D} (h:OpR X f (rI C g))
  (hi:∀i j d,op (.int i) (.int j)=.ok d->C i j/\∃k,d=.int k/\g i j=.int k) (hn:∀a b d,op a b=.ok d->(∃i,a=.int i)/\∃j,b=.int j):OpR X f (r2 op true):=by
 intro pins s σ H x y v u Q I rx ry ⟨a,b,d,p,q,e,k⟩;obtain ⟨⟨i,rfl⟩,⟨j,rfl⟩⟩:=hn a b d e;cases p;cases q;obtain ⟨hc,m,rfl,hm⟩:=hi i j d e;exact h pins s σ H _ _ v u Q I rx ry ⟨i,j,rfl,rfl,hc,by rw [hm];exact k.int⟩
theorem P0:OpR X (binaryOp .Sub) (r2 (aW .sub) true):=by
 intro pins s σ H x y v u Q I rx ry ⟨a,b,d,p,q,e,k⟩;cases a <;> cases b <;> simp [aW] at e
 cases p;cases q;subst e;exact aC5 pins s σ H _ _ v u Q I rx ry ⟨_,_,rfl,rfl,k.int⟩
theorem pO:OpR X (binaryOp .Mult) (r2 (aW .mul) true):=by
 refine vH aC6 (fun i j d e=>?_) fun a b d e=>?_
 ·simp only [aW] at e;split at e
  ·rename_i hl;cases e;refine ⟨?_,_,rfl,rfl⟩;simp only [rA,Bool.or_eq_true,Bool.and_eq_true,decide_eq_true_eq] at hl;exact hl
  ·cases e
 ·cases a <;> cases b <;> first|exact ⟨⟨_,rfl⟩,_,rfl⟩|simp [aW] at e
theorem iG:OpR X (binaryOp .FloorDiv) (r2 (aW .fdiv) true):=by
 refine vH Z1 (fun i j d e=>?_) fun a b d e=>?_
 ·simp only [aW] at e;split at e
  ·rename_i hl;cases e;refine ⟨?_,_,rfl,rfl⟩;simp only [Bool.and_eq_true,decide_eq_true_eq] at hl;exact hl
  ·cases e
 ·cases a <;> cases b <;> first|exact ⟨⟨_,rfl⟩,_,rfl⟩|simp [aW] at e
theorem e_:OpR X (binaryOp .Mod) (r2 (aW .mod) true):=by
 refine vH aC7 (fun i j d e=>?_) fun a b d e=>?_
 ·simp only [aW] at e;split at e
  ·rename_i hl;cases e;refine ⟨?_,_,rfl,rfl⟩;simp only [Bool.and_eq_true,decide_eq_true_eq] at hl;exact hl
  ·cases e
 ·cases a <;> cases b <;> first|exact ⟨⟨_,rfl⟩,_,rfl⟩|simp [aW] at e
theorem P_:OpR X (binaryOp .Pow) (r2 (aW .pow) true):=by
 refine vH aC8 (fun i j d e=>?_) fun a b d e=>?_
 ·simp only [aW] at e;split at e
  ·rename_i hl;cases e;refine ⟨?_,_,rfl,rfl⟩;simp only [Bool.and_eq_true,decide_eq_true_eq] at hl;exact ⟨hl.1.1,hl.1.2,hl.2⟩
  ·cases e
 ·cases a <;> cases b <;> first|exact ⟨⟨_,rfl⟩,_,rfl⟩|simp [aW] at e
theorem xQ:UnR X (unaryOp .USub) (r1 O3 true):=by
 intro pins s σ H x v Q I rx ⟨a,d,p,e,k⟩;cases a <;> simp [O3] at e
 subst e;cases p;exact aC9 pins s σ H _ v Q I rx ⟨_,rfl,k.int⟩
theorem jT (hu:X.A.units+20<cLine):OpR X (compareOp .Eq) (r2 (bV .eq) true):=by
 intro pins s σ H x y v u Q I rx ry ⟨a,b,d,p,q,e,k⟩;simp only [bV] at e;split at e
 ·rename_i hl;cases e;rw [Bool.and_eq_true] at hl;exact (xK I aY X.A (by have:aY=12:=rfl;lia) hl.1 hl.2 p q rx ry).1 X.prog X.w X.xe _ ⟨.bl _,H,I,rfl,k.bl⟩
 ·cases e
theorem V9 (hu:X.A.units+20<cLine):OpR X (compareOp .NotEq) (r2 (bV .ne) true):=by
 intro pins s σ H x y v u Q I rx ry ⟨a,b,d,p,q,e,k⟩;simp only [bV] at e;split at e
 ·rename_i hl;cases e;rw [Bool.and_eq_true] at hl;exact (xK I aY X.A (by have:aY=12:=rfl;lia) hl.1 hl.2 p q rx ry).2.1 X.prog X.w X.xe _ ⟨.bl _,H,I,rfl,k.bl⟩
 ·cases e
theorem QB (o:gY) (hu:X.A.units+20<cLine):OpR X (compareOp o.op) (r2 (bV (.ord o)) true):=by
 intro pins s σ H x y v u Q I rx ry ⟨a,b,d,p,q,e,k⟩;simp only [bV] at e;split at e
 ·rename_i hl;rw [Bool.and_eq_true] at hl;split at e
  ·rename_i m hm;cases e;have:=BV I o aY X.A (by have:aY=12:=rfl;lia) hl.1 hl.2 p q rx ry hm X.prog X.w X.xe _ (show EP X pins σ Q (.bool m) s from ⟨.bl _,H,I,rfl,k.bl⟩);cases o <;> exact this
  ·cases e
 ·cases e
theorem J7 (hu:X.A.units+20<cLine):OpR X (compareOp .Lt) (r2 (bV (.ord .lt)) true):=QB .lt hu
theorem aEu (hu:X.A.units+20<cLine):OpR X (compareOp .LtE) (r2 (bV (.ord .le)) true):=QB .le hu
theorem aEv (hu:X.A.units+20<cLine):OpR X (compareOp .Gt) (r2 (bV (.ord .gt)) true):=QB .gt hu
end
end Mi
end
section
namespace Mi
open PySem L2 PySem.SeqAt PySem.Spec PyProof.Rows
variable [KFrag]
theorem V_ (k q:Key):eqD (kD k) (kD q)=decide (k=q):=by
 cases k <;> cases q <;> simp [kD,eqD,Bool.beq_eq_decide_eq]
theorem Y6:∀(k q:List Key),tK (k.map kD) (q.map kD)=decide (k=q)
 | [],[]=>by simp [tK]
 | [],_::_=>by simp [tK]
 | _::_,[]=>by simp [tK]
 | a::k,b::q=>by
  rw [List.map_cons,List.map_cons,tK,V_,Y6 k q];by_cases h:a=b <;> by_cases h':k=q <;> simp [h,h']
theorem WD (k q:List Key):eqD (.tup (k.map kD)) (.tup (q.map kD))=decide (k=q):=by rw [eqD,Y6]
theorem aAe {P:Addr->Prop} {H:Hp} {k:Key}:∀{kvs:List (Key×V)} {ds:List (D×D)},m5 P H kvs ds->(∃v d,qP kvs k=some v/\cY ds (kD k)=some d/\Rep P H v d)\/(qP kvs k=none/\cY ds (kD k)=none)
 | _,_,.nil=>.inr ⟨rfl,rfl⟩
 | _,_,.cons (k:=k') r t=>by
  by_cases h:k'=k
  ·subst h;exact .inl ⟨_,_,mD rfl,by rw [cY,V_,if_pos (by simp)],r⟩
  ·rw [cY,V_,if_neg (by simpa using h),mF (p:=(k',_)) h];exact aAe t
theorem WF {P:Addr->Prop} {H:Hp} {k:List Key}:∀{kvs:List (List Key×V)} {ds:List (D×D)},kI P H kvs ds->(∃v d,qP kvs k=some v/\cY ds (.tup (k.map kD))=some d/\Rep P H v d)\/(qP kvs k=none/\cY ds (.tup (k.map kD))=none)
 | _,_,.nil=>.inr ⟨rfl,rfl⟩
 | _,_,.cons (k:=k') r t=>by
  by_cases h:k'=k
  ·subst h;exact .inl ⟨_,_,mD rfl,by rw [cY,WD,if_pos (by simp)],r⟩
  ·rw [cY,WD,if_neg (by simpa using h),mF (p:=(k',_)) h];exact WF t
theorem vI {H:Hp} {v:V} {d:D} (h:uZ d=true) (r:Rep All H v d):∃k,v=kV k/\d=kD k:=by
 cases r <;> simp [uZ] at h
 ·exact ⟨.inl _,rfl,rfl⟩
 ·exact ⟨.inr _,rfl,rfl⟩
theorem flat_keys {H:Hp}:∀{vs:List V} {ds:List D},ds.all uZ=true->bN All H vs ds->∃ks:List Key,vs=ks.map kV/\ds=ks.map kD
 | _,_,_,.nil=>⟨[],rfl,rfl⟩
 | _,_,h,.cons r t=>by
  rw [List.all_cons,Bool.and_eq_true] at h;obtain ⟨k,rfl,rfl⟩:=vI h.1 r;obtain ⟨ks,rfl,rfl⟩:=flat_keys h.2 t;exact ⟨k::ks,rfl,rfl⟩
theorem iH {H:Hp} {y:V} {k:D} (h:keyOk k=true) (r:Rep All H y k):(∃q,y=kV q/\k=kD q)\/∃(b:Addr) (ks:List Key),y=.ref b/\H b=some (.tup (ks.map kV))/\k=.tup (ks.map kD):=by
 cases k <;> simp [keyOk] at h
 ·exact .inl (vI rfl r)
 ·exact .inl (vI rfl r)
 ·obtain ⟨a,xs,rfl,e,rr⟩:=r.eV;obtain ⟨ks,rfl,rfl⟩:=flat_keys (List.all_eq_true.mpr h) rr;exact .inr ⟨a,ks,rfl,e,rfl⟩
theorem fX (k:Key):isTup (kD k)=false:=by cases k <;> rfl
section
variable {X:Cx} {pins:List (Addr×Obj)} {σ:L2.St} {H:Hp} {s:Shared} {a:Addr}
theorem vJ {o o':HO} (e:H a=some o):upd (upd H a o') a o=H:=by
 rw [zQ]
 funext b
 by_cases h:b=a
 ·subst h;rw [aJ,e]
 ·rw [aX h]
theorem jF (I:Inv X pins σ H s) (e:H a=some (.dK [])):Inv X pins σ (upd H a (.dT [])) s:=by
 obtain ⟨z,hd,vs,rel,o,es,ep,h1,h2,h3,h4,h5,h6⟩:=JM I.hok e;cases rel;refine I.write (t':=s.toks) (x:=a) (e:=a) (h':=s.heap) (by rw [e];trivial) (.inl rfl) (fun _ _ _ q=>q) ⟨o,h1⟩ ?_;refine ⟨Nat.zero_le _,hd,[],.nil,o,es,ep,h1,h2,h3,?_,List.nodup_nil⟩;cases h5':es.toList with
 | nil=>rfl
 | cons _ _=>rw [h5'] at h5;cases h5
theorem mL (I:Inv X pins σ H s) (e:H a=some (.dT [])):Inv X pins σ (upd H a (.dK [])) s:=by
 obtain ⟨z,hd,vs,rel,o,es,ep,h1,h2,h3,h4,h5,h6⟩:=NK I.hok e;cases rel;refine I.write (t':=s.toks) (x:=a) (e:=a) (h':=s.heap) (by rw [e];trivial) (.inl rfl) (fun _ _ _ q=>q) ⟨o,h1⟩ ?_;have h0:es.toList=[]:=h4;refine ⟨Nat.zero_le _,hd,[],.nil,o,es,ep,h1,h2,h3,?_,?_,List.nodup_nil⟩
 ·intro x hx;have:x∈es.toList:=by simpa using hx
  rw [h0] at this;cases this
 ·rw [h0];exact .nil
theorem GK {P:Addr->Prop}:∀{kvs:List (Key×V)} {ds:List (D×D)},m5 P H kvs ds->∀p∈ds,isTup p.1=false
 | _,_,.nil,_,h=>by cases h
 | _,_,.cons r t,p,h=>by
  rcases List.mem_cons.mp h with rfl|h
  ·exact fX _
  ·exact GK t p h
theorem GP {P:Addr->Prop}:∀{kvs:List (List Key×V)} {ds:List (D×D)},kI P H kvs ds->∀p∈ds,isTup p.1=true
 | _,_,.nil,_,h=>by cases h
 | _,_,.cons r t,p,h=>by
  rcases List.mem_cons.mp h with rfl|h
  ·rfl
  ·exact GP t p h
theorem aCz {x y:V} {ds:List (D×D)} {k:D} (I:Inv X pins σ H s) (rd:Rep All H x (.dct ds)) (rk:Rep All H y k) (hk:FP ds k=true) :
  ∃H1 a o,x=.ref a/\Inv X pins σ H1 s/\(∀s',Inv X pins σ H1 s'->Inv X pins σ H s')/\T9 H1 a y o/\((o=none/\cY ds k=none)\/∃v d,o=some v/\cY ds k=some d/\Rep All H v d):=by
 unfold FP at hk;rw [Bool.and_eq_true] at hk;obtain ⟨h1,h2⟩:=hk;cases rd with
 | @dK a kvs ds e _ r n=>
  rcases iH h1 rk with ⟨q,rfl,rfl⟩|⟨b,ks,rfl,eb,rfl⟩
  ·refine ⟨H,a,_,rfl,I,fun _ h=>h,.k e,?_⟩;rcases aAe (k:=q) r with ⟨v,d,g1,g2,g3⟩|⟨g1,g2⟩
   ·exact .inr ⟨v,d,g1,g2,g3⟩
   ·exact .inl ⟨g1,g2⟩
  ·cases r with
   | nil=>
    have e2:=vJ (o':=.dT []) e;refine ⟨upd H a (.dT []),a,none,rfl,jF I e,fun s' I'=>?_,.t (k:=ks) aJ (by rw [aX (UT eb e (by intro z;cases z))];exact eb),.inl ⟨rfl,rfl⟩⟩;have:=mL I' aJ;rwa [e2] at this
   | cons r t=>
    rw [List.all_cons,fX] at h2;simp [isTup] at h2
 | @dT a kvs ds e _ r n=>
  rcases iH h1 rk with ⟨q,rfl,rfl⟩|⟨b,ks,rfl,eb,rfl⟩
  ·cases r with
   | nil=>
    have e2:=vJ (o':=.dK []) e;refine ⟨upd H a (.dK []),a,none,rfl,mL I e,fun s' I'=>?_,.k (k:=q) aJ,.inl ⟨rfl,rfl⟩⟩;have:=jF I' aJ;rwa [e2] at this
   | cons r t=>
    rw [List.all_cons,fX] at h2;simp [isTup] at h2
  ·refine ⟨H,a,_,rfl,I,fun _ h=>h,.t e eb,?_⟩;rcases WF (k:=ks) r with ⟨v,d,g1,g2,g3⟩|⟨g1,g2⟩
   ·exact .inr ⟨v,d,g1,g2,g3⟩
   ·exact .inl ⟨g1,g2⟩
theorem WK {x:V} {ds:List (D×D)} {k d:D} (rd:Rep All H x (.dct ds)) (hk:keyOk k=true) (h:cY ds k=some d):FP ds k=true:=by
 have one:∀{ds:List (D×D)},cY ds k=some d->∃p∈ds,eqD p.1 k=true:=by
  intro ds;induction ds with
  | nil=>intro h;cases h
  | cons p ds ih=>
   intro h;obtain ⟨p1,p2⟩:=p;rw [cY] at h;by_cases hq:eqD p1 k=true
   ·exact ⟨_,List.mem_cons_self ..,hq⟩
   ·rw [if_neg hq] at h;obtain ⟨p,hp,e⟩:=ih h;exact ⟨p,List.mem_cons_of_mem _ hp,e⟩
 obtain ⟨p,hp,he⟩:=one h;unfold FP;rw [hk,Bool.true_and,List.all_eq_true];intro q hq;have same:isTup p.1=isTup k:=by
  obtain ⟨p1,p2⟩:=p;cases p1 <;> cases k <;> simp [eqD,keyOk,isTup] at he hk ⊢
 cases rd with
 | dK e _ r n=>rw [GK r q hq,<-same,GK r p hp];rfl
 | dT e _ r n=>rw [GP r q hq,<-same,GP r p hp];rfl
end
section
variable {X:Cx} {a b c e:Expr} {pos:Pos} {fa fb fc fe:FE} {ra rb rc re:Bool} {ga gb gc:FT}
noncomputable def UL (H:Hp) (u:Value):D:=by
 classical
 exact if h:∃d,d.b7 aY=true/\∃v,RelV v u/\Rep All H v d then Classical.choose h else .non
theorem QC {H:Hp} {u:Value} {v:V} {d:D} (hq:d.b7 aY=true) (rv:RelV v u) (r:Rep All H v d):UL H u=d:=by
 unfold UL;have h:∃d,d.b7 aY=true/\∃v,RelV v u/\Rep All H v d:=⟨d,hq,v,rv,r⟩
 rw [dif_pos h];obtain ⟨h2,v',rv',r'⟩:=Classical.choose_spec h;have:=rv'.inj rv;subst this;exact Rep.inj aY h2 hq r' r
theorem BZ {H:Hp} {a:D}:∀{xs:List V} {ds:List D} {its:List Value},D.gW aY ds=true->bN All H xs ds->Vals xs its->(its.any fun u=>eqD (UL H u) a)=ds.any fun y=>eqD y a
 | _,_,_,_,.nil,.nil=>rfl
 | _,_,_,h,.cons r t,.cons v vt=>by
  rw [D.gW,Bool.and_eq_true] at h;rw [List.any_cons,List.any_cons,QC h.1 v r,BZ h.2 t vt]
theorem QD {pins:List (Addr×Obj)} {σ:L2.St} {H:Hp} {s:Shared} (I:Inv X pins σ H s) (hu:X.A.units+20<cLine) {a:D} {x:V} {v:Value} (ha:a.b7 aY=true) (rx:Rep All H x a) (rv:RelV x v)
  {xs:List V} {ds:List D} {its:List Value} (h:D.gW aY ds=true) (r:bN All H xs ds) (vr:Vals xs its) (u:Value) (hm:u∈its):EqAt X.A.in1 s u v (eqD (UL H u) a):=by
 obtain ⟨j,hj,e⟩:=List.getElem_of_mem hm;have hj':j<ds.length:=by rw [<-r.length,vr.length];exact hj
 obtain ⟨w,h1,h2⟩:=r.get (i:=j) (d:=ds[j]) (by simp [hj']);obtain ⟨u',h3,h4⟩:=vr.get h1;rw [List.getElem?_eq_getElem hj,e] at h3;cases h3;have hd:ds[j].b7 aY=true:=by
  have:=eF (j:=j) h hj';rwa [List.getD_eq_getElem?_getD,List.getElem?_eq_getElem hj'] at this
 rw [QC hd h4 h2];exact (xK I aY X.A.in1 (by show X.A.units+1+12<cLine;lia) hd ha h2 rx h4 rv).2.2
theorem vK (hu:X.A.units+20<cLine):OpR X (compareOp .NotIn) (r2 (bV .notin) true):=by
 intro pins s σ H x y v u Q I rx ry ⟨a,b,d,p,q,e,k⟩;cases b with
 | tup ys=>
  simp only [bV] at e;split at e
  ·rename_i hl;cases e;rw [Bool.and_eq_true] at hl;obtain ⟨l,xs,rfl,ee,rr⟩:=q.eV;cases ry;obtain ⟨its,vr,pl⟩:=fP I ee;refine notIn_tupleAt (fun u=>eqD (UL H u) a) pl (fun w hw=>QD I hu hl.1 p rx hl.2 rr vr w (by simpa using hw)) ⟨.bl _,H,I,rfl,?_⟩;rw [show its.toArray.any (fun u=>eqD (UL H u) a)=its.any (fun u=>eqD (UL H u) a) by simp,BZ hl.2 rr vr];exact k.bl
  ·cases e
 | lst ys=>
  simp only [bV] at e;split at e
  ·rename_i hl;cases e;rw [Bool.and_eq_true] at hl;obtain ⟨l,xs,rfl,ee,rr⟩:=q.iC (K:=X.K);cases ry;obtain ⟨its,vr,pl⟩:=lF I ee;refine notIn_listAt (fun u=>eqD (UL H u) a) pl (fun w hw=>QD I hu hl.1 p rx hl.2 rr vr w (by simpa using hw)) ⟨.bl _,H,I,rfl,?_⟩;rw [show its.toArray.any (fun u=>eqD (UL H u) a)=its.any (fun u=>eqD (UL H u) a) by simp,BZ hl.2 rr vr];exact k.bl
  ·cases e
 | dct kvs=>
  simp only [bV] at e;split at e
  ·rename_i hl;cases e;obtain ⟨H1,a1,o,rfl,I1,bk,g,hc⟩:=aCz I q p hl;cases ry;refine aA1 (by lia) I1 g rx fun s' I'=>⟨.bl _,H,bk s' I',rfl,?_⟩
   rcases hc with ⟨rfl,h2⟩|⟨w,dd,rfl,h2,_⟩
   ·rw [h2] at k;exact k.bl
   ·rw [h2] at k;exact k.bl
  ·cases e
 | _=>simp [bV] at e
theorem aD0 {α:Type} (xs:List α) (i:Int):L2.atI xs i=(ixD xs.length i).bind fun j=>xs[j]?:=rfl
theorem bN.atI {P:Addr->Prop} {H:Hp} {xs:List V} {ds:List D} {i:Int} {d:D} (r:bN P H xs ds) (h:((ixD ds.length i).bind fun j=>ds[j]?)=some d):∃v,L2.atI xs i=some v/\Rep P H v d:=by
 rw [aD0,r.length];cases hi:ixD ds.length i with
 | none=>rw [hi] at h;cases h
 | some j=>
  rw [hi] at h;obtain ⟨v,h1,h2⟩:=r.get h;exact ⟨v,h1,h2⟩
theorem xR {X:Cx} {value slice:Expr} {pins:List (Addr×Obj)} {s:Shared} {σ:L2.St} {H:Hp} {a:Addr} {y v':V} {u:Value} {Q:VK} (hu:X.A.units+20<cLine) (I:Inv X pins σ H s) (g:T9 H a y (some v')) (ry:RelV y u) {H':Hp}
  (hs:subscripted slice false (.ref a) u=operate [.ref a,u] (getItem (.ref a) u)) (bk:∀s',Inv X pins σ H s'->Inv X pins σ H' s') (q:Q v' H') :
  wpAny (model X.prog X.w) X.A (subscriptTail value slice (.ref a) u) (EP X pins σ Q) X.xe s:=by
 have hT:=zW I g;unfold subscriptTail;refine wpAny_bind ?_;rw [getitemInPython_of_ne hT.not_modules];refine wpAny_bind (wpAny_specialOf hT PySem.F.slot_dict_getitem.lookup ?_);have fin:wpAny (model X.prog X.w) X.A (subscripted slice false (.ref a) u) (fun r s₃=>wpAny (model X.prog X.w) X.A (letTemporaryGo value (.ref a) r >>= fun _=>pure r) (EP X pins σ Q) X.xe s₃) X.xe s:=by
  rw [hs];exact wpAny_operating (NP (by lia) I g ry fun w' s3 I3 rw'=>wpAny_bind (wpAny_letTemporaryGo (wpAny_pure ⟨v',H',bk s3 I3,rw',q⟩)))
 first
  | exact wpAny_pure (wpAny_bind fin)
  | exact wpAny_bind (wpAny_pure (wpAny_bind fin))
  | exact wpAny_bind fin
theorem GQ {k d:D}:∀{ds:List (D×D)},keyOk k=true->cY ds k=some d->∃p∈ds,isTup p.1=isTup k
 | [],_,h=>by cases h
 | (p1,p2)::ds,hk,h=>by
  rw [cY] at h;by_cases hq:eqD p1 k=true
  ·refine ⟨_,List.mem_cons_self ..,?_⟩;cases p1 <;> cases k <;> simp [eqD,keyOk,isTup] at hq hk ⊢
  ·rw [if_neg hq] at h;obtain ⟨p,hp,e⟩:=GQ hk h;exact ⟨p,List.mem_cons_of_mem _ hp,e⟩
theorem aEw {H:Hp} {x y:V} {ds:List (D×D)} {k d:D} (rd:Rep All H x (.fdc ds)) (rk:Rep All H y k) (hk:keyOk k=true) (h:cY ds k=some d):∃a v,x=.ref a/\T9 H a y (some v)/\Rep All H v d:=by
 obtain ⟨p,hp,et⟩:=GQ hk h;cases rd with
 | @fdK a o kvs ds e r n=>
  rcases iH hk rk with ⟨q,rfl,rfl⟩|⟨b,ks,rfl,eb,rfl⟩
  ·rcases aAe (k:=q) r with ⟨v,d',g1,g2,g3⟩|⟨g1,g2⟩
   ·rw [g2] at h;cases h;exact ⟨a,v,rfl,.inl ⟨kvs,q,.inr ⟨o,e⟩,rfl,g1.symm⟩,g3⟩
   ·rw [g2] at h;cases h
  ·rw [GK r p hp] at et;cases et
 | @fdT a o kvs ds e r n=>
  rcases iH hk rk with ⟨q,rfl,rfl⟩|⟨b,ks,rfl,eb,rfl⟩
  ·rw [GP r p hp,fX] at et;cases et
  ·rcases WF (k:=ks) r with ⟨v,d',g1,g2,g3⟩|⟨g1,g2⟩
   ·rw [g2] at h;cases h;exact ⟨a,v,rfl,.inr ⟨kvs,ks,b,.inr ⟨o,e⟩,rfl,eb,g1.symm⟩,g3⟩
   ·rw [g2] at h;cases h
theorem cN (hK:KFrag.K=X.K) (hu:X.A.units+20<cLine):IxR X (r2 getD false):=by
 intro value slice pins s σ H x y v u Q I rx ry ⟨a,b,d,p,q,e,k⟩ hs;cases a with
 | tup ys=>
  cases b <;> simp only [getD] at e <;> (try (cases e;done))
  have e':=Res.mJ e;obtain ⟨l,xs,rfl,ee,rr⟩:=p.eV;cases q;obtain ⟨w,h1,h2⟩:=rr.atI e';exact aCh value slice pins s σ H _ _ v u Q I rx ry ⟨l,xs,_,w,rfl,rfl,.of ee,h1,k.self h2 fun z=>by cases z⟩ hs
 | lst ys=>
  cases b <;> simp only [getD] at e <;> (try (cases e;done))
  have e':=Res.mJ e;obtain ⟨l,xs,rfl,ee,rr⟩:=p.iC (K:=X.K);cases q;obtain ⟨w,h1,h2⟩:=rr.atI e';exact M_ value slice pins s σ H _ _ v u Q I rx ry ⟨l,xs,_,w,rfl,rfl,ee,h1,k.self h2 fun z=>by cases z⟩ hs
 | scr ys=>
  cases b <;> simp only [getD] at e <;> (try (cases e;done))
  have e':=Res.mJ e;cases p with
  | frz ee rr=>
   cases q;obtain ⟨w,h1,h2⟩:=rr.atI e';exact M_ value slice pins s σ H _ _ v u Q I rx ry ⟨_,_,_,w,rfl,rfl,ee.sq hK,h1,k.self h2 fun z=>by cases z⟩ hs
 | str z=>
  cases b <;> simp only [getD] at e <;> (try (cases e;done))
  split at e
  ·rename_i hl;have e':=Res.mJ e;obtain ⟨cc,h1,h2⟩:=Option.map_eq_some_iff.mp e';subst h2;cases p;cases q;exact aCi value slice pins s σ H _ _ v u Q I rx ry ⟨z,_,cc,rfl,rfl,qG hl,h1,k.str⟩ hs
  ·cases e
 | dct kvs=>
  have e':keyOk b=true/\cY kvs b=some d:=by
   cases b <;> simp only [getD] at e <;> (split at e <;> first|(rename_i hl;exact ⟨hl,Res.mJ e⟩)|cases e)
  obtain ⟨H1,a1,o,rfl,I1,bk,g,hc⟩:=aCz I p q (WK p e'.1 e'.2);cases rx;rcases hc with ⟨rfl,h2⟩|⟨w,dd,rfl,h2,h3⟩
  ·rw [h2] at e';cases e'.2
  ·rw [h2] at e';cases e'.2;exact xR hu I1 g ry hs bk (k.self h3 fun z=>by cases z)
 | fdc kvs=>
  have e':keyOk b=true/\cY kvs b=some d:=by
   cases b <;> simp only [getD] at e <;> (split at e <;> first|(rename_i hl;exact ⟨hl,Res.mJ e⟩)|cases e)
  obtain ⟨a1,w,rfl,g,h3⟩:=aEw p q e'.1 e'.2;cases rx;exact xR hu I g ry hs (fun _ h=>h) (k.self h3 fun z=>by cases z)
 | _=>cases b <;> simp [getD] at e
noncomputable def gO (f:List D->Res (Option Int)):TO:=fun σ H Q=>∃ρ i,ER H σ ρ/\f ρ=.ok i/\∀H',cJ H H'->Q i H'
theorem PO.imp {X:Cx} {e:Option PySem.Expr} {t t':TO} (h:PO X e t) (i:∀σ H Q,t' σ H Q->t σ H Q):PO X e t':=fun pins s σ H Q I q=>h pins s σ H Q I (i σ H Q q)
theorem aAf:PO X none (gO aCo):=PO.imp Z7 fun σ H Q ⟨ρ,i,E,h,q⟩=>by cases h;exact q H (cJ.refl H)
theorem rJ (ha:PE X a (gE fa ra)):PO X (some a) (gO (tL fa)):=PO.imp (Z8 ha) fun σ H Q ⟨ρ,i,E,h,q⟩=>by
 obtain ⟨x,h1,h⟩:=bI h;obtain ⟨j,h2,h⟩:=bI h;cases h;have e:=aCw h2;subst e;exact ⟨ρ,_,E,h1,fun v H' s r _=>by cases r;exact ⟨j,rfl,q H' s⟩⟩
theorem Y7 (n d:Nat) (o:Option Int):HT.sIx n d o=UJ n d o:=by
 cases o with
 | none=>rfl
 | some v=>
  show (if v<0 then (v+(n:Int)).toNat else min v.toNat n)=(if v<0 then (max (v+(n:Int)) 0).toNat else (min v (n:Int)).toNat);split <;> lia
theorem bN.cut {P:Addr->Prop} {H:Hp} {xs:List V} {ds:List D} (r:bN P H xs ds) (lo hi:Option Int):bN P H (M8 xs lo hi) (cutD ds lo hi):=by
 unfold M8 cutD;rw [r.length];simp only [Y7];exact (r.drop _).take _
theorem oA {ds:List D}:D.a_ ds=true↔∀d∈ds,d.pure=true:=by
 induction ds with
 | nil=>simp [D.a_]
 | cons d ds ih=>rw [D.a_,Bool.and_eq_true,ih];simp
noncomputable def rSl:V->Option Int->Option Int->Hp->VK->Prop:=fun x lo hi H Q=>∃a d,Rep All H x a/\VR a lo hi=.ok d/\kR H d true Q
theorem aEx (hK:KFrag.K=X.K):SlR X rSl:=by
 intro pins s σ H x v vl vu lo hi sl Q I rx hs pl pu ⟨a,d,p,e,k⟩;cases a <;> simp only [VR] at e <;> (try (cases e;done))
 ·split at e
  ·cases e
  ·rename_i hw;cases e;obtain ⟨l,xs,rfl,ee,rr⟩:=p.eV;refine aCg pins s σ H _ v vl vu lo hi sl Q I rx hs pl pu ⟨l,xs,rfl,.of ee,?_,fun p hp=>?_⟩
   ·simp only [Y7,rr.length];simp only [Bool.not_eq_true',Bool.or_eq_true,not_or,Bool.not_eq_false',decide_eq_true_eq] at hw;exact hw.2
   ·have sp:cJ H (upd H p (.tup (M8 xs lo hi))):=cJ.upd hp;have hp2:D.a_ ‹List D›=true:=by
     simp only [Bool.or_eq_true,not_or,Bool.not_eq_true'] at hw;simpa using hw.1
    exact k _ _ sp (.tup aJ ((rr.cut lo hi).same sp)) fun z=>.tup aJ (((rr.bY hp2).cut lo hi).same sp)
 ·split at e
  ·rename_i hl;cases e;obtain ⟨l,xs,rfl,ee,rr⟩:=p.iC (K:=X.K);refine NB pins s σ H _ v vl vu lo hi sl Q I rx hs pl pu ⟨l,xs,rfl,ee,fun p hp=>?_⟩;have sp:cJ H (upd H p (.lst (M8 xs lo hi))):=cJ.upd hp;exact k _ _ sp (.lst aJ trivial ((rr.cut lo hi).same sp)) fun z=>.lst aJ hp (((rr.bY hl).cut lo hi).same sp)
  ·cases e
 ·split at e
  ·rename_i hl;cases e;cases p with
   | @frz l xs ds ee rr=>
    refine NB pins s σ H _ v vl vu lo hi sl Q I rx hs pl pu ⟨l,xs,rfl,ee.sq hK,fun p hp=>?_⟩;have sp:cJ H (upd H p (.lst (M8 xs lo hi))):=cJ.upd hp;exact k _ _ sp (.lst aJ trivial ((rr.cut lo hi).same sp)) fun z=>.lst aJ hp (((rr.bY hl).cut lo hi).same sp)
  ·cases e
theorem aAg {lo hi:Option Expr} {p2:Pos} {fl fh:List D->Res (Option Int)} (hK:KFrag.K=X.K) (he:PE X e (gE fe re)) (hl:PO X lo (gO fl)) (hh:PO X hi (gO fh)):PE X (.Subscript e (.Slice lo hi none p2) pos) (gE (VV fe fl fh) true):=
 PE.imp (U8 (aEx hK) he hl hh) fun σ H Q ⟨ρ,d,E,h,q⟩=>by
  obtain ⟨x,h1,h⟩:=bI h;obtain ⟨l,h2,h⟩:=bI h;obtain ⟨u,h3,h⟩:=bI h;exact ⟨ρ,x,E,h1,fun v H1 s1 r1 _=>⟨ρ,l,E.same s1,h2,fun H2 s2=>⟨ρ,u,E.same (s1.trans s2),h3,fun H3 s3=>⟨x,d,r1.same (s2.trans s3),h,q.imp ((s1.trans s2).trans s3) id⟩⟩⟩⟩
end
end Mi
end
section
namespace PySem.Mm
open PySem
noncomputable def wdL:Bool->String
 | false => "min.loop"
 | true => "max.loop"
noncomputable def wdO:Bool->CmpOp
 | false=>.Lt
 | true=>.Gt
section
variable {prog:Program} {w:World} {A:Around} {R:Result->Shared->Prop} {I S:Addr} {fp wr:List Addr} {n:Nat} {P:Nat->Value->Prop} {St:Nat->Heap->Prop} {bt:Nat->Nat->Bool} {Gd:Shared->Prop} {op:CmpOp}
structure aD1 (prog:Program) (w:World) (A:Around) (op:CmpOp) (P:Nat->Value->Prop) (bt:Nat->Nat->Bool) (wr:List Addr) (top:Nat) (Gd:Shared->Prop):Prop where
 keep:∀s h' tk,Gd s->(∀b o,b∉wr->b<top->s.heap.get? b=some o->h'.get? b=some o)->Gd {s with heap:=h',toks:=tk}
 says:∀i j vi vj s Q E,Gd s->P i vi->P j vj->Q (.bool (bt i j)) s->wpAny (model prog w) A (richCompare op vi vj) Q E s
noncomputable def aFn (P:Nat->Value->Prop) (bt:Nat->Nat->Bool) (n:Nat):Nat->Array Value->Prop
 | 0,a=>a=#[]/\0<n
 | j+1,a=>∃v,a=#[v,v]/\P (argBest bt j) v
theorem touched (J:aD1 prog w A op P bt wr S Gd) {s:Shared} {f:Array Value->Array Value} (g:Gd s):Gd {s with heap:=s.heap.update S (Obj.mapSeq f)}:=
 J.keep s _ s.toks g fun b o _ hb e=>(Heap.get?_update_other _ _ (Nat.ne_of_gt hb)).trans e
theorem turn (m:Bool) (W:Walks prog w A.in1 I fp wr n P St) (hS:S∉fp) (J:aD1 prog w A.in1 (wdO m) P bt wr S Gd):∀(k j:Nat) (s:Shared) (a:Array Value) (c:Nat),j+k=n->St j s.heap->Gd s->aFn P bt n j a->
  s.heap.get? S=some {cls:=.type "list",dict:=none,data:=.seq a c,slots:=#[]}->
  (∀v h' tk,P (argBest bt (n-1)) v->(∀b o,b∉wr->b≠S->s.heap.get? b=some o->h'.get? b=some o)->R (.ok (.ret v)) {s with heap:=h',toks:=tk})->
  codeAny (model prog w) A (.builtin (wdL m) ⟨[.ref I,.none,.ref S],[]⟩) R s:=by
 have off:S∉wr:=fun h=>hS (W.sub _ h)
 have still:∀{j:Nat} {h:Heap} {f:Array Value->Array Value},St j h->St j (h.update S (Obj.mapSeq f)):=fun st=>
  W.frame _ _ _ st fun b hb o e=>(Heap.get?_update_other _ _ fun z:S=b=>hS (z▸hb)).trans e
 intro k;induction k with
 | zero=>
  intro j s a c hj st g hb hs fin;have hjn:j=n:=hj;subst hjn;cases j with
  | zero=>exact absurd hb.2 (Nat.lt_irrefl 0)
  | succ j=>
   obtain ⟨v,rfl,hv⟩:=hb;have last:∀(h':Heap) (tk:Nat),(∀b o,b∉wr->s.heap.get? b=some o->h'.get? b=some o)->R (.ok (.ret v)) {s with heap:=h'.update S (Obj.mapSeq fun _=>#[]),toks:=tk}:=fun h' tk kp=>
    fin v _ tk hv fun b o h1 h2 e=>(Heap.get?_update_other _ _ (Ne.symm h2)).trans (kp b o h1 e)
   cases m
   ·show codeAny (model prog w) A (.builtin "min.loop" ⟨[.ref I,.none,.ref S],[]⟩) R s;refine codeAny_builtin F.entry_min_loop ?_;rw [Around.under_plainId F.plain_min_loop];refine wpAny_bind (m:=seqItems? (.ref S)) (wpAny_seqItems hs rfl ?_);refine wpAny_bind (wpAny_tryCatch (m:=pyNext (.ref I)) (W.done s _ _ st fun h' tk kp=>?_));exact wpAny_bind (m:=updateSeq S _) (wpAny_updateSeq (kp S _ off hs) rfl (wpAny_bind (wpAny_letGo (wpAny_pure (last h' tk kp)))))
   ·show codeAny (model prog w) A (.builtin "max.loop" ⟨[.ref I,.none,.ref S],[]⟩) R s;refine codeAny_builtin F.entry_max_loop ?_;rw [Around.under_plainId F.plain_max_loop];refine wpAny_bind (m:=seqItems? (.ref S)) (wpAny_seqItems hs rfl ?_);refine wpAny_bind (wpAny_tryCatch (m:=pyNext (.ref I)) (W.done s _ _ st fun h' tk kp=>?_));exact wpAny_bind (m:=updateSeq S _) (wpAny_updateSeq (kp S _ off hs) rfl (wpAny_bind (wpAny_letGo (wpAny_pure (last h' tk kp)))))
 | succ k ih=>
  intro j s a c hj st g hb hs fin;have hjn:j<n:=by lia
  /- what is left to do behind the list's change,or without one -/
  have on:∀(v:Value) (h':Heap) (tk:Nat),P j v->St (j+1) h'->(∀b o,b∉wr->s.heap.get? b=some o->h'.get? b=some o)->(∀(a':Array Value) (c':Nat) (h2:Heap),aFn P bt n (j+1) a'->h2.get? S=some {cls:=.type "list",dict:=none,data:=.seq a' c',slots:=#[]}->(h2=h'\/∃f:Array Value->Array Value,h2=h'.update S (Obj.mapSeq f))->
    codeAny (model prog w) A (.builtin (wdL m) ⟨[.ref I,.none,.ref S],[]⟩) R {s with heap:=h2,toks:=tk}):=by
   intro v h' tk _ st' kp a' c' h2 hb' hs' hh;have g':Gd {s with heap:=h',toks:=tk}:=J.keep s h' tk g fun b o h1 _ e=>kp b o h1 e
   rcases hh with rfl|⟨f,rfl⟩
   ·exact ih (j+1) _ a' c' (by lia) st' g' hb' hs' fun u h3 t3 hu k3=>fin u h3 t3 hu fun b o h1 h2 e=>k3 b o h1 h2 (kp b o h1 e)
   ·exact ih (j+1) _ a' c' (by lia) (still st') (touched J g') hb' hs' fun u h3 t3 hu k3=>fin u h3 t3 hu fun b o h1 h2 e=>k3 b o h1 h2 ((Heap.get?_update_other _ _ (Ne.symm h2)).trans (kp b o h1 e))
  have nmn:(toString "min" ++ toString ".loop" : String) = "min.loop":=by decide
  have nmx:(toString "max" ++ toString ".loop" : String) = "max.loop":=by decide
  cases j with
  | zero=>
   obtain ⟨rfl,_⟩:=hb;cases m
   ·show codeAny (model prog w) A (.builtin "min.loop" ⟨[.ref I,.none,.ref S],[]⟩) R s;refine codeAny_builtin F.entry_min_loop ?_;rw [Around.under_plainId F.plain_min_loop];refine wpAny_bind (m:=seqItems? (.ref S)) (wpAny_seqItems hs rfl ?_);refine wpAny_bind (wpAny_tryCatch (m:=pyNext (.ref I)) (W.item 0 s _ _ hjn st fun v h' tk pv st' kp=>?_));have hs':=kp S _ off hs;refine wpAny_bind (m:=updateSeq S _) (wpAny_updateSeq hs' rfl ?_);rw [nmn];exact wpAny_pure ⟨plainId_quiet F.plain_min_loop _,on v h' tk pv st' kp #[v,v] _ _ ⟨v,rfl,pv⟩ (Heap.get?_update_self _ hs' rfl) (.inr ⟨_,rfl⟩)⟩
   ·show codeAny (model prog w) A (.builtin "max.loop" ⟨[.ref I,.none,.ref S],[]⟩) R s;refine codeAny_builtin F.entry_max_loop ?_;rw [Around.under_plainId F.plain_max_loop];refine wpAny_bind (m:=seqItems? (.ref S)) (wpAny_seqItems hs rfl ?_);refine wpAny_bind (wpAny_tryCatch (m:=pyNext (.ref I)) (W.item 0 s _ _ hjn st fun v h' tk pv st' kp=>?_));have hs':=kp S _ off hs;refine wpAny_bind (m:=updateSeq S _) (wpAny_updateSeq hs' rfl ?_);rw [nmx];exact wpAny_pure ⟨plainId_quiet F.plain_max_loop _,on v h' tk pv st' kp #[v,v] _ _ ⟨v,rfl,pv⟩ (Heap.get?_update_self _ hs' rfl) (.inr ⟨_,rfl⟩)⟩
  | succ j=>
   obtain ⟨u,rfl,hu⟩:=hb;cases m
   ·show codeAny (model prog w) A (.builtin "min.loop" ⟨[.ref I,.none,.ref S],[]⟩) R s;refine codeAny_builtin F.entry_min_loop ?_;rw [Around.under_plainId F.plain_min_loop];refine wpAny_bind (m:=seqItems? (.ref S)) (wpAny_seqItems hs rfl ?_);refine wpAny_bind (wpAny_tryCatch (m:=pyNext (.ref I)) (W.item (j+1) s _ _ hjn st fun v h' tk pv st' kp=>?_));have hs':=kp S _ off hs;refine wpAny_bind (wpAny_pure ?_);refine wpAny_bind (wpAny_tryCatch (wpAny_holding (wpAny_bind (m:=richCompare .Lt v u) (J.says (j+1) (argBest bt j) v u _ _ _ (J.keep s h' tk g fun b o h1 _ e=>kp b o h1 e) pv hu ?_))));refine wpAny_bind (wpAny_holding (wpAny_truthy_bool (wpAny_bind (wpAny_letGo (wpAny_pure ?_)))));cases hx:bt (j+1) (argBest bt j)
    ·rw [if_neg Bool.false_ne_true];refine wpAny_bind (wpAny_letGo ?_);rw [nmn];exact wpAny_pure ⟨plainId_quiet F.plain_min_loop _,on v h' tk pv st' kp _ _ _ ⟨u,rfl,by rw [argBest,hx];exact hu⟩ hs' (.inl rfl)⟩
    ·rw [if_pos rfl];refine wpAny_bind (m:=updateSeq S _) (wpAny_updateSeq hs' rfl (wpAny_bind (wpAny_letGo ?_)));rw [nmn];exact wpAny_pure ⟨plainId_quiet F.plain_min_loop _,on v h' tk pv st' kp #[v,v] _ _ ⟨v,rfl,by rw [argBest,hx];exact pv⟩ (Heap.get?_update_self _ hs' rfl) (.inr ⟨_,rfl⟩)⟩
   ·show codeAny (model prog w) A (.builtin "max.loop" ⟨[.ref I,.none,.ref S],[]⟩) R s;refine codeAny_builtin F.entry_max_loop ?_;rw [Around.under_plainId F.plain_max_loop];refine wpAny_bind (m:=seqItems? (.ref S)) (wpAny_seqItems hs rfl ?_);refine wpAny_bind (wpAny_tryCatch (m:=pyNext (.ref I)) (W.item (j+1) s _ _ hjn st fun v h' tk pv st' kp=>?_));have hs':=kp S _ off hs;refine wpAny_bind (wpAny_pure ?_);refine wpAny_bind (wpAny_tryCatch (wpAny_holding (wpAny_bind (m:=richCompare .Gt v u) (J.says (j+1) (argBest bt j) v u _ _ _ (J.keep s h' tk g fun b o h1 _ e=>kp b o h1 e) pv hu ?_))));refine wpAny_bind (wpAny_holding (wpAny_truthy_bool (wpAny_bind (wpAny_letGo (wpAny_pure ?_)))));cases hx:bt (j+1) (argBest bt j)
    ·rw [if_neg Bool.false_ne_true];refine wpAny_bind (wpAny_letGo ?_);rw [nmx];exact wpAny_pure ⟨plainId_quiet F.plain_max_loop _,on v h' tk pv st' kp _ _ _ ⟨u,rfl,by rw [argBest,hx];exact hu⟩ hs' (.inl rfl)⟩
    ·rw [if_pos rfl];refine wpAny_bind (m:=updateSeq S _) (wpAny_updateSeq hs' rfl (wpAny_bind (wpAny_letGo ?_)));rw [nmx];exact wpAny_pure ⟨plainId_quiet F.plain_max_loop _,on v h' tk pv st' kp #[v,v] _ _ ⟨v,rfl,by rw [argBest,hx];exact pv⟩ (Heap.get?_update_self _ hs' rfl) (.inr ⟨_,rfl⟩)⟩
end
section
variable {prog:Program} {w:World} {A:Around} {E:Value->Shared->Prop} {s:Shared} {Q:Value->Shared->Prop}
noncomputable abbrev Seen (prog:Program) (w:World) (A:Around) (op:CmpOp) (Q:Value->Shared->Prop) (it:Value) (t:Shared):Prop:=
 ∃(I:Addr) (fp wr:List Addr) (n:Nat) (P:Nat->Value->Prop) (St:Nat->Heap->Prop) (bt:Nat->Nat->Bool),it=.ref I/\Walks prog w A I fp wr n P St/\St 0 t.heap/\(∀b∈fp,b<t.heap.objs.size)/\0<n/\
  (∃Gd:Shared->Prop,Gd t/\(∀s h' tk,Gd s->(∀b o,b∉wr->b<t.heap.objs.size->s.heap.get? b=some o->h'.get? b=some o)->Gd {s with heap:=h',toks:=tk})/\
   ∀i j vi vj s Q E,Gd s->P i vi->P j vj->Q (.bool (bt i j)) s->wpAny (model prog w) A (richCompare op vi vj) Q E s)/\
  ∀v h' tk,P (argBest bt (n-1)) v->(∀b o,b∉wr->t.heap.get? b=some o->h'.get? b=some o)->Q v {t with heap:=h',toks:=tk}
theorem begun (m:Bool) {it:Value} {t:Shared} {R:Result->Shared->Prop} (hR:∀v s,Q v s->R (.ok (.ret v)) s) (h:Seen prog w A.in1 (wdO m) Q it t) :
  codeAny (model prog w) A (.builtin (wdL m) ⟨[it,.none,.ref t.heap.objs.size],[]⟩) R {t with heap:=t.heap.push {cls:=.type "list",data:=.seq #[]}}:=by
 obtain ⟨I,fp,wr,n,P,St,bt,rfl,W,st,hfp,hn,⟨Gd,g,gk,gs⟩,q⟩:=h;have up:∀b o,t.heap.get? b=some o->(t.heap.push {cls:=.type "list",data:=.seq #[]}).get? b=some o:=fun b o e=>Heap.get?_push_of_some _ e
 refine turn m W (fun z=>Nat.lt_irrefl _ (hfp _ z)) ⟨gk,gs⟩ n 0 _ #[] _ (Nat.zero_add n) (W.frame _ _ _ st fun b _ o e=>up b o e) (gk t _ t.toks g fun b o _ _ e=>up b o e) ⟨rfl,hn⟩ (Heap.get?_push_size _ rfl) fun v h' tk hv kp=>?_
 exact hR _ _ (q v h' tk hv fun b o h1 e=>kp b o h1 (Nat.ne_of_lt (Heap.lt_size e)) (up b o e))
theorem pP {x:Value} (h:wpAny (model prog w) A.in1 (pyIter x) (Seen prog w A.in1 .Lt Q) E s):wpAny (model prog w) A (call (.builtin "min") [x]) Q E s:=by
 have nmn:(toString "min" ++ toString ".loop" : String) = "min.loop":=by decide
 refine call_function_tree F.kind_min F.plain_min F.entry_min (F.args_min1 _) ?_;refine wpAny_bind (m:=Builtin.Builtins.bindParams "min" ["key", "default"] 0 ⟨[],[]⟩) (wpAny_of_eq (a:=[none,none]) rfl ?_);refine wpAny_bind (wpAny_pure (wpAny_bind (wpAny_mono h (fun it t ht=>wpAny_bind (wpAny_newObj_type ?_)) fun _ _ e=>e)));rw [nmn];exact wpAny_pure ⟨plainId_quiet F.plain_min_loop _,begun false (fun _ _ q=>q) ht⟩
theorem pQ {x:Value} (h:wpAny (model prog w) A.in1 (pyIter x) (Seen prog w A.in1 .Gt Q) E s):wpAny (model prog w) A (call (.builtin "max") [x]) Q E s:=by
 have nmx:(toString "max" ++ toString ".loop" : String) = "max.loop":=by decide
 refine call_function_tree F.kind_max F.plain_max F.entry_max (F.args_max1 _) ?_;refine wpAny_bind (m:=Builtin.Builtins.bindParams "max" ["key", "default"] 0 ⟨[],[]⟩) (wpAny_of_eq (a:=[none,none]) rfl ?_);refine wpAny_bind (wpAny_pure (wpAny_bind (wpAny_mono h (fun it t ht=>wpAny_bind (wpAny_newObj_type ?_)) fun _ _ e=>e)));rw [nmx];exact wpAny_pure ⟨plainId_quiet F.plain_max_loop _,begun true (fun _ _ q=>q) ht⟩
theorem B_ {a b:Value} (h:wpAny (model prog w) A.in1 (pyIter (.ref s.heap.objs.size)) (Seen prog w A.in1 .Lt Q) E {s with heap:=s.heap.push {cls:=.type "tuple",data:=.seq #[a,b]}}):wpAny (model prog w) A (call (.builtin "min") [a,b]) Q E s:=by
 have nmn:(toString "min" ++ toString ".loop" : String) = "min.loop":=by decide
 refine call_function_tree F.kind_min F.plain_min F.entry_min (F.args_min2 _ _) ?_;refine wpAny_bind (m:=Builtin.Builtins.bindParams "min" ["key", "default"] 0 ⟨[],[]⟩) (wpAny_of_eq (a:=[none,none]) rfl ?_);refine wpAny_bind (m:=newTuple [a,b]) (wpAny_newObj_type (wpAny_bind (wpAny_mono h (fun it t ht=>wpAny_bind (wpAny_newObj_type ?_)) fun _ _ e=>e)));rw [nmn];exact wpAny_pure ⟨plainId_quiet F.plain_min_loop _,begun false (fun _ _ q=>q) ht⟩
theorem CG {a b:Value} (h:wpAny (model prog w) A.in1 (pyIter (.ref s.heap.objs.size)) (Seen prog w A.in1 .Gt Q) E {s with heap:=s.heap.push {cls:=.type "tuple",data:=.seq #[a,b]}}):wpAny (model prog w) A (call (.builtin "max") [a,b]) Q E s:=by
 have nmx:(toString "max" ++ toString ".loop" : String) = "max.loop":=by decide
 refine call_function_tree F.kind_max F.plain_max F.entry_max (F.args_max2 _ _) ?_;refine wpAny_bind (m:=Builtin.Builtins.bindParams "max" ["key", "default"] 0 ⟨[],[]⟩) (wpAny_of_eq (a:=[none,none]) rfl ?_);refine wpAny_bind (m:=newTuple [a,b]) (wpAny_newObj_type (wpAny_bind (wpAny_mono h (fun it t ht=>wpAny_bind (wpAny_newObj_type ?_)) fun _ _ e=>e)));rw [nmx];exact wpAny_pure ⟨plainId_quiet F.plain_max_loop _,begun true (fun _ _ q=>q) ht⟩
end
end PySem.Mm
end
section
namespace Mi
open PySem L2 PySem.SeqAt PySem.Spec PyProof.Rows
variable [KFrag]
theorem xT (o:gY) (x:D) (xs:List D):∀k,k<=xs.length->(xs.take k).foldl (fun m y=>if (dG o y m).getD false then y else m) x=(x::xs).getD (argBest (btD o (x::xs)) k) .non
 | 0,_=>by simp [argBest]
 | k+1,h=>by
  have ih:=xT o x xs k (by lia);have hk:k<xs.length:=by lia
  rw [List.take_succ_eq_append_getElem hk,List.foldl_append,ih];have e:(x::xs).getD (k+1) .non=xs[k]:=by simp [hk]
  have hb:btD o (x::xs) (k+1) (argBest (btD o (x::xs)) k)=(dG o xs[k] ((x::xs).getD (argBest (btD o (x::xs)) k) .non)).getD false:=by unfold btD;rw [e]
  show (if (dG o xs[k] ((x::xs).getD (argBest (btD o (x::xs)) k) .non)).getD false then xs[k] else (x::xs).getD (argBest (btD o (x::xs)) k) .non)=(x::xs).getD (if btD o (x::xs) (k+1) (argBest (btD o (x::xs)) k) then k+1 else argBest (btD o (x::xs)) k) .non;rw [<-hb];cases btD o (x::xs) (k+1) (argBest (btD o (x::xs)) k) with
  | true=>rw [if_pos rfl,if_pos rfl,e]
  | false=>rw [if_neg (by simp),if_neg (by simp)]
section
variable {X:Cx} {pins:List (Addr×Obj)} {σ:L2.St} {H:Hp} {s:Shared}
noncomputable def Gds (s:Shared) (s':Shared):Prop:=∃h' tk,s'={s with heap:=h',toks:=tk}/\∀b o,s.heap.get? b=some o->h'.get? b=some o
theorem mO (I:Inv X pins σ H s) (hu:X.A.units+20<cLine) {o:gY} {xs:List V} {ds:List D} {its:List Value} {d:D} (r:bN All H xs ds) (vr:Vals xs its) (h:j_ o ds=.ok d) (i j:Nat) (vi vj:Value) (s':Shared) (Q:Value->Shared->Prop) (E:Value->Shared->Prop)
  (g:Gds s s') (hi:its.toArray[i]?=some vi) (hj:its.toArray[j]?=some vj) (q:Q (.bool (btD o ds i j)) s'):wpAny (model X.prog X.w) X.A.in1 (richCompare o.op vi vj) Q E s':=by
 obtain ⟨h',tk,rfl,hk⟩:=g;have I':Inv X pins σ H {s with heap:=h',toks:=tk}:=I.kept hk;have hi':its[i]?=some vi:=by simpa using hi
 have hj':its[j]?=some vj:=by simpa using hj
 have at_:∀{i:Nat} {v:Value},its[i]?=some v->∃d w,ds.getD i .non=d/\d∈ds/\RelV w v/\Rep All H w d:=by
  intro i v hv;have hlt:i<its.length:=(List.getElem?_eq_some_iff.mp hv).1;have hlt':i<ds.length:=by rw [<-r.length,vr.length];exact hlt
  obtain ⟨w,h1,h2⟩:=r.get (i:=i) (d:=ds[i]) (by simp [hlt']);obtain ⟨u,h3,h4⟩:=vr.get h1;rw [hv] at h3;cases h3;exact ⟨ds[i],w,by simp [hlt'],List.getElem_mem _,h4,h2⟩
 obtain ⟨d1,w1,e1,m1,v1,r1⟩:=at_ hi';obtain ⟨d2,w2,e2,m2,v2,r2⟩:=at_ hj';cases ds with
 | nil=>cases m1
 | cons x xs'=>
  simp only [j_] at h;split at h
  ·rename_i hall;have h1:=List.all_eq_true.mp hall d1 m1;have h2:=List.all_eq_true.mp hall d2 m2;rw [Bool.and_eq_true] at h1 h2;obtain ⟨k,hk⟩:=Option.isSome_iff_exists.mp (List.all_eq_true.mp h1.2 d2 m2);have:btD o (x::xs') i j=k:=by unfold btD;rw [e1,e2,hk];rfl
   rw [this] at q;exact BV I' o aY X.A.in1 (by show X.A.units+1+12<cLine;lia) h1.1 h2.1 r1 r2 v1 v2 hk X.prog X.w E Q q
  ·cases h
theorem o9 {o:gY} {xs:List V} {ds:List D} {its:List Value} {d:D} (r:bN All H xs ds) (vr:Vals xs its) (h:j_ o ds=.ok d) {v:Value} (hv:its.toArray[argBest (btD o ds) (its.length-1)]?=some v):∃w,RelV w v/\Rep All H w d:=by
 have hv':its[argBest (btD o ds) (its.length-1)]?=some v:=by simpa using hv
 cases ds with
 | nil=>cases h
 | cons x xs'=>
  simp only [j_] at h;split at h
  ·cases h;have hl:its.length-1=xs'.length:=by rw [<-vr.length,r.length];simp
   rw [hl] at hv';have fb:=xT o x xs' xs'.length (Nat.le_refl _);rw [List.take_length] at fb;have hlt:argBest (btD o (x::xs')) xs'.length<its.length:=(List.getElem?_eq_some_iff.mp hv').1;have hlt':argBest (btD o (x::xs')) xs'.length<(x::xs').length:=by rw [<-r.length,vr.length];exact hlt
   obtain ⟨w,h1,h2⟩:=r.get (i:=argBest (btD o (x::xs')) xs'.length) (d:=(x::xs')[argBest (btD o (x::xs')) xs'.length]) (by simp [hlt']);obtain ⟨u,h3,h4⟩:=vr.get h1;rw [hv'] at h3;cases h3;refine ⟨w,h4,?_⟩;rw [fb,List.getD_eq_getElem?_getD,List.getElem?_eq_getElem hlt'];exact h2
  ·cases h
theorem Gds.grow {s':Shared} {h1:Heap} {tk1:Nat} (g:Gds s s') {wq:List Addr} {n:Nat} (hw:∀b∈wq,s.heap.objs.size<=b) (hn:s.heap.objs.size<=n)
  (kk:∀b o,b∉wq->b<n->s'.heap.get? b=some o->h1.get? b=some o):Gds s {s' with heap:=h1,toks:=tk1}:=by
 obtain ⟨h',tk,rfl,hk⟩:=g;refine ⟨h1,tk1,rfl,fun b o e=>kk b o (fun hb=>?_) (Nat.lt_of_lt_of_le (Heap.lt_size e) hn) (hk b o e)⟩;exact absurd (Nat.lt_of_lt_of_le (Heap.lt_size e) (hw b hb)) (Nat.lt_irrefl _)
end
section
variable {X:Cx}
theorem qH {o:gY} {ds:List D} {d:D} (h:j_ o ds=.ok d):0<ds.length:=by
 cases ds with
 | nil=>cases h
 | cons _ _=>simp
theorem J8 (hu:X.A.units+20<cLine) (hc:X.calm=true) {pins:List (Addr×Obj)} {σ:L2.St} {H:Hp} {s:Shared} {l:Addr} {xs:List V} {ds:List D} {d:D} {Q:VK} (I:Inv X pins σ H s) (hl:SqL X.K H l xs) (r:bN All H xs ds) (h:j_ .lt ds=.ok d) (q:kR H d false Q) :
  wpAny (model X.prog X.w) X.A (call (.builtin "min") [.ref l]) (EP X pins σ Q) X.xe s:=by
 obtain ⟨its,vr,pl⟩:=lF I hl;have hlt:l<s.heap.objs.size:=by obtain ⟨_,e,_⟩:=pl;exact Heap.lt_size e
 refine Mm.pP (wpAny_pyIter_list pl ?_);refine ⟨_,_,_,_,_,_,btD .lt ds,rfl,Walks.list (A:=X.A.in1) (I.ok.hd hc) _ l (Nat.ne_of_lt hlt) its.toArray,⟨⟨_,Heap.get?_push_size _ rfl,rfl,rfl⟩,pl.push _⟩,fun b hb=>?_,by rw [List.size_toArray,<-vr.length,r.length];exact qH h,⟨Gds s,⟨_,s.toks,rfl,fun b o e=>Heap.get?_push_of_some _ e⟩,fun s' h' tk g kk=>g.grow (wq:=[s.heap.objs.size]) (n:=s.heap.objs.size+1) (fun b hb=>?_) (Nat.le_succ _) fun b o h1 h2 e=>kk b o h1 (by show b<(s.heap.push _).objs.size;rw [Heap.size_push];exact h2) e,fun i j vi vj s' Q E g h1 h2 q=>mO I hu r vr h i j vi vj s' Q E g h1 h2 q⟩,fun v h' tk hP hk=>?_⟩
 ·show b<(s.heap.push _).objs.size;rw [Heap.size_push];rcases List.mem_cons.mp hb with rfl|hb
  ·exact Nat.lt_succ_self _
  ·rcases List.mem_cons.mp hb with rfl|hb
   ·exact Nat.lt_succ_of_lt hlt
   ·cases hb
 ·rcases List.mem_cons.mp hb with rfl|hb
  ·exact Nat.le_refl _
  ·cases hb
 ·obtain ⟨w,v1,r1⟩:=o9 r vr h (by simpa using hP);refine ⟨w,H,I.kept fun b o e=>hk b o (fun hb=>?_) (Heap.get?_push_of_some _ e),v1,q.self r1 fun z=>by cases z⟩;rcases List.mem_cons.mp hb with rfl|hb
  ·exact absurd (Heap.lt_size e) (Nat.lt_irrefl _)
  ·cases hb
theorem J9 (hu:X.A.units+20<cLine) (hc:X.calm=true) {pins:List (Addr×Obj)} {σ:L2.St} {H:Hp} {s:Shared} {l:Addr} {xs:List V} {ds:List D} {d:D} {Q:VK} (I:Inv X pins σ H s) (hl:H l=some (.tup xs)) (r:bN All H xs ds) (h:j_ .lt ds=.ok d) (q:kR H d false Q) :
  wpAny (model X.prog X.w) X.A (call (.builtin "min") [.ref l]) (EP X pins σ Q) X.xe s:=by
 obtain ⟨its,vr,pl⟩:=fP I hl;have hlt:l<s.heap.objs.size:=by obtain ⟨_,e,_⟩:=pl;exact Heap.lt_size e
 refine Mm.pP (wpAny_pyIter_tuple pl ?_);refine ⟨_,_,_,_,_,_,btD .lt ds,rfl,Walks.tuple (A:=X.A.in1) (I.ok.hd hc) _ l (Nat.ne_of_lt hlt) its.toArray,⟨⟨_,Heap.get?_push_size _ rfl,rfl,rfl⟩,pl.push _⟩,fun b hb=>?_,by rw [List.size_toArray,<-vr.length,r.length];exact qH h,⟨Gds s,⟨_,s.toks,rfl,fun b o e=>Heap.get?_push_of_some _ e⟩,fun s' h' tk g kk=>g.grow (wq:=[s.heap.objs.size]) (n:=s.heap.objs.size+1) (fun b hb=>?_) (Nat.le_succ _) fun b o h1 h2 e=>kk b o h1 (by show b<(s.heap.push _).objs.size;rw [Heap.size_push];exact h2) e,fun i j vi vj s' Q E g h1 h2 q=>mO I hu r vr h i j vi vj s' Q E g h1 h2 q⟩,fun v h' tk hP hk=>?_⟩
 ·show b<(s.heap.push _).objs.size;rw [Heap.size_push];rcases List.mem_cons.mp hb with rfl|hb
  ·exact Nat.lt_succ_self _
  ·rcases List.mem_cons.mp hb with rfl|hb
   ·exact Nat.lt_succ_of_lt hlt
   ·cases hb
 ·rcases List.mem_cons.mp hb with rfl|hb
  ·exact Nat.le_refl _
  ·cases hb
 ·obtain ⟨w,v1,r1⟩:=o9 r vr h (by simpa using hP);refine ⟨w,H,I.kept fun b o e=>hk b o (fun hb=>?_) (Heap.get?_push_of_some _ e),v1,q.self r1 fun z=>by cases z⟩;rcases List.mem_cons.mp hb with rfl|hb
  ·exact absurd (Heap.lt_size e) (Nat.lt_irrefl _)
  ·cases hb
theorem J_ (hu:X.A.units+20<cLine) (hc:X.calm=true) {pins:List (Addr×Obj)} {σ:L2.St} {H:Hp} {s:Shared} {x y:V} {u w:Value} {a b d:D} {Q:VK} (I:Inv X pins σ H s) (rx:Rep All H x a) (ry:Rep All H y b) (ru:RelV x u) (rw':RelV y w) (h:j_ .lt [a,b]=.ok d) (q:kR H d false Q) :
  wpAny (model X.prog X.w) X.A (call (.builtin "min") [u,w]) (EP X pins σ Q) X.xe s:=by
 have r:bN All H [x,y] [a,b]:=.cons rx (.cons ry .nil);have vr:Vals [x,y] [u,w]:=.cons ru (.cons rw' .nil);have pl:(s.heap.push {cls:=.type "tuple",data:=.seq #[u,w]}).IsTuple s.heap.objs.size [u,w].toArray:=⟨_,Heap.get?_push_size _ rfl,rfl,0,rfl⟩
 have hsz:(s.heap.push {cls:=.type "tuple",data:=.seq #[u,w]}).objs.size=s.heap.objs.size+1:=Heap.size_push ..;refine Mm.B_ (wpAny_pyIter_tuple pl ?_);refine ⟨_,_,_,_,_,_,btD .lt [a,b],rfl,Walks.tuple (A:=X.A.in1) (I.ok.hd hc) _ s.heap.objs.size (by rw [hsz];exact Nat.ne_of_lt (Nat.lt_succ_self _)) [u,w].toArray,⟨⟨_,Heap.get?_push_size _ rfl,rfl,rfl⟩,pl.push _⟩,fun b hb=>?_,by simp,⟨Gds s,⟨_,s.toks,rfl,fun b o e=>Heap.get?_push_of_some _ (Heap.get?_push_of_some _ e)⟩,fun s' h' tk g kk=>g.grow (wq:=[s.heap.objs.size+1]) (n:=s.heap.objs.size+2) (fun b hb=>?_) (by lia) fun b o h1 h2 e=>kk b o (by rw [hsz];exact h1) (by show b<((s.heap.push _).push _).objs.size;rw [Heap.size_push,hsz];exact h2) e,fun i j vi vj s' Q E g h1 h2 q=>mO I hu r vr h i j vi vj s' Q E g h1 h2 q⟩,fun v h' tk hP hk=>?_⟩
 ·show b<((s.heap.push _).push _).objs.size;rw [Heap.size_push,hsz];rcases List.mem_cons.mp hb with rfl|hb
  ·rw [hsz];exact Nat.lt_succ_self _
  ·rcases List.mem_cons.mp hb with rfl|hb
   ·exact Nat.lt_succ_of_lt (Nat.lt_succ_self _)
   ·cases hb
 ·rcases List.mem_cons.mp hb with rfl|hb
  ·lia
  ·cases hb
 ·obtain ⟨w,v1,r1⟩:=o9 r vr h (by simpa using hP);refine ⟨w,H,I.kept fun b o e=>hk b o (fun hb=>?_) (Heap.get?_push_of_some _ (Heap.get?_push_of_some _ e)),v1,q.self r1 fun z=>by cases z⟩;rcases List.mem_cons.mp hb with hb|hb
  ·have:=Heap.lt_size e;rw [hb,hsz] at this;exact absurd this (Nat.not_lt.mpr (Nat.le_succ _))
  ·cases hb
theorem QF (hu:X.A.units+20<cLine) (hc:X.calm=true):iY X (.builtin "min") (rs (fO .lt) false):=by
 intro pins s σ H xs us Q I vr ⟨ds,d,r,e,k⟩;unfold fO at e;split at e
 ·cases r with
  | cons r t=>
   cases t;cases vr with
   | cons v vt=>
    cases vt;obtain ⟨l,ys,rfl,hl,rr⟩:=r.iC (K:=X.K);cases v;exact J8 hu hc I hl rr e k
 ·cases r with
  | cons r t=>
   cases t;cases vr with
   | cons v vt=>
    cases vt;obtain ⟨l,ys,rfl,hl,rr⟩:=r.eV;cases v;exact J9 hu hc I hl rr e k
 ·cases r with
  | cons r t=>
   cases t with
   | cons r' t=>
    cases t;cases vr with
    | cons v vt=>
     cases vt with
     | cons v' vt=>
      cases vt;exact J_ hu hc I r r' v v' e k
 ·cases e
theorem KC (hu:X.A.units+20<cLine) (hc:X.calm=true) {pins:List (Addr×Obj)} {σ:L2.St} {H:Hp} {s:Shared} {l:Addr} {xs:List V} {ds:List D} {d:D} {Q:VK} (I:Inv X pins σ H s) (hl:SqL X.K H l xs) (r:bN All H xs ds) (h:j_ .gt ds=.ok d) (q:kR H d false Q) :
  wpAny (model X.prog X.w) X.A (call (.builtin "max") [.ref l]) (EP X pins σ Q) X.xe s:=by
 obtain ⟨its,vr,pl⟩:=lF I hl;have hlt:l<s.heap.objs.size:=by obtain ⟨_,e,_⟩:=pl;exact Heap.lt_size e
 refine Mm.pQ (wpAny_pyIter_list pl ?_);refine ⟨_,_,_,_,_,_,btD .gt ds,rfl,Walks.list (A:=X.A.in1) (I.ok.hd hc) _ l (Nat.ne_of_lt hlt) its.toArray,⟨⟨_,Heap.get?_push_size _ rfl,rfl,rfl⟩,pl.push _⟩,fun b hb=>?_,by rw [List.size_toArray,<-vr.length,r.length];exact qH h,⟨Gds s,⟨_,s.toks,rfl,fun b o e=>Heap.get?_push_of_some _ e⟩,fun s' h' tk g kk=>g.grow (wq:=[s.heap.objs.size]) (n:=s.heap.objs.size+1) (fun b hb=>?_) (Nat.le_succ _) fun b o h1 h2 e=>kk b o h1 (by show b<(s.heap.push _).objs.size;rw [Heap.size_push];exact h2) e,fun i j vi vj s' Q E g h1 h2 q=>mO I hu r vr h i j vi vj s' Q E g h1 h2 q⟩,fun v h' tk hP hk=>?_⟩
 ·show b<(s.heap.push _).objs.size;rw [Heap.size_push];rcases List.mem_cons.mp hb with rfl|hb
  ·exact Nat.lt_succ_self _
  ·rcases List.mem_cons.mp hb with rfl|hb
   ·exact Nat.lt_succ_of_lt hlt
   ·cases hb
 ·rcases List.mem_cons.mp hb with rfl|hb
  ·exact Nat.le_refl _
  ·cases hb
 ·obtain ⟨w,v1,r1⟩:=o9 r vr h (by simpa using hP);refine ⟨w,H,I.kept fun b o e=>hk b o (fun hb=>?_) (Heap.get?_push_of_some _ e),v1,q.self r1 fun z=>by cases z⟩;rcases List.mem_cons.mp hb with rfl|hb
  ·exact absurd (Heap.lt_size e) (Nat.lt_irrefl _)
  ·cases hb
theorem KD (hu:X.A.units+20<cLine) (hc:X.calm=true) {pins:List (Addr×Obj)} {σ:L2.St} {H:Hp} {s:Shared} {l:Addr} {xs:List V} {ds:List D} {d:D} {Q:VK} (I:Inv X pins σ H s) (hl:H l=some (.tup xs)) (r:bN All H xs ds) (h:j_ .gt ds=.ok d) (q:kR H d false Q) :
  wpAny (model X.prog X.w) X.A (call (.builtin "max") [.ref l]) (EP X pins σ Q) X.xe s:=by
 obtain ⟨its,vr,pl⟩:=fP I hl;have hlt:l<s.heap.objs.size:=by obtain ⟨_,e,_⟩:=pl;exact Heap.lt_size e
 refine Mm.pQ (wpAny_pyIter_tuple pl ?_);refine ⟨_,_,_,_,_,_,btD .gt ds,rfl,Walks.tuple (A:=X.A.in1) (I.ok.hd hc) _ l (Nat.ne_of_lt hlt) its.toArray,⟨⟨_,Heap.get?_push_size _ rfl,rfl,rfl⟩,pl.push _⟩,fun b hb=>?_,by rw [List.size_toArray,<-vr.length,r.length];exact qH h,⟨Gds s,⟨_,s.toks,rfl,fun b o e=>Heap.get?_push_of_some _ e⟩,fun s' h' tk g kk=>g.grow (wq:=[s.heap.objs.size]) (n:=s.heap.objs.size+1) (fun b hb=>?_) (Nat.le_succ _) fun b o h1 h2 e=>kk b o h1 (by show b<(s.heap.push _).objs.size;rw [Heap.size_push];exact h2) e,fun i j vi vj s' Q E g h1 h2 q=>mO I hu r vr h i j vi vj s' Q E g h1 h2 q⟩,fun v h' tk hP hk=>?_⟩
 ·show b<(s.heap.push _).objs.size;rw [Heap.size_push];rcases List.mem_cons.mp hb with rfl|hb
  ·exact Nat.lt_succ_self _
  ·rcases List.mem_cons.mp hb with rfl|hb
   ·exact Nat.lt_succ_of_lt hlt
   ·cases hb
 ·rcases List.mem_cons.mp hb with rfl|hb
  ·exact Nat.le_refl _
  ·cases hb
 ·obtain ⟨w,v1,r1⟩:=o9 r vr h (by simpa using hP);refine ⟨w,H,I.kept fun b o e=>hk b o (fun hb=>?_) (Heap.get?_push_of_some _ e),v1,q.self r1 fun z=>by cases z⟩;rcases List.mem_cons.mp hb with rfl|hb
  ·exact absurd (Heap.lt_size e) (Nat.lt_irrefl _)
  ·cases hb
theorem KH (hu:X.A.units+20<cLine) (hc:X.calm=true) {pins:List (Addr×Obj)} {σ:L2.St} {H:Hp} {s:Shared} {x y:V} {u w:Value} {a b d:D} {Q:VK} (I:Inv X pins σ H s) (rx:Rep All H x a) (ry:Rep All H y b) (ru:RelV x u) (rw':RelV y w) (h:j_ .gt [a,b]=.ok d) (q:kR H d false Q) :
  wpAny (model X.prog X.w) X.A (call (.builtin "max") [u,w]) (EP X pins σ Q) X.xe s:=by
 have r:bN All H [x,y] [a,b]:=.cons rx (.cons ry .nil);have vr:Vals [x,y] [u,w]:=.cons ru (.cons rw' .nil);have pl:(s.heap.push {cls:=.type "tuple",data:=.seq #[u,w]}).IsTuple s.heap.objs.size [u,w].toArray:=⟨_,Heap.get?_push_size _ rfl,rfl,0,rfl⟩
 have hsz:(s.heap.push {cls:=.type "tuple",data:=.seq #[u,w]}).objs.size=s.heap.objs.size+1:=Heap.size_push ..;refine Mm.CG (wpAny_pyIter_tuple pl ?_);refine ⟨_,_,_,_,_,_,btD .gt [a,b],rfl,Walks.tuple (A:=X.A.in1) (I.ok.hd hc) _ s.heap.objs.size (by rw [hsz];exact Nat.ne_of_lt (Nat.lt_succ_self _)) [u,w].toArray,⟨⟨_,Heap.get?_push_size _ rfl,rfl,rfl⟩,pl.push _⟩,fun b hb=>?_,by simp,⟨Gds s,⟨_,s.toks,rfl,fun b o e=>Heap.get?_push_of_some _ (Heap.get?_push_of_some _ e)⟩,fun s' h' tk g kk=>g.grow (wq:=[s.heap.objs.size+1]) (n:=s.heap.objs.size+2) (fun b hb=>?_) (by lia) fun b o h1 h2 e=>kk b o (by rw [hsz];exact h1) (by show b<((s.heap.push _).push _).objs.size;rw [Heap.size_push,hsz];exact h2) e,fun i j vi vj s' Q E g h1 h2 q=>mO I hu r vr h i j vi vj s' Q E g h1 h2 q⟩,fun v h' tk hP hk=>?_⟩
 ·show b<((s.heap.push _).push _).objs.size;rw [Heap.size_push,hsz];rcases List.mem_cons.mp hb with rfl|hb
  ·rw [hsz];exact Nat.lt_succ_self _
  ·rcases List.mem_cons.mp hb with rfl|hb
   ·exact Nat.lt_succ_of_lt (Nat.lt_succ_self _)
   ·cases hb
 ·rcases List.mem_cons.mp hb with rfl|hb
  ·lia
  ·cases hb
 ·obtain ⟨w,v1,r1⟩:=o9 r vr h (by simpa using hP);refine ⟨w,H,I.kept fun b o e=>hk b o (fun hb=>?_) (Heap.get?_push_of_some _ (Heap.get?_push_of_some _ e)),v1,q.self r1 fun z=>by cases z⟩;rcases List.mem_cons.mp hb with hb|hb
  ·have:=Heap.lt_size e;rw [hb,hsz] at this;exact absurd this (Nat.not_lt.mpr (Nat.le_succ _))
  ·cases hb
theorem QG (hu:X.A.units+20<cLine) (hc:X.calm=true):iY X (.builtin "max") (rs (fO .gt) false):=by
 intro pins s σ H xs us Q I vr ⟨ds,d,r,e,k⟩;unfold fO at e;split at e
 ·cases r with
  | cons r t=>
   cases t;cases vr with
   | cons v vt=>
    cases vt;obtain ⟨l,ys,rfl,hl,rr⟩:=r.iC (K:=X.K);cases v;exact KC hu hc I hl rr e k
 ·cases r with
  | cons r t=>
   cases t;cases vr with
   | cons v vt=>
    cases vt;obtain ⟨l,ys,rfl,hl,rr⟩:=r.eV;cases v;exact KD hu hc I hl rr e k
 ·cases r with
  | cons r t=>
   cases t with
   | cons r' t=>
    cases t;cases vr with
    | cons v vt=>
     cases vt with
     | cons v' vt=>
      cases vt;exact KH hu hc I r r' v v' e k
 ·cases e
end
end Mi
end
section
namespace PySem.Mm
open PySem PyProof.Rows PySem.W
theorem xU {prog:Program} {w:World} {A:Around} {E:Value->Shared->Prop} {s:Shared} {Q:Value->Shared->Prop} {K:Type} [DecidableEq K] {knd:KeyKind prog w K} {d:Addr} {kvs:List (K×Value)} {ep n:Nat} (hh:A.handled=none) (lo:(d==sysModules)=false)
  (hm:s.heap.DictAt knd d kvs ep) (hn:kvs.length=n) (hl:n<=2 ^ 24)
  (q:∀h' tk acc c,(∀b o,s.heap.get? b=some o->h'.get? b=some o)->h'.get? s.heap.objs.size=some {cls:=.type "list",dict:=none,data:=.seq acc c,slots:=#[]}->
   ItemsOf (fun i v=>∃k x,kvs[i]?=some (k,x)/\knd.is k v=true) acc n->Q (.ref s.heap.objs.size) {s with heap:=h',toks:=tk}):wpAny (model prog w) A (call (.type "list") [.ref d]) Q E s:=by
 subst hn;exact kdl_call (kdl_dict lo) hh hm (kdl_size hl) q
end PySem.Mm
end
section
namespace Mi
open PySem L2 PySem.SeqAt PySem.Spec PyProof.Rows
variable [KFrag]
section
variable {X:Cx} {a b c e:Expr} {es:List Expr} {pos p:Pos} {fa fb fc fe:FE} {ra rb rc re:Bool} {fs:FA} {rr:Bool} {x:Str} {id T:String}
theorem iI {P:Addr->Prop} {H:Hp} {xs:List V} {us:List Value} {d:D} (r:bN P H xs [d]) (vr:Vals xs us):∃v u,xs=[v]/\us=[u]/\Rep P H v d/\RelV v u:=by
 cases r with
 | cons r t=>
  cases t;cases vr with
  | cons v vt=>
   cases vt;exact ⟨_,_,rfl,rfl,r,v⟩
theorem GR {f:List D->Res D} {fr:Bool} {σ:L2.St} {H:Hp} {Q:VK} (h:gE (aO f fs) fr σ H Q):tCB (rs f fr) (gA fs rr) σ H Q:=by
 obtain ⟨ρ,d,E,h,q⟩:=h;obtain ⟨ds,h1,h2⟩:=bI h;exact ⟨ρ,ds,E,h1,fun vs H1 s1 r1 _=>⟨ds,d,r1,h2,q.imp s1 id⟩⟩
theorem bA {f:List D->Res D} {fr:Bool} (hc:iY X (.builtin id) (rs f fr)) (hg:Gl X x) (hm:X.mg x=none) (hv:bootBuiltins x=some (.builtin id)) (ha:PA X (e::es) (gA fs rr)) (hn:x ≠ "__name__":=by decide) (hdb:(x==("__debug__" : Str))=false:=by decide)
  (he:starEach (e::es) X.env=(false,eval e X.env)::starEach es X.env:=by rfl) (hpl:(backTo pos (starEach es X.env)).any (·.1)=false:=by rfl):PE X (.Call (.Name x p) (e::es) [] pos) (gE (aO f fs) fr):=
 PE.imp (qC hc hg hm hv ha hn hdb he hpl) fun _ _ _=>GR
theorem iJ {f:List D->Res D} {fr:Bool} (hc:iY X (.type T) (rs f fr)) (hg:Gl X x) (hm:X.mg x=none) (hv:bootBuiltins x=some (.type T)) (ha:PA X (e::es) (gA fs rr)) (hn:x ≠ "__name__":=by decide) (hdb:(x==("__debug__" : Str))=false:=by decide)
  (he:starEach (e::es) X.env=(false,eval e X.env)::starEach es X.env:=by rfl) (hpl:(backTo pos (starEach es X.env)).any (·.1)=false:=by rfl):PE X (.Call (.Name x p) (e::es) [] pos) (gE (aO f fs) fr):=
 PE.imp (wR hc hg hm hv ha hn hdb he hpl) fun _ _ _=>GR
theorem dY (hK:KFrag.K=X.K):iY X (.builtin "len") (rs fM true):=by
 intro pins s σ H xs us Q I vr ⟨ds,d,r,e,k⟩;unfold fM at e;split at e
 ·cases e;obtain ⟨vv,uu,rfl,rfl,r,v⟩:=iI r vr;obtain ⟨l,ys,rfl,hl,rr⟩:=r.eV;cases v;exact kW pins s σ H [.ref l] [.ref l] Q I (.cons rfl .nil) ⟨l,ys,rfl,.inr (.of hl),by rw [rr.length];exact k.int⟩
 ·cases e;obtain ⟨vv,uu,rfl,rfl,r,v⟩:=iI r vr;obtain ⟨l,ys,rfl,hl,rr⟩:=r.iC (K:=X.K);cases v;exact kW pins s σ H [.ref l] [.ref l] Q I (.cons rfl .nil) ⟨l,ys,rfl,.inl hl,by rw [rr.length];exact k.int⟩
 ·cases e;obtain ⟨vv,uu,rfl,rfl,r,v⟩:=iI r vr;cases r with
  | @frz l xs ds ee rr=>
   cases v;exact kW pins s σ H [.ref l] [.ref l] Q I (.cons rfl .nil) ⟨l,xs,rfl,.inl (ee.sq hK),by rw [rr.length];exact k.int⟩
 ·split at e
  ·rename_i hl;cases e;obtain ⟨vv,uu,rfl,rfl,r,v⟩:=iI r vr;cases r;exact wV pins s σ H _ _ Q I (.cons v .nil) ⟨_,rfl,qG hl,k.int⟩
  ·cases e
 ·cases e
theorem m5.keys {P P':Addr->Prop} {H:Hp}:∀{kvs:List (Key×V)} {ds:List (D×D)},m5 P H kvs ds->bN P' H (kvs.map fun p=>kV p.1) (eE ds)
 | _,_,.nil=>.nil
 | _,_,.cons (k:=k) _ t=>.cons (by cases k <;> first|exact .int _|exact .str _) t.keys
theorem list_dict {pins:List (Addr×Obj)} {s:Shared} {σ:L2.St} {H:Hp} {l:Addr} {kvs:List (Key×V)} (hc:X.calm=true) (I:Inv X pins σ H s) (e:H l=some (.dK kvs)) {Q:Value->Shared->Prop}
  (q:∀p s',H p=none->Inv X pins σ (upd H p (.lst (kvs.map fun p=>kV p.1))) s'->(∀l0 o0,H l0=some o0->l0≠p)->Q (.ref p) s'):wpAny (model X.prog X.w) X.A (call (.type "list") [.ref l]) Q X.xe s:=by
 obtain ⟨z,hd,vs,rel,dd⟩:=JM I.hok e;obtain ⟨ep,da⟩:=dd.dictAt;have hlen:kvs.length=vs.length:=Paired.length rel;refine Mm.xU (I.ok.hd hc) hd da rfl (by rw [<-hlen];rw [sizeLine_eq] at z;lia) fun h' tk acc' c' kp e1 it=>?_
 obtain ⟨i1,i2⟩:=it;have hfr:H s.heap.objs.size=none:=I.hok.fresh (Nat.le_refl _);refine q _ _ hfr (I.laid (t':=tk) kp (Nat.le_refl _) ?_) fun l0 o0 h0=>bJ h0 hfr
 refine ⟨by rw [List.length_map];exact z,acc'.toList,c',?_,by simpa using e1⟩;have gen:∀(kvs:List (Key×V)) (vs:List (Key×Value)) (xs:List Value),KV kvs vs->xs.length=vs.length->(∀(j:Nat) (v:Value),xs[j]?=some v->∃k x,vs[j]?=some (k,x)/\(cU X.prog X.w).is k v=true)->Vals (kvs.map fun p=>kV p.1) xs:=by
  intro kvs vs xs rel;induction rel generalizing xs with
  | nil=>intro hl _;cases xs with|nil=>exact .nil|cons _ _=>simp at hl
  | @cons p q ps qs hpq t ih=>
   intro hl g;cases xs with
   | nil=>simp at hl
   | cons x xs=>
    refine .cons ?_ (ih xs (by simpa using hl) fun j v hv=>g (j+1) v (by simpa using hv));obtain ⟨k,x',h1,h2⟩:=g 0 x rfl;have h1':q=(k,x'):=by simpa using h1
    show RelV (kV p.1) x;rw [hpq.1,h1'];rcases cG h2 with ⟨i,t,rfl,rfl⟩|⟨i,t,rfl,rfl⟩
    ·exact ⟨t,rfl⟩
    ·exact ⟨t,rfl⟩
 exact gen kvs vs acc'.toList rel (by simpa using i1) fun j v hv=>i2 j v (by simpa using hv)
theorem aAh (hc:X.calm=true):iY X (.type "list") (rs V0 true):=by
 intro pins s σ H xs us Q I vr ⟨ds,d,r,e,k⟩;unfold V0 at e;split at e
 ·split at e
  ·rename_i hl;cases e;obtain ⟨vv,uu,rfl,rfl,r,v⟩:=iI r vr;obtain ⟨l,ys,rfl,hl',rr⟩:=r.eV;cases v;refine pM pins s σ H [.ref l] [.ref l] Q I (.cons rfl .nil) ⟨l,ys,rfl,.inr (.of hl'),fun p hp=>?_⟩;have sp:cJ H (upd H p (.lst ys)):=cJ.upd hp;exact k _ _ sp (.lst aJ trivial (rr.same sp)) fun _=>.lst aJ hp ((rr.bY hl).same sp)
  ·cases e
 ·split at e
  ·rename_i hl;cases e;obtain ⟨vv,uu,rfl,rfl,r,v⟩:=iI r vr;obtain ⟨l,ys,rfl,hl',rr⟩:=r.iC (K:=X.K);cases v;refine pM pins s σ H [.ref l] [.ref l] Q I (.cons rfl .nil) ⟨l,ys,rfl,.inl hl',fun p hp=>?_⟩;have sp:cJ H (upd H p (.lst ys)):=cJ.upd hp;exact k _ _ sp (.lst aJ trivial (rr.same sp)) fun _=>.lst aJ hp ((rr.bY hl).same sp)
  ·cases e
 ·split at e
  ·rename_i hl;cases e;obtain ⟨vv,uu,rfl,rfl,r,v⟩:=iI r vr;cases r with
   | @dK l kvs ds e _ r n=>
    cases v;refine list_dict hc I e fun p s' hp I' _=>⟨.ref p,_,I',rfl,?_⟩
    have sp:cJ H (upd H p (.lst (kvs.map fun p=>kV p.1))):=cJ.upd hp;exact k _ _ sp (.lst aJ trivial (r.keys.same sp)) fun _=>.lst aJ hp (r.keys.same sp)
   | @dT l kvs ds e _ r n=>
    cases v;cases r with
    | cons r t=>simp [isTup] at hl
    | nil=>
     have e2:=vJ (o':=.dK []) e;refine list_dict hc (mL I e) aJ fun p s' hp I' hne=>?_
     have hp':p≠l:=fun z=>by subst z;rw [aJ] at hp;cases hp
     have hpn:H p=none:=by rw [aX hp'] at hp;exact hp
     have hcm:upd (upd (upd H l (.dK [])) p (.lst [])) l (.dT [])=upd H p (.lst []):=by
      funext b
      by_cases hb:b=l
      ·subst hb;rw [aJ,aX (Ne.symm hp'),e]
      ·rw [aX hb];by_cases hb2:b=p
       ·subst hb2;rw [aJ,aJ]
       ·rw [aX hb2,aX hb2,aX hb]
     have I2:=jF I' (a:=l) (by rw [aX (Ne.symm hp'),aJ]);have I3:Inv X pins σ (upd H p (.lst [])) s':=by
      have:Inv X pins σ (upd (upd (upd H l (.dK [])) p (.lst [])) l (.dT [])) s':=I2;rwa [hcm] at this
     have sp:cJ H (upd H p (.lst [])):=cJ.upd hpn;exact ⟨.ref p,_,I3,rfl,k _ _ sp (.lst aJ trivial .nil) fun _=>.lst aJ hpn .nil⟩
  ·cases e
 ·cases e
theorem oE:iY X (.type "tuple") (rs rB false):=by
 intro pins s σ H xs us Q I vr ⟨ds,d,r,e,k⟩;unfold rB at e;split at e
 ·cases e;obtain ⟨vv,uu,rfl,rfl,r,v⟩:=iI r vr;obtain ⟨l,ys,rfl,hl',rr⟩:=r.eV;cases v;exact nU pins s σ H [.ref l] [.ref l] Q I (.cons rfl .nil) ⟨l,ys,rfl,.inr ⟨.of hl',k.self (.tup hl' rr) fun z=>by cases z⟩⟩
 ·cases e;obtain ⟨vv,uu,rfl,rfl,r,v⟩:=iI r vr;obtain ⟨l,ys,rfl,hl',rr⟩:=r.iC (K:=X.K);cases v;refine nU pins s σ H [.ref l] [.ref l] Q I (.cons rfl .nil) ⟨l,ys,rfl,.inl ⟨hl',fun p hp=>?_⟩⟩;have sp:cJ H (upd H p (.tup ys)):=cJ.upd hp;exact k _ _ sp (.tup aJ (rr.same sp)) fun z=>by cases z
 ·cases e
mutual
theorem uB:∀(d:D),d.plain=true->d.pure=true
 | .tup xs,h=>by rw [D.plain] at h;rw [D.pure];exact pU xs h
 | .int _,_=>rfl
 | .str _,_=>rfl
 | .uDf,h=>by simp [D.plain] at h
 | .non,_=>rfl
 | .bl _,_=>rfl
 | .lst _,h=>by simp [D.plain] at h
 | .dct _,h=>by simp [D.plain] at h
 | .scr _,h=>by simp [D.plain] at h
 | .fdc _,h=>by simp [D.plain] at h
theorem pU:∀(ds:List D),D.h_ ds=true->D.a_ ds=true
 | [],_=>rfl
 | x::xs,h=>by rw [D.h_,Bool.and_eq_true] at h;rw [D.a_,Bool.and_eq_true];exact ⟨uB x h.1,pU xs h.2⟩
end
theorem rK {ds:List D} (h:bF ds=true):D.a_ (jC ds)=true:=oA.mpr fun d hd=>uB d (d9 h ((dW ds).mem_iff.mp hd)).1
theorem oF (hu:X.A.units+20<cLine):iY X (.builtin "sorted") (rs lC true):=by
 intro pins s σ H xs us Q I vr ⟨ds,d,r,e,k⟩;unfold lC at e;split at e
 ·split at e
  ·rename_i hl;cases e;obtain ⟨vv,uu,rfl,rfl,r,v⟩:=iI r vr;obtain ⟨l,ys,rfl,hl',rr⟩:=r.iC (K:=X.K);cases v;refine J5 I hu hl' rr hl fun p xs' hp r'=>?_
   have sp:cJ H (upd H p (.lst xs')):=cJ.upd hp;exact k _ _ sp (.lst aJ trivial (r'.same sp)) fun _=>.lst aJ hp ((r'.bY (rK hl)).same sp)
  ·cases e
 ·cases e
theorem isi {pins:List (Addr×Obj)} {s:Shared} {σ:L2.St} {H:Hp} {v:V} {u:Value} {d:D} {t:Ty} {k:Bool} (I:Inv X pins σ H s) (r:Rep All H v d) (ru:RelV v u) (h:O1 t d=.ok k) {Q:Value->Shared->Prop}
  (q:∀tk,Q (.bool k) {s with toks:=tk}):wpAny (model X.prog X.w) X.A (call (.builtin "isinstance") [u,.type t.nm]) Q X.xe s:=by
 have q0:Q (.bool k) s:=q s.toks;cases r with
 | non=>cases ru;cases t <;> simp only [O1] at h <;> cases h <;> first|exact IsiPair.NoneType_int (q _)|exact IsiPair.NoneType_str (q _)|exact IsiPair.NoneType_bool (q _)|exact IsiPair.NoneType_list (q _)|exact IsiPair.NoneType_tuple (q _)|exact IsiPair.NoneType_dict (q _)
 | bl b=>cases ru;cases t <;> simp only [O1] at h <;> cases h <;> first|exact IsiPair.bool_int q0|exact IsiPair.bool_str (q _)|exact IsiPair.bool_bool q0|exact IsiPair.bool_list (q _)|exact IsiPair.bool_tuple (q _)|exact IsiPair.bool_dict (q _)
 | int b=>obtain ⟨tt,rfl⟩:=ru;cases t <;> simp only [O1] at h <;> cases h <;> first|exact IsiPair.int_int q0|exact IsiPair.int_str (q _)|exact IsiPair.int_bool (q _)|exact IsiPair.int_list (q _)|exact IsiPair.int_tuple (q _)|exact IsiPair.int_dict (q _)
 | str b=>obtain ⟨tt,rfl⟩:=ru;cases t <;> simp only [O1] at h <;> cases h <;> first|exact IsiPair.str_int (q _)|exact IsiPair.str_str q0|exact IsiPair.str_bool (q _)|exact IsiPair.str_list (q _)|exact IsiPair.str_tuple (q _)|exact IsiPair.str_dict (q _)
 | tup e rr=>
  cases ru;obtain ⟨its,vr,o,ho,hc,_⟩:=fP I e;cases t <;> simp only [O1] at h <;> cases h <;> first|exact IsiPair.tuple_int ho hc (q _)|exact IsiPair.tuple_str ho hc (q _)|exact IsiPair.tuple_bool ho hc (q _)|exact IsiPair.tuple_list ho hc (q _)|exact IsiPair.tuple_tuple ho hc q0|exact IsiPair.tuple_dict ho hc (q _)
 | lst e p rr=>
  cases ru;obtain ⟨its,vr,o,ho,hc,_⟩:=lF I (.of e);cases t <;> simp only [O1] at h <;> cases h <;> first|exact IsiPair.list_int ho hc (q _)|exact IsiPair.list_str ho hc (q _)|exact IsiPair.list_bool ho hc (q _)|exact IsiPair.list_list ho hc q0|exact IsiPair.list_tuple ho hc (q _)|exact IsiPair.list_dict ho hc (q _)
 | frz e rr=>cases t <;> cases h
 | fdK e rr n=>cases t <;> cases h
 | fdT e rr n=>cases t <;> cases h
 | dK e p rr n=>
  cases ru;obtain ⟨_,_,_,_,o,_,_,ho,hx,_⟩:=JM I.hok e;have hc:=hx.1;cases t <;> simp only [O1] at h <;> cases h <;> first|exact IsiPair.dict_int ho hc (q _)|exact IsiPair.dict_str ho hc (q _)|exact IsiPair.dict_bool ho hc (q _)|exact IsiPair.dict_list ho hc (q _)|exact IsiPair.dict_tuple ho hc (q _)|exact IsiPair.dict_dict ho hc q0
 | dT e p rr n=>
  cases ru;obtain ⟨_,_,_,_,o,_,_,ho,hx,_⟩:=NK I.hok e;have hc:=hx.1;cases t <;> simp only [O1] at h <;> cases h <;> first|exact IsiPair.dict_int ho hc (q _)|exact IsiPair.dict_str ho hc (q _)|exact IsiPair.dict_bool ho hc (q _)|exact IsiPair.dict_list ho hc (q _)|exact IsiPair.dict_tuple ho hc (q _)|exact IsiPair.dict_dict ho hc q0
noncomputable def aGd (t:Ty):List V->Hp->VK->Prop:=fun xs H Q=>∃v d k,xs=[v,.ty t.nm]/\Rep All H v d/\O1 t d=.ok k/\Q (.bl k) H
theorem aD2 (t:Ty):iY X (.builtin "isinstance") (aGd t):=by
 intro pins s σ H xs us Q I vr ⟨v,d,k,e,r,h,q⟩;subst e;cases vr with
 | cons rv vt=>
  cases vt with
  | cons rt vt=>
   cases vt;cases rt;exact isi I r rv h fun tk=>⟨.bl k,H,I.tok tk,rfl,q⟩
theorem oG (t:Ty) {y:Str} {p2:Pos} (ha:PE X a (gE fa ra)) (hg:Gl X "isinstance") (hm:X.mg "isinstance" = none) (hv:bootBuiltins "isinstance" = some (.builtin "isinstance")) (gy:Gl X y) (my:X.mg y=none) (vy:bootBuiltins y=some (.type t.nm))
  (hy:y ≠ "__name__":=by decide) (hyd:(y==("__debug__" : Str))=false:=by decide)
  (he:starEach [a,.Name y p2] X.env=(false,eval a X.env)::starEach [.Name y p2] X.env:=by rfl) (he2:starEach [.Name y p2] X.env=(false,eval (.Name y p2) X.env)::starEach [] X.env:=by rfl)
  (hpl:(backTo pos (starEach [.Name y p2] X.env)).any (·.1)=false:=by rfl):PE X (.Call (.Name "isinstance" p) [a,.Name y p2] [] pos) (gE (b1 (n6 t) fa) true):=
 PE.imp (qC (aD2 t) hg hm hv (bT ha (bT (MF gy my vy (v:=.ty t.nm) rfl hy hyd) kO he2) he) (by decide) (by decide) he hpl) fun σ H Q ⟨ρ,d,E,h,q⟩=>by
  obtain ⟨x,h1,h⟩:=bI h;obtain ⟨k,h2,h⟩:=bI h;cases h;exact ⟨ρ,x,E,h1,fun v H1 s1 r1 _=>⟨v,x,k,rfl,r1,h2,(q.imp s1 id).bl⟩⟩
noncomputable def spD (f:List D->Res D) (n:Nat):Sp:=fun vs H Q _=>∃ds d,ds.length=n/\bN All H vs ds/\f ds=.ok d/\kR H d true Q
theorem CJ {f:List D->Res D} {n:Nat} {vs:List V} {H:Hp} {Q:VK} {E:XK} (h:spD f n vs H Q E):vs.length=n:=by
 obtain ⟨ds,d,h1,r,_⟩:=h;rw [r.length,h1]
theorem aAi {k:Nat} {fad:Addr} {fd:FuncData} {ps:List Str} {f:List D->Res D} {n:Nat} (F:D_ X.prog X.w X.K X.mg X.base CX0 k fad fd ps (spD f n)) (hr:pL k X.A) (hg:Gl X x) (hm:X.mg x=some (.ref fad)) (hk:PySem.W.keepIn X.K (.ref fad)=true) (hb:Binds X.K fd ps [])
  (ha:PA X (e::es) (gA fs rr)) (hdb:(x==("__debug__" : Str))=false:=by decide) (he:starEach (e::es) X.env=(false,eval e X.env)::starEach es X.env:=by rfl) (hpl:(backTo pos (starEach es X.env)).any (·.1)=false:=by rfl) :
  PE X (.Call (.Name x p) (e::es) [] pos) (gE (aO (cW n f) fs) true):=
 PE.imp (M5 F hr hg hm hk hb .nil aEq ha hdb he hpl) fun σ H Q ⟨ρ,d,E,h,q⟩=>by
  obtain ⟨ds,h1,h⟩:=bI h;unfold cW at h;split at h
  ·rename_i hl;exact ⟨ρ,ds,E,h1,fun vs H1 s1 r1 _=>⟨ds,d,of_decide_eq_true hl,by rw [List.append_nil];exact r1,h,q.imp s1 id⟩⟩
  ·cases h
end
end Mi
end
section
namespace Mi
open PySem L2 PySem.SeqAt PySem.Spec PyProof.Rows
noncomputable def GX (x:Str):List D:=x.cps.toList.map fun c=>D.str ⟨#[c]⟩
noncomputable def QH (xs:List D):List D:=xs.zipIdx.map fun p=>.tup [.int p.2,p.1]
noncomputable def aE5 (xs ys:List D):List D:=(xs.zip ys).map fun p=>.tup [p.1,p.2]
noncomputable def WL (m:Nat) (xs:List D):List D:=xs.zipIdx.map fun p=>.tup [.int ((m+p.2:Nat):Int),p.1]
variable [KFrag]
noncomputable def aGe (x:Str):It:=⟨fun i _=>i<x.cps.size,fun i H v H'=>H'=H/\∃c,x.cps[i]?=some c/\v=.str ⟨#[c]⟩,fun i _=>x.cps.size<=i⟩
noncomputable def Ite (K:PySem.W.Frag) (a:Addr):It:=
 ⟨fun i H=>∃xs x,SqL K H a xs/\xs[i]?=some x,fun i H v H'=>∃t x,(∀xs,SqL K H a xs->xs[i]?=some x)/\v=.ref t/\H t=none/\H'=upd H t (.tup [.int i,x]),fun i H=>∃xs,SqL K H a xs/\xs.length<=i⟩
noncomputable def aGf (K:PySem.W.Frag) (m:Nat) (a:Addr):It:=
 ⟨fun i H=>∃xs x,SqL K H a xs/\xs[i]?=some x,fun i H v H'=>∃t x,(∀xs,SqL K H a xs->xs[i]?=some x)/\v=.ref t/\H t=none/\H'=upd H t (.tup [.int ((m+i:Nat):Int),x]),fun i H=>∃xs,SqL K H a xs/\xs.length<=i⟩
noncomputable def Itz (a b:Addr):It :=
  ⟨fun i H => ∃xs ys x y, H a=some (.tup xs) /\ H b=some (.tup ys) /\ xs[i]?=some x /\ ys[i]?=some y, fun i H v H' => ∃t x y, (∀xs, H a=some (.tup xs) -> xs[i]?=some x) /\ (∀ys, H b=some (.tup ys) -> ys[i]?=some y) /\ v=.ref t /\ H t=none /\ H'=upd H t (.tup [x, y]),
   fun i H => ∃xs ys, H a=some (.tup xs) /\ H b=some (.tup ys) /\ ys.length=xs.length /\ xs.length <= i⟩
theorem WM {m:Nat} {xs:List D} {i:Nat}:(WL m xs)[i]?=(xs[i]?).map fun d=>.tup [.int ((m+i:Nat):Int),d]:=by
 unfold WL;rw [List.getElem?_map,List.getElem?_zipIdx,Nat.zero_add];cases xs[i]? <;> rfl
theorem WN {xs:List D} {i:Nat}:(QH xs)[i]?=(xs[i]?).map fun d=>.tup [.int i,d]:=by
 unfold QH;rw [List.getElem?_map,List.getElem?_zipIdx,Nat.zero_add];cases xs[i]? <;> rfl
theorem QJ (xs:List D):(QH xs).length=xs.length:=by simp [QH]
inductive ItQ (K:PySem.W.Frag) (P:Addr->Prop) (J:It) (H:Hp) (items:List D):Prop
 | lst (a:Addr) (e:J=Itl K a) (r:Rep P H (.ref a) (.lst items))
 | tup (a:Addr) (e:J=Itt K a) (r:Rep P H (.ref a) (.tup items))
 | rng (lo:Int) (n:Nat) (e:J=Itr lo n) (r:items=(List.range n).map fun (k:Nat)=>D.int (lo+k))
 | chs (x:Str) (e:J=aGe x) (r:items=GX x)
 | enm (a:Addr) (ds:List D) (e:J=Ite K a) (r:Rep P H (.ref a) (.lst ds)) (h:items=QH ds)
 | enf (m:Nat) (a:Addr) (ds:List D) (e:J=aGf K m a) (r:Rep P H (.ref a) (.lst ds)) (h:items=WL m ds)
 | zip (a b:Addr) (ds es:List D) (e:J=Itz a b) (r:Rep P H (.ref a) (.tup ds)) (q:Rep P H (.ref b) (.tup es)) (n:es.length=ds.length) (h:items=aE5 ds es)
theorem ItQ.keep {K:PySem.W.Frag} {P P':Addr->Prop} {J:It} {H H':Hp} {items:List D} (h:ItQ K P J H items) (k:V2 P H H') (m:∀a,P a->P' a):ItQ K P' J H' items:=by
 cases h with
 | lst a e r=>exact .lst a e (r.keep k m)
 | tup a e r=>exact .tup a e (r.keep k m)
 | rng lo n e r=>exact .rng lo n e r
 | chs x e r=>exact .chs x e r
 | enm a ds e r h=>exact .enm a ds e (r.keep k m) h
 | enf m' a ds e r h=>exact .enf m' a ds e (r.keep k m) h
 | zip a b ds es e r q n h=>exact .zip a b ds es e (r.keep k m) (q.keep k m) n h
theorem ItQ.stop {K:PySem.W.Frag} {P:Addr->Prop} {J:It} {H:Hp} {items:List D} {i:Nat} (h:ItQ K P J H items) (hi:items.length<=i):J.stop i H:=by
 cases h with
 | lst a e r=>
  subst e;obtain ⟨a',xs,e,hq,rr⟩:=r.iC (K:=K);cases e;exact ⟨xs,hq,by rw [rr.length];exact hi⟩
 | tup a e r=>
  subst e;obtain ⟨a',xs,e,hq,rr⟩:=r.eV;cases e;exact ⟨xs,.of hq,by rw [rr.length];exact hi⟩
 | rng lo n e r=>
  subst e r;show n<=i;simpa using hi
 | chs x e r=>
  subst e r;show x.cps.size<=i;simpa [GX] using hi
 | enm a ds e r h=>
  subst e h;obtain ⟨a',xs,e,hq,rr⟩:=r.iC (K:=K);cases e;exact ⟨xs,hq,by rw [rr.length,<-QJ];exact hi⟩
 | enf m a ds e r h=>
  subst e h;obtain ⟨a',xs,e,hq,rr⟩:=r.iC (K:=K);cases e;exact ⟨xs,hq,by rw [rr.length];simpa [WL] using hi⟩
 | zip a b ds es e r q n h=>
  subst e h;obtain ⟨a',xs,e,hq,rr⟩:=r.eV;cases e;obtain ⟨b',ys,e,hq2,rr2⟩:=q.eV;cases e;have:(aE5 ds es).length=ds.length:=by simp [aE5,n]
  exact ⟨xs,ys,hq,hq2,by rw [rr.length,rr2.length];exact n,by rw [rr.length];lia⟩
theorem ItQ.go {K:PySem.W.Frag} {P:Addr->Prop} {J:It} {H:Hp} {items:List D} {i:Nat} {d:D} (h:ItQ K P J H items) (hi:items[i]?=some d):J.go i H/\∀x H',J.yld i H x H'->cJ H H'/\Rep P H' x d:=by
 cases h with
 | lst a e r=>
  subst e;obtain ⟨a',xs,e,hq,rr⟩:=r.iC (K:=K);cases e;obtain ⟨v,h1,h2⟩:=rr.get hi;refine ⟨⟨xs,v,hq,h1⟩,fun x H' ⟨e,hy⟩=>?_⟩;subst e;refine ⟨cJ.refl _,?_⟩;have:=hy xs hq;rw [h1] at this;cases this;exact h2
 | tup a e r=>
  subst e;obtain ⟨a',xs,e,hq,rr⟩:=r.eV;cases e;obtain ⟨v,h1,h2⟩:=rr.get hi;refine ⟨⟨xs,v,.of hq,h1⟩,fun x H' ⟨e,hy⟩=>?_⟩;subst e;refine ⟨cJ.refl _,?_⟩;have:=hy xs (.of hq);rw [h1] at this;cases this;exact h2
 | rng lo n e r=>
  subst e r;have hlt:i<n:=by
   have:=(List.getElem?_eq_some_iff.mp hi).1;simpa using this
  refine ⟨hlt,fun x H' ⟨e,hy⟩=>?_⟩;subst e;have e2:D.int (lo+(i:Int))=d:=by simpa [hlt] using hi
  rw [hy,<-e2];exact ⟨cJ.refl _,.int _⟩
 | chs z e r=>
  subst e r;have hlt:i<z.cps.size:=by
   have:=(List.getElem?_eq_some_iff.mp hi).1;simpa [GX] using this
  refine ⟨hlt,fun x H' ⟨e,c,hc,hv⟩=>?_⟩;subst e hv;refine ⟨cJ.refl _,?_⟩;have e2:D.str ⟨#[c]⟩=d:=by
   unfold GX at hi;rw [List.getElem?_map,Array.getElem?_toList,hc] at hi;simpa using hi
  rw [<-e2];exact .str _
 | enm a ds e r h=>
  subst e h;obtain ⟨a',xs,e,hq,rr⟩:=r.iC (K:=K);cases e;rw [WN] at hi;cases hd:ds[i]? with
  | none=>rw [hd] at hi;cases hi
  | some y=>
   rw [hd] at hi;cases hi;obtain ⟨v,h1,h2⟩:=rr.get hd;refine ⟨⟨xs,v,hq,h1⟩,fun x H' ⟨t,u,hy,e1,e2,e3⟩=>?_⟩;subst e1 e3;have:=hy xs hq;rw [h1] at this;cases this;have sp:cJ H (upd H t (.tup [.int i,v])):=cJ.upd e2;exact ⟨sp,.tup aJ (.cons (.int _) (.cons (h2.same sp) .nil))⟩
 | enf m a ds e r h=>
  subst e h;obtain ⟨a',xs,e,hq,rr⟩:=r.iC (K:=K);cases e;rw [WM] at hi;obtain ⟨y,hd,rfl⟩:=Option.map_eq_some_iff.mp hi;obtain ⟨v,h1,h2⟩:=rr.get hd;refine ⟨⟨xs,v,hq,h1⟩,fun x H' ⟨t,u,hy,e1,e2,e3⟩=>?_⟩;subst e1 e3;have:=hy xs hq;rw [h1] at this;cases this;have sp:cJ H (upd H t (.tup [.int ((m+i:Nat):Int),v])):=cJ.upd e2;exact ⟨sp,.tup aJ (.cons (.int _) (.cons (h2.same sp) .nil))⟩
 | zip a b ds es e r q n h=>
  subst e h;obtain ⟨a',xs,e,hq,rr⟩:=r.eV;cases e;obtain ⟨b',ys,e,hq2,rr2⟩:=q.eV;cases e;unfold aE5 at hi;rw [List.getElem?_map] at hi;obtain ⟨⟨x,y⟩,hd,rfl⟩:=Option.map_eq_some_iff.mp hi;rw [List.getElem?_zip_eq_some] at hd;obtain ⟨v,h1,h2⟩:=rr.get hd.1;obtain ⟨v',h3,h4⟩:=rr2.get hd.2;refine ⟨⟨xs,ys,v,v',hq,hq2,h1,h3⟩,fun x H' ⟨t,u,u',hy,hy',e1,e2,e3⟩=>?_⟩;subst e1 e3;have z:=hy xs hq;rw [h1] at z;cases z;have z:=hy' ys hq2;rw [h3] at z;cases z;have sp:cJ H (upd H t (.tup [v,v'])):=cJ.upd e2;exact ⟨sp,.tup aJ (.cons (h2.same sp) (.cons (h4.same sp) .nil))⟩
noncomputable def gI (K:PySem.W.Frag) (f:FI):TI:=fun σ H R=>∃ρ items k,ER H σ ρ/\f ρ=.ok (items,k)/\∀J H1,cJ H H1->ItQ K All J H1 items->(k=true->ItQ K (New H) J H1 items)->R J H1
noncomputable def gIV (K:PySem.W.Frag) (i:Nat):TI:=fun σ H R=>∃v d items,σ[i]?=some (some v)/\Rep All H v d/\rC d=.ok items/\∀J,(∀P:Addr->Prop,Rep P H v d->ItQ K P J H items)->R J H
section
variable {X:Cx} {tg l a b:Expr} {fl fa:FE} {rl ra rr:Bool} {fs:FA} {p pos:Pos}
theorem GZ {pins:List (Addr×Obj)} {s1:Shared} {σ:L2.St} {H1:Hp} {R:It->Hp->Prop} {v:V} {u:Value} {d:D} {items:List D} (I1:Inv X pins σ H1 s1) (r:Rep All H1 v d) (ru:RelV v u) (hi:rC d=.ok items)
  (q:∀J,(∀P:Addr->Prop,Rep P H1 v d->ItQ X.K P J H1 items)->R J H1):wpAny (model X.prog X.w) X.A (pyIter u) (PIE X pins σ tg R) X.xe s1:=by
 cases d <;> simp only [rC] at hi <;> cases hi
 ·obtain ⟨a,xs,rfl,e,rr⟩:=r.eV;cases ru;obtain ⟨its,rv,p,hz⟩:=I1.tuple (.of e);refine wpAny_pyIter_tuple (show s1.heap.IsTuple a its.toArray from p) ?_;refine ⟨s1.heap.objs.size,[s1.heap.objs.size],_,_,H1,rfl,I1.kept (t':=s1.toks) fun b o e=>Heap.get?_push_of_some _ e,JC a _,⟨_,Heap.get?_push_size _ rfl,rfl,rfl⟩,fun b hb=>?_,q _ fun P r=>.tup a rfl r⟩;have e:b=s1.heap.objs.size:=by simpa using hb
  subst e;exact I1.aE0 (Nat.le_refl _) (I1.hok.fresh (Nat.le_refl _))
 ·obtain ⟨a,xs,rfl,e,rr⟩:=r.iC (K:=X.K);cases ru;obtain ⟨its,rv,p,hz⟩:=I1.list e;refine wpAny_pyIter_list p.isList ?_;refine ⟨s1.heap.objs.size,[s1.heap.objs.size],_,_,H1,rfl,I1.kept (t':=s1.toks) fun b o e=>Heap.get?_push_of_some _ e,MP a _,⟨_,Heap.get?_push_size _ rfl,rfl,rfl⟩,fun b hb=>?_,q _ fun P r=>.lst a rfl r⟩;have e:b=s1.heap.objs.size:=by simpa using hb
  subst e;exact I1.aE0 (Nat.le_refl _) (I1.hok.fresh (Nat.le_refl _))
theorem jG (hl:PE X l (gE fl rl)):PI X tg l (gI X.K (dJ fl rl)):=by
 intro pins s σ H R I ⟨ρ,items,k,E,h,q⟩;obtain ⟨d,h1,h⟩:=bI h;obtain ⟨its,h2,h⟩:=bI h;cases h;refine thn (hl pins s σ H _ I ⟨ρ,d,E,h1,fun v H1 s1 r1 n1=>(show (∃d',Rep All H1 v d/\d'=d/\∀J,(∀P:Addr->Prop,Rep P H1 v d->ItQ X.K P J H1 items)->R J H1) from ⟨d,r1,rfl,fun J hJ=>q J H1 s1 (hJ _ r1) fun hk=>hJ _ ?_⟩)⟩) fun u s1 ⟨v,H1,I1,ru,d',r1,e,q1⟩=>GZ I1 r1 ru h2 q1
 rw [Bool.or_eq_true] at hk;rcases hk with hk|hk
 ·exact n1 hk
 ·exact r1.bY hk
theorem aD3 {i:Nat} {x:Str} (hN:X.N[i]?=some x) (hv:Vis X.env.scope x) (hd:(x==("__debug__" : Str))=false:=by decide) (hcd:(x==("__classdict__" : Str))=false:=by decide):PI X tg (.Name x pos) (gIV X.K i):=by
 intro pins s σ H R I ⟨v,d,items,hσ,r,hi,q⟩;exact thn (j6 hN hv hd hcd pins s σ H (fun w H1=>w=v/\H1=H) I ⟨v,hσ,rfl,rfl⟩) fun u s1 ⟨w,H1,I1,ru,e1,e2⟩=>by
  subst e1 e2;exact GZ I1 r ru hi q
theorem o_ {i:Int} (h:iB i=true):-(2 ^ 62)<=i/\i<2 ^ 62:=by
 simp only [iB,Bool.and_eq_true,decide_eq_true_eq] at h;exact h
theorem PI.imp {w w':TI} (h:PI X tg l w) (i:∀σ H R,w' σ H R->w σ H R):PI X tg l w':=fun pins s σ H R I q=>h pins s σ H R I (i σ H R q)
theorem nJ (hg:Gl X "range") (hm:X.mg "range" = none) (ha:PA X [a] (gA fs rr)) (hs:starEach [a] X.env=[(false,eval a X.env)]:=by rfl):PI X tg (.Call (.Name "range" p) [a] [] pos) (gI X.K (jD fs mZ)):=
 PI.imp (MT hg hm ha hs) fun σ H R ⟨ρ,items,k,E,h,q⟩=>by
  obtain ⟨xs,h1,h⟩:=bI h;unfold mZ at h;split at h
  ·split at h
   ·rename_i hb;cases h;obtain ⟨b1,b2⟩:=o_ hb;refine ⟨ρ,_,E,h1,fun vs H1 s1 r1 _=>?_⟩;cases r1 with
    | cons r t=>
     cases t;cases r;exact ⟨_,rfl,b1,b2,q _ H1 s1 (.rng 0 _ rfl rfl) fun _=>.rng 0 _ rfl rfl⟩
   ·cases h
  ·cases h
theorem aAj (hg:Gl X "range") (hm:X.mg "range" = none) (ha:PA X [a,b] (gA fs rr)) (hs:starEach [a,b] X.env=[(false,eval a X.env),(false,eval b X.env)]:=by rfl) (hs2:starEach [b] X.env=[(false,eval b X.env)]:=by rfl):PI X tg (.Call (.Name "range" p) [a,b] [] pos) (gI X.K (jD fs V1)):=
 PI.imp (M3 hg hm ha hs hs2) fun σ H R ⟨ρ,items,k,E,h,q⟩=>by
  obtain ⟨xs,h1,h⟩:=bI h;unfold V1 at h;split at h
  ·split at h
   ·rename_i hb;cases h;rw [Bool.and_eq_true] at hb;obtain ⟨b1,b2⟩:=o_ hb.1;obtain ⟨b3,b4⟩:=o_ hb.2;refine ⟨ρ,_,E,h1,fun vs H1 s1 r1 _=>?_⟩;cases r1 with
    | cons r t=>
     cases t with
     | cons r' t=>
      cases t;cases r;cases r';exact ⟨_,_,rfl,⟨b1,b2,b3,b4⟩,q _ H1 s1 (.rng _ _ rfl rfl) fun _=>.rng _ _ rfl rfl⟩
   ·cases h
  ·cases h
end
theorem WP (n:Nat) (ρ bs:List D) (i:Nat) (h:i<n):(BK n ρ++bs).getD i .uDf=ρ.getD i .uDf:=by
 rw [List.getD_eq_getElem?_getD,List.getElem?_append_left (by simp [BK];exact h)];simp [BK,h]
theorem G3 (n:Nat) (ρ:List D):(BK n ρ).length=n:=by simp [BK]
noncomputable def TgC (g:TG) (t:D->Res (List D)) (n m:Nat):Prop:=∀(v:V) (d:D) (bs:List D) (σ:L2.St) (H:Hp) (Q:L2.St->Hp->Prop),σ.length=n->Rep All H v d->t d=.ok bs->
 (∀σ2,Ext (σ++List.replicate m none) σ2->(∀j b,bs[j]?=some b->∃w,σ2[n+j]?=some (some w)/\Rep All H w b)->Q σ2 H)->g v (σ++List.replicate m none) H Q
theorem ER.ext {H:Hp} {σ σ2:L2.St} {ρ bs:List D} {n m:Nat} (E:ER H σ ρ) (hn:σ.length=n) (x:Ext (σ++List.replicate m none) σ2) (hb:∀j b,bs[j]?=some b->∃w,σ2[n+j]?=some (some w)/\Rep All H w b):ER H σ2 (BK n ρ++bs):=by
 intro i hi;by_cases h:i<n
 ·rw [WP n ρ bs i h] at hi ⊢;obtain ⟨v,h1,h2⟩:=E i hi;exact ⟨v,x.2 i v (by rw [List.getElem?_append_left (by rw [hn];exact h)];exact h1),h2⟩
 ·have e:(BK n ρ++bs).getD i .uDf=bs.getD (i-n) .uDf:=by
   rw [List.getD_eq_getElem?_getD,List.getElem?_append_right (by rw [G3];lia),G3,<-List.getD_eq_getElem?_getD]
  rw [e] at hi ⊢;cases hq:bs[i-n]? with
  | none=>rw [List.getD_eq_getElem?_getD,hq] at hi;exact absurd rfl hi
  | some b=>
   obtain ⟨w,h1,h2⟩:=hb (i-n) b hq;rw [List.getD_eq_getElem?_getD,hq];exact ⟨w,by rw [<-h1];congr 1;lia,h2⟩
theorem oH {K:PySem.W.Frag} {it:FI} {t:D->Res (List D)} {c:FT} {f:FE} {k:Bool} {n m:Nat} {g:TG} {tc:TT} (tg:TgC g t n m) (hc:∀σ H Q,gT c σ H Q->tc σ H Q) {σ:L2.St} {H:Hp} {Q:VK} (hn:σ.length=n) (h:gE (eU n it t c f k) true σ H Q) :
  PL (gI K it) g tc (gE f k) m σ H Q:=by
 obtain ⟨ρ,d,E,h,q⟩:=h;obtain ⟨⟨items,kk⟩,h1,h⟩:=bI h;split at h
 ·rename_i hlim;obtain ⟨ys,h2,h⟩:=bI h;cases h;refine ⟨ρ,items,kk,E,h1,fun J H1 s1 hJ _ p hp=>?_⟩;have hp0:H p=none:=s1.free hp;refine ⟨fun i n' vs H'=>n'=items.length-i/\i<=items.length/\H' p=some (.lst vs)/\cJ H1 H'/\∃acc,acc.length<=i/\bN (fun a=>H a=none/\a≠p) H' vs acc/\gD (jE n t c f k ρ) acc (items.drop i)=.ok ys,⟨items.length,?_⟩,?_⟩
  ·exact ⟨rfl,Nat.zero_le _,aJ,cJ.upd hp,[],Nat.zero_le _,.nil,h2⟩
  ·rintro i n' vs H' ⟨rfl,hi,hH,sm,acc,hal,racc,hf⟩;refine ⟨hH,?_⟩;have hJ':ItQ K All J H' items:=hJ.keep (.same sm) fun _ z=>z
   rcases Nat.lt_or_ge i items.length with hlt|hge
   ·refine .inr ?_;have e:items[i]?=some items[i]:=List.getElem?_eq_getElem hlt;obtain ⟨g1,g2⟩:=hJ'.go e;have hl1:items.length<=lim:=of_decide_eq_true hlim;refine ⟨g1,?_,fun x H2 hy=>?_⟩
    ·rw [racc.length];exact Nat.lt_of_le_of_lt hal (Nat.lt_of_lt_of_le hlt (Nat.le_trans hl1 (by rw [sizeLine_eq];decide)))
    ·obtain ⟨sH,rx⟩:=g2 x H2 hy;have hH:=sH p _ hH;have sm:=sm.trans sH;have racc:=racc.same sH;rw [List.drop_eq_getElem_cons hlt] at hf;obtain ⟨acc2,hs,hf⟩:=bI hf;obtain ⟨bs,hb,hs⟩:=bI hs;obtain ⟨ok,hok,hs⟩:=bI hs;refine tg x items[i] bs σ H2 _ hn rx hb fun σ2 hx hbs=>⟨hx,hc _ _ _ ?_⟩
     have E2:ER H2 σ2 (BK n ρ++bs):=(E.same (s1.trans sm)).ext hn hx hbs;refine ⟨_,ok,E2,hok,fun H4 s4=>?_⟩;cases ok with
     | true=>
      rw [if_pos rfl];rw [if_pos rfl] at hs;obtain ⟨y,hy2,hs⟩:=bI hs;split at hs
      ·rename_i hk;cases hs;refine ⟨_,y,E2.same s4,hy2,fun w H5 s5 r5 n5=>⟨s5 p _ (s4 p _ hH),items.length-(i+1),by lia,rfl,hlt,aJ,?_,acc++[y],?_,?_,hf⟩⟩
       ·exact fun b o e=>by
         rw [aX (bJ e hp)];exact s5 b o (s4 b o (sm b o e))
       ·rw [List.length_append,List.length_singleton];lia
       ·have hp5:H5 p=some (.lst vs):=s5 p _ (s4 p _ hH);have ry:Rep (fun a=>H a=none/\a≠p) H5 w y:=by
         rw [Bool.or_eq_true] at hk;rcases hk with hk|hk
         ·exact (n5 hk).mono fun a ha=>⟨((s1.trans sm).trans s4).free ha,fun z=>by subst z;have h0:=s4 _ _ hH;rw [show H4 _=none from ha] at h0;cases h0⟩
         ·exact r5.bY hk
        have all:bN (fun a=>H a=none/\a≠p) H5 (vs++[w]) (acc++[y]):=(racc.same (s4.trans s5)).snoc ry;refine all.keep (fun b o e hb=>?_) fun _ z=>z
        rw [aX]
        ·exact e
        ·rcases hb with hb|hb
         ·exact hb.2
         ·intro z;subst z;rw [hp5] at e;cases e;cases hb
      ·cases hs
     | false=>
      rw [if_neg (by simp)];rw [if_neg (by simp)] at hs;cases hs;exact ⟨items.length-(i+1),by lia,rfl,hlt,s4 p _ hH,sm.trans s4,acc,by lia,racc.same s4,hf⟩
   ·refine .inl ⟨hJ'.stop hge,?_⟩;rw [List.drop_eq_nil_of_le hge] at hf;cases hf;exact q _ _ (s1.trans sm) (.lst hH trivial racc.all) fun _=>.lst hH hp0 (racc.mono fun a z=>z.1)
 ·cases h
noncomputable def gIx:List Nat->TGs
 | []=>aFi
 | i::is=>aC3 (oW i) (gIx is)
noncomputable def lH:List Nat->List V->L2.St->L2.St
 | i::is,v::vs,σ=>lH is vs (σ.set i (some v))
 | _,_,σ=>σ
theorem CK {H:Hp} {Q:L2.St->Hp->Prop}:∀(is:List Nat) (vs:List V) (σ:L2.St),vs.length=is.length->Q (lH is vs σ) H->gIx is vs σ H Q
 | [],[],σ,_,q=>⟨rfl,q⟩
 | i::is,v::vs,σ,h,q=>⟨v,vs,rfl,CK is vs (σ.set i (some v)) (by simpa using h) q⟩
 | [],_::_,_,h,_=>by simp at h
 | _::_,[],_,h,_=>by simp at h
theorem xV:∀(is:List Nat) (vs:List V) (σ:L2.St),(lH is vs σ).length=σ.length
 | [],_,_=>by simp [lH]
 | _::_,[],_=>by simp [lH]
 | i::is,v::vs,σ=>by rw [lH,xV is vs];simp
theorem rM:∀(is:List Nat) (vs:List V) (σ:L2.St) (k:Nat),k∉is->(lH is vs σ)[k]?=σ[k]?
 | [],_,_,_,_=>by simp [lH]
 | _::_,[],_,_,_=>by simp [lH]
 | i::is,v::vs,σ,k,h=>by
  rw [List.mem_cons,not_or] at h;rw [lH,rM is vs _ k h.2,List.getElem?_set_ne (Ne.symm h.1)]
theorem G4:∀(is:List Nat) (vs:List V) (σ:L2.St) (j i:Nat) (v:V),is.Nodup->(∀i∈is,i<σ.length)->is[j]?=some i->vs[j]?=some v->(lH is vs σ)[i]?=some (some v)
 | [],_,_,_,_,_,_,_,h,_=>by simp at h
 | _::_,[],_,_,_,_,_,_,_,h=>by simp at h
 | a::is,w::vs,σ,0,i,v,hn,hl,h1,h2=>by
  have e1:a=i:=by simpa using h1
  have e2:w=v:=by simpa using h2
  subst e1 e2;rw [lH,rM is vs _ a (List.nodup_cons.mp hn).1,List.getElem?_set_self (hl a (List.mem_cons_self ..))]
 | a::is,w::vs,σ,j+1,i,v,hn,hl,h1,h2=>by
  rw [lH];exact G4 is vs _ j i v (List.nodup_cons.mp hn).2 (fun i hi=>by rw [List.length_set];exact hl i (List.mem_cons_of_mem _ hi)) (by simpa using h1) (by simpa using h2)
theorem iZ (n:Nat):TgC (oW n) j7 n 1:=by
 intro v d bs σ H Q hn r h q;cases h;have hl:(σ++List.replicate 1 (none:Option V)).length=n+1:=by simp [hn]
 refine q _ ⟨by simp,fun i w hi=>?_⟩ fun j b hj=>?_
 ·have:i≠n:=fun z=>by
   subst z;rw [List.getElem?_append_right (by lia)] at hi;simp [hn] at hi
  rw [List.getElem?_set_ne (Ne.symm this)];exact hi
 ·have e:j=0:=by
   have:=(List.getElem?_eq_some_iff.mp hj).1;simp at this;exact this
  subst e;have e:d=b:=by simpa using hj
  subst e;exact ⟨v,by rw [Nat.add_zero,List.getElem?_set_self (by lia)],r⟩
theorem QK (K:PySem.W.Frag) (n m:Nat):TgC (aEd K m (gIx (List.range' n m))) (YW m) n m:=by
 intro v d bs σ H Q hn r h q;cases d <;> simp only [YW] at h <;> (try (cases h;done))
 split at h
 ·rename_i hm;cases h;have hm':=of_decide_eq_true hm;obtain ⟨a,xs,rfl,e,rr⟩:=r.eV;refine ⟨a,xs,rfl,.of e,by rw [rr.length];exact hm',CK _ _ _ (by rw [rr.length,hm'];simp) ?_⟩;refine q _ ⟨by rw [xV],fun i w hi=>?_⟩ fun j b hj=>?_
  ·rw [rM]
   ·exact hi
   ·intro hmem;have:=List.mem_range'_1.mp hmem;rw [List.getElem?_append_right (by lia)] at hi;rw [List.getElem?_replicate] at hi;split at hi <;> cases hi
  ·obtain ⟨w,h1,h2⟩:=rr.get hj;have hjm:j<m:=by rw [<-hm'];exact (List.getElem?_eq_some_iff.mp hj).1
   refine ⟨w,G4 _ _ _ j (n+j) w (List.nodup_range' ..) (fun i hi=>?_) ?_ h1,h2⟩
   ·have:=List.mem_range'_1.mp hi;simp [hn];lia
   ·rw [List.getElem?_range' hjm];simp
 ·cases h
section
variable {X:Cx} {scope:Scope} {ownN:List Str} {elt iter tg c:Expr} {it:FI} {t:D->Res (List D)} {g:TG} {gc:FT} {fe:FE} {re:Bool} {pos:Pos}
theorem aAk {n m:Nat} (S:cO X.N X.env.scope scope ownN) (hn:X.N.length=n) (hm:ownN.length=m) (hcalm:X.calm=true) (hi:PI X tg iter (gI X.K it)) (ht:TgC g t n m) (hg:∀X',cT X X' scope ownN->PG X' tg g) (he:∀X',cT X X' scope ownN->PE X' elt (gE fe re))
  (hs:∀x,foldedSetIterable iter X.env x=pure x):PE X (.ListComp elt [⟨tg,iter,[],0⟩] scope pos) (gE (eU n it t lD fe re) true):=by
 intro pins s σ H Q I h;subst hm;exact V3 S hcalm hi hg he hs pins s σ H Q I (oH ht (fun σ H Q h=>by obtain ⟨ρ,b,E,h,q⟩:=h;cases h;exact q H (cJ.refl H)) (I.len.trans hn) h)
theorem QL {n m:Nat} (S:cO X.N X.env.scope scope ownN) (hn:X.N.length=n) (hm:ownN.length=m) (hcalm:X.calm=true) (hi:PI X tg iter (gI X.K it)) (ht:TgC g t n m) (hg:∀X',cT X X' scope ownN->PG X' tg g) (hc:∀X',cT X X' scope ownN->PT X' c (gT gc)) (he:∀X',cT X X' scope ownN->PE X' elt (gE fe re))
  (hs:∀x,foldedSetIterable iter X.env x=pure x):PE X (.ListComp elt [⟨tg,iter,[c],0⟩] scope pos) (gE (eU n it t gc fe re) true):=by
 intro pins s σ H Q I h;subst hm;exact PN S hcalm hi hg hc he hs pins s σ H Q I (oH ht (fun σ H Q h=>h) (I.len.trans hn) h)
end
end Mi
end
section
namespace Mi
open PySem L2 PySem.SeqAt PySem.Spec PyProof.Rows
variable [KFrag]
mutual
theorem Rep.dom {P:Addr->Prop} {H:Hp}:∀{v:V} {d:D},Rep P H v d->Rep (fun a=>P a/\H a≠none) H v d
 | _,_,.non=>.non
 | _,_,.bl b=>.bl b
 | _,_,.int i=>.int i
 | _,_,.str x=>.str x
 | _,_,.tup e r=>.tup e (bN.dom r)
 | _,_,.lst e p r=>.lst e ⟨p,by rw [e];simp⟩ (bN.dom r)
 | _,_,.frz e r=>.frz e (bN.dom r)
 | _,_,.dK e p r n=>.dK e ⟨p,by rw [e];simp⟩ (m5.dom r) n
 | _,_,.dT e p r n=>.dT e ⟨p,by rw [e];simp⟩ (kI.dom r) n
 | _,_,.fdK e r n=>.fdK e (m5.dom r) n
 | _,_,.fdT e r n=>.fdT e (kI.dom r) n
theorem bN.dom {P:Addr->Prop} {H:Hp}:∀{v:List V} {d:List D},bN P H v d->bN (fun a=>P a/\H a≠none) H v d
 | _,_,.nil=>.nil
 | _,_,.cons r t=>.cons (Rep.dom r) (bN.dom t)
theorem m5.dom {P:Addr->Prop} {H:Hp}:∀{v:List (Key×V)} {d:List (D×D)},m5 P H v d->m5 (fun a=>P a/\H a≠none) H v d
 | _,_,.nil=>.nil
 | _,_,.cons r t=>.cons (Rep.dom r) (m5.dom t)
theorem kI.dom {P:Addr->Prop} {H:Hp}:∀{v:List (List Key×V)} {d:List (D×D)},kI P H v d->kI (fun a=>P a/\H a≠none) H v d
 | _,_,.nil=>.nil
 | _,_,.cons r t=>.cons (Rep.dom r) (kI.dom t)
end
theorem m5.bY {P P':Addr->Prop} {H:Hp}:∀{v:List (Key×V)} {d:List (D×D)},m5 P H v d->D.a_ (d.map (·.2))=true->m5 P' H v d
 | _,_,.nil,_=>.nil
 | _,_,.cons r t,h=>by
  rw [List.map_cons,D.a_,Bool.and_eq_true] at h;exact .cons (r.bY h.1) (t.bY h.2)
theorem kI.bY {P P':Addr->Prop} {H:Hp}:∀{v:List (List Key×V)} {d:List (D×D)},kI P H v d->D.a_ (d.map (·.2))=true->kI P' H v d
 | _,_,.nil,_=>.nil
 | _,_,.cons r t,h=>by
  rw [List.map_cons,D.a_,Bool.and_eq_true] at h;exact .cons (r.bY h.1) (t.bY h.2)
theorem Rep.aEy {P P':Addr->Prop} {H:Hp} {a:Addr} {d:D} (r:Rep P H (.ref a) d) (h:inner d=true) (hp:P' a):Rep P' H (.ref a) d:=by
 cases r with
 | tup e r=>cases h
 | lst e p r=>exact .lst e hp (r.bY h)
 | frz e r=>cases h
 | dK e p r n=>exact .dK e hp (r.bY h) n
 | dT e p r n=>exact .dT e hp (r.bY h) n
 | fdK e r n=>cases h
 | fdT e r n=>cases h
noncomputable def Own (own:Nat->Bool) (σ:L2.St) (a:Addr):Prop:=∃i,own i=true/\σ[i]?=some (some (.ref a))
structure ES (own:Nat->Bool) (H:Hp) (σ:L2.St) (ρ:List D):Prop where
 len:σ.length=ρ.length
 at_:∀i,ρ.getD i .uDf≠.uDf->∃v,σ[i]?=some (some v)/\(own i=false->Rep (fun a=>¬Own own σ a) H v (ρ.getD i .uDf))
 own:∀i v,own i=true->σ[i]?=some (some v)->∃a o,v=.ref a/\Rep All H v (ρ.getD i .uDf)/\inner (ρ.getD i .uDf)=true/\H a=some o/\PJ o=true/\∀j,own j=true->σ[j]?=some (some (.ref a))->j=i
variable {own:Nat->Bool}
theorem ES.er {H:Hp} {σ:L2.St} {ρ:List D} (e:ES own H σ ρ):ER H σ ρ:=fun i hi=>by
 obtain ⟨v,h1,h2⟩:=e.at_ i hi;cases ho:own i with
 | false=>exact ⟨v,h1,(h2 ho).all⟩
 | true=>
  obtain ⟨a,o,_,h3,_⟩:=e.own i v ho h1;exact ⟨v,h1,h3⟩
theorem ES.live {H:Hp} {σ:L2.St} {ρ:List D} (e:ES own H σ ρ) {a:Addr} (h:Own own σ a):∃o,H a=some o/\PJ o=true:=by
 obtain ⟨i,hi,hs⟩:=h;obtain ⟨b,o,eb,_,_,h3,h4,_⟩:=e.own i _ hi hs;cases eb;exact ⟨o,h3,h4⟩
theorem ES.same {H H':Hp} {σ:L2.St} {ρ:List D} (e:ES own H σ ρ) (s:cJ H H'):ES own H' σ ρ:=by
 refine ⟨e.len,fun i hi=>?_,fun i v hi hv=>?_⟩
 ·obtain ⟨v,h1,h2⟩:=e.at_ i hi;exact ⟨v,h1,fun ho=>(h2 ho).same s⟩
 ·obtain ⟨a,o,h1,h2,h3,h4,h5,h6⟩:=e.own i v hi hv;exact ⟨a,o,h1,h2.same s,h3,s _ _ h4,h5,h6⟩
noncomputable def KU (own:Nat->Bool) (σ:L2.St) (H:Hp) (σ':L2.St) (H':Hp):Prop:=∀a o,H a=some o->¬Own own σ a->H' a=some o/\¬Own own σ' a
theorem KU.trans {σ σ1 σ2:L2.St} {H H1 H2:Hp} (a:KU own σ H σ1 H1) (b:KU own σ1 H1 σ2 H2):KU own σ H σ2 H2:=fun c o e n=>let ⟨e1,n1⟩:=a c o e n;b c o e1 n1
theorem KU.same {σ:L2.St} {H H':Hp} (s:cJ H H'):KU own σ H σ H':=fun a o e n=>⟨s a o e,n⟩
theorem KU.keep {σ σ':L2.St} {H H':Hp} {ρ:List D} (k:KU own σ H σ' H') (e:ES own H σ ρ):V2 (fun a=>¬Own own σ a) H H':=fun a o h hp=>by
 by_cases ho:Own own σ a
 ·obtain ⟨o',h1,h2⟩:=e.live ho;rw [h] at h1;cases h1;rcases hp with hp|hp
  ·exact absurd ho hp
  ·rw [h2] at hp;cases hp
 ·exact (k a o h ho).1
theorem KU.rep {σ σ':L2.St} {H H':Hp} {ρ:List D} (k:KU own σ H σ' H') (e:ES own H σ ρ) {v:V} {d:D} (r:Rep (fun a=>¬Own own σ a) H v d):Rep (fun a=>¬Own own σ' a) H' v d:=by
 refine r.dom.keep (P':=fun a=>¬Own own σ' a) (fun a o h hp=>?_) fun a ⟨h1,h2⟩=>?_
 ·refine k.keep e a o h (hp.imp (fun z=>z.1) id)
 ·cases q:H a with
  | none=>exact absurd q h2
  | some o=>exact (k a o q h1).2
noncomputable def kS (own:Nat->Bool) (D:Ends) (σ:L2.St) (H:Hp):Fl->Prop
 | .nx ρ=>∀σ' H',KU own σ H σ' H'->ES own H' σ' ρ->D.nx σ' H'
 | .bk ρ=>∀σ' H',KU own σ H σ' H'->ES own H' σ' ρ->D.bk σ' H'
 | .ct ρ=>∀σ' H',KU own σ H σ' H'->ES own H' σ' ρ->D.ct σ' H'
 | .rt d=>∀v H',(∀a o,H a=some o->¬Own own σ a->H' a=some o)->Rep (fun a=>Own own σ a\/H a=none) H' v d->D.rt v H'
theorem kS.step {D:Ends} {σ σ':L2.St} {H H':Hp} {fl:Fl} (k:KU own σ H σ' H') (h:kS own D σ H fl):kS own D σ' H' fl:=by
 cases fl with
 | nx ρ=>exact fun σ2 H2 k2 e=>h σ2 H2 (k.trans k2) e
 | bk ρ=>exact fun σ2 H2 k2 e=>h σ2 H2 (k.trans k2) e
 | ct ρ=>exact fun σ2 H2 k2 e=>h σ2 H2 (k.trans k2) e
 | rt d=>
  refine fun v H2 hk r=>h v H2 (fun a o e n=>let ⟨e1,n1⟩:=k a o e n;hk a o e1 n1) (r.mono fun a ha=>?_)
  cases q:H a with
  | none=>exact .inr rfl
  | some o=>
   refine .inl (Classical.byContradiction fun n=>?_);obtain ⟨e1,n1⟩:=k a o q n;rcases ha with ha|ha
   ·exact n1 ha
   ·rw [e1] at ha;cases ha
noncomputable def tS (own:Nat->Bool) (f:FS):TS:=fun D σ H=>∃ρ fl,ES own H σ ρ/\f ρ=.ok fl/\kS own D σ H fl
theorem PS.imp {X:Cx} {st:Stmt} {t t':TS} (h:PS X st t) (i:∀D σ H,t' D σ H->t D σ H):PS X st t':=fun pins s σ H D I q=>h pins s σ H D I (i D σ H q)
theorem PSs.imp {X:Cx} {st:List Stmt} {t t':TS} (h:PSs X st t) (i:∀D σ H,t' D σ H->t D σ H):PSs X st t':=fun pins s σ H D I q=>h pins s σ H D I (i D σ H q)
section
variable {X:Cx} {a b c e:Expr} {pos pos':Pos} {fa fb fc fe:FE} {ra rb rc re:Bool} {ga gb gc:FT} {f g:FS} {st:Stmt} {rest s1 s2:List Stmt}
theorem cC:PSs X [] (tS own jO):=PSs.imp uM fun D σ H ⟨ρ,fl,E,h,q⟩=>by
 cases h;exact q σ H (fun a o e n=>⟨e,n⟩) E
theorem aAl {D:Ends} {σ:L2.St} {H:Hp} (h:tS own (bW f g) D σ H):aBl (tS own f) (tS own g) D σ H:=by
 obtain ⟨ρ,fl,E,h,q⟩:=h;obtain ⟨r,h1,h2⟩:=bI h;refine ⟨ρ,r,E,h1,?_⟩;cases r with
 | nx ρ'=>exact fun σ' H' k E'=>⟨ρ',fl,E',h2,q.step k⟩
 | bk ρ'=>cases h2;exact q
 | ct ρ'=>cases h2;exact q
 | rt d=>cases h2;exact q
theorem aG (h1:PS X st (tS own f)) (h2:PSs X rest (tS own g)):PSs X (st::rest) (tS own (bW f g)):=PSs.imp (jP h1 h2) fun _ _ _=>aAl
theorem aU (h1:PS X st (tS own f)):PSs X [st] (tS own f):=nC h1
theorem gF (hc:PT X c (gT gc)) (ha:PSs X s1 (tS own f)) (hb:PSs X s2 (tS own g)):PS X (.If c s1 s2 pos) (tS own (sIf gc f g)):=PS.imp (U3 hc ha hb) fun D σ H ⟨ρ,fl,E,h,q⟩=>by
 obtain ⟨k,h1,h2⟩:=bI h;refine ⟨ρ,k,E.er,h1,fun H' s=>?_⟩;cases k with
 | true=>rw [if_pos rfl];rw [if_pos rfl] at h2;exact ⟨ρ,fl,E.same s,h2,q.step (.same s)⟩
 | false=>rw [if_neg (by simp)];rw [if_neg (by simp)] at h2;exact ⟨ρ,fl,E.same s,h2,q.step (.same s)⟩
theorem dB (he:PE X e (gE fe re)):PS X (.Return (some e) pos) (tS own (j8 fe re)):=PS.imp (wL he) fun D σ H ⟨ρ,fl,E,h,q⟩=>by
 obtain ⟨d,h1,h2⟩:=bI h;split at h2
 ·rename_i hk;cases h2;refine ⟨ρ,d,E.er,h1,fun v H' s r n=>q v H' (fun a o e _=>s a o e) ?_⟩;rw [Bool.or_eq_true] at hk;rcases hk with hk|hk
  ·exact (n hk).mono fun a ha=>.inr ha
  ·exact r.bY hk
 ·cases h2
theorem vL {i:Nat} {x:Str} (ho:own i=true) (hN:X.N[i]?=some x) (hv:Vis X.env.scope x) (hd:(x==("__debug__" : Str))=false:=by decide) (hcd:(x==("__classdict__" : Str))=false:=by decide):PS X (.Return (some (.Name x pos')) pos) (tS own (O4 i)):=
 PS.imp (wL (j6 hN hv hd hcd)) fun D σ H ⟨ρ,fl,E,h,q⟩=>by
 obtain ⟨d,h1,h2⟩:=bI h;cases h2;obtain ⟨v,hv,r,e⟩:=E.er.var h1;obtain ⟨a,o,rfl,r2,hin,_⟩:=E.own i v ho hv;rw [e] at hin;exact ⟨_,hv,q _ H (fun a o e _=>e) (r.aEy hin (.inl ⟨i,ho,hv⟩))⟩
theorem lJ {σ:L2.St} {i:Nat} {v:V} (ho:own i=false) (a:Addr):Own own (σ.set i (some v)) a↔Own own σ a:=by
 constructor
 ·rintro ⟨j,hj,e⟩;have:i≠j:=fun z=>by subst z;rw [ho] at hj;cases hj
  rw [List.getElem?_set_ne this] at e;exact ⟨j,hj,e⟩
 ·rintro ⟨j,hj,e⟩;have:i≠j:=fun z=>by subst z;rw [ho] at hj;cases hj
  exact ⟨j,hj,by rw [List.getElem?_set_ne this];exact e⟩
theorem fY {ρ:List D} {i j:Nat} {d:D}:(ρ.set i d).getD j .uDf=if i=j/\i<ρ.length then d else ρ.getD j .uDf:=by
 rw [List.getD_eq_getElem?_getD,List.getD_eq_getElem?_getD,List.getElem?_set];by_cases h:i=j
 ·subst h;by_cases h2:i<ρ.length
  ·simp [h2]
  ·simp [h2]
 ·simp [h]
theorem ES.set {H:Hp} {σ:L2.St} {ρ:List D} {i:Nat} {v:V} {d:D} (E:ES own H σ ρ) (ho:own i=false) (r:Rep (fun a=>¬Own own σ a) H v d):ES own H (σ.set i (some v)) (ρ.set i d):=by
 have hO:(fun a=>¬Own own (σ.set i (some v)) a)=fun a=>¬Own own σ a:=funext fun a=>by rw [lJ ho]
 refine ⟨by simp [E.len],fun j hj=>?_,fun j w hj hw=>?_⟩
 ·rw [fY] at hj ⊢;rw [hO];by_cases h:i=j/\i<ρ.length
  ·rw [if_pos h];obtain ⟨rfl,hl⟩:=h;exact ⟨v,by rw [List.getElem?_set_self (by rw [E.len];exact hl)],fun _=>r⟩
  ·rw [if_neg h] at hj ⊢;obtain ⟨w,h1,h2⟩:=E.at_ j hj;by_cases hij:i=j
   ·subst hij;have:i<σ.length:=(List.getElem?_eq_some_iff.mp h1).1;rw [E.len] at this;exact absurd ⟨rfl,this⟩ h
   ·exact ⟨w,by rw [List.getElem?_set_ne hij];exact h1,h2⟩
 ·have hij:i≠j:=fun z=>by subst z;rw [ho] at hj;cases hj
  rw [List.getElem?_set_ne hij] at hw;rw [fY,if_neg fun z=>hij z.1];obtain ⟨a,o,h1,h2,h3,h4,h5,h6⟩:=E.own j w hj hw;refine ⟨a,o,h1,h2,h3,h4,h5,fun k hk hs=>h6 k hk ?_⟩;have hik:i≠k:=fun z=>by subst z;rw [ho] at hk;cases hk
  rwa [List.getElem?_set_ne hik] at hs
theorem ES.aFo {H H':Hp} {σ:L2.St} {ρ:List D} {i:Nat} {a:Addr} {o:HO} {d:D} (E:ES own H σ ρ) (s:cJ H H') (ho:own i=true) (hn:H a=none) (r:Rep All H' (.ref a) d) (hin:inner d=true) (ha:H' a=some o) (hm:PJ o=true) :
  ES own H' (σ.set i (some (.ref a))) (ρ.set i d)/\KU own σ H (σ.set i (some (.ref a))) H':=by
 have hO:∀b,H b≠none->¬Own own σ b->¬Own own (σ.set i (some (.ref a))) b:=fun b hb n ⟨j,hj,e⟩=>by
  by_cases hij:i=j
  ·subst hij;by_cases hl:i<σ.length
   ·rw [List.getElem?_set_self hl] at e;cases e;exact hb hn
   ·rw [List.getElem?_set,if_pos rfl,if_neg hl] at e;cases e
  ·rw [List.getElem?_set_ne hij] at e;exact n ⟨j,hj,e⟩
 refine ⟨⟨by simp [E.len],fun j hj=>?_,fun j w hj hw=>?_⟩,fun b ob e n=>⟨s b ob e,hO b (by rw [e];simp) n⟩⟩
 ·rw [fY] at hj ⊢;by_cases h:i=j/\i<ρ.length
  ·rw [if_pos h];obtain ⟨rfl,hl⟩:=h;exact ⟨.ref a,by rw [List.getElem?_set_self (by rw [E.len];exact hl)],fun z=>by rw [ho] at z;cases z⟩
  ·rw [if_neg h] at hj ⊢;obtain ⟨w,h1,h2⟩:=E.at_ j hj;by_cases hij:i=j
   ·subst hij;have:i<σ.length:=(List.getElem?_eq_some_iff.mp h1).1;rw [E.len] at this;exact absurd ⟨rfl,this⟩ h
   ·exact ⟨w,by rw [List.getElem?_set_ne hij];exact h1,fun hj=>((h2 hj).dom.same s).mono fun b ⟨n,hb⟩=>hO b hb n⟩
 ·by_cases hij:i=j
  ·subst hij;have hl:i<σ.length:=by
    have:=(List.getElem?_eq_some_iff.mp hw).1;simpa using this
   rw [List.getElem?_set_self hl] at hw;cases hw;rw [fY,if_pos ⟨rfl,by rw [<-E.len];exact hl⟩];refine ⟨a,o,rfl,r,hin,ha,hm,fun k hk hs=>?_⟩;by_cases hik:i=k
   ·exact hik.symm
   ·rw [List.getElem?_set_ne hik] at hs;obtain ⟨o',h1,_⟩:=E.live ⟨k,hk,hs⟩;rw [hn] at h1;cases h1
  ·rw [List.getElem?_set_ne hij] at hw;rw [fY,if_neg fun z=>hij z.1];obtain ⟨b,ob,h1,h2,h3,h4,h5,h6⟩:=E.own j w hj hw;refine ⟨b,ob,h1,h2.same s,h3,s _ _ h4,h5,fun k hk hs=>?_⟩;by_cases hik:i=k
   ·subst hik;by_cases hl:i<σ.length
    ·rw [List.getElem?_set_self hl] at hs;cases hs;rw [hn] at h4;cases h4
    ·rw [List.getElem?_set,if_pos rfl,if_neg hl] at hs;cases hs
   ·rw [List.getElem?_set_ne hik] at hs;exact h6 k hk hs
theorem Y8 {P:Addr->Prop} {H:Hp} {v:V} {d:D} (r:Rep P H v d) (hin:inner d=true):∃a o,v=.ref a/\P a/\H a=some o/\PJ o=true:=by
 cases r with
 | lst e p r=>exact ⟨_,_,rfl,p,e,rfl⟩
 | dK e p r n=>exact ⟨_,_,rfl,p,e,rfl⟩
 | dT e p r n=>exact ⟨_,_,rfl,p,e,rfl⟩
 | fdK e r n=>cases hin
 | fdT e r n=>cases hin
 | _=>cases hin
theorem QM {H H':Hp} {σ:L2.St} {ρ:List D} (E:ES own H σ ρ) {v:V} {d:D} (r:Rep (New H) H' v d):Rep (fun a=>¬Own own σ a) H' v d:=r.mono fun a ha ho=>by
 obtain ⟨o,h1,_⟩:=E.live ho;rw [show H a=none from ha] at h1;cases h1
theorem CN {o:Bool} {i:Nat} {D':Ends} {σ:L2.St} {H:Hp} (ho:own i=o) (h:tS own (cA o i fe re) D' σ H):aBm (gE fe re) (oW i) D' σ H:=by
 obtain ⟨ρ,fl,E,h,q⟩:=h;obtain ⟨d,h1,h2⟩:=bI h;cases o with
 | true=>
  simp only [if_true] at h2;split at h2
  ·rename_i hk;cases h2;refine ⟨ρ,d,E.er,h1,fun v H' s r n=>?_⟩;rw [Bool.and_eq_true] at hk;obtain ⟨a,ob,rfl,hn,ha,hm⟩:=Y8 (n hk.1) hk.2;obtain ⟨E2,k⟩:=E.aFo s ho hn r hk.2 ha hm;exact q _ H' k E2
  ·cases h2
 | false=>
  simp only [Bool.false_eq_true,if_false] at h2;split at h2
  ·rename_i hk;cases h2;refine ⟨ρ,d,E.er,h1,fun v H' s r n=>?_⟩;rw [Bool.or_eq_true] at hk;have r2:Rep (fun a=>¬Own own σ a) H' v d:=by
    rcases hk with hk|hk
    ·exact QM E (n hk)
    ·exact r.bY hk
   exact q _ H' (fun a ob e hn=>⟨s a ob e,by rw [lJ ho];exact hn⟩) ((E.same s).set ho r2)
  ·cases h2
theorem bG {i:Nat} {x:Str} {o:Bool} (ho:own i=o) (hN:X.N.Nodup) (hi:X.N[i]?=some x) (hx:Loc X.env.scope x) (he:PE X e (gE fe re)) (hs:swapsWith e (some (.Name x pos')) pos.line X.env=pure false:=by rfl) (hf:X.fn x=true\/X.env.scope.names.lookup x=some .local:=by first|exact .inl rfl|exact .inr rfl|assumption) :
  PS X (.Assign [.Name x pos'] e pos) (tS own (cA o i fe re)):=PS.imp (t7 hN hi hx he hs hf) fun _ _ _=>CN ho
theorem aEz {i j:Nat} {x y:Str} {py:Pos} (ho:own i=false) (hoj:own j=false) (hN:X.N.Nodup) (hi:X.N[i]?=some x) (hx:Loc X.env.scope x) (hj:X.N[j]?=some y) (hy:Vis X.env.scope y) (hs:swapsWith (.Name y py) (some (.Name x pos')) pos.line X.env=pure false:=by rfl) (hf:X.fn x=true\/X.env.scope.names.lookup x=some .local:=by first|exact .inl rfl|exact .inr rfl|assumption)
  (hd:(y==("__debug__" : Str))=false:=by decide) (hcd:(y==("__classdict__" : Str))=false:=by decide):PS X (.Assign [.Name x pos'] (.Name y py) pos) (tS own (sAl i j)):=PS.imp (t7 hN hi hx (j6 hj hy hd hcd) hs hf) fun D' σ H ⟨ρ,fl,E,h,q⟩=>by
 obtain ⟨d,h1,h2⟩:=bI h;cases h2;obtain ⟨v,hv,r,e⟩:=E.er.var h1;have hne:ρ.getD j .uDf≠.uDf:=fun z=>by
  rw [z] at e;subst e;exact Rep.uDf r
 obtain ⟨w,hw,hr⟩:=E.at_ j hne;rw [hv] at hw;cases hw;have r2:=hr hoj;rw [e] at r2;exact ⟨v,hv,q _ H (fun a ob e hn=>⟨e,by rw [lJ ho];exact hn⟩) (E.set ho r2)⟩
theorem ES.mut {H:Hp} {σ:L2.St} {ρ:List D} {i:Nat} {a:Addr} {o:HO} {d:D} (E:ES own H σ ρ) (ho:own i=true) (hi:σ[i]?=some (some (.ref a))) (hm:PJ o=true) (r:Rep All (upd H a o) (.ref a) d) (hin:inner d=true) :
  ES own (upd H a o) σ (ρ.set i d)/\KU own σ H σ (upd H a o):=by
 have hOa:Own own σ a:=⟨i,ho,hi⟩
 obtain ⟨a',oa,ea,_,_,hHa,hma,huq⟩:=E.own i _ ho hi;cases ea;have k:KU own σ H σ (upd H a o):=fun b ob e n=>⟨by rw [aX (fun z=>by subst z;exact n hOa)];exact e,n⟩
 have hl:i<ρ.length:=by rw [<-E.len];exact (List.getElem?_eq_some_iff.mp hi).1
 refine ⟨⟨by simp [E.len],fun j hj=>?_,fun j w hj hw=>?_⟩,k⟩
 ·rw [fY] at hj ⊢;by_cases h:i=j/\i<ρ.length
  ·obtain ⟨rfl,_⟩:=h;exact ⟨_,hi,fun z=>by rw [ho] at z;cases z⟩
  ·rw [if_neg h] at hj ⊢;obtain ⟨w,h1,h2⟩:=E.at_ j hj;exact ⟨w,h1,fun hj=>k.rep E (h2 hj)⟩
 ·by_cases hij:i=j
  ·subst hij;rw [hi] at hw;cases hw;rw [fY,if_pos ⟨rfl,hl⟩];exact ⟨a,o,rfl,r,hin,aJ,hm,huq⟩
  ·rw [fY,if_neg fun z=>hij z.1];obtain ⟨b,ob,h1,h2,h3,h4,h5,h6⟩:=E.own j w hj hw;subst h1;have hba:b≠a:=fun z=>by subst z;exact hij (h6 i ho hi)
   refine ⟨b,ob,rfl,?_,h3,by rw [aX hba];exact h4,h5,h6⟩;refine (h2.aEy (P':=fun c=>c=b) h3 rfl).keep (fun c oc hc hp=>?_) fun _ _=>trivial
   rw [aX]
   ·exact hc
   ·intro z;subst z;rcases hp with hp|hp
    ·exact hba hp.symm
    ·rw [hHa] at hc;cases hc;rw [hma] at hp;cases hp
theorem ES.ownAt {H:Hp} {σ:L2.St} {ρ:List D} {i:Nat} (E:ES own H σ ρ) (ho:own i=true) (hd:ρ.getD i .uDf≠.uDf):∃a o,σ[i]?=some (some (.ref a))/\Rep All H (.ref a) (ρ.getD i .uDf)/\inner (ρ.getD i .uDf)=true/\H a=some o/\PJ o=true:=by
 obtain ⟨v,h1,_⟩:=E.at_ i hd;obtain ⟨a,o,rfl,h2,h3,h4,h5,_⟩:=E.own i v ho h1;exact ⟨a,o,h1,h2,h3,h4,h5⟩
theorem Y9 {H:Hp} {a:Addr} {xs:List D} (r:Rep All H (.ref a) (.lst xs)):∃vs,H a=some (.lst vs)/\bN All H vs xs:=by
 cases r with
 | lst e _ r=>exact ⟨_,e,r⟩
theorem bN.upd {H:Hp} {a:Addr} {vs:List V} {xs:List D} {o:HO} {ob:HO} (r:bN All H vs xs) (hp:D.a_ xs=true) (ha:H a=some ob) (hm:PJ ob=true):bN All (upd H a o) vs xs:=by
 refine (r.bY (P':=fun _=>False) hp).keep (fun c oc hc h=>?_) fun _ h=>h.elim
 rw [aX]
 ·exact hc
 ·intro z;subst z;rcases h with h|h
  ·exact h
  ·rw [ha] at hc;cases hc;rw [hm] at h;cases h
theorem xW {xs ys:List D}:D.a_ (xs++ys)=(D.a_ xs&&D.a_ ys):=by
 induction xs with
 | nil=>simp [D.a_]
 | cons x xs ih=>rw [List.cons_append,D.a_,D.a_,ih,Bool.and_assoc]
theorem xX {i:Nat} {x:Str} {p1 apos cpos:Pos} (ho:own i=true) (hN:X.N[i]?=some x) (hv:Vis X.env.scope x) (he:PE X e (gE fe re)) (hd:(x==("__debug__" : Str))=false:=by decide) (hcd:(x==("__classdict__" : Str))=false:=by decide)
  (hbase:attributeBase (.Name x p1) "append" X.env (eval (.Name x p1) X.env)=eval (.Name x p1) X.env:=by rfl)
  (hs1:starEach [e] X.env=(false,eval e X.env)::starEach [] X.env:=by rfl)
  (hfew:((backTo cpos (starEach [e] X.env)).all (fun x=>!x.1)&&(backToKw cpos (keywordEach [] X.env)).all (fun x=>x.1.isSome)
   && decide (([e]:List Expr).length+([]:List Keyword).length+(if ([]:List Keyword).isEmpty then 0 else 1)<30))=true:=by rfl)
  (hline:(apos.endLine==cpos.line)=true:=by rfl)
  (hs:swapsWith (.Call (.Attribute (.Name x p1) "append" apos) [e] [] cpos) none pos.line X.env=pure false:=by rfl) :
  PS X (.Expr (.Call (.Attribute (.Name x p1) "append" apos) [e] [] cpos) pos) (tS own (FQ i fe)):=
 PS.imp (MK (Z_ PySem.F.plainAttrs_list PySem.F.slot_list_append PySem.F.type_list_append kY (j6 hN hv hd hcd) (bT he kO hs1) hbase hfew hline hs1 rfl) hs) fun D' σ H ⟨ρ,fl,E,h,q⟩=>by
 obtain ⟨d,h1,h2⟩:=bI h;split at h2
 ·rename_i xs hx;split at h2
  ·rename_i hk;cases h2;rw [Bool.and_eq_true] at hk;obtain ⟨a,o,hσ,r,hin,ha,hm⟩:=E.ownAt ho (by rw [hx];intro z;cases z);rw [hx] at r hin;obtain ⟨vs,hl,rr⟩:=Y9 r;refine ⟨_,hσ,.inl ⟨rfl,vs,.of hl⟩,ρ,d,E.er,h1,fun v H' s rv _=>⟨a,vs,v,rfl,rfl,s _ _ hl,by rw [rr.length];exact Y5 hk.1,?_⟩⟩;have E':=E.same s;have hl':=s _ _ hl;obtain ⟨E2,k2⟩:=E'.mut (o:=.lst (vs++[v])) (d:=.lst (xs++[d])) ho hσ rfl (.lst aJ trivial (((rr.same s).snoc rv).upd (by rw [xW];simp only [Bool.and_eq_true];exact ⟨hin,by simp [D.a_,hk.2]⟩) hl' rfl)) (by show D.a_ (xs++[d])=true;rw [xW];simp only [Bool.and_eq_true];exact ⟨hin,by simp [D.a_,hk.2]⟩);exact q _ _ ((KU.same s).trans k2) E2
  ·cases h2
 ·cases h2
end
end Mi
end
section
namespace L2
open PySem PySem.Spec PyProof.Rows
section
variable {X:Cx} {scope:Scope} {own:List Str}
theorem xY {elt iter tg c:Expr} {wi:TI} {g:TG} {tc:TT} {te:TE} {pos:Pos} (S:cO X.N X.env.scope scope own) (hcalm:X.calm=true) (hi:PI X tg iter wi)
  (hg:∀X',cT X X' scope own->PG X' tg g) (hc:∀X',cT X X' scope own->PT X' c tc) (he:∀X',cT X X' scope own->PE X' elt te)
  (hs:∀x,foldedSetIterable iter X.env x=pure x) {y:Str} {py pos2:Pos} {iy:Nat} (hNn:X.N.Nodup) (hiy:X.N[iy]?=some y) (hxy:Loc X.env.scope y) (hfy:X.fn y=true\/X.env.scope.names.lookup y=some .local) (hsw:swapsWith (.ListComp elt [⟨tg,iter,[c],0⟩] scope pos) (some (.Name y py)) pos2.line X.env=pure true):PS X (.Assign [.Name y py] (.ListComp elt [⟨tg,iter,[c],0⟩] scope pos) pos2) (aBm (PL wi g tc te own.length) (oW iy)):=by
 intro pins s σ H D I h;rw [exec_Assign_Name_used _ _ _ _ hsw];have cells:∀y∈scope.names,y.2=.free->∃c,X.env.cells.lookup y.1=some c:=fun y hy hk=>I.ok.has y.1 (S.free y hy hk)
 refine wpAny_bind (wpAny_standAt (wpAny_bind ?_));show wpAny _ X.A (do let _ <- comprehension (.ListComp elt [⟨tg,iter,[c],0⟩] scope pos) scope X.env _ (newList []) false (eval iter X.env) (some (assign (.Name y py) X.env))) _ _ s;refine wpAny_bind (wpAny_mono (wpAny_comprehension_free (use:=some (assign (.Name y py) X.env)) (Q:=fun _ s'=>SP X pins D .next s') rfl hs (mK cells) S.kind S.names (thn (hi pins s σ H _ I h) fun xv s1 h1=>thn h1 fun itv s2 h2=>?_)) (fun _ s' hq=>wpAny_pure (wpAny_pure hq)) fun _ _ e=>e);obtain ⟨it,fp,tn,J,H2,e,I2,T,st2,f2,hW⟩:=h2;subst e;have hD:H2 s2.heap.objs.size=none:=I2.hok.fresh (Nat.le_refl _);obtain ⟨W,⟨n0,w0⟩,turn⟩:=hW _ hD;have hfx:∀b∈fp,b<s2.heap.objs.size:=fun b hb=>by
  obtain ⟨o,ho,_⟩:=T.obj 0 _ st2 b hb;exact Heap.lt_size ho
 refine wpAny_newObj_type (wpAny_newFunctionEnv S.nocell (by intro y hy;simp at hy) (fun h₁ hns₁ hsb₁=>?_) S.kind);dsimp only at hns₁ hsb₁ ⊢;have hC:(s2.heap.push {cls:=.type "list",dict:=none,data:=.seq ([]:List Value).toArray}).objs.size=s2.heap.objs.size+1:=Heap.size_push ..;have hne:s2.heap.objs.size≠s2.heap.objs.size+1:=Nat.ne_of_lt (Nat.lt_succ_self _);rw [hC] at hns₁ hsb₁ ⊢;have old:∀b o,s2.heap.get? b=some o->h₁.get? b=some o:=fun b o e=>hsb₁.extBut b o (Nat.ne_of_lt (Nat.lt_succ_of_lt (Heap.lt_size e))) (Heap.get?_push_of_some _ (Heap.get?_push_of_some _ e))
 have hacc:h₁.get? s2.heap.objs.size=some {cls:=.type "list",data:=.seq #[]}:=hsb₁.extBut _ _ hne (Heap.get?_push_of_some _ (Heap.get?_push_size _ rfl));have I4:=Inv.comp (t1:=s2.toks+([]:List (Str×Value)).length) I2 S f2 hfx hns₁ old hacc;generalize hX':rG X scope (clF X.env scope.names []) (s2.heap.objs.size+1) own s2 H2 fp=X' at I4;have cc:cT X X' scope own:=by rw [<-hX'];exact n_
 have eenv:X'.env=compEnvC scope (clF X.env scope.names []) (s2.heap.objs.size+1) X.env:=by rw [<-hX'];rfl
 have eA:X'.A=X.A:=cc.A;have ep:X'.prog=X.prog:=cc.prog;have ew:X'.w=X.w:=cc.w;have efs:X'.fs=frs X.stack:=by rw [<-hX'];rfl
 have eex:X'.ex=fp:=by rw [<-hX'];rfl
 have es0:X'.s₀=s2:=by rw [<-hX'];rfl
 have eH0:X'.H₀=H2:=by rw [<-hX'];rfl
 have epn:X'.pn=[]:=by rw [<-hX'];rfl
 have eK:X'.K=X.K:=cc.K;have exe:=cc.xe;have ecalm:X'.calm=true:=cc.calm.trans hcalm
 -- the iterator's records within the block
 have fpok:∀{H':Hp},(∀b∈fp,H' b=none)->∀b∈fp,MN X' [] H' b:=fun {H'} hn b hb=>by
  obtain ⟨_,f1,f3,_,f5,_⟩:=f2 b hb;refine ⟨hn b hb,?_,?_,.inl (by rw [eex];exact hb),fun x c e=>?_,fun p hp=>by rw [epn] at hp;simp at hp⟩
  ·rw [eenv];exact Nat.ne_of_lt (Nat.lt_succ_of_lt (hfx b hb))
  ·rw [efs];intro z;rcases List.mem_cons.mp (I2.qM b z) with z|z
   ·exact f1 z
   ·exact f3 z
  ·rw [eenv] at e;exact f5 x c (o7 cells (fun _ _ h=>by simp at h) e)
 have st4:tn 0 h₁:=T.keep _ _ _ st2 fun b _ o e=>old b o e
 have fr4:∀b∈fp,(upd H2 s2.heap.objs.size (.lst [])) b=none:=fun b hb=>by rw [aX (Nat.ne_of_lt (hfx b hb))];exact (f2 b hb).1
 have loop:∀s4:Shared,s4={s2 with heap:=h₁,toks:=s2.toks+([]:List (Str×Value)).length}->
   codeAny (model X.prog X.w) X.A (.compLoop (.ListComp elt [⟨tg,iter,[c],0⟩] scope pos) 0 (.ref it) (.ref s2.heap.objs.size) X'.env)
    (compPost (model X.prog X.w) X.A X.xe (some (assign (.Name y py) X.env)) (fun _ s'=>SP X pins D .next s') (.ref s2.heap.objs.size) (s2.heap.objs.size+1)) s4:=by
  rintro s4 rfl;refine PySem.W.kct_loop (fun n s'=>∃i ys H',Inv X' [] (σ++List.replicate own.length none) H' s'/\tn i s'.heap/\(∀b∈fp,H' b=none)/\W i n ys H') ?_ n0 ⟨0,[],_,I4,st4,fr4,w0⟩;rintro n s5 ⟨i,ys,H5,I5,st5,fr5,w5⟩;obtain ⟨hacc5,tr⟩:=turn i n ys H5 w5;rcases tr with ⟨stop,q⟩|⟨go,hlen,step⟩
  ·have done:=T.done X' ep ew eK ecalm i [] s5 _ H5 (notedBy (model X.prog X.w) X.A X'.env fun e s'=>compPost (model X.prog X.w) X.A X.xe (some (assign (.Name y py) X.env)) (fun _ s'=>SP X pins D .next s') (.ref s2.heap.objs.size) (s2.heap.objs.size+1) (.error e) s') I5 (fpok fr5) st5 stop;rw [eA] at done;refine thn done fun r s6 ⟨hr,I6⟩=>?_
   subst hr;obtain ⟨m6,hn6,_⟩:=id I6.loc;rw [eenv] at hn6;have u6:Un (frs X.stack) fp H2 H5 s2.heap s6.heap:=by
    have:=I6.base;rw [efs,eex,eH0,es0] at this;exact this
   have hCn:H5 (s2.heap.objs.size+1)=none:=by
    have:=I6.free;rw [eenv] at this;exact this
   have hok6:HOk X.prog X.w H5 s6.heap:=by
    have:=I6.hok;rw [ep,ew] at this;exact this
   have hos:s6.os=s2.os:=by have:=I6.os;rw [es0] at this;exact this
   obtain ⟨hh,gg,dd,tt,oo⟩:=s6;obtain rfl:oo=s2.os:=hos;have fin:=Inv.call (h':=hh) (g':=gg) (d':=dd) (t':=tt) (ch:=fp) I2 u6 hok6 I6.bare fun b hb=>⟨(f2 b hb).2.2.2.1,(f2 b hb).2.1,(f2 b hb).2.2.2.2.1,(f2 b hb).2.2.2.2.2⟩
   obtain ⟨oC,esC,epC,hoC,hdC,_⟩:=id hn6;have neL:s2.heap.objs.size+1≠X.env.locals:=Nat.ne_of_gt (Nat.lt_succ_of_lt I2.lt);have finP:=fin.uK (pins':=pins++[(s2.heap.objs.size+1,oC)]) fun p hp=>(List.mem_append.mp hp).elim (fun z=>fin.pin p (List.mem_append_right _ z)) fun z=>by
    have z':p=(s2.heap.objs.size+1,oC):=by simpa using z
    subst z';exact ⟨hoC,hCn,neL,I2.aE8 (Nat.le_succ _),fun v z=>by rw [hdC] at z;cases z⟩
   have hpg:=bK (pos:=py) hNn hiy hxy hfy _ _ σ H5 (.ref s2.heap.objs.size) (.ref s2.heap.objs.size) D.nx finP rfl q;refine thn hpg fun _ s7 ⟨σ7,H7,I7,q7⟩=>?_
   obtain ⟨g7,hC7,_⟩:=I7.pin (s2.heap.objs.size+1,oC) (List.mem_append_right _ (List.mem_append_right _ (by simp)));refine ⟨m6,hn6.at' fun o e=>?_,fun h' sb=>⟨σ7,H7,?_,q7⟩⟩
   ·rw [hoC] at e;cases e;exact g7
   ·refine Inv.turned (t':=s7.toks) I7.gU (fun b o hb e=>sb.extBut b o hb e) hC7 neL (.inr (Nat.le_trans I2.sz (Nat.le_succ _))) (fun x c e z=>?_) fun p hp z=>?_
    ·obtain ⟨v,qq⟩:=I2.cell x c e;exact absurd (Nat.lt_succ_of_lt qq.lt) (by rw [z];exact Nat.lt_irrefl _)
    ·exact absurd (Nat.lt_succ_of_lt (Heap.lt_size (I2.pin p hp).1)) (by rw [z];exact Nat.lt_irrefl _)
  ·have item:=T.item X' ep ew eK ecalm i [] s5 _ H5 (notedBy (model X.prog X.w) X.A X'.env fun e s'=>compPost (model X.prog X.w) X.A X.xe (some (assign (.Name y py) X.env)) (fun _ s'=>SP X pins D .next s') (.ref s2.heap.objs.size) (s2.heap.objs.size+1) (.error e) s') I5 (fpok fr5) st5 go;rw [eA] at item;refine thn item fun r s6 ⟨u,hr,h6⟩=>?_
   subst hr;refine thn h6 fun _ s7 ⟨x,H7,I7,r7,y7,st7,fr7⟩=>?_
   have I7':=I7.pinned (fpok fr7) (T.obj _ _ st7);have hg':=hg X' cc _ s7 _ H7 x u _ I7' r7 (step x H7 y7);rw [ep,ew,eA,exe] at hg';refine wpAny_mono hg' (fun _ s8 ⟨σ8,H8,I8,ext8,q8⟩=>?_) fun _ _ z=>False.elim z
   have back:∀{ys':List V} {H9:Hp} {s9:Shared} {σ9:St},Ext (σ++List.replicate own.length none) σ9->Inv X' ([]++pK fp s7.heap) σ9 H9 s9->(∃n',n'<n/\W (i+1) n' ys' H9)->∃m,m<n/\∃i ys H',Inv X' [] (σ++List.replicate own.length none) H' s9/\tn i s9.heap/\(∀b∈fp,H' b=none)/\W i m ys H':=by
    rintro ys' H9 s9 σ9 ex9 I9 ⟨n',hn',w9⟩;refine ⟨n',hn',i+1,ys',H9,(I9.weak ex9.1.symm ex9.2).gU,T.keep _ _ _ st7 fun b hb o e=>(I9.pin (b,o) (List.mem_append_right _ (List.mem_append_right _ (dF hb e)))).1,fun b hb=>?_,w9⟩;obtain ⟨o,e,d⟩:=T.obj _ _ st7 b hb;exact (I9.pin (b,o) (List.mem_append_right _ (List.mem_append_right _ (dF hb e)))).2.1
   have hc':=hc X' cc _ s8 _ H8 _ I8 q8;rw [ep,ew,eA,exe] at hc';refine wpAny_mono hc' (fun b s9 ⟨H9,I9,q9⟩=>?_) fun _ _ z=>False.elim z
   cases b with
   | false=>
    simp only [Bool.false_eq_true,if_false] at q9 ⊢;exact back ext8 I9 q9
   | true=>
    simp only [if_true] at q9 ⊢;have he':=he X' cc _ s9 _ H9 _ I9 q9;rw [ep,ew,eA,exe] at he';refine wpAny_mono he' (fun yv s10 ⟨y,H10,I10,r10,p10,q10⟩=>?_) fun _ _ z=>False.elim z
    have hm:=kY (X:=X') _ s10 σ8 H10 (.ref s2.heap.objs.size) [y] (.ref s2.heap.objs.size) [yv] (fun _ H11=>∃n',n'<n/\W (i+1) n' (ys++[y]) H11) I10 rfl (.cons r10 .nil) ⟨s2.heap.objs.size,ys,y,rfl,rfl,p10,hlen,q10⟩;rw [ep,ew,eA,exe] at hm;exact wpAny_mono hm (fun _ s11 ⟨_,H11,I11,_,q11⟩=>back ext8 I11 q11) fun _ _ z=>False.elim z
 have l4:=loop _ rfl;rw [eenv] at l4;exact codeAny_compStart_list l4 (T.self X.A 0 _ _ _ st4 l4)
theorem WQ {elt iter tg:Expr} {wi:TI} {g:TG} {te:TE} {pos:Pos} (S:cO X.N X.env.scope scope own) (hcalm:X.calm=true) (hi:PI X tg iter wi)
  (hg:∀X',cT X X' scope own->PG X' tg g) (he:∀X',cT X X' scope own->PE X' elt te)
  (hs:∀x,foldedSetIterable iter X.env x=pure x) {y:Str} {py pos2:Pos} {iy:Nat} (hNn:X.N.Nodup) (hiy:X.N[iy]?=some y) (hxy:Loc X.env.scope y) (hfy:X.fn y=true\/X.env.scope.names.lookup y=some .local) (hsw:swapsWith (.ListComp elt [⟨tg,iter,[],0⟩] scope pos) (some (.Name y py)) pos2.line X.env=pure true):PS X (.Assign [.Name y py] (.ListComp elt [⟨tg,iter,[],0⟩] scope pos) pos2) (aBm (PL wi g (fun _ H Q=>Q true H) te own.length) (oW iy)):=by
 intro pins s σ H D I h;rw [exec_Assign_Name_used _ _ _ _ hsw];have cells:∀y∈scope.names,y.2=.free->∃c,X.env.cells.lookup y.1=some c:=fun y hy hk=>I.ok.has y.1 (S.free y hy hk)
 refine wpAny_bind (wpAny_standAt (wpAny_bind ?_));show wpAny _ X.A (do let _ <- comprehension (.ListComp elt [⟨tg,iter,[],0⟩] scope pos) scope X.env _ (newList []) false (eval iter X.env) (some (assign (.Name y py) X.env))) _ _ s;refine wpAny_bind (wpAny_mono (wpAny_comprehension_free (use:=some (assign (.Name y py) X.env)) (Q:=fun _ s'=>SP X pins D .next s') rfl hs (mK cells) S.kind S.names (thn (hi pins s σ H _ I h) fun xv s1 h1=>thn h1 fun itv s2 h2=>?_)) (fun _ s' hq=>wpAny_pure (wpAny_pure hq)) fun _ _ e=>e);obtain ⟨it,fp,tn,J,H2,e,I2,T,st2,f2,hW⟩:=h2;subst e;have hD:H2 s2.heap.objs.size=none:=I2.hok.fresh (Nat.le_refl _);obtain ⟨W,⟨n0,w0⟩,turn⟩:=hW _ hD;have hfx:∀b∈fp,b<s2.heap.objs.size:=fun b hb=>by
  obtain ⟨o,ho,_⟩:=T.obj 0 _ st2 b hb;exact Heap.lt_size ho
 refine wpAny_newObj_type (wpAny_newFunctionEnv S.nocell (by intro y hy;simp at hy) (fun h₁ hns₁ hsb₁=>?_) S.kind);dsimp only at hns₁ hsb₁ ⊢;have hC:(s2.heap.push {cls:=.type "list",dict:=none,data:=.seq ([]:List Value).toArray}).objs.size=s2.heap.objs.size+1:=Heap.size_push ..;have hne:s2.heap.objs.size≠s2.heap.objs.size+1:=Nat.ne_of_lt (Nat.lt_succ_self _);rw [hC] at hns₁ hsb₁ ⊢;have old:∀b o,s2.heap.get? b=some o->h₁.get? b=some o:=fun b o e=>hsb₁.extBut b o (Nat.ne_of_lt (Nat.lt_succ_of_lt (Heap.lt_size e))) (Heap.get?_push_of_some _ (Heap.get?_push_of_some _ e))
 have hacc:h₁.get? s2.heap.objs.size=some {cls:=.type "list",data:=.seq #[]}:=hsb₁.extBut _ _ hne (Heap.get?_push_of_some _ (Heap.get?_push_size _ rfl));have I4:=Inv.comp (t1:=s2.toks+([]:List (Str×Value)).length) I2 S f2 hfx hns₁ old hacc;generalize hX':rG X scope (clF X.env scope.names []) (s2.heap.objs.size+1) own s2 H2 fp=X' at I4;have cc:cT X X' scope own:=by rw [<-hX'];exact n_
 have eenv:X'.env=compEnvC scope (clF X.env scope.names []) (s2.heap.objs.size+1) X.env:=by rw [<-hX'];rfl
 have eA:X'.A=X.A:=cc.A;have ep:X'.prog=X.prog:=cc.prog;have ew:X'.w=X.w:=cc.w;have efs:X'.fs=frs X.stack:=by rw [<-hX'];rfl
 have eex:X'.ex=fp:=by rw [<-hX'];rfl
 have es0:X'.s₀=s2:=by rw [<-hX'];rfl
 have eH0:X'.H₀=H2:=by rw [<-hX'];rfl
 have epn:X'.pn=[]:=by rw [<-hX'];rfl
 have eK:X'.K=X.K:=cc.K;have exe:=cc.xe;have ecalm:X'.calm=true:=cc.calm.trans hcalm
 -- the iterator's records within the block
 have fpok:∀{H':Hp},(∀b∈fp,H' b=none)->∀b∈fp,MN X' [] H' b:=fun {H'} hn b hb=>by
  obtain ⟨_,f1,f3,_,f5,_⟩:=f2 b hb;refine ⟨hn b hb,?_,?_,.inl (by rw [eex];exact hb),fun x c e=>?_,fun p hp=>by rw [epn] at hp;simp at hp⟩
  ·rw [eenv];exact Nat.ne_of_lt (Nat.lt_succ_of_lt (hfx b hb))
  ·rw [efs];intro z;rcases List.mem_cons.mp (I2.qM b z) with z|z
   ·exact f1 z
   ·exact f3 z
  ·rw [eenv] at e;exact f5 x c (o7 cells (fun _ _ h=>by simp at h) e)
 have st4:tn 0 h₁:=T.keep _ _ _ st2 fun b _ o e=>old b o e
 have fr4:∀b∈fp,(upd H2 s2.heap.objs.size (.lst [])) b=none:=fun b hb=>by rw [aX (Nat.ne_of_lt (hfx b hb))];exact (f2 b hb).1
 have loop:∀s4:Shared,s4={s2 with heap:=h₁,toks:=s2.toks+([]:List (Str×Value)).length}->
   codeAny (model X.prog X.w) X.A (.compLoop (.ListComp elt [⟨tg,iter,[],0⟩] scope pos) 0 (.ref it) (.ref s2.heap.objs.size) X'.env)
    (compPost (model X.prog X.w) X.A X.xe (some (assign (.Name y py) X.env)) (fun _ s'=>SP X pins D .next s') (.ref s2.heap.objs.size) (s2.heap.objs.size+1)) s4:=by
  rintro s4 rfl;refine PySem.W.kcp_loop (fun n s'=>∃i ys H',Inv X' [] (σ++List.replicate own.length none) H' s'/\tn i s'.heap/\(∀b∈fp,H' b=none)/\W i n ys H') ?_ n0 ⟨0,[],_,I4,st4,fr4,w0⟩;rintro n s5 ⟨i,ys,H5,I5,st5,fr5,w5⟩;obtain ⟨hacc5,tr⟩:=turn i n ys H5 w5;rcases tr with ⟨stop,q⟩|⟨go,hlen,step⟩
  ·have done:=T.done X' ep ew eK ecalm i [] s5 _ H5 (notedBy (model X.prog X.w) X.A X'.env fun e s'=>compPost (model X.prog X.w) X.A X.xe (some (assign (.Name y py) X.env)) (fun _ s'=>SP X pins D .next s') (.ref s2.heap.objs.size) (s2.heap.objs.size+1) (.error e) s') I5 (fpok fr5) st5 stop;rw [eA] at done;refine thn done fun r s6 ⟨hr,I6⟩=>?_
   subst hr;obtain ⟨m6,hn6,_⟩:=id I6.loc;rw [eenv] at hn6;have u6:Un (frs X.stack) fp H2 H5 s2.heap s6.heap:=by
    have:=I6.base;rw [efs,eex,eH0,es0] at this;exact this
   have hCn:H5 (s2.heap.objs.size+1)=none:=by
    have:=I6.free;rw [eenv] at this;exact this
   have hok6:HOk X.prog X.w H5 s6.heap:=by
    have:=I6.hok;rw [ep,ew] at this;exact this
   have hos:s6.os=s2.os:=by have:=I6.os;rw [es0] at this;exact this
   obtain ⟨hh,gg,dd,tt,oo⟩:=s6;obtain rfl:oo=s2.os:=hos;have fin:=Inv.call (h':=hh) (g':=gg) (d':=dd) (t':=tt) (ch:=fp) I2 u6 hok6 I6.bare fun b hb=>⟨(f2 b hb).2.2.2.1,(f2 b hb).2.1,(f2 b hb).2.2.2.2.1,(f2 b hb).2.2.2.2.2⟩
   obtain ⟨oC,esC,epC,hoC,hdC,_⟩:=id hn6;have neL:s2.heap.objs.size+1≠X.env.locals:=Nat.ne_of_gt (Nat.lt_succ_of_lt I2.lt);have finP:=fin.uK (pins':=pins++[(s2.heap.objs.size+1,oC)]) fun p hp=>(List.mem_append.mp hp).elim (fun z=>fin.pin p (List.mem_append_right _ z)) fun z=>by
    have z':p=(s2.heap.objs.size+1,oC):=by simpa using z
    subst z';exact ⟨hoC,hCn,neL,I2.aE8 (Nat.le_succ _),fun v z=>by rw [hdC] at z;cases z⟩
   have hpg:=bK (pos:=py) hNn hiy hxy hfy _ _ σ H5 (.ref s2.heap.objs.size) (.ref s2.heap.objs.size) D.nx finP rfl q;refine thn hpg fun _ s7 ⟨σ7,H7,I7,q7⟩=>?_
   obtain ⟨g7,hC7,_⟩:=I7.pin (s2.heap.objs.size+1,oC) (List.mem_append_right _ (List.mem_append_right _ (by simp)));refine ⟨m6,hn6.at' fun o e=>?_,fun h' sb=>⟨σ7,H7,?_,q7⟩⟩
   ·rw [hoC] at e;cases e;exact g7
   ·refine Inv.turned (t':=s7.toks) I7.gU (fun b o hb e=>sb.extBut b o hb e) hC7 neL (.inr (Nat.le_trans I2.sz (Nat.le_succ _))) (fun x c e z=>?_) fun p hp z=>?_
    ·obtain ⟨v,qq⟩:=I2.cell x c e;exact absurd (Nat.lt_succ_of_lt qq.lt) (by rw [z];exact Nat.lt_irrefl _)
    ·exact absurd (Nat.lt_succ_of_lt (Heap.lt_size (I2.pin p hp).1)) (by rw [z];exact Nat.lt_irrefl _)
  ·have item:=T.item X' ep ew eK ecalm i [] s5 _ H5 (notedBy (model X.prog X.w) X.A X'.env fun e s'=>compPost (model X.prog X.w) X.A X.xe (some (assign (.Name y py) X.env)) (fun _ s'=>SP X pins D .next s') (.ref s2.heap.objs.size) (s2.heap.objs.size+1) (.error e) s') I5 (fpok fr5) st5 go;rw [eA] at item;refine thn item fun r s6 ⟨u,hr,h6⟩=>?_
   subst hr;refine thn h6 fun _ s7 ⟨x,H7,I7,r7,y7,st7,fr7⟩=>?_
   have I7':=I7.pinned (fpok fr7) (T.obj _ _ st7);have hg':=hg X' cc _ s7 _ H7 x u _ I7' r7 (step x H7 y7);rw [ep,ew,eA,exe] at hg';refine wpAny_mono hg' (fun _ s8 ⟨σ8,H8,I8,ext8,q8⟩=>?_) fun _ _ z=>False.elim z
   have back:∀{ys':List V} {H9:Hp} {s9:Shared} {σ9:St},Ext (σ++List.replicate own.length none) σ9->Inv X' ([]++pK fp s7.heap) σ9 H9 s9->(∃n',n'<n/\W (i+1) n' ys' H9)->∃m,m<n/\∃i ys H',Inv X' [] (σ++List.replicate own.length none) H' s9/\tn i s9.heap/\(∀b∈fp,H' b=none)/\W i m ys H':=by
    rintro ys' H9 s9 σ9 ex9 I9 ⟨n',hn',w9⟩;refine ⟨n',hn',i+1,ys',H9,(I9.weak ex9.1.symm ex9.2).gU,T.keep _ _ _ st7 fun b hb o e=>(I9.pin (b,o) (List.mem_append_right _ (List.mem_append_right _ (dF hb e)))).1,fun b hb=>?_,w9⟩;obtain ⟨o,e,d⟩:=T.obj _ _ st7 b hb;exact (I9.pin (b,o) (List.mem_append_right _ (List.mem_append_right _ (dF hb e)))).2.1
   simp only [if_true] at q8;have he':=he X' cc _ s8 _ H8 _ I8 q8;rw [ep,ew,eA,exe] at he';refine wpAny_mono he' (fun yv s10 ⟨y,H10,I10,r10,p10,q10⟩=>?_) fun _ _ z=>False.elim z
   have hm:=kY (X:=X') _ s10 σ8 H10 (.ref s2.heap.objs.size) [y] (.ref s2.heap.objs.size) [yv] (fun _ H11=>∃n',n'<n/\W (i+1) n' (ys++[y]) H11) I10 rfl (.cons r10 .nil) ⟨s2.heap.objs.size,ys,y,rfl,rfl,p10,hlen,q10⟩;rw [ep,ew,eA,exe] at hm;exact wpAny_mono hm (fun _ s11 ⟨_,H11,I11,_,q11⟩=>back ext8 I11 q11) fun _ _ z=>False.elim z
 have l4:=loop _ rfl;rw [eenv] at l4;exact codeAny_compStart_list l4 (T.self X.A 0 _ _ _ st4 l4)
end
end L2
end
section
namespace Mi
open PySem L2 PySem.SeqAt PySem.Spec PyProof.Rows
variable [KFrag]
variable {own:Nat->Bool}
section
variable {X:Cx} {a b c e:Expr} {pos pos':Pos} {fa fb fc fe:FE} {ra rb rc re:Bool} {ga gb gc:FT} {f g:FS} {st:Stmt} {rest s1 s2:List Stmt}
variable {scope:Scope} {ownN:List Str} {elt iter tg:Expr} {it:FI} {t:D->Res (List D)} {gt:TG}
theorem aAm {n m:Nat} {y:Str} {py pos2:Pos} {iy:Nat} {o:Bool} (S:cO X.N X.env.scope scope ownN) (hn:X.N.length=n) (hm:ownN.length=m) (hcalm:X.calm=true) (hi:PI X tg iter (gI X.K it)) (ht:TgC gt t n m) (hg:∀X',cT X X' scope ownN->PG X' tg gt) (he:∀X',cT X X' scope ownN->PE X' elt (gE fe re))
  (hs:∀x,foldedSetIterable iter X.env x=pure x) (ho:own iy=o) (hNn:X.N.Nodup) (hiy:X.N[iy]?=some y) (hxy:Loc X.env.scope y) (hfy:X.fn y=true\/X.env.scope.names.lookup y=some .local) (hsw:swapsWith (.ListComp elt [⟨tg,iter,[],0⟩] scope pos) (some (.Name y py)) pos2.line X.env=pure true) :
  PS X (.Assign [.Name y py] (.ListComp elt [⟨tg,iter,[],0⟩] scope pos) pos2) (tS own (cA o iy (eU n it t lD fe re) true)):=by
 intro pins s σ H D I h;subst hm;refine WQ S hcalm hi hg he hs hNn hiy hxy hfy hsw pins s σ H D I ?_;exact oH ht (fun σ H Q h=>by obtain ⟨ρ,b,E,h,q⟩:=h;cases h;exact q H (cJ.refl H)) (I.len.trans hn) (CN ho h)
theorem QQ {n m:Nat} {y:Str} {py pos2:Pos} {iy:Nat} {o:Bool} (S:cO X.N X.env.scope scope ownN) (hn:X.N.length=n) (hm:ownN.length=m) (hcalm:X.calm=true) (hi:PI X tg iter (gI X.K it)) (ht:TgC gt t n m) (hg:∀X',cT X X' scope ownN->PG X' tg gt) (hc:∀X',cT X X' scope ownN->PT X' c (gT gc)) (he:∀X',cT X X' scope ownN->PE X' elt (gE fe re))
  (hs:∀x,foldedSetIterable iter X.env x=pure x) (ho:own iy=o) (hNn:X.N.Nodup) (hiy:X.N[iy]?=some y) (hxy:Loc X.env.scope y) (hfy:X.fn y=true\/X.env.scope.names.lookup y=some .local) (hsw:swapsWith (.ListComp elt [⟨tg,iter,[c],0⟩] scope pos) (some (.Name y py)) pos2.line X.env=pure true) :
  PS X (.Assign [.Name y py] (.ListComp elt [⟨tg,iter,[c],0⟩] scope pos) pos2) (tS own (cA o iy (eU n it t gc fe re) true)):=by
 intro pins s σ H D I h;subst hm;refine xY S hcalm hi hg hc he hs hNn hiy hxy hfy hsw pins s σ H D I ?_;exact oH ht (fun σ H Q h=>h) (I.len.trans hn) (CN ho h)
noncomputable def aAn:V->List V->Hp->VK->Prop:=fun x vs H Q=>∃l xs j y,x=.ref l/\vs=[.int j,y]/\H l=some (.lst xs)/\0<=j/\j<=xs.length/\xs.length<sizeLine/\Q .non (upd H l (.lst (xs.take j.toNat++y::xs.drop j.toNat)))
theorem QR:MtR X "list.insert" aAn:=by
 intro pins s σ H x vs v us Q I rx rv h;obtain ⟨l,xs,j,y,rfl,rfl,hH,h0,h1,hz,q⟩:=h;cases rx;cases rv with
 | cons rj rv=>
  cases rv with
  | cons ry rv=>
   cases rv;obtain ⟨tt,rfl⟩:=rj;obtain ⟨z,its,n,r,hl,e⟩:=I.aFl hH;have hs:sizeLine=16777216:=sizeLine_eq;refine call_meets F.slot_list_insert ⟨_,e,rfl⟩ F.entry_list_insert (F.args_list_insert_3 _ _ _) (AutoSeq1.list_insert_list_int_val_1 l its.toArray n j tt _ (by
    rw [show Builtin.List.listFitsIndex j=true from by unfold Builtin.List.listFitsIndex;simp only [Bool.and_eq_true,decide_eq_true_eq];lia];decide) (by rw [List.size_toArray];lia)) ⟨e,?_⟩
   refine ⟨.non,_,I.aFk (its':=its.take j.toNat++_::its.drop j.toNat) hH e ?_ ((r.take j.toNat).append (.cons ry (r.drop j.toNat))) ?_,rfl,q⟩
   ·have hj:¬j<0:=by lia
    have hm:min j.toNat its.length=j.toNat:=by lia
    simp only [hj,if_false,List.size_toArray,hm];apply Array.toList_inj.mp;simp [List.extract_eq_drop_take]
    first|rfl|(rw [List.take_of_length_le];simp)
   ·rw [List.length_append,List.length_cons,List.length_take,List.length_drop];lia
theorem aD4 {i:Nat} {x:Str} {p1 apos cpos:Pos} (ho:own i=true) (hN:X.N[i]?=some x) (hv:Vis X.env.scope x) (ha:PE X a (gE fa ra)) (he:PE X e (gE fe re)) (hd:(x==("__debug__" : Str))=false:=by decide) (hcd:(x==("__classdict__" : Str))=false:=by decide)
  (hbase:attributeBase (.Name x p1) "insert" X.env (eval (.Name x p1) X.env)=eval (.Name x p1) X.env:=by rfl)
  (hs0:starEach [a,e] X.env=(false,eval a X.env)::starEach [e] X.env:=by rfl) (hs1:starEach [e] X.env=(false,eval e X.env)::starEach [] X.env:=by rfl)
  (hfew:((backTo cpos (starEach [a,e] X.env)).all (fun x=>!x.1)&&(backToKw cpos (keywordEach [] X.env)).all (fun x=>x.1.isSome)
   && decide (([a,e]:List Expr).length+([]:List Keyword).length+(if ([]:List Keyword).isEmpty then 0 else 1)<30))=true:=by rfl)
  (hline:(apos.endLine==cpos.line)=true:=by rfl) (hpl:(backTo cpos (starEach [e] X.env)).any (·.1)=false:=by rfl)
  (hs:swapsWith (.Call (.Attribute (.Name x p1) "insert" apos) [a,e] [] cpos) none pos.line X.env=pure false:=by rfl) :
  PS X (.Expr (.Call (.Attribute (.Name x p1) "insert" apos) [a,e] [] cpos) pos) (tS own (aCp i fa fe)):=
 PS.imp (MK (Z_ PySem.F.plainAttrs_list PySem.F.slot_list_insert PySem.F.type_list_insert QR (j6 hN hv hd hcd) (bT ha (bT he kO hs1) hs0) hbase hfew hline hs0 hpl) hs) fun D' σ H ⟨ρ,fl,E,h,q⟩=>by
 obtain ⟨j,h0,h⟩:=bI h;obtain ⟨d,h1,h2⟩:=bI h;split at h2
 ·rename_i xs jj hx;split at h2
  ·rename_i hk;cases h2;simp only [Bool.and_eq_true,decide_eq_true_eq] at hk;obtain ⟨⟨⟨hk1,hk2⟩,hk3⟩,hk4⟩:=hk;obtain ⟨a,o,hσ,r,hin,ha,hm⟩:=E.ownAt ho (by rw [hx];intro z;cases z);rw [hx] at r hin;obtain ⟨vs,hl,rr⟩:=Y9 r;refine ⟨_,hσ,.inl ⟨rfl,vs,.of hl⟩,ρ,_,E.er,h0,fun v0 H0 s0 rv0 _=>⟨ρ,d,E.er.same s0,h1,fun v H' s rv _=>?_⟩⟩;cases rv0;have s':=s0.trans s;refine ⟨a,vs,jj,v,rfl,rfl,s' _ _ hl,hk3,by rw [rr.length];exact hk4,by rw [rr.length];exact Nat.lt_of_lt_of_le hk1 (by rw [sizeLine_eq];decide),?_⟩;have E':=E.same s';have hl':=s' _ _ hl;have hin':D.a_ xs=true:=hin;have hp:D.a_ (xs.take jj.toNat++d::xs.drop jj.toNat)=true:=oA.mpr fun y hy=>by
    rcases List.mem_append.mp hy with hy|hy
    ·exact oA.mp hin' y (List.mem_of_mem_take hy)
    ·rcases List.mem_cons.mp hy with rfl|hy
     ·exact hk2
     ·exact oA.mp hin' y (List.mem_of_mem_drop hy)
   have rr':=rr.same s';obtain ⟨E2,k2⟩:=E'.mut (o:=.lst (vs.take jj.toNat++v::vs.drop jj.toNat)) (d:=.lst (xs.take jj.toNat++d::xs.drop jj.toNat)) ho hσ rfl (.lst aJ trivial (((rr'.take jj.toNat).append (.cons rv (rr'.drop jj.toNat))).upd hp hl' rfl)) hp;exact q _ _ ((KU.same s').trans k2) E2
  ·cases h2
 ·cases h2
theorem G5 {κ:Type} [DecidableEq κ] {p:κ×V} {r:List (κ×V)} {k:κ} {v:V} (e:p.1=k) (h:k∉r.map (·.1)):putK (p::r) k v=(k,v)::r:=by
 unfold putK;rw [if_pos (by simp [e]),List.map_cons,if_pos e,e]
 congr 1
 have:∀q∈r,(fun kv:κ×V=>if kv.1=k then (kv.1,v) else kv) q=id q:=fun q hq=>by
  have:q.1≠k:=fun z=>h (List.mem_map.mpr ⟨q,hq,z⟩)
  simp [this]
 rw [List.map_congr_left this,List.map_id]
theorem G6 {κ:Type} [DecidableEq κ] {p:κ×V} {r:List (κ×V)} {k:κ} {v:V} (e:¬p.1=k):putK (p::r) k v=p::putK r k v:=by
 unfold putK;rw [List.any_cons,decide_eq_false e,Bool.false_or];split
 ·rw [List.map_cons,if_neg e]
 ·rfl
theorem oJ {κ:Type} [DecidableEq κ] {k:κ} {v:V}:∀{kvs:List (κ×V)},(kvs.map (·.1)).Nodup->((putK kvs k v).map (·.1)).Nodup:=fun {kvs} h=>by
 by_cases hk:qP kvs k=none
 ·exact aA3 v h hk
 ·unfold putK;rw [if_pos (by rw [nW];exact Option.isSome_iff_ne_none.mpr hk),List.map_map];have:(fun x:κ×V=>x.1) ∘ (fun kv:κ×V=>if kv.1=k then (kv.1,v) else kv)=fun x=>x.1:=by
   funext q
   simp only [Function.comp];split <;> rfl
  rw [this];exact h
theorem vM {P:Addr->Prop} {H:Hp} {k:Key} {v:V} {d:D} (rv:Rep P H v d):∀{kvs:List (Key×V)} {ds:List (D×D)},m5 P H kvs ds->(kvs.map (·.1)).Nodup->m5 P H (putK kvs k v) (putD ds (kD k) d)
 | _,_,.nil,_=>.cons rv .nil
 | _,_,.cons (k:=k') (v:=v') (r:=rs) r t,hn=>by
  rw [List.map_cons] at hn;obtain ⟨h1,h2⟩:=List.nodup_cons.mp hn;rw [putD,V_];by_cases h:k'=k
  ·subst h;rw [if_pos (by simp),G5 rfl h1];exact .cons rv t
  ·rw [if_neg (by simpa using h),G6 (p:=(k',v')) h];exact .cons r (vM rv t h2)
theorem vN {P:Addr->Prop} {H:Hp} {k:List Key} {v:V} {d:D} (rv:Rep P H v d):∀{kvs:List (List Key×V)} {ds:List (D×D)},kI P H kvs ds->(kvs.map (·.1)).Nodup->kI P H (putK kvs k v) (putD ds (.tup (k.map kD)) d)
 | _,_,.nil,_=>.cons rv .nil
 | _,_,.cons (k:=k') (v:=v') (r:=rs) r t,hn=>by
  rw [List.map_cons] at hn;obtain ⟨h1,h2⟩:=List.nodup_cons.mp hn;rw [putD,WD];by_cases h:k'=k
  ·subst h;rw [if_pos (by simp),G5 rfl h1];exact .cons rv t
  ·rw [if_neg (by simpa using h),G6 (p:=(k',v')) h];exact .cons r (vN rv t h2)
theorem m5.length {P:Addr->Prop} {H:Hp}:∀{kvs:List (Key×V)} {ds:List (D×D)},m5 P H kvs ds->kvs.length=ds.length
 | _,_,.nil=>rfl
 | _,_,.cons _ t=>by rw [List.length_cons,List.length_cons,m5.length t]
theorem kI.length {P:Addr->Prop} {H:Hp}:∀{kvs:List (List Key×V)} {ds:List (D×D)},kI P H kvs ds->kvs.length=ds.length
 | _,_,.nil=>rfl
 | _,_,.cons _ t=>by rw [List.length_cons,List.length_cons,kI.length t]
theorem pA {H:Hp} {a:Addr} {o ob:HO} (ha:H a=some ob) (hm:PJ ob=true):V2 (fun _=>False) H (L2.upd H a o):=fun c oc hc h=>by
 rw [aX]
 ·exact hc
 ·intro z;subst z;rcases h with h|h
  ·exact h.elim
  ·rw [ha] at hc;cases hc;rw [hm] at h;cases h
theorem uC {d:D} {k:D} (hd:d.pure=true):∀{ds:List (D×D)},D.a_ (ds.map (·.2))=true->D.a_ ((putD ds k d).map (·.2))=true
 | [],_=>by simp [putD,D.a_,hd]
 | (q,w)::r,h=>by
  rw [List.map_cons,D.a_,Bool.and_eq_true] at h;rw [putD];split
  ·rw [List.map_cons,D.a_,Bool.and_eq_true];exact ⟨hd,h.2⟩
  ·rw [List.map_cons,D.a_,Bool.and_eq_true];exact ⟨h.1,uC hd h.2⟩
theorem aF0 {pins:List (Addr×Obj)} {s:Shared} {σ:L2.St} {H:Hp} {ad:Addr} {y v:V} {ds:List (D×D)} {k d:D} (I:Inv X pins σ H s) (rd:Rep All H (.ref ad) (.dct ds)) (hin:D.a_ (ds.map (·.2))=true) (rk:Rep All H y k) (hk:FP ds k=true) (hl:ds.length<sizeLine) (rv:Rep All H v d) (hd:d.pure=true) :
  ∃H1 o,Inv X pins σ H1 s/\YM H1 ad y v (L2.upd H ad o)/\PJ o=true/\Rep All (L2.upd H ad o) (.ref ad) (.dct (putD ds k d)):=by
 unfold FP at hk;rw [Bool.and_eq_true] at hk;obtain ⟨h1,h2⟩:=hk;have rv':Rep (fun _=>False) H v d:=rv.bY hd;cases rd with
 | @dK _ kvs ds e _ r n=>
  have hlen:=r.length;rcases iH h1 rk with ⟨q,rfl,rfl⟩|⟨b,ks,rfl,eb,rfl⟩
  ·refine ⟨H,.dK (putK kvs q v),I,.k e (by lia),rfl,.dK aJ trivial ?_ (oJ n)⟩;exact (vM rv' (r.bY hin) n).keep (pA e rfl) fun _ z=>z.elim
  ·cases r with
   | nil=>
    refine ⟨L2.upd H ad (.dT []),.dT (putK [] ks v),jF I e,?_,rfl,.dT aJ trivial ?_ (oJ List.nodup_nil)⟩
    ·have:=YM.t (H:=L2.upd H ad (.dT [])) (a:=ad) (b:=b) (kvs:=[]) (k:=ks) (v:=v) aJ (by rw [aX (UT eb e (by intro z;cases z))];exact eb) hl;rwa [zQ] at this
    ·exact (vN (k:=ks) rv' .nil List.nodup_nil).keep (pA e rfl) fun _ z=>z.elim
   | cons r t=>
    rw [List.all_cons,fX] at h2;simp [isTup] at h2
 | @dT _ kvs ds e _ r n=>
  have hlen:=r.length;rcases iH h1 rk with ⟨q,rfl,rfl⟩|⟨b,ks,rfl,eb,rfl⟩
  ·cases r with
   | nil=>
    refine ⟨L2.upd H ad (.dK []),.dK (putK [] q v),mL I e,?_,rfl,.dK aJ trivial ?_ (oJ List.nodup_nil)⟩
    ·have:=YM.k (H:=L2.upd H ad (.dK [])) (a:=ad) (kvs:=[]) (k:=q) (v:=v) aJ hl;rwa [zQ] at this
    ·exact (vM (k:=q) rv' .nil List.nodup_nil).keep (pA e rfl) fun _ z=>z.elim
   | cons r t=>
    rw [List.all_cons,fX] at h2;simp [isTup] at h2
  ·refine ⟨H,.dT (putK kvs ks v),I,.t e eb (by lia),rfl,.dT aJ trivial ?_ (oJ n)⟩;exact (vN rv' (r.bY hin) n).keep (pA e rfl) fun _ z=>z.elim
theorem rN {i:Nat} {x:Str} {p1:Pos} {value k:Expr} {fv fk:FE} {rv rk:Bool} (hu:X.A.units+20<cLine) (ho:own i=true) (hN:X.N[i]?=some x) (hvi:Vis X.env.scope x) (hk:PE X k (gE fk rk)) (hv:PE X value (gE fv rv))
  (hs:swapsWith value (some (.Subscript (.Name x p1) k pos')) pos.line X.env=pure false:=by rfl) (hd:(x==("__debug__" : Str))=false:=by decide) (hcd:(x==("__classdict__" : Str))=false:=by decide) :
  PS X (.Assign [.Subscript (.Name x p1) k pos'] value pos) (tS own (BL i fk fv)):=by
 intro pins s σ H D' I ⟨ρ,fl,E,h,q⟩;obtain ⟨d,h0,h⟩:=bI h;obtain ⟨kd,h1,h2⟩:=bI h;split at h2
 ·rename_i kvs hx;split at h2
  ·rename_i hg;cases h2;simp only [Bool.and_eq_true] at hg;obtain ⟨⟨hg1,hg2⟩,hg3⟩:=hg;obtain ⟨a,o,hσ,r,hin,ha,hm⟩:=E.ownAt ho (by rw [hx];intro z;cases z);rw [hx] at r hin;refine wpAny_Assign_Subscript (thn (hv pins s σ H (fun v H1=>cJ H H1/\Rep All H1 v d) I ⟨ρ,d,E.er,h0,fun v H1 s1 r1 _=>⟨s1,r1⟩⟩) fun rr s1 ⟨v,H1,I1,rv1,sm1,rp1⟩=>
    thn (j6 hN hvi hd hcd pins s1 σ H1 (fun w H2=>w=.ref a/\H2=H1) I1 ⟨_,hσ,rfl,rfl⟩) fun u s2 ⟨xx,H2,I2,rx,ex,eH⟩=>
    thn (hk pins s2 σ H2 (fun w H3=>cJ H2 H3/\Rep All H3 w kd) I2 ⟨ρ,kd,by rw [eH];exact E.er.same sm1,h1,fun v H1 s1 r1 _=>⟨s1,r1⟩⟩) fun iv s3 ⟨y,H3,I3,ry,sm3,rp3⟩=>?_) hs
   subst ex eH;obtain rfl:u=Value.ref a:=rx;have sm:=sm1.trans sm3;obtain ⟨H4,o4,I4,g,hmo,rp⟩:=aF0 I3 (r.same sm) hin rp3 hg2 (Y5 hg1) (rp1.same sm3) hg3;obtain ⟨E2,k2⟩:=(E.same sm).mut ho hσ hmo rp (uC hg3 hin);exact NQ (by lia) I4 g ry rv1 fun s4 I5=>⟨σ,_,I5,q _ _ ((KU.same sm).trans k2) E2⟩
  ·cases h2
 ·cases h2
noncomputable def TgS (own:Nat->Bool) (g:TG) (t:D->List D->Res (List D)):Prop:=∀(v:V) (d:D) (ρ ρ':List D) (σ:L2.St) (H:Hp) (Q:L2.St->Hp->Prop),ES own H σ ρ->Rep (fun a=>¬Own own σ a) H v d->t d ρ=.ok ρ'->
 (∀σ',ES own H σ' ρ'->(∀a,Own own σ' a↔Own own σ a)->Q σ' H)->g v σ H Q
theorem lK {i:Nat} (ho:own i=false):TgS own (oW i) (tg1 i):=fun v d ρ ρ' σ H Q E r h q=>by
 cases h;exact q _ (E.set ho r) fun a=>lJ ho a
theorem ES.sets {H:Hp}:∀{is:List Nat} {vs:List V} {ds:List D} {σ:L2.St} {ρ:List D},(∀i∈is,own i=false)->ES own H σ ρ->bN (fun a=>¬Own own σ a) H vs ds->ES own H (lH is vs σ) (O5 is ds ρ)/\∀a,Own own (lH is vs σ) a↔Own own σ a
 | [],_,_,_,_,_,E,_=>by simp only [lH,O5];exact ⟨E,fun _=>trivial⟩
 | i::is,_,_,σ,ρ,h,E,.nil=>by simp only [lH,O5];exact ⟨E,fun _=>trivial⟩
 | i::is,_,_,σ,ρ,h,E,.cons (v:=v) r t=>by
  have ho:=h i (List.mem_cons_self ..);have hO:(fun a=>¬Own own (σ.set i (some v)) a)=fun a=>¬Own own σ a:=funext fun a=>by rw [lJ ho]
  obtain ⟨h1,h2⟩:=ES.sets (is:=is) (fun j hj=>h j (List.mem_cons_of_mem _ hj)) (E.set ho r) (by rw [hO];exact t);exact ⟨h1,fun a=>(h2 a).trans (lJ ho a)⟩
theorem vO (K:PySem.W.Frag) {is:List Nat} (ho:∀i∈is,own i=false):TgS own (aEd K is.length (gIx is)) (tgN is):=fun v d ρ ρ' σ H Q E r h q=>by
 cases d <;> simp only [tgN] at h <;> (try (cases h;done))
 split at h
 ·rename_i hl;cases h;have hl':=of_decide_eq_true hl;obtain ⟨a,xs,rfl,e,rr⟩:=r.eV;obtain ⟨h1,h2⟩:=E.sets ho rr;exact ⟨a,xs,rfl,.of e,by rw [rr.length];exact hl',CK _ _ _ (by rw [rr.length];exact hl') (q _ h1 h2)⟩
 ·cases h
theorem ItQ.ku {K:PySem.W.Frag} {J:It} {items:List D} {σ σ':L2.St} {H H':Hp} {ρ:List D} (h:ItQ K (fun a=>¬Own own σ a) J H items) (k:KU own σ H σ' H') (E:ES own H σ ρ):ItQ K (fun a=>¬Own own σ' a) J H' items:=by
 cases h with
 | lst a e r=>exact .lst a e (k.rep E r)
 | tup a e r=>exact .tup a e (k.rep E r)
 | rng lo n e r=>exact .rng lo n e r
 | chs x e r=>exact .chs x e r
 | enm a ds e r h=>exact .enm a ds e (k.rep E r) h
 | enf m a ds e r h=>exact .enf m a ds e (k.rep E r) h
 | zip a b ds es e r q n h=>exact .zip a b ds es e (k.rep E r) (k.rep E q) n h
theorem G7 {K:PySem.W.Frag} {g:TG} {t:D->List D->Res (List D)} {body:FS} {D':Ends} {J:It} {items:List D} {σ:L2.St} {H1:Hp} {ρ:List D} {fl:Fl} (tg:TgS own g t) (E:ES own H1 σ ρ) (hJ:ItQ K (fun a=>¬Own own σ a) J H1 items) (hf:n8 t body items ρ=.ok fl) (q:kS own D' σ H1 fl) :
  ∃W:Nat->Nat->L2.St->Hp->Prop,(∃m,W 0 m σ H1)/\∀i m σ H,W i m σ H->
   (J.stop i H/\D'.nx σ H)\/(J.go i H/\∃N:L2.St->Hp->Prop,(∀σ' H',N σ' H'->∃m',m'<m/\W (i+1) m' σ' H')/\∀x H',J.yld i H x H'->g x σ H' fun σ2 H2=>tS own body {D' with nx:=N,ct:=N,bk:=D'.nx} σ2 H2):=by
 refine ⟨fun i m σ' H'=>m=items.length-i/\i<=items.length/\ItQ K (fun a=>¬Own own σ' a) J H' items/\∃ρ',ES own H' σ' ρ'/\n8 t body (items.drop i) ρ'=.ok fl/\kS own D' σ' H' fl,⟨items.length,rfl,Nat.zero_le _,hJ,ρ,E,hf,q⟩,?_⟩;rintro i m σ' H' ⟨rfl,hi,hJ',ρ',E',hf',q'⟩;rcases Nat.lt_or_ge i items.length with hlt|hge
 ·refine .inr ?_;have e:items[i]?=some items[i]:=List.getElem?_eq_getElem hlt;obtain ⟨g1,g2⟩:=hJ'.go e;rw [List.drop_eq_getElem_cons hlt] at hf';obtain ⟨ρ1,h1,hf2⟩:=bI hf';obtain ⟨r,h2,hf3⟩:=bI hf2;refine ⟨g1,fun σ2 H2=>ItQ K (fun a=>¬Own own σ2 a) J H2 items/\∃ρ',ES own H2 σ2 ρ'/\n8 t body (items.drop (i+1)) ρ'=.ok fl/\kS own D' σ2 H2 fl,fun σ2 H2 ⟨n1,n2⟩=>⟨items.length-(i+1),by lia,rfl,hlt,n1,n2⟩,fun x H2 hy=>?_⟩;obtain ⟨sH,rx⟩:=g2 x H2 hy;have ks:KU own σ' H' σ' H2:=fun a o e n=>⟨sH a o e,n⟩
  have hJ':=hJ'.ku ks E';have q':=q'.step ks;have E':=E'.same sH;refine tg x items[i] ρ' ρ1 σ' H2 _ E' rx h1 fun σ2 E2 hO=>?_
  have k0:KU own σ' H2 σ2 H2:=fun a o e n=>⟨e,by rw [hO];exact n⟩
  have hJ2:=hJ'.ku k0 E';have q2:=q'.step k0;refine ⟨ρ1,r,E2,h2,?_⟩;cases r with
  | nx ρ2=>exact fun σ3 H3 k3 E3=>⟨hJ2.ku k3 E2,ρ2,E3,hf3,q2.step k3⟩
  | ct ρ2=>exact fun σ3 H3 k3 E3=>⟨hJ2.ku k3 E2,ρ2,E3,hf3,q2.step k3⟩
  | bk ρ2=>cases hf3;exact fun σ3 H3 k3 E3=>q2 σ3 H3 k3 E3
  | rt d=>cases hf3;exact q2
 ·refine .inl ⟨hJ'.stop hge,?_⟩;rw [List.drop_eq_nil_of_le hge] at hf';cases hf';exact q' σ' H' (fun a o e n=>⟨e,n⟩) E'
theorem m9 {tg iter:Expr} {body:List Stmt} {g:TG} {t:D->List D->Res (List D)} {it:FI} {fb:FS} (hp:PassesOwn (model X.prog X.w) X.A X.env X.xe) (hc:X.calm=true) (hi:PI X tg iter (gI X.K it)) (ht:TgS own g t) (hg:PG X tg g) (hb:PSs X body (tS own fb))
  (hs:∀x,foldedSetIterable iter X.env x=pure x:=by intro _;rfl):PS X (.For tg iter body [] pos) (tS own (zM it t fb)):=PS.imp (YJ hp hc hi hg hb hs) fun D' σ H ⟨ρ,fl,E,h,q⟩=>by
 obtain ⟨⟨items,k⟩,h1,h2⟩:=bI h;split at h2
 ·rename_i hk;exact ⟨ρ,items,k,E.er,h1,fun J H1 s1 _ hJ=>G7 ht (E.same s1) ((hJ hk).keep (fun _ _ e _=>e) fun a ha ho=>by
   obtain ⟨o,e1,_⟩:=E.live ho;rw [show H a=none from ha] at e1;cases e1) h2 (q.step (.same s1))⟩
 ·cases h2
theorem QS {tg:Expr} {body:List Stmt} {g:TG} {t:D->List D->Res (List D)} {i:Nat} {x:Str} {px:Pos} {fb:FS} (ho:own i=false) (hp:PassesOwn (model X.prog X.w) X.A X.env X.xe) (hc:X.calm=true) (hN:X.N[i]?=some x) (hv:Vis X.env.scope x) (ht:TgS own g t) (hg:PG X tg g) (hb:PSs X body (tS own fb))
  (hs:∀z,foldedSetIterable (.Name x px) X.env z=pure z:=by intro _;rfl) (hd:(x==("__debug__" : Str))=false:=by decide) (hcd:(x==("__classdict__" : Str))=false:=by decide):PS X (.For tg (.Name x px) body [] pos) (tS own (O6 i t fb)):=PS.imp (YJ hp hc (aD3 hN hv hd hcd) hg hb hs) fun D' σ H ⟨ρ,fl,E,h,q⟩=>by
 obtain ⟨d,h1,h⟩:=bI h;obtain ⟨items,h2,h3⟩:=bI h;obtain ⟨v,hv,r,e⟩:=E.er.var h1;have hne:ρ.getD i .uDf≠.uDf:=fun z=>by
  rw [z] at e;subst e;exact Rep.uDf r
 obtain ⟨w,hw,hr⟩:=E.at_ i hne;rw [hv] at hw;cases hw;have r2:=hr ho;rw [e] at r2;exact ⟨v,d,items,hv,r,h2,fun J hJ=>G7 ht E (hJ _ r2) h3 q⟩
theorem G8 {own:Nat->Bool} {N ps:List Str} {vs:List V} {ds:List D} {H:Hp} (hst:start N vs=vs.map some++List.replicate (N.length-ps.length) none) (hl:ds.length=ps.length) (r:bN All H vs ds) (hown:∀i,i<ps.length->own i=false) (noown:∀a,¬Own own (start N vs) a):ES own H (start N vs) (ds++List.replicate (N.length-ps.length) .uDf):=by
 refine ⟨by rw [hst];simp [r.length],fun i hi=>?_,fun i v hi hv=>?_⟩
 ·have hlt:i<ds.length:=Nat.lt_of_not_le fun hge=>hi (by
   rw [List.getD_eq_getElem?_getD,List.getElem?_append_right hge,List.getElem?_replicate];split <;> rfl)
  have e:(ds++List.replicate (N.length-ps.length) D.uDf).getD i .uDf=ds[i]:=by
   rw [List.getD_eq_getElem?_getD,List.getElem?_append_left hlt,List.getElem?_eq_getElem hlt];rfl
  obtain ⟨v,g1,g2⟩:=r.get (i:=i) (d:=ds[i]) (by simp [hlt]);refine ⟨v,by rw [hst,List.getElem?_append_left (by simp [r.length,hlt])];simp [g1],fun _=>?_⟩;rw [e];exact g2.mono fun a _=>noown a
 ·exfalso;rw [hst] at hv;by_cases h:i<ps.length
  ·rw [hown i h] at hi;cases hi
  ·rw [List.getElem?_append_right (by simp [r.length,hl];lia)] at hv;rw [List.getElem?_replicate] at hv;split at hv <;> cases hv
theorem aAo {own:Nat->Bool} {N ps:List Str} {f:FS} {vs:List V} {H:Hp} {Q:VK} {E:XK} (hown:∀i,i<ps.length->own i=false) (h0:spD (fnS ps.length N.length f) ps.length vs H Q E):tS own f {nx:=fun _ H'=>Q .non H',rt:=Q} (start N vs) H:=by
 obtain ⟨ds,d,hl,r,h,q⟩:=h0
 ·obtain ⟨fl,h1,h2⟩:=bI h;have hst:start N vs=vs.map some++List.replicate (N.length-ps.length) none:=by
   show vs.map some++List.replicate (N.length-vs.length) none=_;rw [r.length,hl]
  have noown:∀a,¬Own own (start N vs) a:=fun a ⟨i,hi,e⟩=>by
   rw [hst] at e;by_cases h:i<ps.length
   ·rw [hown i h] at hi;cases hi
   ·rw [List.getElem?_append_right (by simp [r.length,hl];lia)] at e;rw [List.getElem?_replicate] at e;split at e <;> cases e
  have E0:ES own H (start N vs) (ds++List.replicate (N.length-ps.length) .uDf):=G8 hst hl r hown noown;refine ⟨_,fl,E0,h1,?_⟩;have sm:∀{σ':L2.St} {H':Hp},KU own (start N vs) H σ' H'->cJ H H':=fun k a o e=>(k a o e (noown a)).1
  cases fl with
  | nx ρ'=>cases h2;exact fun σ' H' k E'=>q .non H' (sm k) .non fun _=>.non
  | rt d'=>
   cases h2;refine fun v H' hk rp=>q v H' (fun a o e=>hk a o e (noown a)) rp.all fun _=>rp.mono fun a ha=>?_
   rcases ha with ha|ha
   ·exact absurd ha (noown a)
   ·exact ha
  | bk ρ'=>cases h2
  | ct ρ'=>cases h2
theorem aD5 {P:Program} {w:World} {K:PySem.W.Frag} {mg:Str->Option Value} {base:Heap} {x qual:Str} {st:Stmt} {fad:Addr} {fd:FuncData} {N ps:List Str} {k:Nat} {f:FS} (F:Fun K x qual st fad fd) (S:b8 N ps (aL st)) (own:Nat->Bool) (hown:∀i,i<ps.length->own i=false) (hNl:ps.length<=N.length)
  (hbody:∀(cdv:Value) (A:Around) (outer:List Env) (s:Shared) (H:Hp) (E:XK),pL k (A.deeper (envOfC qual (aL st) s.heap.objs.size fad cdv))->PSs (mY CX0 P w K mg base N qual (aL st) fad cdv A outer s H E).nox (bU st) (tS own f)):D_ P w K mg base CX0 (k+1) fad fd ps (spD (fnS ps.length N.length f) ps.length):=
 F.ok S (fun vs H Q E h=>CJ h) fun cdv A outer s H vs Q E hr h=>⟨_,hbody cdv A outer s H E hr,aAo hown h⟩
end
end Mi
end
section
namespace Mi
open PySem L2 PySem.SeqAt PySem.Spec PyProof.Rows
variable [KFrag]
structure aF1 where
 s₀:Shared
 H₀:Hp
 env:Env
 outer:List Env
 stack:List Env
 ex:List Addr
 fn:Str->Bool
 pn:List (Addr×Obj)
noncomputable abbrev mkC (X:Cx) (scope:Scope) (ownN:List Str) (y:aF1):Cx:=
 {X with N:=X.N.map (iR ownN)++ownN,s₀:=y.s₀,H₀:=y.H₀,env:={y.env with scope:=relabel scope X.env},outer:=y.outer,stack:=y.stack,ex:=y.ex,fn:=y.fn,pn:=y.pn,xe:=fun _ _=>False}
theorem jH {X X':Cx} {scope:Scope} {ownN:List Str} (cc:cT X X' scope ownN):∃y,X'=mkC X scope ownN y:=by
 refine ⟨⟨X'.s₀,X'.H₀,X'.env,X'.outer,X'.stack,X'.ex,X'.fn,X'.pn⟩,?_⟩;obtain ⟨h1,h2,h3,h4,h5,h6,h7,h8,h9,h10⟩:=cc;cases X' with
 | mk a b c d e f g h i j k l m n o p q=>
  cases j;dsimp only at *;subst h1 h2 h3 h4 h5 h6 h7 h8 h9 h10;rfl
section
variable {own:Nat->Bool} {X:Cx} {scope:Scope} {ownN:List Str} {elt iter tg c:Expr} {it:FI} {t:D->Res (List D)} {g:TG} {gc:FT} {fe:FE} {re:Bool} {pos:Pos} {n m:Nat}
theorem WR (S:cO X.N X.env.scope scope ownN) (hn:X.N.length=n) (hm:ownN.length=m) (hcalm:X.calm=true) (hi:PI X tg iter (gI X.K it)) (ht:TgC g t n m) (hg:∀y,PG (mkC X scope ownN y) tg g) (he:∀y,PE (mkC X scope ownN y) elt (gE fe re))
  (hs:∀x,foldedSetIterable iter X.env x=pure x):PE X (.ListComp elt [⟨tg,iter,[],0⟩] scope pos) (gE (eU n it t lD fe re) true):=
 aAk S hn hm hcalm hi ht (fun X' cc=>by obtain ⟨y,rfl⟩:=jH cc;exact hg y) (fun X' cc=>by obtain ⟨y,rfl⟩:=jH cc;exact he y) hs
theorem uD (S:cO X.N X.env.scope scope ownN) (hn:X.N.length=n) (hm:ownN.length=m) (hcalm:X.calm=true) (hi:PI X tg iter (gI X.K it)) (ht:TgC g t n m) (hg:∀y,PG (mkC X scope ownN y) tg g) (hc:∀y,PT (mkC X scope ownN y) c (gT gc)) (he:∀y,PE (mkC X scope ownN y) elt (gE fe re))
  (hs:∀x,foldedSetIterable iter X.env x=pure x):PE X (.ListComp elt [⟨tg,iter,[c],0⟩] scope pos) (gE (eU n it t gc fe re) true):=
 QL S hn hm hcalm hi ht (fun X' cc=>by obtain ⟨y,rfl⟩:=jH cc;exact hg y) (fun X' cc=>by obtain ⟨y,rfl⟩:=jH cc;exact hc y) (fun X' cc=>by obtain ⟨y,rfl⟩:=jH cc;exact he y) hs
theorem vP {y:Str} {py pos2:Pos} {iy:Nat} {o:Bool} (S:cO X.N X.env.scope scope ownN) (hn:X.N.length=n) (hm:ownN.length=m) (hcalm:X.calm=true) (hi:PI X tg iter (gI X.K it)) (ht:TgC g t n m) (hg:∀y,PG (mkC X scope ownN y) tg g) (he:∀y,PE (mkC X scope ownN y) elt (gE fe re))
  (hs:∀x,foldedSetIterable iter X.env x=pure x) (ho:own iy=o) (hNn:X.N.Nodup) (hiy:X.N[iy]?=some y) (hxy:Loc X.env.scope y) (hfy:X.fn y=true\/X.env.scope.names.lookup y=some .local) (hsw:swapsWith (.ListComp elt [⟨tg,iter,[],0⟩] scope pos) (some (.Name y py)) pos2.line X.env=pure true) :
  PS X (.Assign [.Name y py] (.ListComp elt [⟨tg,iter,[],0⟩] scope pos) pos2) (tS own (cA o iy (eU n it t lD fe re) true)):=
 aAm S hn hm hcalm hi ht (fun X' cc=>by obtain ⟨y,rfl⟩:=jH cc;exact hg y) (fun X' cc=>by obtain ⟨y,rfl⟩:=jH cc;exact he y) hs ho hNn hiy hxy hfy hsw
theorem jJ {y:Str} {py pos2:Pos} {iy:Nat} {o:Bool} (S:cO X.N X.env.scope scope ownN) (hn:X.N.length=n) (hm:ownN.length=m) (hcalm:X.calm=true) (hi:PI X tg iter (gI X.K it)) (ht:TgC g t n m) (hg:∀y,PG (mkC X scope ownN y) tg g) (hc:∀y,PT (mkC X scope ownN y) c (gT gc)) (he:∀y,PE (mkC X scope ownN y) elt (gE fe re))
  (hs:∀x,foldedSetIterable iter X.env x=pure x) (ho:own iy=o) (hNn:X.N.Nodup) (hiy:X.N[iy]?=some y) (hxy:Loc X.env.scope y) (hfy:X.fn y=true\/X.env.scope.names.lookup y=some .local) (hsw:swapsWith (.ListComp elt [⟨tg,iter,[c],0⟩] scope pos) (some (.Name y py)) pos2.line X.env=pure true) :
  PS X (.Assign [.Name y py] (.ListComp elt [⟨tg,iter,[c],0⟩] scope pos) pos2) (tS own (cA o iy (eU n it t gc fe re) true)):=
 QQ S hn hm hcalm hi ht (fun X' cc=>by obtain ⟨y,rfl⟩:=jH cc;exact hg y) (fun X' cc=>by obtain ⟨y,rfl⟩:=jH cc;exact hc y) (fun X' cc=>by obtain ⟨y,rfl⟩:=jH cc;exact he y) hs ho hNn hiy hxy hfy hsw
end
noncomputable def aD6:FS:=fun _=>.bad
theorem Y_ {X:Cx} {own:Nat->Bool} {st:Stmt}:PS X st (tS own aD6):=fun pins s σ H D I h=>by
 obtain ⟨_,_,_,h,_⟩:=h;cases h
theorem aAp {X:Cx} {own:Nat->Bool} {st:List Stmt}:PSs X st (tS own aD6):=fun pins s σ H D I h=>by
 obtain ⟨_,_,_,h,_⟩:=h;cases h
noncomputable def cP (P:Program) (w:World) (K:PySem.W.Frag) (mg:Str->Option Value) (base:Heap) (k:Nat) (x:Str) (n:Nat) (f:List D->Res D):Prop:=
 ∃(fad:Addr) (fd:FuncData) (ps:List Str),D_ P w K mg base CX0 k fad fd ps (spD f n)/\mg x=some (.ref fad)/\PySem.W.keepIn K (.ref fad)=true/\Binds K fd ps []
section
variable {X:Cx} {e:Expr} {es:List Expr} {pos p:Pos} {fs:FA} {rr:Bool} {x:Str} {k n:Nat} {f:List D->Res D}
theorem aZ {k':Nat} (C:cP X.prog X.w X.K X.mg X.base k x n f) (hr:pL k' X.A) (hkk:k<=k') (hg:Gl X x) (ha:PA X (e::es) (gA fs rr)) (hdb:(x==("__debug__" : Str))=false:=by decide) (he:starEach (e::es) X.env=(false,eval e X.env)::starEach es X.env:=by rfl) (hpl:(backTo pos (starEach es X.env)).any (·.1)=false:=by rfl) :
  PE X (.Call (.Name x p) (e::es) [] pos) (gE (aO (cW n f) fs) true):=by
 obtain ⟨fad,fd,ps,F,hm,hk,hb⟩:=C;exact aAi F (hr.mono hkk) hg hm hk hb ha hdb he hpl
theorem gP {P:Program} {w:World} {K:PySem.W.Frag} {mg:Str->Option Value} {base:Heap} {st:Stmt} {fad:Addr} {fd:FuncData} {N ps:List Str} {fs:FS} (F:Fun K x x st fad fd) (hm:mg x=some (.ref fad)) (hb:Binds K fd ps []) (S:b8 N ps (aL st)) (own:Nat->Bool) (hown:∀i,i<ps.length->own i=false) (hNl:ps.length<=N.length)
  (hbody:∀(cdv:Value) (A:Around) (outer:List Env) (s:Shared) (H:Hp) (E:XK),pL k (A.deeper (envOfC x (aL st) s.heap.objs.size fad cdv))->PSs (mY CX0 P w K mg base N x (aL st) fad cdv A outer s H E).nox (bU st) (tS own fs)):cP P w K mg base (k+1) x ps.length (fnS ps.length N.length fs):=
 ⟨fad,fd,ps,aD5 F S own hown hNl hbody,hm,F.kp,hb⟩
end
theorem wI {A:Around} {k:Nat} (hr:pL k A):A.units+20<cLine:=Nat.lt_of_le_of_lt (Nat.add_le_add_left (by decide:20<=64) _) hr.units
structure Bt (mg:Str->Option Value):Prop where
 len:mg "len" = none
 min:mg "min" = none
 max:mg "max" = none
 list:mg "list" = none
 tuple:mg "tuple" = none
 sorted:mg "sorted" = none
 range:mg "range" = none
 isi:mg "isinstance" = none
 int:mg "int" = none
 bool:mg "bool" = none
 str:mg "str" = none
 dict:mg "dict" = none
 all:mg "all" = none
 enum:mg "enumerate" = none
 sum:mg "sum" = none
 zip:mg "zip" = none
 abs:mg "abs" = none
 reversed:mg "reversed" = none
theorem dZ:bootBuiltins "len" = some (.builtin "len"):=by decide +kernel
theorem QT:bootBuiltins "min" = some (.builtin "min"):=by decide +kernel
theorem QV:bootBuiltins "max" = some (.builtin "max"):=by decide +kernel
theorem jK:bootBuiltins "sorted" = some (.builtin "sorted"):=by decide +kernel
theorem b_:bootBuiltins "isinstance" = some (.builtin "isinstance"):=by decide +kernel
theorem QW:bootBuiltins "list" = some (.type "list"):=by decide +kernel
theorem iU:bootBuiltins "tuple" = some (.type "tuple"):=by decide +kernel
theorem QX:bootBuiltins "int" = some (.type "int"):=by decide +kernel
theorem QZ:bootBuiltins "bool" = some (.type "bool"):=by decide +kernel
theorem ZC:bootBuiltins "str" = some (.type "str"):=by decide +kernel
theorem ints_rep {P:Addr->Prop} {H:Hp}:∀ns:List Int,bN P H (ns.map V.int) (ns.map D.int)
 | []=>.nil
 | n::ns=>.cons (.int n) (ints_rep ns)
end Mi
namespace Mi
open PySem L2
theorem Q0 {K:PySem.W.Frag} {f:List D->Res D} {H:Hp} {a:Addr} {ns:List Int} {E:XK} (main:∀ns:List Int,ns.length<=63->f [.scr (ns.map D.int)]=.ok (.bl true)) (hl:ns.length<=63) (hO:Only H) (hS:SqL K H a (ns.map V.int)):@spD ⟨K⟩ f 1 [.ref a] H (fun v _=>v=.bl true) E:=by
 letI:KFrag:=⟨K⟩
 refine ⟨[.scr (ns.map D.int)],.bl true,rfl,.cons (.frz ?_ (ints_rep ns)) .nil,main ns hl,fun v H' s r n=>by cases r;rfl⟩;rcases hS with (h|⟨o,h⟩)|h
 ·rcases hO a with z|⟨o,xs,z⟩
  ·rw [h] at z;cases z
  ·rw [h] at z;cases z
 ·exact .inl ⟨o,h⟩
 ·exact .inr h
end Mi
end
section
namespace Mi
open PySem L2 PySem.SeqAt PySem.Spec PyProof.Rows
variable [KFrag]
section
variable {X:Cx}
section
variable {tg l a:Expr} {fl fa:FE} {rl ra:Bool} {p pos:Pos}
end
end
section
variable {X:Cx} {pos p:Pos} {x:Str} {k:Nat} {f:List D->Res D}
end
end Mi
end
section
namespace Mi
open PySem L2
theorem ZD (b:Bool):asB (.bl b)=.ok b:=rfl
theorem bQ:lim=1000000:=by unfold lim;exact Eq.refl _
theorem xZ {n:Nat} {ρ:List D} (h:ρ.length=n):BK n ρ=ρ:=by
 subst h;apply List.ext_getElem
 ·simp [BK]
 ·intro i h1 h2;simp [BK,h2]
theorem eX {n:Nat} {f:List D->Res D} {ds:List D} (h:ds.length=n):cW n f ds=f ds:=by
 unfold cW;rw [if_pos (by simp [h])]
theorem aM {f:D->D->Res D} {a b:FE} {ρ:List D} {x y z:D} (h1:a ρ=.ok x) (h2:b ρ=.ok y) (h3:f x y=.ok z):b2 f a b ρ=.ok z:=by
 unfold b2;rw [h1,Res.aR,h2,Res.aR,h3]
theorem bL {i:Nat} {f:FE} {ρ:List D} {d:D} (h:f ρ=.ok d):cA false i f true ρ=.ok (.nx (ρ.set i d)):=by
 unfold cA;rw [h,Res.aR];rfl
theorem vQ {i:Nat} {f:FE} {ρ:List D} {d:D} (h:f ρ=.ok d) (hp:d.pure=true):cA false i f false ρ=.ok (.nx (ρ.set i d)):=by
 unfold cA;rw [h,Res.aR];simp only [hp,Bool.false_or,Bool.false_eq_true,if_false,if_true]
theorem i_ {i:Nat} {f:FE} {ρ:List D} {d:D} (h:f ρ=.ok d) (hp:inner d=true):cA true i f true ρ=.ok (.nx (ρ.set i d)):=by
 unfold cA;rw [h,Res.aR];simp only [hp,Bool.and_self,if_true]
theorem aF2 {i j:Nat} {ρ:List D} {d:D} (h:aF j ρ=.ok d):sAl i j ρ=.ok (.nx (ρ.set i d)):=by
 unfold sAl;rw [h,Res.aR]
theorem aP {f g:FS} {ρ ρ':List D} {r:Res Fl} (h1:f ρ=.ok (.nx ρ')) (h2:g ρ'=r):bW f g ρ=r:=by
 unfold bW;rw [h1,Res.aR];exact h2
theorem WT {c:FT} {f g:FS} {ρ:List D} {k:Bool} {r:Res Fl} (h1:c ρ=.ok k) (h2:(if k then f ρ else g ρ)=r):sIf c f g ρ=r:=by
 unfold sIf;rw [h1,Res.aR];exact h2
theorem CP {c:FT} {f g:FS} {ρ:List D} {r:Res Fl} (h1:c ρ=.ok true) (h2:f ρ=r):sIf c f g ρ=r:=WT h1 (by rw [if_pos rfl];exact h2)
theorem oK {c:FT} {f g:FS} {ρ:List D} {r:Res Fl} (h1:c ρ=.ok false) (h2:g ρ=r):sIf c f g ρ=r:=WT h1 (by rw [if_neg (by simp)];exact h2)
theorem dC {f:FE} {ρ:List D} {k:Bool} (h1:f ρ=.ok (.bl k)):bTB f ρ=.ok k:=by
 unfold bTB;rw [h1,Res.aR];rfl
theorem aAq {a b:FT} {ρ:List D} {r:Res Bool} (h1:a ρ=.ok true) (h2:b ρ=r):JS a b ρ=r:=by
 unfold JS;rw [h1,Res.aR,if_pos rfl,h2]
theorem WW {a b:FT} {ρ:List D} (h1:a ρ=.ok false):JS a b ρ=.ok false:=by
 unfold JS;rw [h1,Res.aR,if_neg (by simp)];rfl
theorem aFp {f g:D->D->Res D} {a b c:FE} {ρ:List D} {x y z:D} {r:Res D} (h1:a ρ=.ok x) (h2:b ρ=.ok y) (h3:f x y=.ok (.bl true)) (h4:c ρ=.ok z) (h5:g y z=r):bCh f g a b c ρ=r:=by
 unfold bCh;rw [h1,Res.aR,h2,Res.aR,h3,Res.aR,ZD,Res.aR,if_pos rfl,h4,Res.aR,h5]
theorem aGg {f g:D->D->Res D} {a b c:FE} {ρ:List D} {x y:D} (h1:a ρ=.ok x) (h2:b ρ=.ok y) (h3:f x y=.ok (.bl false)):bCh f g a b c ρ=.ok (.bl false):=by
 unfold bCh;rw [h1,Res.aR,h2,Res.aR,h3,Res.aR,ZD,Res.aR,if_neg (by simp)];rfl
theorem aD {a:FE} {b:FA} {ρ:List D} {x:D} {xs:List D} (h1:a ρ=.ok x) (h2:b ρ=.ok xs):aC a b ρ=.ok (x::xs):=by
 unfold aC;rw [h1,Res.aR,h2,Res.aR];rfl
theorem aN {f:List D->Res D} {a:FA} {ρ:List D} {xs:List D} {d:D} (h1:a ρ=.ok xs) (h2:f xs=.ok d):aO f a ρ=.ok d:=by
 unfold aO;rw [h1,Res.aR,h2]
theorem cI {a:FA} {ρ:List D} {xs:List D} (h:a ρ=.ok xs) (hl:xs.length<=lim):dM a ρ=.ok (.tup xs):=by
 unfold dM;rw [h,Res.aR,if_pos (decide_eq_true hl)];rfl
theorem iV {f:FE} {ρ:List D} {d:D} {k:Bool} (h:f ρ=.ok d) (hp:(k||d.pure)=true):j8 f k ρ=.ok (.rt d):=by
 unfold j8;rw [h,Res.aR,if_pos hp]
theorem oM {it:FI} {t:D->List D->Res (List D)} {body:FS} {ρ:List D} {xs:List D} {r:Res Fl} (h1:it ρ=.ok (xs,true)) (h2:n8 t body xs ρ=r):zM it t body ρ=r:=by
 unfold zM;rw [h1,Res.aR];exact h2
theorem Q3 {i:Nat} {t:D->List D->Res (List D)} {body:FS} {ρ:List D} {d:D} {xs:List D} {r:Res Fl} (h1:aF i ρ=.ok d) (h2:rC d=.ok xs) (h3:n8 t body xs ρ=r):O6 i t body ρ=r:=by
 unfold O6;rw [h1,Res.aR,h2,Res.aR];exact h3
theorem rO {f:FA} {ρ:List D} {n:Int} (h:f ρ=.ok [.int n]) (h1:0<=n) (h2:n<=1000000):jD f mZ ρ=.ok ((List.range n.toNat).map fun (k:Nat)=>D.int (0+(k:Int)),true):=by
 unfold jD;rw [h,Res.aR];have:iB n=true:=by
  simp only [iB,Bool.and_eq_true,decide_eq_true_eq];lia
 simp only [mZ,this,if_true]
theorem rP {i:Nat} {f g:FE} {ρ:List D} {kvs:List (D×D)} {k d:D} (h1:g ρ=.ok d) (h2:f ρ=.ok k) (h3:ρ.getD i .uDf=.dct kvs) (h4:kvs.length<lim) (h5:FP kvs k=true) (h6:d.pure=true):BL i f g ρ=.ok (.nx (ρ.set i (.dct (putD kvs k d)))):=by
 unfold BL;rw [h1,Res.aR,h2,Res.aR,h3];simp only [decide_eq_true h4,h5,h6,Bool.and_self,if_true]
theorem aD7 {i:Nat} {f g:FE} {ρ:List D} {xs:List D} {j:Int} {d:D} (h1:f ρ=.ok (.int j)) (h2:g ρ=.ok d) (h3:ρ.getD i .uDf=.lst xs) (h4:xs.length<lim) (h5:d.pure=true) (h6:0<=j) (h7:j<=xs.length):aCp i f g ρ=.ok (.nx (ρ.set i (.lst (xs.take j.toNat++d::xs.drop j.toNat)))):=by
 unfold aCp;rw [h1,Res.aR,h2,Res.aR,h3];simp only [decide_eq_true h4,h5,decide_eq_true h6,decide_eq_true h7,Bool.and_self,if_true]
theorem x_ {i:Nat} {f:FE} {ρ:List D} {xs:List D} {d:D} (h1:f ρ=.ok d) (h3:ρ.getD i .uDf=.lst xs) (h4:xs.length<lim) (h5:d.pure=true):FQ i f ρ=.ok (.nx (ρ.set i (.lst (xs++[d])))):=by
 unfold FQ;rw [h1,Res.aR,h3];simp only [decide_eq_true h4,h5,Bool.and_self,if_true]
theorem dN {t:D->List D->Res (List D)} {body:FS} {x:D} {xs:List D} {ρ ρ1 ρ2:List D} {r:Res Fl} (h1:t x ρ=.ok ρ1) (h2:body ρ1=.ok (.nx ρ2)) (h3:n8 t body xs ρ2=r):n8 t body (x::xs) ρ=r:=by
 rw [n8,h1,Res.aR,h2,Res.aR];exact h3
theorem pB (L:List D) (i:Int) (h0:0<=i) (h1:i<L.length):∃(h:i.toNat<L.length),getD (.lst L) (.int i)=.ok L[i.toNat]:=by
 have hlt:i.toNat<L.length:=by lia
 refine ⟨hlt,?_⟩;show Res.ofOpt ((ixD L.length i).bind fun j=>L[j]?)=_;unfold ixD;rw [if_pos h0,if_pos h1];simp only [Option.bind_some];rw [List.getElem?_eq_getElem hlt];rfl
theorem m_ (L:List D):fM [.lst L]=.ok (.int L.length):=rfl
theorem iK {n:Nat} {it:FI} {t:D->Res (List D)} {c:FT} {f:FE} {k kk:Bool} {ρ:List D} {xs ys:List D} (h1:it ρ=.ok (xs,kk)) (h2:xs.length<=lim) (h3:gD (jE n t c f k ρ) [] xs=.ok ys):eU n it t c f k ρ=.ok (.lst ys):=by
 unfold eU;rw [h1,Res.aR];simp only [decide_eq_true h2,if_true];rw [h3];rfl
theorem fZ {a:FE} {fr:Bool} {ρ:List D} {d:D} {xs:List D} (h1:a ρ=.ok d) (h2:rC d=.ok xs):dJ a fr ρ=.ok (xs,fr||d.pure):=by
 unfold dJ;rw [h1,Res.aR,h2,Res.aR];rfl
theorem oN {n:Nat} {c:FT} {f:FE} {k:Bool} {ρ acc:List D} {x y:D} {b:Bool} (hρ:ρ.length=n) (h1:c (ρ++[x])=.ok b) (h2:b=true->f (ρ++[x])=.ok y/\(k||y.pure)=true):jE n j7 c f k ρ acc x=.ok (if b then acc++[y] else acc):=by
 unfold jE;show (do let ok <- c (BK n ρ++[x]);_)=_;rw [xZ hρ,h1,Res.aR];cases b with
 | true=>
  obtain ⟨e1,e2⟩:=h2 rfl;rw [if_pos rfl,e1,Res.aR,if_pos e2,if_pos rfl];rfl
 | false=>
  rw [if_neg (by simp),if_neg (by simp)];rfl
theorem eG {α:Type} (g:List D->D->Res (List D)) (d:α->D) (p:α->Bool) (y:α->D) (h:∀acc a,g acc (d a)=.ok (if p a then acc++[y a] else acc)):∀(xs:List α) (acc:List D),gD g acc (xs.map d)=.ok (acc++(xs.filter p).map y)
 | [],acc=>by simp [gD]
 | x::xs,acc=>by
  rw [List.map_cons,gD,h];show gD g _ _=_;rw [eG g d p y h xs];by_cases hp:p x
  ·simp [hp]
  ·simp [hp]
theorem fJ (a b:Int):aW .add (.int a) (.int b)=.ok (.int (a+b)):=rfl
theorem Q4 (a b:Int):aW .sub (.int a) (.int b)=.ok (.int (a-b)):=rfl
theorem Q5 (a b:Int) (h:rA b=true):aW .mul (.int a) (.int b)=.ok (.int (a*b)):=by
 simp only [aW,h,Bool.or_true,if_true]
theorem vR (a b:Int) (h:rA a=true):aW .mul (.int a) (.int b)=.ok (.int (a*b)):=by
 simp only [aW,h,Bool.true_or,if_true]
theorem iM (a b:Int) (h1:0<b) (h2:b<1073741824):aW .fdiv (.int a) (.int b)=.ok (.int (a / b)):=by
 simp only [aW,decide_eq_true h1,decide_eq_true h2,Bool.and_self,if_true]
theorem gQ (a b:Int) (h1:0<b):aW .mod (.int a) (.int b)=.ok (.int (a % b)):=by
 simp only [aW,decide_eq_true h1,if_true]
theorem jU (a:Int) (h1:-1000000<=a) (h2:a<=1000000):rA a=true:=by
 simp only [rA,Bool.and_eq_true,decide_eq_true_eq];lia
theorem z_ (a b:Str) (h:a.length+b.length<=lim):aW .add (.str a) (.str b)=.ok (.str (a++b)):=by
 simp only [aW,decide_eq_true h,if_true]
theorem str_len (a b:Str):(a++b).length=a.length+b.length:=by
 show (a.cps++b.cps).size=_;rw [Array.size_append];rfl
theorem aAr {o:gY} {a b:D} {k:Bool} (h1:a.b7 aY=true) (h2:b.b7 aY=true) (h:dG o a b=some k):bV (.ord o) a b=.ok (.bl k):=by
 simp only [bV,h1,h2,h,Bool.and_self,if_true]
theorem Q6 (a b:List D) (h:a.length+b.length<=lim) (ha:D.a_ a=true) (hb:D.a_ b=true):aW .add (.lst a) (.lst b)=.ok (.lst (a++b)):=by
 simp only [aW,decide_eq_true h,ha,hb,Bool.and_self,if_true]
theorem Q7 (n:Nat) (h:n<=1000):aW .pow (.int 10) (.int n)=.ok (.int (10 ^ n)):=by
 have h1:decide ((0:Int)<=(n:Int))=true:=by simp
 have h2:decide ((n:Int)<=1000000)=true:=by simp;lia
 have h3:decide ((10:Int).natAbs<2 ^ 64)=true:=by decide
 simp only [aW,h1,h2,h3,Bool.and_self,if_true,Int.toNat_natCast]
theorem pC (S:List Int):D.a_ (S.map D.int)=true:=by
 induction S with
 | nil=>rfl
 | cons q Q ih=>rw [List.map_cons,D.a_,ih];rfl
theorem Q8 (ns:List Int) (lo hi:Option Int):cutD (ns.map D.int) lo hi=(cutD ns lo hi).map D.int:=by
 unfold cutD;rw [List.length_map,List.map_take,List.map_drop]
theorem aAs (ns:List Int) (lo hi:Option Int):(cutD ns lo hi).length<=ns.length:=by
 unfold cutD;exact Nat.le_trans (List.length_take_le' ..) (by rw [List.length_drop];lia)
end Mi
end
section
namespace Mi
open PySem L2 PySem.SeqAt PySem.Spec PyProof.Rows
theorem CQ {P:Program} {w:World} {H:Hp} {h:Heap} {a:Addr} {o:HO} (x:gR P w H h a o):∃ob,h.get? a=some ob:=by
 cases o with
 | lst xs=>obtain ⟨_,_,_,_,e⟩:=x;exact ⟨_,e⟩
 | tup xs=>obtain ⟨_,_,_,_,e,_⟩:=x;exact ⟨_,e⟩
 | dK kvs=>obtain ⟨_,_,_,_,o,_,_,e,_⟩:=x;exact ⟨_,e⟩
 | dT kvs=>obtain ⟨_,_,_,_,o,_,_,e,_⟩:=x;exact ⟨_,e⟩
 | set S n=>obtain ⟨o,_,_,_,e,_⟩:=x;exact ⟨_,e⟩
 | ins C dx fs=>obtain ⟨_,_,_,e,_⟩:=x;exact ⟨_,e⟩
 | own y=>exact x
 | xd fs=>obtain ⟨_,⟨_,_,_,e,_⟩,_⟩:=x;exact ⟨_,e⟩
 | rng lo hi=>obtain ⟨_,_,_,e⟩:=x;exact ⟨_,e⟩
 | frz ob u=>obtain ⟨e,_⟩:=x;exact ⟨_,e⟩
 | tbl ps=>exact ⟨_,show h.get? a=some _ from x⟩
 | met f y=>exact ⟨_,show h.get? a=some _ from x⟩
 | ext φ=>obtain ⟨_,e,_⟩:=x;exact e
noncomputable def CX1 (P:Program) (w:World) (C:Addr):CXT:=fun outer H s E e s'=>∃(a t:Addr) (H1:Hp) (B:Heap),e=.ref a/\s'.os=s.os/\AllBare s'.gens/\Heap.FlyingW B outer a (.ref C) (.ref t) s'.heap/\
 (∀h6:Heap,B.StaysIn h6->s'.heap.UpToSlots h6->Un (L2.frs outer) [] H H1 s.heap h6/\HOk P w H1 h6)/\H1 a=none/\s.heap.get? a=none/\E (.ref C) none H1
section
variable {P:Program} {w:World} {K:PySem.W.Frag} {mg:Str->Option Value} {base:Heap} {N:List Str} {qual:Str} {scope:Scope} {f C:Addr} {cd:Value} {A:Around} {outer:List Env} {s:Shared} {H:Hp} {E:XK}
theorem WX {pins:List (Addr×Obj)} {σ:L2.St} {H1:Hp} {s1:Shared} (I:Inv (mY (CX1 P w C) P w K mg base N qual scope f cd A outer s H E) pins σ H1 s1) {h2:Heap} {e:Addr} {args:List Value} (hx:Heap.MadeExcOf s1.heap h2 e (.ref C) args) (hE:E (.ref C) none H1) :
  (mY (CX1 P w C) P w K mg base N qual scope f cd A outer s H E).xe (.ref e) {s1 with heap:=h2}:=by
 let env:=envOfC qual scope s.heap.objs.size f cd
 have hfr:L2.frs (env::outer)=s.heap.objs.size::L2.frs outer:=by
  unfold L2.frs;rw [List.filterMap_cons];rfl
 have hin:∀v∈(env::outer),∀b,v.frame=some b->b∈L2.frs (env::outer):=fun v hv b hb=>List.mem_filterMap.mpr ⟨v,hv,hb⟩
 have stk:s1.heap.FunFrames base (env::outer):=I.stack;have sfree:∀b∈L2.frs (env::outer),H1 b=none:=I.zR;have u0:Un (L2.frs outer) [] H H1 s.heap s1.heap:=I.base;show wpAny (model P w) (A.deeper env) (leaving env (.ref e)) (fun _ s''=>CX1 P w C outer H s E (.ref e) s'') (fun e' s''=>CX1 P w C outer H s E e' s'') {s1 with heap:=h2};refine wpAny_leaves_madeW (base:=PySem.W.hideAll s1.heap (L2.frs (env::outer))) (L:=s.heap.objs.size) (h:=s1.heap) I.ok.frames rfl (fun b o q=>PySem.W.of_hideAll _ q) (PySem.W.funFrames_hide stk hin) hx fun h' t x1 x2 x3 x4=>?_
 have hgone:s.heap.get? e=none:=by
  cases q:s.heap.get? e with
  | none=>rfl
  | some o=>
   obtain ⟨o',e1⟩:=u0.there e o q (by simp);rw [hx.new] at e1;cases e1
 have huntr:H1 e=none:=by
  cases q:H1 e with
  | none=>rfl
  | some u=>
   obtain ⟨o,e1⟩:=CQ (I.hok e u q);rw [hx.new] at e1;cases e1
 refine ⟨e,t,H1,_,rfl,I.os,I.bare,x1,fun h6 st up=>?_,huntr,hgone,hE⟩;have k:∀b o,s1.heap.get? b=some o->b∉L2.frs (env::outer)->h6.get? b=some o:=fun b o eb hb=>st b o (PySem.W.hideAll_get _ eb hb)
 have up6:s1.heap.UpToSlots h6:=((Heap.UpToSlots.of_keeps hx.keeps).trans x4).trans up;have nL:∀b o,s.heap.get? b=some o->b∉L2.frs outer->b∉L2.frs (env::outer):=fun b o eb hb z=>by
  rw [hfr] at z;rcases List.mem_cons.mp z with z|z
  ·exact absurd (Heap.lt_size eb) (by rw [z];exact Nat.lt_irrefl _)
  ·exact hb z
 have slot:∀b o,s1.heap.get? b=some o->b∈L2.frs outer->∃sl,h6.get? b=some {o with slots:=sl}:=fun b o eb hb=>by
  obtain ⟨_,o',ho',hd⟩:=stk.mem (show b∈L2.frs (env::outer) by rw [hfr];exact List.mem_cons_of_mem _ hb);rw [eb] at ho';cases ho';exact up6 b o eb hd
 refine ⟨⟨fun b o eb hn hb hx'=>k b o (u0.keep b o eb hn hb hx') (nL b o eb hb),fun b o eb hn hb hx'=>?_,fun b o eb hn hx'=>u0.free b o eb hn hx',fun b o eb hx'=>?_,u0.tups,u0.frzs,u0.tbls⟩,fun b u eb=>?_⟩
 ·obtain ⟨sl,e1⟩:=u0.slot b o eb hn hb hx';obtain ⟨sl',e2⟩:=slot b _ e1 hb;exact ⟨sl',e2⟩
 ·obtain ⟨o',e1⟩:=u0.there b o eb hx';by_cases hb:b∈L2.frs outer
  ·obtain ⟨sl,e2⟩:=slot b o' e1 hb;exact ⟨_,e2⟩
  ·exact ⟨o',k b o' e1 (nL b o eb hb)⟩
 ·refine (I.hok b u eb).stay (fun c v hc q=>k c v q fun z=>?_) (fun _ q=>q) fun _ _ q=>q
  have:=sfree c z;rcases hc with hc|hc
  ·rw [hc,eb] at this;cases this
  ·rw [hc] at this;cases this
end
theorem aAt {K:PySem.W.Frag} {h:Heap} {C:Addr} {bmB:List Value} {newId:String} (X:K.In h) (q:PySem.W.excIn K C bmB newId=true) :
  ∃bm N nm qn bs hdct sn sub ab col dd k0 k1 k2 k3 k5 mN,h.get? C=some (excClassObj nm qn C N bs bm hdct sn sub ab col dd k0 k1 k2 k3 k5 newId)/\h.Ns N mN/\mN "__init__" = none/\OwnTail h bmB bm:=by
 unfold PySem.W.excIn at q;split at q
 ·rename_i dd cd sl ho;split at q
  ·rename_i C' bm k0 k1 k2 k3 n k5 hm hs;rw [Bool.and_eq_true,Bool.and_eq_true,Bool.and_eq_true,Bool.and_eq_true,Bool.and_eq_true] at q;obtain ⟨⟨⟨⟨⟨q1,q2⟩,q3⟩,q4⟩,q5⟩,q6⟩:=q;have q1:=beq_iff_eq.mp q1;have q2:=beq_iff_eq.mp q2;rw [Bool.not_eq_true'] at q3;subst q1 q2;obtain ⟨nm,bs,mro,ns,qn,hd,sn,sub,ab,col,del⟩:=cd;obtain ⟨l⟩:=sl;dsimp only at hm q3 q5 q6 hs;subst hm q3 hs;exact ⟨bm,ns,nm,qn,bs,hd,sn,sub,ab,col,dd,k0,k1,k2,k3,k5,_,X _ _ ho,.of_isNs (PySem.W.isNs_of_in X q5),PySem.W.nsMap_none_of_in X q5 (beq_iff_eq.mp q6),PySem.W.tail_of_in X q4⟩
  ·cases q
 ·cases q
abbrev aD8:List Value:=[.type "ValueError",.type "Exception",.type "BaseException",.type "object"]
theorem WY {X:Cx} {x:Str} {C:Addr} {np cpos pos:Pos} {e:Expr} {ta:TA} (hc:X.calm=true) (hg:Gl X x) (hm:X.mg x=some (.ref C)) (hq:PySem.W.excIn X.K C aD8 "ValueError.__new__" = true) (ha:PA X [e] ta)
  (he:starEach [e] X.env=[(false,eval e X.env)]:=by rfl) (hd:(x==("__debug__" : Str))=false:=by decide) :
  PS X (.Raise (some (.Call (.Name x np) [e] [] cpos)) none pos) (fun D σ H=>ta σ H fun vs H1=>vs.length<=sizeLine/\∀(pins:List (Addr×Obj)) (s:Shared) (h2:Heap) (a:Addr) (us:List Value),Inv X pins σ H1 s->Heap.MadeExcOf s.heap h2 a (.ref C) us->X.xe (.ref a) {s with heap:=h2}):=by
 intro pins s σ H D I h;obtain ⟨bm,N,nm,qn,bs,hdct,sn,sub,ab,col,dd,k0,k1,k2,k3,k5,mN,hC,hN,hni,T⟩:=aAt I.mod.kin hq;refine wpAny_Raise_call_subT (C:=C) (nm:=nm) (q:=qn) (N:=N) (bs:=bs) (bm:=bm) (hdct:=hdct) (sn:=sn) (sub:=sub) (ab:=ab) (col:=col) (dd:=dd) (k0:=k0) (k1:=k1) (k2:=k2) (k3:=k3) (k5:=k5)
  PySem.F.excBase_ValueError (mN:=mN) (T.hasType PySem.F.excBase_ValueError.hasBase) (I.ok.hd hc) (by rw [he];rfl) hni (qN I hg hm ⟨rfl,?_⟩ hd)
 rw [he];have h':=ha cpos pins s σ H _ I h;rw [he] at h';refine Calls.evalArgs_plain (wpAny_mono h' (fun us s2 ⟨vs,H1,I1,r,hl,hx⟩=>⟨rfl,by rw [<-r.length];exact hl,I1.bk _ _ hC,hN.keeps I1.bk,T.keeps I1.bk,fun h2 a hm=>hx pins s2 h2 a us I1 hm⟩) fun _ _ y=>y)
section
variable [KFrag]
theorem PS.nox {X:Cx} {st:Stmt} {t:TS} (h:PS X.nox st t):PS X st t:=fun pins s σ H D I hw=>
 wpAny_mono (h pins s σ H D (I.wish _) hw) (fun _ _ q=>SP.kJ q) fun _ _ z=>False.elim z
end
end Mi
end
section
namespace Mi
open PySem L2 PySem.W PySem.SeqAt PySem.Spec PyProof.Rows PySem.Builtin PySem.Builtin.ObjectAttr PySem.Builtin.Getset_descriptor
noncomputable def ExcAt (a C:Addr) (h:Heap):Prop:=∃o,h.get? a=some o/\o.cls=.ref C
structure XC (K:Frag) (C:Addr):Prop where
 cl:(clsIn K C).isSome=true
 ga:findIn K (.ref C) "__getattribute__" = some (some (.builtin "BaseException.__getattribute__"))
 gh:findIn K (.ref C) "__getattr__" = some none
 kc:findIn K (.ref C) "__class__" = some (some (.builtin "object.__class__"))
 kg:specialIn K (.builtin "object.__class__") "__get__" = some (some (.builtin "getset_descriptor.__get__"))
 kt:takesIn K (.builtin "object.__class__")=some true
 ob:mroIn K C (.type "object")=some true
 be:mroIn K C (.type "BaseException")=some true
section
variable {prog:Program} {w:World} {A:Around} {E:Value->Shared->Prop} {s:Shared} {K:Frag} {x C:Addr}
theorem yC {M:Model} {h:Heap} (p:ExcAt x C h):Looks M h (typeOf (.ref x)) (.ref C):=by
 obtain ⟨o,h1,h2⟩:=p;rw [<-h2];exact (Looks.ld h1).andThen .now
theorem W0 {M:Model} {h:Heap} (X:K.In h) (c:XC K C):Looks M h (find (.ref x) (.ref C) "__class__") (.bind (.builtin "getset_descriptor.__get__") (.builtin "object.__class__")):=by
 refine (looks_findIn (M:=M) X c.kc).andThen ((looks_specialIn (M:=M) X c.kg).andThen ?_);have L:Looks M h (dataDescriptor? (some (.builtin "object.__class__")) (some (.builtin "getset_descriptor.__get__"))) (some (.builtin "getset_descriptor.__get__",.builtin "object.__class__")):=(looks_takesIn (M:=M) X c.kt).andThen .now;exact L.andThen (Looks.tag .now)
theorem aAu {R:Result->Shared->Prop} {tp:Value} (X:K.In s.heap) (p:ExcAt x C s.heap) (c:XC K C) (h:R (.ok (.ret (.ref C))) s) :
  codeAny (model prog w) A (.call (.builtin "getset_descriptor.__get__") ⟨[.builtin "object.__class__",.ref x,tp],[]⟩) R s:=by
 obtain ⟨hh,g,d,t,os⟩:=s;have L0:=yC (M:=model prog w) p;have L1:=looks_mroIn (M:=model prog w) X c.ob;refine codeAny_call_builtin KF.slot_gs.plain KF.entry_gs (KF.slot_gs.check _ _ _ _ _ _ _ _ KF.type_class (KF.args_gs _ _ _) ?_)
 (unfold Builtin.«getset_descriptor.__get__» descrGet;rw [dga_obj];refine wpAny_bind (wpAny_pure ?_);unfold descrGetter descrCheckInstance descrNameAndClass isInstance;simp only [KF.owner_class])
 repeat lk
 refine ⟨Code.quiet_builtin _ (by decide +kernel),codeAny_builtin KF.entry_class ?_⟩
 (unfold Builtin.«object.__class__» shownTypeOf;repeat lk)
 exact h
theorem Q9 {tk:Tok} {Q:Fin->Shared->Prop} (X:K.In s.heap) (p:ExcAt x C s.heap) (c:XC K C) (h:Q (.done (.ret (.ref C))) s) :
  wpAny (model prog w) A (Builtin.«object.__getattribute__» ⟨[.ref x,.str "__class__" tk],[]⟩) Q E s:=by
 obtain ⟨hh,g,d,t,os⟩:=s;have L0:=yC (M:=model prog w) p;have L1:=W0 (M:=model prog w) (x:=x) X c;unfold Builtin.«object.__getattribute__»;refine wpAny_bind (wpAny_pure ?_);refine wpAny_bind (wpAny_pure ?_);refine wpAny_bind (L0.at (wpAny_bind (L1.at ?_)));show wpAny _ _ (holding [_] (call _ [_,.ref x,.ref C]) >>= ret) _ _ _;exact wpAny_bind (wpAny_holding (wpAny_call (aAu X p c (wpAny_pure h))))
theorem Q_ {M:Model} {nv:Value} {Q:Unit->Shared->Prop} (X:K.In s.heap) (p:ExcAt x C s.heap) (c:XC K C) (h:Q () s):wpAny M A (checkBuiltinCall "BaseException.__getattribute__" ⟨[.ref x,nv],[]⟩) Q E s:=by
 obtain ⟨hh,g,d,t,os⟩:=s;have L0:Looks M hh (isInstance (.ref x) (.type "BaseException")) true:=(yC (M:=M) p).andThen (looks_mroIn (M:=M) X c.be);have e1:builtinKind "BaseException.__getattribute__" = some .slot:=by decide +kernel
 have e2:splitId "BaseException.__getattribute__" = some ("BaseException", "__getattribute__"):=by decide +kernel
 have ha:=F.args_bexc_ga (.ref x) nv;simp only [checkBuiltinCall,e1,e2];refine wpAny_bind (L0.at ?_)
 repeat (any_goals (first|assumption|wp_step))
theorem aAv {Q:Option Value->Shared->Prop} (X:K.In s.heap) (p:ExcAt x C s.heap) (c:XC K C) (h:Q (some (.ref C)) {s with toks:=s.toks+1}):wpAny (model prog w) A (getAttr? (.ref x) "__class__") Q E s:=by
 obtain ⟨hh,g,d,t,os⟩:=s;have L0:=yC (M:=model prog w) p;have L1:=looks_findIn (M:=model prog w) X c.ga;have L2:=looks_findIn (M:=model prog w) X c.gh;have e2:(Value.builtin "BaseException.__getattribute__" == Value.builtin "object.__getattribute__")=false:=by decide +kernel
 have e1:(onTheHeap (Value.ref C)&&Value.builtin "BaseException.__getattribute__" == Value.builtin "object.__getattribute__")=false:=by rw [e2];rfl
 unfold getAttr? getAttrBy? getAttrBy;refine wpAny_bind (wpAny_mkText (wpAny_bind (wpAny_attempt (wpAny_holding (wpAny_bind (L0.at (wpAny_bind (L1.at ?_))))))));dsimp only;rw [e1,if_neg (by decide)];unfold getAttrByItsOwn hookBefore callGetattribute boundAndCalled;rw [if_pos (show onTheHeap (Value.ref C)=true from rfl)];refine wpAny_bind (L2.at (wpAny_bind (wpAny_attempt (wpAny_holding ?_))));rw [if_neg (by decide)];refine wpAny_bind (wpAny_of_eq (F.excAttr_ValueError.ga.bind (.ref x)) ?_);refine wpAny_call (codeAny_call_builtin F.excAttr_ValueError.ga.plain F.entry_bexc_ga (Q_ (K:=K) (C:=C) X p c (Q9 (K:=K) (C:=C) X p c ?_)));show wpAny _ _ (handedOut (.ref C)) _ _ _;exact wpAny_pure (wpAny_pure h)
theorem G9 (c:XC K C):KitX K (.ref x) (.ref C) (ExcAt x C) where
 ty:=fun _ _ _ p=>yC p
 it:=fun M h X _=>by
  obtain ⟨cd,hc⟩:=Option.isSome_iff_exists.mp c.cl;unfold clsIn at hc;split at hc
  ·rename_i ho;intro A' Q' E' s' k q
   (unfold isType loadHead;exact wpAny_bind (wpAny_loadPart (k _ _ (X _ _ ho)) (wpAny_pure q)))
  ·cases hc
 ne:=fun h tp dd its n sl X e=>by
  obtain ⟨cd,hc⟩:=Option.isSome_iff_exists.mp c.cl;unfold clsIn at hc;split at hc
  ·rename_i ho;refine Bool.eq_false_iff.mpr fun q=>?_
   have z:C=tp:=Value.ref.inj (beq_iff_eq.mp q);subst z;cases (X _ _ ho).symm.trans e
  ·cases hc
 ca:=fun X p h=>aAv X p c h
end
end Mi
end
section
namespace Mi
open PySem L2 PySem.W PySem.SeqAt PySem.Spec PyProof.Rows
noncomputable abbrev mrk (X:Cx) (v:Value):Cx:={X with A:=X.A.mark (some v),calm:=false}
section
variable {X:Cx} {pins:List (Addr×Obj)} {σ:L2.St} {H H1 H2:Hp} {s:Shared} {h h6:Heap} {a:Addr}
theorem RB (I:Inv X pins σ H s) (v:Value):Inv (mrk X v) pins σ H s:=
 ⟨⟨I.ok.mod,I.ok.kind,I.ok.glob,I.ok.blt,I.ok.above,I.ok.inj,I.ok.has,I.ok.cab,(fun z=>nomatch z),I.ok.frames,I.ok.stk,I.ok.exf,I.ok.bs,I.ok.bsz,I.ok.noex,I.ok.exfs,I.ok.LK,I.ok.frf⟩,I.os,I.bare,I.base,I.loc,I.cell,I.free,I.freeC,I.pin,I.hok,I.len⟩
theorem RC {v:Value} (ok:X.Ok) (I:Inv (mrk X v) pins σ H s):Inv X pins σ H s:=
 ⟨ok,I.os,I.bare,I.base,I.loc,I.cell,I.free,I.freeC,I.pin,I.hok,I.len⟩
theorem aD9 {fs:List Addr} {o:HO} (u:Un fs [] H H2 h h6) (hg:h.get? a=none) (hn:H2 a=none):Un fs [] H (upd H2 a o) h h6:=by
 have ne:∀b ob,h.get? b=some ob->b≠a:=fun b ob q z=>by rw [z,hg] at q;cases q
 refine ⟨u.keep,u.slot,fun b ob q n hx=>by rw [aX (ne b ob q)];exact u.free b ob q n hx,u.there,fun b xs q=>?_,fun b ob xs q=>?_,fun b ps q=>?_⟩
 ·have z:=u.tups b xs q;rw [aX (bJ z hn)];exact z
 ·have z:=u.frzs b ob xs q;rw [aX (bJ z hn)];exact z
 ·obtain ⟨m,z⟩:=u.tbls b ps q;exact ⟨m,by rw [aX (bJ z hn)];exact z⟩
theorem aAw {P:Program} {w:World} {o:HO} (x:HOk P w H2 h6) (hn:H2 a=none) (new:gR P w (upd H2 a o) h6 a o):HOk P w (upd H2 a o) h6:=fun b u e=>by
 by_cases hb:b=a
 ·subst hb;rw [aJ] at e;cases e;exact new
 ·rw [aX hb] at e;exact (x b u e).stay (fun c v _ q=>q) (fun c q=>by rw [aX (bJ q hn)];exact q) fun c xs q=>by rw [aX (bJ q hn)];exact q
theorem aDa {P:Program} {w:World} {C:Addr} (p:ExcAt a C h6):gR P w (upd H2 a (.ext (ExcAt a C))) h6 a (.ext (ExcAt a C)):=
 ⟨p,by obtain ⟨o,e,_⟩:=p;exact ⟨o,e⟩,fun h1 h2 ⟨o,e,c⟩ k=>⟨o,k o e,c⟩⟩
theorem W2 {i:Nat} {x:Str} {v:Option Value} {t':Nat} {h':Heap} {m:Str->Option Value} (I:Inv X pins σ H s) (hN:X.N.Nodup) (hi:X.N[i]?=some x) (hn:s.heap.Ns X.env.locals m)
  (hl:∀(i:Nat) (x:Str) (v:V),X.N[i]?=some x->σ[i]?=some (some v)->Vis X.env.scope x->∃u,RelV v u/\Look X.env s.heap m x u)
  (hn':h'.Ns X.env.locals (fun y=>if y=x then v else m y)) (hs:Heap.SameBut X.env.locals s.heap h'):Inv X pins (σ.set i none) H {s with heap:=h',toks:=t'}:=by
 have hiσ:i<σ.length:=by rw [I.len];exact (List.getElem?_eq_some_iff.mp hi).1
 have cne:=I.cne;have ne:∀b o,X.s₀.heap.get? b=some o->b≠X.env.locals:=fun b o e=>Nat.ne_of_lt (Nat.lt_of_lt_of_le (Heap.lt_size e) I.ok.above)
 refine ⟨I.ok,I.os,I.bare,⟨fun b o e n hb hx=>(hs.2 b (ne b o e)).trans (I.base.keep b o e n hb hx),fun b o e n hb hx=>?_,I.base.free,fun b o e hx=>?_,I.base.tups,I.base.frzs,I.base.tbls⟩,⟨_,hn',fun j y v' e1 e2 e3=>?_⟩,fun y c e=>?_,I.free,I.freeC,fun p hp=>?_,fun b ob e=>?_,by simpa using I.len⟩
 ·obtain ⟨sl,e1⟩:=I.base.slot b o e n hb hx;exact ⟨sl,(hs.2 b (ne b o e)).trans e1⟩
 ·obtain ⟨o',e1⟩:=I.base.there b o e hx;exact ⟨o',(hs.2 b (ne b o e)).trans e1⟩
 ·by_cases hj:j=i
  ·subst hj;rw [List.getElem?_set_self hiσ] at e2;cases e2
  ·rw [List.getElem?_set_ne (Ne.symm hj)] at e2;obtain ⟨u',r',q⟩:=hl j y v' e1 e2 e3;refine ⟨u',r',?_⟩;rcases q with ⟨k,e⟩|⟨k,c,e,z⟩
   ·refine .inl ⟨k,?_⟩;have:y≠x:=fun e=>hj (uL hN e1 (e▸hi))
    simp [this,e]
   ·exact .inr ⟨k,c,e,z.sameBut hs (cne y c e)⟩
 ·obtain ⟨w',z⟩:=I.cell y c e;exact ⟨w',z.sameBut hs (cne y c e)⟩
 ·obtain ⟨e,n,ne,nf,d⟩:=I.pin p hp;exact ⟨(hs.2 p.1 ne).trans e,n,ne,nf,d⟩
 ·refine (I.hok b ob e).stay (fun c w' hc q=>(hs.2 c ?_).trans q) (fun _ q=>q) fun _ _ q=>q
  intro z;rcases hc with hc|hc
  ·rw [<-hc,z,I.free] at e;cases e
  ·rw [z,I.free] at hc;cases hc
end
noncomputable def aFq (t:TA) (sp:Sp) (C:Addr) (ie:Nat) (ts:TS):TS:=fun D σ H=>t σ H fun vs H1=>sp vs H1 (fun _ _=>False) fun _ _ H2=>∀a,H2 a=none->ts {nx:=fun σ' H'=>D.nx (σ'.set ie none) H',rt:=fun _ _=>False} (σ.set ie (some (.ref a))) (upd H2 a (.ext (ExcAt a C)))
theorem aDb {X:Cx} {k:Nat} {fad C:Addr} {cM:Value} {fd:FuncData} {ps:List Str} {sp:Sp} {f mx n:Str} {p cpos xpos mp hpos pos:Pos} {e:Expr} {es:List Expr} {t:TA} {b0:Stmt} {suite:List Stmt} {ts:TS} {ie:Nat}
  (hst:X.stack=X.env::X.outer) (hfr:X.env.frame=some X.env.locals) (F:D_ X.prog X.w X.K X.mg X.base (CX1 X.prog X.w C) k fad fd ps sp) (hr:pL k X.A) (hg:Gl X f) (hm:X.mg f=some (.ref fad)) (hk:keepIn X.K (.ref fad)=true) (hb:Binds X.K fd ps [])
  (ha:PA X.nox (e::es) t) (hgM:Gl X mx) (hmM:X.mg mx=some cM) (hx:exmOne X.K (.ref C) cM=some true) (hN:X.N.Nodup) (hin:X.N[ie]?=some n) (hln:X.env.scope.names.lookup n=some .local)
  (hs:∀v,PSs (mrk X v).nox (b0::suite) ts)
  (hdb:(f==("__debug__" : Str))=false:=by decide) (hdM:(mx==("__debug__" : Str))=false:=by decide) (he:starEach (e::es) X.env=(false,eval e X.env)::starEach es X.env:=by rfl) (hpl:(backTo cpos (starEach es X.env)).any (·.1)=false:=by rfl)
  (hsw:swapsWith (.Call (.Name f p) (e::es) [] cpos) none xpos.line X.env=pure false:=by rfl) :
  PS X (.Try [.Expr (.Call (.Name f p) (e::es) [] cpos) xpos] [.ExceptHandler (some (.Name mx mp)) (some n) (b0::suite) hpos] [] [] pos) (aFq t sp C ie ts):=by
 intro pins s σ H D I h;refine wpAny_Try_except (wpAny_execs_cons (wpAny_Expr_any ?_ I.quiet hsw));refine wpAny_Call_Name_kw (qN I hg hm ?_ hdb);refine callWith_K (h₀:=X.base) I.ok.mod.kin hk (wpAny_mono (ha cpos pins s σ H _ (I.wish _) h) (fun us s1 ⟨vs,H1,I1,r,q⟩=>⟨I1.kIn,?_⟩) fun _ _ z=>False.elim z) he hpl;have I1:Inv X pins σ H1 s1:=I1.kJ;have hl:(us++[]).length=ps.length:=by rw [List.append_nil,<-r.length];exact F.len _ _ _ _ q
 have hb':=hb s1 us I1.kIn hl;rw [List.append_nil] at hb';refine wpAny_call (codeAny_mono (F.run X.A X.stack s1 H1 ⟨us,[]⟩ us vs _ _ hr I1.env0 hb' r q) fun r s' hq=>?_);cases r with
 | ok fl=>
  cases fl with
  | ret u=>obtain ⟨_,_,_,_,_,_,_,z⟩:=hq;exact z.elim
  | next=>exact False.elim hq
  | brk=>exact False.elim hq
  | cont=>exact False.elim hq
 | error e=>
  obtain ⟨a,tt,H2,B,rfl,os',bare',fly,clo,hn,hgone,hE⟩:=hq;rw [hst] at fly;refine wpAny_looks_onW (by rw [I.ok.frames,hst]) hfr fly fun h4 held4 sm4=>?_
  refine wpAny_landsW held4 fun h5 fly5 sm5=>?_
  have up5:s'.heap.UpToSlots h5:=Heap.UpToSlots.trans sm4 sm5;have I5:Inv X pins σ H2 {s' with heap:=h5}:=by
   obtain ⟨un,hok⟩:=clo h5 fly5.1 up5;exact I1.call' (ch:=[]) os' un hok bare' (fun b z=>absurd z (by simp))
  refine wpAny_handleBy_cons (codeAny_handlers_test ?_) (by intro q;cases q);refine qN (X:=mrk X (.ref a)) (RB I5 _) hgM hmM ?_ hdM;have LT:Looks (model X.prog X.w) h5 (typeOf (.ref a)) (.ref C):=by
   obtain ⟨ob,hob,hc⟩:=fly5.there;rw [<-hc];exact (Looks.ld hob).andThen .now
  refine (exm_one I5.kIn LT hx).here ?_;refine codeAny_handlers_suite_as ?_;refine lands_againW fly5 fun h6 fly6 sm6=>?_
  obtain ⟨un6,hok6⟩:=clo h6 fly6.1 (Heap.UpToSlots.trans up5 sm6);have I6:Inv X pins σ (upd H2 a (.ext (ExcAt a C))) {s' with heap:=h6}:=
   I1.call' (ch:=[]) os' (aD9 un6 hgone hn) (aAw hok6 hn (aDa fly6.there)) bare' (fun b z=>absurd z (by simp))
  refine wK (X:=X) (v:=.ref a) I6 hN hin (.inl hln) rfl (fun s7 I7 _=>?_) (.inr hln);refine wpAny_mono (hs (.ref a) pins s7 _ _ _ ((RB I7 _).wish _) (hE a hn)) (fun fl s8 q8=>?_) fun _ _ z=>False.elim z
  cases fl with
  | ret u=>obtain ⟨_,_,_,_,_,z⟩:=q8;exact z.elim
  | brk=>obtain ⟨_,_,_,z⟩:=q8;exact z.elim
  | cont=>obtain ⟨_,_,_,z⟩:=q8;exact z.elim
  | next=>
   obtain ⟨σ8,H8,I8,q⟩:=q8;have I8:Inv X pins σ8 H8 s8:=RC I.ok I8.kJ;obtain ⟨m,hm8,hl8⟩:=id I8.loc;refine wpAny_nameGoes_keeps hln hm8 (by rw [I.ok.kind];rfl) fun h9 v hn9 sb9=>?_
   exact ⟨_,H8,W2 I8 hN hin hm8 hl8 hn9 sb9,q⟩
end Mi
end
section
namespace Mi
open PySem L2 PySem.W PySem.SeqAt PySem.Spec PyProof.Rows
noncomputable def aAx (C:Addr) (i:Nat) (cs:List Addr) (b:Bool):TE:=fun σ H Q=>∃a,σ[i]?=some (some (.ref a))/\H a=some (.ext (ExcAt a C))/\∀p,H p=none->Q (.bl b) (upd H p (.tup (cs.map V.ref)))
noncomputable def aF3 (C:Addr) (i:Nat) (b:Bool):TE:=fun σ H Q=>∃a,σ[i]?=some (some (.ref a))/\H a=some (.ext (ExcAt a C))/\Q (.bl b) H
variable [KFrag]
theorem yD:∀{cs:List Addr} {us:List Value},Vals (cs.map V.ref) us->us=cs.map Value.ref
 | [],_,.nil=>rfl
 | c::cs,_,.cons r t=>by rw [yD t];cases r;rfl
section
variable {X:Cx} {C:Addr} {i:Nat} {cs:List Addr} {b:Bool} {y:Str} {p np tpos pos:Pos} {es:List Expr} {kk:Nat} {ce:Expr} {v:V} {u:Value}
theorem RD (c:XC X.K C) (hk:kitAny X.K (.ref C) (cs.map Value.ref)=some b) (hz:cs.length<=sizeLine) (hg:Gl X "isinstance") (hm:X.mg "isinstance" = none) (hN:X.N[i]?=some y) (hv:Vis X.env.scope y) (ha:PA X es fun _ H Q=>Q (cs.map V.ref) H)
  (hd:(y==("__debug__" : Str))=false:=by decide) (hcd:(y==("__classdict__" : Str))=false:=by decide) :
  PE X (.Call (.Name "isinstance" p) [.Name y np,.Tuple es kk tpos] [] pos) (aAx C i cs b):=by
 have hc:iY X (.builtin "isinstance") (fun vs H Q=>∃a tp,vs=[.ref a,.ref tp]/\H a=some (.ext (ExcAt a C))/\H tp=some (.tup (cs.map V.ref))/\Q (.bl b) H):=by
  intro pins s σ H vs us Q I r ⟨a,tp,e,ea,et,q⟩;subst e;cases r with
  | cons r1 r=>
   cases r with
   | cons r2 r=>
    cases r;cases r1;cases r2;obtain ⟨_,its,ri,o,ho,hoc,n,hod⟩:=I.hok tp _ et;have e2:=yD ri;subst e2;obtain ⟨c1,d1,dt,sl⟩:=o;replace hod:=congrArg Prod.fst hod;dsimp only at hoc hod;subst hoc hod;obtain ⟨px,_⟩:=I.hok a _ ea;exact kia_tup (G9 c) I.kIn px ho hk (by intro z;cases z) fun tk=>⟨.bl b,H,I.tok tk,rfl,q⟩
 refine PE.imp (qC hc hg hm (by decide +kernel) (bT (j6 hN hv hd hcd) (bT (YL ha) kO))) fun σ H Q ⟨a,e1,e2,q⟩=>⟨.ref a,e1,⟨by simpa using hz,fun tp htp=>⟨a,tp,rfl,?_,aJ,q tp htp⟩⟩⟩
 rw [aX (bJ e2 htp)];exact e2
theorem RG (c:XC X.K C) (hk:kitOne X.K (.ref C) u=some b) (hu:∀u',RelV v u'->u'=u) (hg:Gl X "isinstance") (hm:X.mg "isinstance" = none) (hN:X.N[i]?=some y) (hv:Vis X.env.scope y) (ha:PE X ce (tC v))
  (hst:starEach [ce] X.env=(false,eval ce X.env)::starEach [] X.env) (hpl:(backTo pos (starEach [ce] X.env)).any (·.1)=false)
  (hd:(y==("__debug__" : Str))=false:=by decide) (hcd:(y==("__classdict__" : Str))=false:=by decide) :
  PE X (.Call (.Name "isinstance" p) [.Name y np,ce] [] pos) (aF3 C i b):=by
 have hc:iY X (.builtin "isinstance") (fun vs H Q=>∃a,vs=[.ref a,v]/\H a=some (.ext (ExcAt a C))/\Q (.bl b) H):=by
  intro pins s σ H vs us Q I r ⟨a,e,ea,q⟩;subst e;cases r with
  | cons r1 r=>
   cases r with
   | cons r2 r=>
    cases r;cases r1;have e2:=hu _ r2;subst e2;obtain ⟨px,_⟩:=I.hok a _ ea;exact kia_one (G9 c) I.kIn px hk (by intro z;cases z) fun tk=>⟨.bl b,H,I.tok tk,rfl,q⟩
 exact PE.imp (qC hc hg hm (by decide +kernel) (bT (j6 hN hv hd hcd) (bT ha kO hst)) (hpl:=hpl)) fun σ H Q ⟨a,e1,e2,q⟩=>⟨.ref a,e1,a,rfl,e2,q⟩
end
noncomputable def aDc (t:TA) (sp:Sp) (C:Addr) (ic ie:Nat) (cs1 cs2:List Addr):TS:=
 aBl (aBm (tC .non) (oW ic)) (aBl (aFq t sp C ie (aBm (aFh ie) (oW ic))) (aBl (aEc (tB (aAx C ic cs1 false)) (aDz (tC (.bl false))) Z0)
  (aBl (aEc (tB (aAx C ic cs2 false)) (aDz (tC (.bl false))) Z0) (aDz (aC1 (aF3 C ic true) (aF3 C ic true))))))
theorem vU {H:Hp} {a:Addr} {o:HO} (h:H a=none):cJ H (upd H a o):=fun b u e=>by rw [aX (bJ e h)];exact e
theorem vV:bootBuiltins "ValueError" = some (.type "ValueError"):=by decide +kernel
end Mi
end
section
namespace Mi
open PySem L2 PySem.SeqAt PySem.Spec PyProof.Rows
noncomputable def G_:List D->Res D
 | [.int n]=>if decide (-1000000<=n)&&decide (n<=1000000) then .ok (.lst ((List.range n.toNat).map fun (k:Nat)=>D.int k)) else .bad
 | _=>.bad
variable [KFrag]
section
variable {X:Cx} {a e:Expr} {es:List Expr} {p p2 pos pos2:Pos} {fs:FA} {rr:Bool}
theorem KJ:∀(n:Nat) (f:Nat->Int) (xs:List Value),xs.length=n->(∀(j:Nat) (v:Value),xs[j]?=some v->∃t,v=.int (f j) t)->Vals ((List.range n).map fun (k:Nat)=>V.int (f k)) xs:=by
 intro n;induction n with
 | zero=>intro f xs hl _;cases xs with|nil=>exact .nil|cons _ _=>simp at hl
 | succ n ih=>
  intro f xs hl h;cases xs with
  | nil=>simp at hl
  | cons x xs=>
   rw [List.range_succ_eq_map,List.map_cons,List.map_map];exact .cons (h 0 x rfl) (ih (fun k=>f (k+1)) xs (by simpa using hl) fun j v hj=>h (j+1) v (by simpa using hj))
theorem W3 (hc:X.calm=true):iY X (.type "list") (fun vs H Q=>∃r n,vs=[.ref r]/\H r=some (.rng 0 n)/\-1000000<=n/\n<=1000000/\∀q,H q=none->Q (.ref q) (upd H q (.lst ((List.range n.toNat).map fun (k:Nat)=>V.int k)))):=by
 intro pins s σ H vs us Q I vr ⟨r,n,e,er,h1,h2,q⟩;subst e;cases vr with
 | cons r1 vr=>
  cases vr;cases r1;obtain ⟨t,u,v,hr⟩:=I.hok r _ er;have hn:Builtin.Range.rangeSize 0 n 1=(n.toNat:Int):=by rw [rangeSize_one];split <;> lia
  refine call_list_range (n:=n.toNat) (I.ok.hd hc) hr (small_one (by lia) (by lia) (by lia) (by lia)) hn (by lia) fun h' tk acc' c' hk hS' hacc=>?_
  have hfr:H s.heap.objs.size=none:=I.hok.fresh (Nat.le_refl _);refine ⟨.ref s.heap.objs.size,_,I.laid (t':=tk) hk (Nat.le_refl _) ?_,rfl,q _ hfr⟩;refine ⟨by rw [List.length_map,List.length_range,sizeLine_eq];lia,acc'.toList,c',KJ _ (fun k=>(k:Int)) _ (by simp [hacc.1]) fun j v hj=>?_,by simpa using hS'⟩;obtain ⟨t,ht⟩:=hacc.2 j v (by simpa using hj);exact ⟨t,by rw [ht];congr 1;lia⟩
theorem rQ {P:Addr->Prop} {H:Hp}:∀(l:List Nat),bN P H (l.map fun (k:Nat)=>V.int k) (l.map fun (k:Nat)=>D.int k)
 | []=>.nil
 | n::l=>.cons (.int _) (rQ l)
theorem W4 (hc:X.calm=true) (hg:Gl X "list") (hm:X.mg "list" = none) (hg2:Gl X "range") (hm2:X.mg "range" = none) (ha:PA X [a] (gA fs rr)) (hs:starEach [a] X.env=[(false,eval a X.env)]:=by rfl) :
  PE X (.Call (.Name "list" p) [.Call (.Name "range" p2) [a] [] pos2] [] pos) (gE (aO G_ fs) true):=by
 have hr:PE X (.Call (.Name "range" p2) [a] [] pos2) (fun σ H Q=>∃ρ n,ER H σ ρ/\fs ρ=.ok [.int n]/\∀H1 r,cJ H H1->H1 r=none->Q (.ref r) (upd H1 r (.rng 0 n))):=by
  intro pins s σ H Q I ⟨ρ,n,E,h1,q⟩;refine wpAny_Call_Name_kw (tZ I hg2 hm2 boot_range ?_);refine PyProof.Rows.callWith_type1 (thn (ha pos2 pins s σ H (fun vs H1=>cJ H H1/\vs=[.int n]) I ⟨ρ,_,E,h1,fun vs H1 s1 r1 _=>⟨s1,?_⟩⟩) fun us s1 ⟨vs,H1,I1,r1,sm,e⟩=>?_) hs rfl
  ·cases r1 with
   | cons r t=>cases t;cases r;rfl
  ·subst e;cases r1 with
   | cons r t=>
    cases t;obtain ⟨t,rfl⟩:=r;have hfr:H1 s1.heap.objs.size=none:=I1.hok.fresh (Nat.le_refl _);exact call_range_1 ⟨.ref s1.heap.objs.size,_,I1.laid (o:=.rng 0 n) (fun b o e=>Heap.get?_push_of_some _ e) (Nat.le_refl _) ⟨_,_,_,Heap.get?_push_size _ rfl⟩,rfl,q H1 _ sm hfr⟩
 refine PE.imp (wR (W3 hc) hg hm QW (bT hr kO)) fun σ H Q ⟨ρ,d,E,h,q⟩=>?_
 obtain ⟨xs,h1,h2⟩:=bI h;unfold G_ at h2;split at h2
 ·rename_i n;split at h2
  ·rename_i hb;rw [Bool.and_eq_true] at hb;cases h2;refine ⟨ρ,n,E,h1,fun H1 r s1 hr=>⟨r,n,rfl,aJ,of_decide_eq_true hb.1,of_decide_eq_true hb.2,fun q' hq'=>?_⟩⟩;have s2:=cJ.upd (o:=.rng 0 n) hr;have s3:=cJ.upd (o:=.lst ((List.range n.toNat).map fun (k:Nat)=>V.int k)) hq';exact q _ _ ((s1.trans s2).trans s3) (.lst aJ trivial (rQ _)) fun _=>.lst aJ ((s1.trans s2).free hq') (rQ _)
  ·cases h2
 ·cases h2
end
section
variable {X:Cx} {own:Nat->Bool} {a b e:Expr} {pos:Pos} {fs:FA} {rr re:Bool} {fe:FE}
end
end Mi
end
section
namespace Mi
open PySem L2 PySem.SeqAt PySem.Spec PyProof.Rows
variable [KFrag]
section
variable {X:Cx} {pins:List (Addr×Obj)} {σ:L2.St} {H:Hp} {s:Shared} {a:Addr} {kvs:List (Key×V)}
end
mutual
theorem vW {P:Addr->Prop} {H:Hp} {a:Addr} {u:HO} (ea:∀xs,H a≠some (.tup xs)):∀{v:V} {d:D},Rep P H v d->d.pure=true->Rep P (upd H a u) v d
 | _,_,.non,_=>.non
 | _,_,.bl b,_=>.bl b
 | _,_,.int i,_=>.int i
 | _,_,.str x,_=>.str x
 | _,_,.tup (a:=b) e r,h=>.tup (by rw [aX (fun z=>by rw [z] at e;exact ea _ e)];exact e) (lM ea r (by rw [D.pure] at h;exact h))
 | _,_,.lst _ _ _,h=>by rw [D.pure] at h;cases h
 | _,_,.frz _ _,h=>by rw [D.pure] at h;cases h
 | _,_,.dK _ _ _ _,h=>by rw [D.pure] at h;cases h
 | _,_,.dT _ _ _ _,h=>by rw [D.pure] at h;cases h
 | _,_,.fdK _ _ _,h=>by rw [D.pure] at h;cases h
 | _,_,.fdT _ _ _,h=>by rw [D.pure] at h;cases h
theorem lM {P:Addr->Prop} {H:Hp} {a:Addr} {u:HO} (ea:∀xs,H a≠some (.tup xs)):∀{v:List V} {d:List D},bN P H v d->D.a_ d=true->bN P (upd H a u) v d
 | _,_,.nil,_=>.nil
 | _,_,.cons r t,h=>by
  rw [D.a_,Bool.and_eq_true] at h;exact .cons (vW ea r h.1) (lM ea t h.2)
end
theorem pD:∀{acc:List D} {y:D},D.a_ acc=true->y.pure=true->D.a_ (acc++[y])=true
 | [],y,_,h=>by show (y.pure&&true)=true;rw [h];rfl
 | x::acc,y,h,hy=>by
  rw [D.a_,Bool.and_eq_true] at h;show (x.pure&&D.a_ (acc++[y]))=true;rw [h.1,pD h.2 hy];rfl
section
variable {X:Cx} {scope:Scope} {x c:Str} {i n:Nat} {elt:Expr} {fe:FE} {re:Bool} {np ap cp cpos pos:Pos}
end
end Mi
end
section
namespace Mi
open PySem L2 PySem.SeqAt PySem.Spec PyProof.Rows AutoSeq1 MeetsSeq MeetsSeq2 MeetsSeq3
section
variable {P:Program} {w:World} {l b:Addr} {xs ys:Array Value} {n m:Nat} {dd de:Option Addr} {sl sm:Array (Option Value)} {e:Nat->Bool}
end
variable [KFrag]
section
variable {X:Cx} {pins:List (Addr×Obj)} {σ:L2.St} {H:Hp} {s:Shared}
end
end Mi
end
section
namespace Mi
open PySem L2 PySem.SeqAt PySem.Spec PyProof.Rows
variable [KFrag]
section
variable {P:Program} {w:World} {K:PySem.W.Frag} {mg:Str->Option Value} {base:Heap} {x qual:Str} {st:Stmt} {fad T:Addr} {its:Array Value} {fd:FuncData} {N ps:List Str} {k:Nat} {f:FS}
end
section
variable {X:Cx} {e ke:Expr} {es:List Expr} {pos p kp:Pos} {fs:FA} {rr re:Bool} {fk:FE} {x kw:Str} {k k' n:Nat} {df:D} {f:List D->Res D}
end
end Mi
end
section
namespace Mi
open PySem L2 PySem.SeqAt PySem.Spec PyProof.Rows
variable [KFrag]
section
variable {X:Cx} {pos:Pos}
end
end Mi
end
section
namespace Mi
open PySem L2 PySem.SeqAt PySem.Spec PyProof.Rows
variable [KFrag]
section
variable {X:Cx} {own:Nat->Bool} {e:Expr} {fe:FE} {re:Bool} {pos:Pos}
end
end Mi
end
section
namespace Mi
open PySem L2 PySem.SeqAt PySem.Spec PyProof.Rows
variable [KFrag]
section
variable {X:Cx} {pins:List (Addr×Obj)} {σ:L2.St} {H:Hp} {s:Shared} {a:Addr} {kvs:List (Key×V)}
theorem W5 {o:Obj} {u:HO} (I:Inv X pins σ H s) (e:H a=some (.frz o u)) (hn:∀o u,X.H₀ a≠some (.frz o u)):Inv X pins σ (upd H a u) s:=by
 have ne:∀b,H b=none->b≠a:=fun b h z=>by subst z;rw [e] at h;cases h
 have keepT:∀b xs,H b=some (.tup xs)->upd H a u b=some (.tup xs):=fun b xs h=>by
  rw [aX (fun z=>by subst z;rw [e] at h;cases h)];exact h
 have keepO:∀b x,H b=some (.own x)->upd H a u b=some (.own x):=fun b x h=>by
  rw [aX (fun z=>by subst z;rw [e] at h;cases h)];exact h
 refine ⟨I.ok,I.os,I.bare,⟨I.base.keep,I.base.slot,fun b o h1 h2 h3=>?_,I.base.there,fun b xs h=>?_,fun b o' u' h=>?_,fun b ps h=>?_⟩,I.loc,I.cell,?_,fun x c h=>?_,fun p hp=>?_,fun b ob h=>?_,I.len⟩
 ·have:=I.base.free b o h1 h2 h3;rw [aX (ne b this)];exact this
 ·exact keepT b xs (I.base.tups b xs h)
 ·have:=I.base.frzs b o' u' h;rw [aX (fun z=>by subst z;exact hn _ _ h)];exact this
 ·obtain ⟨more,h1⟩:=I.base.tbls b ps h;refine ⟨more,?_⟩;rw [aX (fun z=>by subst z;rw [e] at h1;cases h1)];exact h1
 ·rw [aX (ne _ I.free)];exact I.free
 ·have:=I.freeC x c h;rw [aX (ne _ this)];exact this
 ·obtain ⟨h1,h2,h3⟩:=I.pin p hp;exact ⟨h1,by rw [aX (ne _ h2)];exact h2,h3⟩
 ·by_cases hb:b=a
  ·subst hb;rw [aJ] at h;cases h;obtain ⟨_,h2⟩:=I.hok b _ e;exact h2.stay (fun _ _ _ q=>q) (fun c hc=>keepO c b hc) keepT
  ·rw [aX hb] at h;exact (I.hok b _ h).stay (fun _ _ _ q=>q) (fun c hc=>keepO c b hc) keepT
end
theorem aDd {P P':Addr->Prop} {H:Hp} {a:Addr} {ds:List (D×D)} {o:Obj} {u:HO} (r:Rep P H (.ref a) (.dct ds)) (hua:H a=some u) (hp:D.a_ (ds.map (·.2))=true):Rep P' (upd H a (.frz o u)) (.ref a) (.fdc ds):=by
 have hna:∀xs,H a≠some (.tup xs):=fun xs z=>by
  cases r with
  | dK e _ _ _=>rw [e] at z;cases z
  | dT e _ _ _=>rw [e] at z;cases z
 have goK:∀{kvs:List (Key×V)} {ds:List (D×D)},m5 P H kvs ds->D.a_ (ds.map (·.2))=true->m5 P' (upd H a (.frz o u)) kvs ds:=by
  intro kvs ds r;induction kvs generalizing ds with
  | nil=>cases r;intro _;exact .nil
  | cons p kvs ih=>cases r with
   | cons r t=>
    intro h;rw [List.map_cons,D.a_,Bool.and_eq_true] at h;exact .cons ((vW hna r h.1).bY h.1) (ih t h.2)
 have goT:∀{kvs:List (List Key×V)} {ds:List (D×D)},kI P H kvs ds->D.a_ (ds.map (·.2))=true->kI P' (upd H a (.frz o u)) kvs ds:=by
  intro kvs ds r;induction kvs generalizing ds with
  | nil=>cases r;intro _;exact .nil
  | cons p kvs ih=>cases r with
   | cons r t=>
    intro h;rw [List.map_cons,D.a_,Bool.and_eq_true] at h;exact .cons ((vW hna r h.1).bY h.1) (ih t h.2)
 cases r with
 | dK e _ r n=>rw [e] at hua;cases hua;exact .fdK aJ (goK r hp) n
 | dT e _ r n=>rw [e] at hua;cases hua;exact .fdT aJ (goT r hp) n
end Mi
end
section
namespace Mi
open PySem L2 PySem.SeqAt PySem.Spec PyProof.Rows
variable [KFrag]
section
variable {X:Cx} {scope:Scope} {own:Nat->Bool} {x c y:Str} {i n iy:Nat} {elt cnd:Expr} {fe:FE} {gc:FT} {re o:Bool} {np cpos pos py pos2:Pos}
end
section
variable {own:Nat->Bool}
noncomputable def rR (own:Nat->Bool) (i:Nat):Nat->Bool:=fun j=>own j&&!(j==i)
theorem lN {i j:Nat} (h:rR own i j=true):own j=true/\j≠i:=by
 unfold rR at h;simpa using h
theorem Own.of {i:Nat} {σ:L2.St} {b:Addr} (h:Own (rR own i) σ b):Own own σ b:=by
 obtain ⟨j,hj,e⟩:=h;exact ⟨j,(lN hj).1,e⟩
theorem aF4 {H:Hp} {σ:L2.St} {ρ:List D} {i:Nat} {a:Addr} {ds:List (D×D)} {o:Obj} {u:HO} (E:ES own H σ ρ) (ho:own i=true) (hσ:σ[i]?=some (some (.ref a))) (hd:ρ.getD i .uDf=.dct ds) (hua:H a=some u) (hmu:PJ u=true):ES (rR own i) (upd H a (.frz o u)) σ (ρ.set i (.fdc ds))/\¬Own (rR own i) σ a:=by
 obtain ⟨a',oa,ea,ra,hin,hHa,hma,huq⟩:=E.own i _ ho hσ;cases ea;rw [hd] at ra hin;have hna:¬Own (rR own i) σ a:=fun ⟨j,hj,e⟩=>(lN hj).2 (huq j (lN hj).1 e)
 have hOa:Own own σ a:=⟨i,ho,hσ⟩
 have hl:i<ρ.length:=by rw [<-E.len];exact (List.getElem?_eq_some_iff.mp hσ).1
 refine ⟨⟨by simp [E.len],fun j hj=>?_,fun j w hj hw=>?_⟩,hna⟩
 ·rw [fY] at hj ⊢;by_cases h:i=j/\i<ρ.length
  ·rw [if_pos h];obtain ⟨rfl,_⟩:=h;exact ⟨_,hσ,fun _=>aDd ra hua hin⟩
  ·rw [if_neg h] at hj ⊢;have hij:i≠j:=fun z=>h ⟨z,hl⟩
   obtain ⟨w,h1,h2⟩:=E.at_ j hj;refine ⟨w,h1,fun hj2=>?_⟩;have hoj:own j=false:=by
    unfold rR at hj2;cases hq:own j with
    | false=>rfl
    | true=>rw [hq] at hj2;simp at hj2;exact absurd hj2.symm hij
   refine (h2 hoj).keep (fun b ob hb hp=>?_) fun b hb hq=>hb hq.of
   rw [aX]
   ·exact hb
   ·intro z;subst z;rcases hp with hp|hp
    ·exact hp hOa
    ·rw [hua] at hb;cases hb;rw [hmu] at hp;cases hp
 ·obtain ⟨hoj,hji⟩:=lN hj;rw [fY,if_neg fun z=>hji z.1.symm];obtain ⟨b,ob,h1,h2,h3,h4,h5,h6⟩:=E.own j w hoj hw;subst h1;have hba:b≠a:=fun z=>by subst z;exact hji (huq j hoj hw)
  refine ⟨b,ob,rfl,?_,h3,by rw [aX hba];exact h4,h5,fun k hk hs=>h6 k (lN hk).1 hs⟩;refine (h2.aEy (P':=fun c=>c=b) h3 rfl).keep (fun c oc hc hp=>?_) fun _ _=>trivial
  rw [aX]
  ·exact hc
  ·intro z;subst z;rcases hp with hp|hp
   ·exact hba hp.symm
   ·rw [hHa] at hc;cases hc;rw [hma] at hp;cases hp
end
end Mi
end
section
namespace Wz
open PySem PySem.Spec
section
variable {prog:Program} {w:World} {A:Around} {E:Value->Shared->Prop} {s:Shared} {it t:Addr} {i:Nat} {xs:Array Value} {x:Value} {n:Nat} {dd:Option Addr} {sl:Array (Option Value)}
end
section
variable {z TI TO i1 i2 l1 l2:Addr} {o1 o2:Obj} {f0 f1 g0 g1 a b c d:Value} {k1 k2:Nat} {h h':Heap}
end
section
variable {prog:Program} {w:World} {A:Around} {E:Value->Shared->Prop} {s:Shared} {z TI TO i1 i2 l1 l2:Addr} {n1 n2:Nat} {d1 d2:Option Addr} {s1 s2:Array (Option Value)} {f0 f1 a b x y:Value} {k:Nat} {xs ys:Array Value}
end
end Wz
end
section
namespace Wz
open PySem PySem.Spec
section
variable {prog:Program} {w:World} {A:Around} {E:Value->Shared->Prop} {s:Shared} {z TI TO i1 i2 l1 l2:Addr} {n1 n2:Nat} {d1 d2:Option Addr} {s1 s2:Array (Option Value)} {f0 f1 a b x y:Value} {k:Nat} {xs ys:Array Value}
end
end Wz
end
section
namespace Wz
open PySem PySem.Spec
section
variable {prog:Program} {w:World} {A:Around} {E:Value->Shared->Prop} {s:Shared}
end
section
variable {prog:Program} {w:World} {A:Around} {E:Value->Shared->Prop} {hp:Heap} {g:Array GenState} {d:Drawn} {tk:Nat} {os:OsState} {a TI TO:Addr} {f0 f1:Value}
end
end Wz
end
section
namespace Wz
open PySem PySem.Spec
section
variable {prog:Program} {w:World} {A:Around} {E:Value->Shared->Prop} {s:Shared} {z TI TO i1 i2 l1 l2 d:Addr} {n1 n2:Nat} {d1 d2:Option Addr} {s1 s2:Array (Option Value)} {x y:Value} {k:Nat} {xs ys:Array Value}
end
section
variable {prog:Program} {w:World} {K:Type} [DecidableEq K] {knd:KeyKind prog w K} {A:Around} {R:Except Value Flow->Shared->Prop} {z TI TO i1 i2 l1 l2 d:Addr} {n1 n2:Nat} {d1 d2:Option Addr} {s1 s2:Array (Option Value)} {xs ys:Array Value} {ks:List K}
end
section
variable {prog:Program} {w:World} {K:Type} [DecidableEq K] {knd:KeyKind prog w K} {A:Around} {E:Value->Shared->Prop} {hp:Heap} {g:Array GenState} {dr:Drawn} {tk:Nat} {os:OsState} {z TI TO i1 i2 l1 l2:Addr} {n1 n2:Nat} {d1 d2:Option Addr} {s1 s2:Array (Option Value)} {xs ys:Array Value} {ks:List K}
end
end Wz
end
section
namespace Mi
open PySem L2 PySem.SeqAt PySem.Spec PyProof.Rows
variable [KFrag]
section
variable {X:Cx} {a b:Expr} {fs:FA} {rr:Bool} {p p2 pos pos2:Pos}
end
end Mi
end
section
namespace Mi
open PySem L2 PySem.SeqAt PySem.Spec PyProof.Rows
noncomputable def aE6:List D->Res D
 | [.bl b]=>.ok (.int (if b then 1 else 0))
 | [.int i]=>.ok (.int i)
 | _=>.bad
variable [KFrag]
theorem aAy {X:Cx}:iY X (.type "int") (rs aE6 true):=by
 intro pins s σ H xs us Q I vr ⟨ds,d,r,e,k⟩;unfold aE6 at e;split at e
 ·cases e;obtain ⟨vv,uu,rfl,rfl,r,v⟩:=iI r vr;cases r;cases v;exact call_int_bool ⟨.int _,H,I.tok _,⟨_,rfl⟩,k.int⟩
 ·cases e;obtain ⟨vv,uu,rfl,rfl,r,v⟩:=iI r vr;cases r;obtain ⟨t,rfl⟩:=v;exact call_int_int ⟨.int _,H,I,⟨_,rfl⟩,k.int⟩
 ·cases e
section
variable {X:Cx} {own:Nat->Bool} {e:Expr} {fe:FE} {re:Bool} {pos:Pos}
end
end Mi
end
section
namespace Mi
open PySem L2 PySem.W PySem.SeqAt PySem.Spec PyProof.Rows
noncomputable abbrev FR:=List D->Bool
noncomputable def rT:FR:=fun _=>true
noncomputable def KN (h:List D->Bool) (a:FA):FR:=fun ρ=>match a ρ with|.ok ds=>h ds|_=>false
noncomputable def rIf (c:FT):FR:=fun ρ=>match c ρ with|.ok true=>true|_=>false
noncomputable def aAz (f:FS) (g:FR):FR:=fun ρ=>match f ρ with|.ok (.nx ρ')=>g ρ'|_=>false
noncomputable def rOr (g1 g2:FR):FR:=fun ρ=>g1 ρ||g2 ρ
noncomputable def rfn (n m:Nat) (g:FR):List D->Bool:=fun ds=>decide (ds.length=n)&&g (ds++List.replicate (m-n) .uDf)
noncomputable def HB (h:List D->Bool) (n:Nat):List D->Res D:=fun ds=>if decide (ds.length=n)&&h ds then .ok (.bl true) else .bad
section
variable {P:Program} {w:World} {K:PySem.W.Frag} {mg:Str->Option Value} {base:Heap} {N:List Str} {qual:Str} {scope:Scope} {f C:Addr} {cd:Value} {A:Around} {outer:List Env} {s:Shared} {H:Hp} {E:XK}
theorem RJ:EY (CX1 P w C) (mY (CX1 P w C) P w K mg base N qual scope f cd A outer s H E) E:=by
 intro pins σ Hm sm e s' I hx;obtain ⟨a,t,H1,B,rfl,os',bare',fly,clo,hn,hgone,hE⟩:=hx
 let env:=envOfC qual scope s.heap.objs.size f cd
 have hfr:L2.frs (env::outer)=s.heap.objs.size::L2.frs outer:=by
  unfold L2.frs;rw [List.filterMap_cons];rfl
 have u0:Un (L2.frs outer) [] H Hm s.heap sm.heap:=I.base;show wpAny (model P w) (A.deeper env) (leaving env (.ref a)) (fun _ s''=>CX1 P w C outer H s E (.ref a) s'') (fun e' s''=>CX1 P w C outer H s E e' s'') s';refine wpAny_leaves_onW (L:=s.heap.objs.size) I.ok.frames rfl fly fun h' x1 x4=>?_
 have hgone0:s.heap.get? a=none:=by
  cases q:s.heap.get? a with
  | none=>rfl
  | some o=>
   obtain ⟨o',e1⟩:=u0.there a o q (by simp);rw [hgone] at e1;cases e1
 refine ⟨a,t,H1,B,rfl,os'.trans I.os,bare',x1,fun h6 st up=>?_,hn,hgone0,hE⟩;obtain ⟨u2,hok⟩:=clo h6 st (x4.trans up);have nL:∀b o,s.heap.get? b=some o->b∉L2.frs outer->b∉L2.frs (env::outer):=fun b o eb hb z=>by
  rw [hfr] at z;rcases List.mem_cons.mp z with z|z
  ·exact absurd (Heap.lt_size eb) (by rw [z];exact Nat.lt_irrefl _)
  ·exact hb z
 refine ⟨⟨fun b o eb hn hb hx'=>u2.keep b o (u0.keep b o eb hn hb hx') (u0.free b o eb hn hx') (nL b o eb hb) (by simp),fun b o eb hn hb hx'=>?_,fun b o eb hn hx'=>?_,fun b o eb hx'=>?_,fun b xs q=>u2.tups b xs (u0.tups b xs q),fun b o u q=>u2.frzs b o u (u0.frzs b o u q),fun b ps q=>?_⟩,hok⟩
 ·obtain ⟨sl,e1⟩:=u0.slot b o eb hn hb hx';obtain ⟨sl',e2⟩:=u2.slot b _ e1 (u0.free b o eb hn hx') (show b∈L2.frs (env::outer) by rw [hfr];exact List.mem_cons_of_mem _ hb) (by simp);exact ⟨sl',e2⟩
 ·obtain ⟨o',e1⟩:=u0.there b o eb hx';exact u2.free b o' e1 (u0.free b o eb hn hx') (by simp)
 ·obtain ⟨o',e1⟩:=u0.there b o eb hx';exact u2.there b o' e1 (by simp)
 ·obtain ⟨m1,q1⟩:=u0.tbls b ps q;obtain ⟨m2,q2⟩:=u2.tbls b _ q1;exact ⟨m1++m2,by rw [<-Array.append_assoc];exact q2⟩
end
variable [KFrag]
noncomputable def tR (own:Nat->Bool) (C:Addr) (E:XK) (g:FR):TS:=fun _ σ H=>∃ρ,ES own H σ ρ/\g ρ=true/\∀σ' H',KU own σ H σ' H'->E (.ref C) none H'
noncomputable def spR (h:List D->Bool) (n:Nat) (C:Addr):Sp:=fun vs H _ E=>∃ds,ds.length=n/\bN All H vs ds/\h ds=true/\∀H',cJ H H'->E (.ref C) none H'
noncomputable def KQ (P:Program) (w:World) (K:PySem.W.Frag) (mg:Str->Option Value) (base:Heap) (k:Nat) (x:Str) (n:Nat) (C:Addr) (h:List D->Bool):Prop:=
 ∃(fad:Addr) (fd:FuncData) (ps:List Str),D_ P w K mg base (CX1 P w C) k fad fd ps (spR h n C)/\mg x=some (.ref fad)/\PySem.W.keepIn K (.ref fad)=true/\Binds K fd ps []/\∀ds,h ds=true->ds.length=n
section
variable {P:Program} {w:World} {K:PySem.W.Frag} {mg:Str->Option Value} {base:Heap} {N:List Str} {qual:Str} {scope:Scope} {fad C:Addr} {cd:Value} {A:Around} {outer:List Env} {s:Shared} {H:Hp} {E:XK} {own:Nat->Bool} {rest:List Stmt} {st:Stmt} {f:FS} {g g1 g2:FR} {pos:Pos}
theorem HD {x:Str} {np cpos:Pos} {tx:Str} {xk:Nat} {xp:Pos} (hg:Gl (mY (CX1 P w C) P w K mg base N qual scope fad cd A outer s H E) x) (mC:mg x=some (.ref C)) (xC:PySem.W.excIn K C aD8 "ValueError.__new__" = true) (hd:(x==("__debug__" : Str))=false:=by decide) :
  PS (mY (CX1 P w C) P w K mg base N qual scope fad cd A outer s H E) (.Raise (some (.Call (.Name x np) [.Constant (.str tx) xk xp] [] cpos)) none pos) (tR own C E rT):=
 PS.imp (WY rfl hg mC xC (bT YD kO) rfl hd) fun D σ H1 ⟨ρ,e,h,q⟩=>⟨by show 1<=sizeLine;decide,fun pins s h2 a us I hx=>WX I hx (q σ H1 fun a o e n=>⟨e,n⟩)⟩
theorem aDe (h:PS (mY (CX1 P w C) P w K mg base N qual scope fad cd A outer s H E) st (tR own C E g)):PSs (mY (CX1 P w C) P w K mg base N qual scope fad cd A outer s H E) [st] (tR own C E g):=nC h
theorem RK (h:PS (mY (CX1 P w C) P w K mg base N qual scope fad cd A outer s H E) st (tR own C E g)):PSs (mY (CX1 P w C) P w K mg base N qual scope fad cd A outer s H E) (st::rest) (tR own C E g):=
 PSs.imp (jP h (u:=fun _ _ _=>False) fun _ _ _ _ _ _ z=>z.elim) fun D σ H h=>h
theorem RL (h1:PS (mY CX0 P w K mg base N qual scope fad cd A outer s H E).nox st (tS own f)) (h2:PSs (mY (CX1 P w C) P w K mg base N qual scope fad cd A outer s H E) rest (tR own C E g)):PSs (mY (CX1 P w C) P w K mg base N qual scope fad cd A outer s H E) (st::rest) (tR own C E (aAz f g)):=by
 have p1:PS (mY (CX1 P w C) P w K mg base N qual scope fad cd A outer s H E) st (tS own f):=PS.nox h1;refine PSs.imp (jP p1 h2) fun D σ H ⟨ρ,e,h,q⟩=>?_
 unfold aAz at h;split at h
 ·rename_i ρ' hf;exact ⟨ρ,.nx ρ',e,hf,fun σ' H' k e'=>⟨ρ',e',h,fun σ2 H2 k2=>q σ2 H2 (k.trans k2)⟩⟩
 ·cases h
theorem aDf (h1:PSs (mY (CX1 P w C) P w K mg base N qual scope fad cd A outer s H E) rest (tR own C E g1)) (h2:PSs (mY (CX1 P w C) P w K mg base N qual scope fad cd A outer s H E) rest (tR own C E g2)):PSs (mY (CX1 P w C) P w K mg base N qual scope fad cd A outer s H E) rest (tR own C E (rOr g1 g2)):=by
 intro pins s1 σ H1 D I ⟨ρ,e,h,q⟩;unfold rOr at h;rcases Bool.or_eq_true _ _▸h with h|h
 ·exact h1 pins s1 σ H1 D I ⟨ρ,e,h,q⟩
 ·exact h2 pins s1 σ H1 D I ⟨ρ,e,h,q⟩
theorem aF5 {c:Expr} {gc:FT} (hc:PT (mY (CX1 P w C) P w K mg base N qual scope fad cd A outer s H E) c (gT gc)) (h:PS (mY (CX1 P w C) P w K mg base N qual scope fad cd A outer s H E) st (tR own C E rT)):PS (mY (CX1 P w C) P w K mg base N qual scope fad cd A outer s H E) (.If c [st] [] pos) (tR own C E (rIf gc)):=by
 refine PS.imp (U3 hc (nC h) uM) fun D σ H1 ⟨ρ,e,h,q⟩=>?_
 unfold rIf at h;split at h
 ·rename_i hf;refine ⟨ρ,true,e.er,hf,fun H' sm=>?_⟩;show (if true=true then _ else _);rw [if_pos rfl];exact ⟨ρ,e.same sm,rfl,fun σ2 H2 k=>q σ2 H2 ((KU.same sm).trans k)⟩
 ·cases h
theorem RM {k k' n i:Nat} {x y:Str} {e:Expr} {es:List Expr} {fa:FA} {r:Bool} {h:List D->Bool} {p cpos pos':Pos} (R:KQ P w K mg base k x n C h) (hr:pL k' (A.deeper (envOfC qual scope s.heap.objs.size fad cd))) (hkk:k<=k') (hg:Gl (mY (CX1 P w C) P w K mg base N qual scope fad cd A outer s H E) x) (ha:PA (mY (CX1 P w C) P w K mg base N qual scope fad cd A outer s H E) (e::es) (gA fa r)) (hN:N.Nodup) (hi:N[i]?=some y) (hy:Loc scope y)
  (hs:swapsWith (.Call (.Name x p) (e::es) [] cpos) (some (.Name y pos')) pos.line (envOfC qual scope s.heap.objs.size fad cd)=pure false:=by rfl) (hdb:(x==("__debug__" : Str))=false:=by decide) (he:starEach (e::es) (envOfC qual scope s.heap.objs.size fad cd)=(false,eval e (envOfC qual scope s.heap.objs.size fad cd))::starEach es (envOfC qual scope s.heap.objs.size fad cd):=by rfl) (hpl:(backTo cpos (starEach es (envOfC qual scope s.heap.objs.size fad cd))).any (·.1)=false:=by rfl) :
  PS (mY (CX1 P w C) P w K mg base N qual scope fad cd A outer s H E) (.Assign [.Name y pos'] (.Call (.Name x p) (e::es) [] cpos) pos) (tR own C E (KN h fa)):=by
 obtain ⟨fm,fdm,ps,F,hm,hk,hb,hn⟩:=R;refine PS.imp (t7 (X:=mY (CX1 P w C) P w K mg base N qual scope fad cd A outer s H E) hN hi hy (M5 F (hr.mono hkk) hg hm hk hb .nil RJ ha hdb he hpl) hs (.inl rfl)) fun D σ H1 ⟨ρ,e,h,q⟩=>?_
 unfold KN at h;split at h
 ·rename_i ds hf;refine ⟨ρ,ds,e.er,hf,fun vs H' sm rs _=>?_⟩;show spR _ _ _ (vs++[]) _ _ _;rw [List.append_nil];exact ⟨ds,hn ds h,rs,h,fun H' sm'=>q σ H' (KU.same (sm.trans sm'))⟩
 ·cases h
end
theorem ZF {P:Program} {w:World} {K:PySem.W.Frag} {mg:Str->Option Value} {base:Heap} {x:Str} {st:Stmt} {fad C:Addr} {fd:FuncData} {N ps:List Str} {k:Nat} {g:FR} (F:Fun K x x st fad fd) (hm:mg x=some (.ref fad)) (hb:Binds K fd ps []) (S:b8 N ps (aL st)) (own:Nat->Bool) (hown:∀i,i<ps.length->own i=false) (hNl:ps.length<=N.length)
  (hbody:∀(cdv:Value) (A:Around) (outer:List Env) (s:Shared) (H:Hp) (E:XK),pL k (A.deeper (envOfC x (aL st) s.heap.objs.size fad cdv))->PSs (mY (CX1 P w C) P w K mg base N x (aL st) fad cdv A outer s H E) (bU st) (tR own C E g)):KQ P w K mg base (k+1) x ps.length C (rfn ps.length N.length g):=by
 refine ⟨fad,fd,ps,?_,hm,F.kp,hb,fun ds h=>by unfold rfn at h;rw [Bool.and_eq_true] at h;exact of_decide_eq_true h.1⟩;obtain ⟨oc,od,kV,doc,pm,an,cdv,ct,osl,rfl,lk,hcd⟩:=F.ex;refine aCe lk hcd S (fun vs H Q E ⟨ds,h1,r,_⟩=>by rw [r.length,h1]) fun A outer s H vs Q E hr ⟨ds,hl,r,h,q⟩=>?_
 refine ⟨_,hbody cdv A outer s H E hr,?_⟩;have hst:start N vs=vs.map some++List.replicate (N.length-ps.length) none:=by
  show vs.map some++List.replicate (N.length-vs.length) none=_;rw [r.length,hl]
 have noown:∀a,¬Own own (start N vs) a:=fun a ⟨i,hi,e⟩=>by
  rw [hst] at e;by_cases h:i<ps.length
  ·rw [hown i h] at hi;cases hi
  ·rw [List.getElem?_append_right (by simp [r.length,hl];lia)] at e;rw [List.getElem?_replicate] at e;split at e <;> cases e
 unfold rfn at h;rw [Bool.and_eq_true] at h;exact ⟨_,G8 hst hl r hown noown,h.2,fun σ' H' kk=>q H' fun a o e=>(kk a o e (noown a)).1⟩
theorem W6 {h:List D->Bool} {C:Addr} {cs1 cs2:List Addr} {vs:List V} {H:Hp} {Q:VK} {E:XK} {nx:L2.St->Hp->Prop} (h0:spD (HB h 3) 3 vs H Q E) :
  aDc (gA (aC (aF 0) (aC (aF 1) (aC (aF 2) aV))) false) (spR h 3 C) C 3 4 cs1 cs2 {nx:=nx,rt:=Q} (vs.map some++[none,none]) H:=by
 obtain ⟨ds,d,hl,r,hv,q⟩:=h0;unfold HB at hv;split at hv
 ·rename_i hf;rw [Bool.and_eq_true] at hf;cases hv;obtain ⟨d0,d1,d2,rfl⟩:∃a b c,ds=[a,b,c]:=by
   match ds,hl with
   | [a,b,c],_=>exact ⟨a,b,c,rfl⟩
  match vs,r with
  | [v0,v1,v2],.cons r0 (.cons r1 (.cons r2 .nil))=>
    have n0:d0≠.uDf:=fun z=>by rw [z] at r0;cases r0
    have n1:d1≠.uDf:=fun z=>by rw [z] at r1;cases r1
    have n2:d2≠.uDf:=fun z=>by rw [z] at r2;cases r2
    have b0:aF 0 [d0,d1,d2,.uDf,.uDf]=.ok d0:=by cases d0 <;> first|rfl|exact absurd rfl n0
    have b1:aF 1 [d0,d1,d2,.uDf,.uDf]=.ok d1:=by cases d1 <;> first|rfl|exact absurd rfl n1
    have b2:aF 2 [d0,d1,d2,.uDf,.uDf]=.ok d2:=by cases d2 <;> first|rfl|exact absurd rfl n2
    refine ⟨[d0,d1,d2,.uDf,.uDf],[d0,d1,d2],?_,aD b0 (aD b1 (aD b2 rfl)),fun vs H' s1 rs _=>⟨[d0,d1,d2],rfl,rs,hf.2,fun H2 s2 a ha=>⟨.ref a,rfl,?_⟩⟩⟩
    ·intro i hi
     match i,hi with
     | 0,_=>exact ⟨v0,rfl,r0⟩
     | 1,_=>exact ⟨v1,rfl,r1⟩
     | 2,_=>exact ⟨v2,rfl,r2⟩
     | 3,hi=>exact absurd rfl hi
     | 4,hi=>exact absurd rfl hi
     | n+5,hi=>exact absurd rfl hi
    ·have sm:cJ H (upd H2 a (.ext (ExcAt a C))):=(s1.trans s2).trans (vU ha);refine ⟨a,rfl,aJ,fun p1 h1=>⟨false,rfl,?_⟩⟩;have e1:upd (upd H2 a (.ext (ExcAt a C))) p1 (.tup (cs1.map V.ref)) a=some (.ext (ExcAt a C)):=by rw [aX (bJ aJ h1)];exact aJ
     refine ⟨a,rfl,e1,fun p2 h2=>⟨false,rfl,?_⟩⟩;have e2:=(aX (o:=HO.tup (cs2.map V.ref)) (bJ e1 h2)).trans e1;refine ⟨a,rfl,e2,true,rfl,a,rfl,e2,?_⟩;exact q (.bl true) _ ((sm.trans (vU h1)).trans (vU h2)) (.bl true) fun _=>.bl true
 ·cases hv
theorem RN {P:Program} {w:World} {K:Frag} {mg:Str->Option Value} {base:Heap} {x:Str} {st:Stmt} {fad C:Addr} {fd:FuncData} {N ps:List Str} {k:Nat} {h:List D->Bool} {cs1 cs2:List Addr} (F:Fun K x x st fad fd) (hm:mg x=some (.ref fad)) (hb:Binds K fd ps []) (S:b8 N ps (aL st)) (hN:N.length=5) (hps:ps.length=3)
  (hbody:∀(cdv:Value) (A:Around) (outer:List Env) (s:Shared) (H:Hp) (E:XK),pL k (A.deeper (envOfC x (aL st) s.heap.objs.size fad cdv))->
   PSs (mY CX0 P w K mg base N x (aL st) fad cdv A outer s H E).nox (bU st) (aDc (gA (aC (aF 0) (aC (aF 1) (aC (aF 2) aV))) false) (spR h 3 C) C 3 4 cs1 cs2)):cP P w K mg base (k+1) x 3 (HB h 3):=
 ⟨fad,fd,ps,F.ok S (fun vs H Q E h=>by rw [hps];exact CJ h) fun cdv A outer s H vs Q E hr h=>⟨_,hbody cdv A outer s H E hr,by
  have e:L2.start N vs=vs.map some++[none,none]:=by
   unfold L2.start;rw [hN,CJ h];rfl
  rw [e];exact W6 h⟩,hm,F.kp,hb⟩
end Mi
end
section
namespace Mi
open PySem L2 PySem.W PySem.SeqAt PySem.Spec PyProof.Rows
theorem yE {α β:Type} (f:α->β):∀(xs:List α) (i:Nat),(xs.map f).eraseIdx i=(xs.eraseIdx i).map f
 | [],i=>rfl
 | x::r,0=>rfl
 | x::r,i+1=>congrArg (List.cons _) (yE f r i)
section
variable {prog:Program} {w:World} {K:Type}
variable [DecidableEq K] (knd:HeapKind prog w K)
variable (d a:Addr)
theorem W7 (k:K) (xs:List (K×Addr×Value)) (j:Nat) (p:Addr×Value) (hz:xs.length<=sizeLine) (hj0:xs[j]?=some (k,p)) :
  MeetsIn prog w (Builtin.«dict.pop» ⟨[.ref d,.ref a],[]⟩) (fun A R s=>knd.room A.in1/\knd.is s.heap k a/\s.heap.DictOfH knd d xs/\
   ∀h' t',(∃o es ep,h'.get? d=some o/\o.ExactDict/\o.data=.dict es ep/\es.toList=(xs.eraseIdx j).map (entryOfKey knd))->Heap.SameBut d s.heap h'->R (.ok (.ret p.2)) {s with heap:=h',toks:=t'}):=
 .of_wp fun A R s ⟨hu,hkey,hm,h⟩=>by
  have ht:=hm.typeIs;obtain ⟨o,es,ep,ho,hx,hdt,he,his,hnd⟩:=hm;have hsz:es.size=xs.length:=by rw [<-Array.length_toList,he,List.length_map]
  unfold Builtin.«dict.pop»;refine wpAny_bind ?_;rw [Builtin.Dict.keyAndDefault];refine wpAny_bind (wpAny_notOrdered_dict ht ?_);show wpAny _ _ (pure (d,Value.ref a,none)) _ _ s;refine wpAny_pure ?_;have hkp:(keyPart (.ref a)).isSome=false:=rfl;simp only [hkp,Bool.false_eq_true,if_false];refine wpAny_bind (wpAny_dictEntries ho hdt (wpAny_bind (wpAny_pure ?_)));have hne:es.isEmpty=false:=by
   have:j<xs.length:=(List.getElem?_eq_some_iff.mp hj0).1;cases q:es.isEmpty with
   | false=>rfl
   | true=>rw [Array.isEmpty_iff_size_eq_zero] at q;lia
  rw [hne,if_neg Bool.false_ne_true];refine wpAny_bind ?_;unfold Builtin.Dict.takeOut;refine wpAny_holding (wpAny_bind ?hash);refine (knd.pyHash hu hkey (wpAny_bind (wpAny_dictFind_heap (s:={s with toks:=s.toks+knd.draws k}) hu hkey ho hdt he his hnd (fun hno=>absurd hj0 (hno j p)) fun i q hi=>?_)));have hij:i=j:=idxH_unique hnd hi hj0;subst hij;rw [hj0] at hi;cases hi;refine wpAny_bind (wpAny_dictEntries (s:={s with toks:=s.toks+knd.draws k}) ho hdt ?_);rw [entry_at he i,hj0];refine wpAny_bind (wpAny_updateDictKeys (hz:=by lia) (s:={s with toks:=s.toks+knd.draws k}) ho hdt (wpAny_pure ?_));refine wpAny_bind (wpAny_letGo (wpAny_pure ⟨p.2,rfl,h _ _ ⟨_,_,ep+1,Heap.get?_update_self _ ho (Obj.isFreed_of_dict (Obj.data_mapDictKeys hdt _)),hx.mapDictKeys _,Obj.data_mapDictKeys hdt _,?_⟩ (Heap.SameBut.update ..)⟩));obtain ⟨l⟩:=es;have e2:l.eraseIdx i=(xs.eraseIdx i).map (entryOfKey knd):=by rw [show l=xs.map (entryOfKey knd) from he,yE]
  simpa using e2
end
theorem pW {α β:Type} [DecidableEq α] {k:α} {p:β}:∀{xs:List (α×β)} {j:Nat},(xs.map (·.1)).Nodup->xs[j]?=some (k,p)->xs.eraseIdx j=xs.filter fun x=>decide (x.1≠k)
 | [],j,_,h=>by simp at h
 | x::r,0,hn,h=>by
  rw [List.map_cons] at hn;obtain ⟨h1,h2⟩:=List.nodup_cons.mp hn;have h:x=(k,p):=by simpa using h
  subst h;rw [List.filter_cons,if_neg (by simp)];refine (List.filter_eq_self.mpr fun y hy=>?_).symm;have:y.1≠k:=fun z=>h1 (List.mem_map.mpr ⟨y,hy,z⟩)
  simpa using this
 | x::r,j+1,hn,h=>by
  rw [List.map_cons] at hn;obtain ⟨h1,h2⟩:=List.nodup_cons.mp hn;have h:r[j]?=some (k,p):=by simpa using h
  have m:k∈r.map (·.1):=List.mem_map.mpr ⟨(k,p),List.mem_of_getElem? h,rfl⟩;rw [List.filter_cons,if_pos (by have:x.1≠k:=fun z=>h1 (by rw [z];exact m);simpa using this),List.eraseIdx_cons_succ,pW h2 h]
theorem nO {H:Hp} {k:List Key}:∀{kvs:List (List Key×V)} {xs:List (List Key×Addr×Value)},KT H kvs xs->KT H (nD kvs k) (xs.filter fun x=>decide (x.1≠k))
 | _,_,.nil=>.nil
 | _,_,.cons (a:=p) (b:=q) (l₁:=r) (l₂:=l) h t=>by
  have e:p.1=q.1:=h.1;unfold nD;rw [List.filter_cons,List.filter_cons];by_cases z:p.1=k
  ·rw [if_neg (by simp [z]),if_neg (by simp [<-e,z])];exact nO t
  ·rw [if_pos (by simpa using z),if_pos (by simpa [<-e] using z)];exact .cons h (nO t)
theorem kt_at {H:Hp} {k:List Key} {v:V}:∀{kvs:List (List Key×V)} {xs:List (List Key×Addr×Value)},KT H kvs xs->qP kvs k=some v->∃(j:Nat) (p:Addr×Value),xs[j]?=some (k,p)/\RelV v p.2
 | _,_,.nil,h=>by rw [U9] at h;cases h
 | _,_,.cons (a:=p) (b:=q) h t,hv=>by
  by_cases z:p.1=k
  ·rw [mD z] at hv;cases hv;refine ⟨0,q.2,?_,h.2.2⟩;rw [<-z,h.1];rfl
  ·rw [mF z] at hv;obtain ⟨j,p',h1,h2⟩:=kt_at t hv;exact ⟨j+1,p',h1,h2⟩
section
variable [KFrag]
variable {X:Cx} {pos:Pos}
theorem aB0 (hu:X.A.units+20<cLine):MtR X "dict.pop" (fun x xs H Q=>∃a b kvs k v,x=.ref a/\xs=[.ref b]/\H a=some (.dT kvs)/\H b=some (.tup (k.map kV))/\qP kvs k=some v/\Q v (upd H a (.dT (nD kvs k)))):=by
 intro pins s σ H x xs v us Q I rx rxs ⟨a,b,kvs,k,v',e1,e2,ea,eb,hv,q⟩;subst e1 e2;cases rx;cases rxs with
 | cons r1 r2=>
  cases r2;cases r1;obtain ⟨z,hd,ys,rel,dd⟩:=NK I.hok ea;have hz:ys.length<=sizeLine:=by rw [<-Paired.length rel];exact z
  have hk:=wX I.hok eb;obtain ⟨j,p,hj,rp⟩:=kt_at rel hv;have hnd:(ys.map (·.1)).Nodup:=by obtain ⟨_,_,_,_,_,_,_,_,h⟩:=dd;exact h
  refine call_meetsIn PySem.F.slot_dict_pop dd.typeIs PySem.F.entry_dict_pop (PySem.F.args_dict_pop_2 _ _) (W7 (tupleKind (cU X.prog X.w)) a b k ys j p hz hj) ⟨tupleKind_room_in1 (by lia),hk,dd,fun h' t' ⟨o,es,ep,h1,h2,h3,h4⟩ hs=>⟨v',_,?_,rp,q⟩⟩;rw [pW hnd hj] at h4;refine zU (t':=t') I (by rw [ea];exact True.intro) hs ⟨_,h1⟩ ⟨Nat.le_trans (VB kvs k) z,hd,_,(nO (k:=k) rel).keeps fun c ys ec=>?_,o,es,ep,h1,h2,h3,h4,?_⟩
  ·rw [aX (UT ec ea (fun z=>nomatch z))];exact ec
  ·exact List.Nodup.sublist (List.Sublist.map _ List.filter_sublist) hnd
noncomputable def delD:List (D×D)->D->List (D×D)
 | [],_=>[]
 | (k,v)::r,q=>if eqD k q then delD r q else (k,v)::delD r q
noncomputable def aDg (i j:Nat) (f:FE):FS:=fun ρ=>do
 let k <- f ρ
 match ρ.getD i .uDf with
 | .dct kvs=>if isTup k&&keyOk k then (match cY kvs k with|some v=>if v.pure then .ok (.nx ((ρ.set i (.dct (delD kvs k))).set j v)) else .bad|none=>.bad) else .bad
 | _=>.bad
theorem vX {P:Addr->Prop} {H:Hp} {k:List Key}:∀{kvs:List (List Key×V)} {ds:List (D×D)},kI P H kvs ds->kI P H (nD kvs k) (delD ds (.tup (k.map kD)))
 | _,_,.nil=>.nil
 | _,_,.cons (k:=k') (v:=v') (r:=rs) r t=>by
  rw [delD,WD];by_cases h:k'=k
  ·rw [if_pos (by simpa using h),wZ h];exact vX t
  ·rw [if_neg (by simpa using h),xF (p:=(k',v')) h];exact .cons r (vX t)
theorem mQ {q:D}:∀{ds:List (D×D)},D.a_ (ds.map (·.2))=true->D.a_ ((delD ds q).map (·.2))=true
 | [],h=>h
 | (k,v)::r,h=>by
  rw [List.map_cons,D.a_,Bool.and_eq_true] at h;rw [delD];split
  ·exact mQ h.2
  ·rw [List.map_cons,D.a_,Bool.and_eq_true];exact ⟨h.1,mQ h.2⟩
theorem yF {P:Addr->Prop} {H:Hp} {ys:List D}:∀{kvs:List (Key×V)} {ds:List (D×D)},m5 P H kvs ds->cY ds (.tup ys)=none
 | _,_,.nil=>rfl
 | _,_,.cons (k:=k') r t=>by
  rw [cY,if_neg (by cases k' <;> simp [kD,eqD])];exact yF t
section
variable {own:Nat->Bool} {e:Expr} {fe:FE} {re:Bool}
theorem ZG {i j:Nat} {x y:Str} {p1 py apos cpos:Pos} (hu:X.A.units+20<cLine) (ho:own i=true) (hN:X.N[i]?=some x) (hv:Vis X.env.scope x) (hnd:X.N.Nodup) (hj:X.N[j]?=some y) (hy:Loc X.env.scope y) (hoj:own j=false) (he:PE X e (gE fe re)) (hd:(x==("__debug__" : Str))=false:=by decide) (hcd:(x==("__classdict__" : Str))=false:=by decide)
  (hbase:attributeBase (.Name x p1) "pop" X.env (eval (.Name x p1) X.env)=eval (.Name x p1) X.env:=by rfl)
  (hs1:starEach [e] X.env=(false,eval e X.env)::starEach [] X.env:=by rfl)
  (hfew:((backTo cpos (starEach [e] X.env)).all (fun x=>!x.1)&&(backToKw cpos (keywordEach [] X.env)).all (fun x=>x.1.isSome)
   && decide (([e]:List Expr).length+([]:List Keyword).length+(if ([]:List Keyword).isEmpty then 0 else 1)<30))=true:=by rfl)
  (hline:(apos.endLine==cpos.line)=true:=by rfl)
  (hs:swapsWith (.Call (.Attribute (.Name x p1) "pop" apos) [e] [] cpos) (some (.Name y py)) pos.line X.env=pure false:=by rfl) (hf:X.fn y=true\/X.env.scope.names.lookup y=some .local:=by first|exact .inl rfl|exact .inr rfl|assumption) :
  PS X (.Assign [.Name y py] (.Call (.Attribute (.Name x p1) "pop" apos) [e] [] cpos) pos) (tS own (aDg i j fe)):=
 PS.imp (t7 hnd hj hy (Z_ PySem.F.plainAttrs_dict PySem.F.slot_dict_pop PySem.F.type_dict_pop (aB0 hu) (j6 hN hv hd hcd) (bT he kO hs1) hbase hfew hline hs1 rfl) hs hf) fun D' σ H ⟨ρ,fl,E,h,q⟩=>by
 obtain ⟨d,h1,h2⟩:=bI h;split at h2
 ·rename_i ds hx;split at h2
  ·rename_i hk;rw [Bool.and_eq_true] at hk;split at h2
   ·rename_i dv hdv;split at h2
    ·rename_i hp;cases h2;obtain ⟨a,o,hσ,r,hin,ha,hm⟩:=E.ownAt ho (by rw [hx];intro z;cases z);rw [hx] at r hin;have hin:D.a_ (ds.map (·.2))=true:=hin;cases r with
     | dK e _ rk _=>
      cases d <;> simp [isTup] at hk
      rw [yF rk] at hdv;cases hdv
     | @dT _ kvs _ e _ rt n=>
      refine ⟨.ref a,hσ,.inr (.inr (.inl ⟨rfl,.inr ⟨_,e⟩⟩)),ρ,_,E.er,h1,fun u H' s ru _=>?_⟩;rcases iH hk.2 ru with ⟨q',rfl,rfl⟩|⟨b,ks,rfl,eb,rfl⟩
      ·rw [fX] at hk;cases hk.1
      ·rcases WF (k:=ks) rt with ⟨v,d',hv1,hd1,rv⟩|⟨_,hd1⟩
       ·rw [hd1] at hdv;cases hdv;have e':=s _ _ e;refine ⟨a,b,kvs,ks,v,rfl,rfl,e',eb,hv1,?_⟩;have E':=E.same s;obtain ⟨E2,k2⟩:=E'.mut (o:=.dT (nD kvs ks)) (d:=.dct (delD ds (.tup (ks.map kD)))) ho hσ rfl (.dT aJ trivial (((vX (k:=ks) (kI.keep (P:=All) (fun a o e _=>s a o e) (fun _ z=>z) rt)).bY (mQ hin)).keep (pA e' rfl) fun _ z=>z.elim) (uO n)) (mQ hin);have E3:=E2.set hoj (v:=v) (d:=dv) (((rv.same s).bY hp).keep (pA e' rfl) fun _ z=>z.elim);exact q _ _ (((KU.same s).trans k2).trans fun b ob eb nb=>⟨eb,by rw [lJ hoj];exact nb⟩) E3
       ·rw [hd1] at hdv;cases hdv
    ·cases h2
   ·cases h2
  ·cases h2
 ·cases h2
end
end
end Mi
end
section
namespace Mi
open PySem L2 PySem.W PySem.SeqAt PySem.Spec PyProof.Rows
noncomputable def zN (h:Heap) (d:Addr) (es:Array DictEntry) (ep:Nat):Prop:=∃o,h.get? d=some o/\o.ExactDict/\o.data=.dict es ep
theorem zN.ty {s:Shared} {d:Addr} {es:Array DictEntry} {ep:Nat} (x:zN s.heap d es ep):s.TypeIs (.ref d) "dict":=let ⟨o,e,c,_⟩:=x;⟨o,e,c.1⟩
theorem zN.at {h h':Heap} {d:Addr} {es:Array DictEntry} {ep:Nat} (x:zN h d es ep) (k:∀o,h.get? d=some o->h'.get? d=some o):zN h' d es ep:=let ⟨o,e,r⟩:=x;⟨o,k o e,r⟩
section
variable {prog:Program} {w:World} {A:Around} {E:Value->Shared->Prop} {s:Shared} {d it:Addr} {es:Array DictEntry} {ep i:Nat}
theorem HF {Q:Value->Shared->Prop} (hd:(d==sysModules)=false) (x:zN s.heap d es ep) (q:Q (.ref s.heap.objs.size) {s with heap:=s.heap.push {cls:=.type "dict_keyiterator",data:=.fields #[.ref d,.int 0 0,.int es.size 0,.int ep 0]}}):wpAny (model prog w) A (pyIter (.ref d)) Q E s:=by
 have T:=x.ty;obtain ⟨o,e1,e2,e3⟩:=x;refine wpAny_pyIter_slot T F.slot_dict_iter (wpAny_call_entry F.slot_dict_iter T F.entry_dict_iter (?_:wpAny _ _ (Builtin.«dict.__iter__» _) _ _ _) (F.args_dict_iter_1 _));unfold Builtin.«dict.__iter__» Builtin.Dict.dictSlotNone Builtin.Dict.showsAll;refine wpAny_bind (wpAny_bind (wpAny_notOrdered_dict T (?_:wpAny _ _ (pure (Value.ref d)) _ _ s)));refine wpAny_pure (?_:wpAny _ _ ((if d==sysModules then _ else _) >>= _) _ _ s);rw [if_neg (by rw [hd];simp)];refine wpAny_bind (wpAny_pure (wpAny_bind (wpAny_dictEntries e1 e3 (wpAny_bind (wpAny_dictEpoch e1 e3 ?_)))));exact wpAny_bind (wpAny_newObj_type (wpAny_pure ⟨_,rfl, "dict_keyiterator",_,⟨_,Heap.get?_push_size _ rfl,rfl⟩,F.slot_dict_keyiterator_next.lookup,q⟩))
theorem HH {Q:Option Value->Shared->Prop} (y:s.heap.IsKeyIter it d i es.size ep) (x:zN s.heap d es ep) (hi:i<es.size) (q:∀h',h'.IsKeyIter it d (i+1) es.size ep->Heap.SameBut it s.heap h'->Q (some es[i].key) {s with heap:=h'}):wpAny (model prog w) A (pyNext (.ref it)) Q E s:=by
 have T:=y.typeIs;obtain ⟨o,o1,o2,o3⟩:=y;obtain ⟨od,e1,e2,e3⟩:=x;have own:Builtin.Dict_items.ownsTuple "dict_keyiterator" = false:=by decide
 unfold pyNext;refine wpAny_bind (wpAny_attempt (wpAny_callSpecial?_slot (name:=Str.ofString "__next__") T F.slot_dict_keyiterator_next (wpAny_call_entry F.slot_dict_keyiterator_next T F.entry_dict_keyiterator_next ?_ (F.args_dict_keyiterator_next_1 _))));refine wpAny_bind (wpAny_pure (wpAny_bind (wpAny_bind ?_)))
 first|refine wpAny_bind (wpAny_typeNameOfWhole_keyiter T (wpAny_pure (wpAny_bind (wpAny_fieldsOf o1 o3 ?_))))|refine wpAny_bind (wpAny_typeNameOf_keyiter T (wpAny_pure (wpAny_bind (wpAny_fieldsOf o1 o3 ?_))))
 rw [own];refine (?_:wpAny _ _ (ite ((Value.ref d==Value.none)=true) _ _) _ _ s);rw [if_neg (by intro z;cases z)];refine wpAny_bind (wpAny_pure (wpAny_bind (wpAny_dictEntries e1 e3 ?_)));rw [if_neg (by simp)];refine wpAny_bind (wpAny_pure (wpAny_bind (wpAny_dictEpoch e1 e3 ?_)));rw [if_neg (by simp)];refine wpAny_pure ?_;simp only [show ¬((i:Int)<0) from by lia,if_false,Int.toNat_natCast,Array.getElem?_eq_getElem hi];refine wpAny_bind ?_
 first|refine wpAny_bind (wpAny_typeNameOfWhole_keyiter T (wpAny_pure (wpAny_bind (wpAny_isOneOf_keyiter T ?_))))|refine wpAny_bind (wpAny_typeNameOf_keyiter T (wpAny_pure (wpAny_bind (wpAny_isOneOf_keyiter T ?_))))
 refine wpAny_bind (m:=setField (.ref it) 1 (rawInt ((i:Int)+1))) (wpAny_setField o1 o3 (by simp) ?_);have z:(s.heap.update it (Obj.mapFields (·.setIfInBounds 1 (rawInt ((i:Int)+1))))).IsKeyIter it d (i+1) es.size ep:=⟨_,Heap.get?_update_self _ o1 (Obj.isFreed_of_fields (Obj.data_mapFields o3 _)),(Obj.cls_mapFields ..).trans o2,by rw [Obj.data_mapFields o3];simp [rawInt]⟩
 refine wpAny_bind (wpAny_holding (wpAny_bind (wpAny_isOneOf_keyiter (s:={s with heap:=s.heap.update it (Obj.mapFields (·.setIfInBounds 1 (rawInt ((i:Int)+1))))}) z.typeIs (?_:wpAny _ _ (pure es[i].key) _ _ _))));exact wpAny_pure (wpAny_pure ⟨_,rfl,wpAny_pure (q _ z (Heap.SameBut.update ..))⟩)
theorem RP {Q:Option Value->Shared->Prop} (hh:A.handled=none) (y:s.heap.IsKeyIter it d i es.size ep) (x:zN s.heap d es ep) (hi:es.size<=i) (q:∀h',Heap.ExtBut it s.heap h'->Q none {s with heap:=h'}):wpAny (model prog w) A (pyNext (.ref it)) Q E s:=by
 have T:=y.typeIs;obtain ⟨o,o1,o2,o3⟩:=y;obtain ⟨od,e1,e2,e3⟩:=x;have own:Builtin.Dict_items.ownsTuple "dict_keyiterator" = false:=by decide
 unfold pyNext;refine wpAny_bind (wpAny_attempt (wpAny_callSpecial?_slot (name:=Str.ofString "__next__") T F.slot_dict_keyiterator_next (wpAny_call_entry F.slot_dict_keyiterator_next T F.entry_dict_keyiterator_next ?_ (F.args_dict_keyiterator_next_1 _))));refine wpAny_bind (wpAny_pure (wpAny_bind (wpAny_bind ?_)))
 first|refine wpAny_bind (wpAny_typeNameOfWhole_keyiter T (wpAny_pure (wpAny_bind (wpAny_fieldsOf o1 o3 ?_))))|refine wpAny_bind (wpAny_typeNameOf_keyiter T (wpAny_pure (wpAny_bind (wpAny_fieldsOf o1 o3 ?_))))
 rw [own];refine (?_:wpAny _ _ (ite ((Value.ref d==Value.none)=true) _ _) _ _ s);rw [if_neg (by intro z;cases z)];refine wpAny_bind (wpAny_pure (wpAny_bind (wpAny_dictEntries e1 e3 ?_)));rw [if_neg (by simp)];refine wpAny_bind (wpAny_pure (wpAny_bind (wpAny_dictEpoch e1 e3 ?_)));rw [if_neg (by simp)];refine wpAny_pure ?_;simp only [show ¬((i:Int)<0) from by lia,if_false,Int.toNat_natCast,Array.getElem?_eq_none hi];refine wpAny_bind ?_
 first|refine wpAny_bind (wpAny_typeNameOfWhole_keyiter T (wpAny_pure ?_))|refine wpAny_bind (wpAny_typeNameOf_keyiter T (wpAny_pure ?_))
 refine wpAny_bind (m:=setField (.ref it) 0 .none) (wpAny_setField o1 o3 (by simp) (wpAny_bind (m:=newExc (.type "StopIteration") []) ?_));simp only [newExc,newTuple];refine wpAny_bind (wpAny_newObj_type (wpAny_bind (m:=firstArgMember _ _) (wpAny_of_eq (a:=Value.none) (by first|rfl|(simp only [firstArgMember];rfl)) (wpAny_newObj_type ?_ (by size_fits)))) (by size_fits));simp only [raiseNew];have hh':A.in1.handled=none:=hh;refine wpAny_bind (wpAny_handled ?hd);rw [hh'];refine wpAny_bind (wpAny_pure (wpAny_throw ?thrown));refine wpAny_bind (wpAny_isInstance (b:=true) (T := "StopIteration") ⟨_,Heap.get?_push_size _ rfl,rfl⟩ isSubtype_stop ?_);exact wpAny_pure (q _ (((Heap.SameBut.update ..).extBut.push _).push _))
theorem RQ (hh:A.handled=none) (I d:Addr) (hne:d≠I) (es:Array DictEntry) (ep:Nat):Walks prog w A I [I,d] [I] es.size (fun i v=>∃h:i<es.size,v=es[i].key) (fun i h=>h.IsKeyIter I d i es.size ep/\zN h d es ep) where
 sub:=fun b hb=>List.mem_cons.mpr (.inl (List.mem_singleton.mp hb))
 frame:=fun _ _ _ st hk=>⟨Heap.IsKeyIter.at st.1 fun o e=>hk I (by simp) o e,st.2.at fun o e=>hk d (by simp) o e⟩
 item:=fun i s Q E hi st hQ=>HH st.1 st.2 hi fun h' z sb=>hQ _ h' s.toks ⟨hi,rfl⟩ ⟨z,st.2.at fun o e=>sb.extBut d o hne e⟩ fun b o hb e=>sb.extBut b o (fun h=>hb (by simp [h])) e
 done:=fun s Q E st hQ=>RP hh st.1 st.2 (Nat.le_refl _) fun h' ex=>hQ h' s.toks fun b o hb e=>ex b o (fun h=>hb (by simp [h])) e
 self:=fun _ _ _ _ at_ q=>wpAny_pyIter_keyiter at_.1 q
theorem aB1 {Q:Value->Shared->Prop} (hd:(d==sysModules)=false) (x:zN s.heap d es ep) (hz:(es.size:Int)<2 ^ 63) (q:∀t t',Q (.int es.size t) {s with toks:=t'}):wpAny (model prog w) A (call (.builtin "len") [.ref d]) Q E s:=by
 have T:=x.ty;have m:MeetsIn prog w (Builtin.«dict.__len__» ⟨[.ref d],[]⟩) (fun _ R s=>zN s.heap d es ep/\R (.ok (.ret (.int es.size s.toks))) {s with toks:=s.toks+1}):=.of_wp fun A R s ⟨⟨o,e1,e2,e3⟩,h⟩=>by
  refine wpAny_bind (m:=dictSize d) (?_:wpAny _ _ (dictSize d) _ _ s);unfold dictSize;refine wpAny_bind (wpAny_dictEntries e1 e3 (wpAny_pure (wpAny_bind (m:=Builtin.Dict.pendingCount d) (wpAny_pendingCount_other hd (wpAny_ret_mkInt ?_)))));simpa using h
 refine Calls.call_function_entry kind_len plain_len entry_len (args_len1 _) (?_:wpAny _ _ (Builtin.«len» _) _ _ _);unfold Builtin.«len»;refine wpAny_bind (m:=oneArg "len" _) (wpAny_pure (wpAny_bind (m:=callSpecial? (.ref d) (Str.ofString "__len__")) (wpAny_callSpecial?_slot (name:=Str.ofString "__len__") T F.slot_dict_len (call_meetsIn F.slot_dict_len T F.entry_dict_len (F.args_dict_len_1 _) m ⟨x,(?_:wpAny _ _ _ _ _ {s with toks:=s.toks+1})⟩))));refine wpAny_bind (wpAny_holding (wpAny_pure (wpAny_bind (wpAny_letGo (?_:wpAny _ _ (if ((es.size:Nat):Int)<0 then _ else _) _ _ _)))));rw [if_neg (by lia)];refine (?_:wpAny _ _ (ite (((es.size:Nat):Int) >= 2 ^ 63) _ _) _ _ _);rw [if_neg (by lia)];exact wpAny_bind (wpAny_mkInt (wpAny_pure ⟨_,rfl,q _ _⟩))
end
end Mi
end
section
namespace Mi
open PySem L2 PySem.W PySem.SeqAt PySem.Spec PyProof.Rows
section
variable {prog:Program} {w:World} {A:Around} {E:Value->Shared->Prop} {s:Shared} {r:Addr}
noncomputable def aF6 (s:Shared) (F:Array Value->Prop) (q:Result) (s':Shared):Prop:=∃(h':Heap) (tk:Nat) (acc:Array Value) (c:Nat),q=.ok (.ret (.ref s.heap.objs.size))/\s'={s with heap:=h',toks:=tk}/\(∀b o,s.heap.get? b=some o->h'.get? b=some o)/\h'.get? s.heap.objs.size=some {cls:=.type "list",dict:=none,data:=.seq acc c,slots:=#[]}/\F acc
theorem RT {Q:List Value->Shared->Prop} {F:Array Value->Prop}
  (key:wpAny (model prog w) A.in1 (Builtin.List.listExtendWith (.ref s.heap.objs.size) (.ref r) (.ref s.heap.objs.size)) (fun fin s'=>match fin with|.done f=>aF6 s F (.ok f) s'|.again c'=>c'.quiet=true/\codeAny (model prog w) A c' (aF6 s F) s') (fun e s'=>aF6 s F (.error e) s') {s with heap:=s.heap.push {cls:=.type "list",data:=.seq ([]:List Value).toArray}})
  (q:∀h' tk acc,(∀b o,s.heap.get? b=some o->h'.get? b=some o)->s.heap.objs.size<=h'.objs.size->F acc->Q acc.toList {s with heap:=h',toks:=tk}):wpAny (model prog w) A (collect (.ref r)) Q E s:=by
 have last:∀{h':Heap} {tk:Nat} {acc:Array Value} {c:Nat},(∀b o,s.heap.get? b=some o->h'.get? b=some o)->h'.get? s.heap.objs.size=some {cls:=.type "list",dict:=none,data:=.seq acc c,slots:=#[]}->F acc->wpAny (model prog w) A (load s.heap.objs.size >>= fun o=>match o.data with|.seq xs _=>pure xs.toList|_=>unsupported "internal:collect") Q E {s with heap:=h',toks:=tk}:=fun kp at_ f=>wpAny_bind (wpAny_load at_ (wpAny_pure (q _ _ _ kp (Nat.le_of_lt (Heap.lt_size at_)) f)))
 unfold collect;refine wpAny_bind (wpAny_runValue (codeAny_builtin entry_proto_collect' (?_:wpAny _ _ (newList [] >>= fun l=>again (.builtin "list.__iadd__" ⟨[l,.ref r],[]⟩)) _ _ s)));rw [Around.under_plainId PySem.F.plain_proto_collect];refine wpAny_bind (wpAny_newObj_type (wpAny_pure ⟨plainId_quiet PySem.F.plain_list_iadd _,codeAny_builtin entry_list_iadd' (?_:wpAny _ _ (Builtin.List.listExtendWith _ _ _) _ _ _)⟩));rw [Around.under_plainId PySem.F.plain_list_iadd];refine wpAny_mono key (fun fin s' x=>?_) fun e s' ⟨_,_,_,_,z,_⟩=>nomatch z
 cases fin with
 | done f=>
  obtain ⟨h',tk,acc,c,e,rfl,kp,at_,f⟩:=x;cases e;exact last kp at_ f
 | again c1=>
  refine ⟨x.1,codeAny_mono x.2 fun p s2 y=>?_⟩;obtain ⟨h',tk,acc,c,rfl,rfl,kp,at_,f⟩:=y;exact last kp at_ f
theorem aB2 {Q:List Value->Shared->Prop} {o:Obj} {its:Array Value} {n:Nat} (ho:s.heap.get? r=some o) (hc:o.cls=.type "tuple") (hd:o.data=.seq its n) (hz:its.size<=sizeLine)
  (q:∀h' tk,(∀b o,s.heap.get? b=some o->h'.get? b=some o)->s.heap.objs.size<=h'.objs.size->Q its.toList {s with heap:=h',toks:=tk}):wpAny (model prog w) A (collect (.ref r)) Q E s:=by
 have hS:=Heap.get?_push_size (h:=s.heap) (o:={cls:=.type "list",data:=.seq ([]:List Value).toArray}) rfl;obtain ⟨c,hc2⟩:∃c,((s.heap.push {cls:=.type "list",data:=.seq ([]:List Value).toArray}).update s.heap.objs.size (Obj.mapSeq (·++its))).get? s.heap.objs.size=some {cls:=.type "list",dict:=none,data:=.seq its c,slots:=#[]}:=by
  rw [Heap.get?_update_self (Obj.mapSeq (·++its)) hS rfl];simp only [Obj.mapSeq,Array.empty_append];exact ⟨_,rfl⟩
 refine RT (F:=fun acc=>acc=its) (wpAny_extend_seq (hsz:=hz) (s:={s with heap:=s.heap.push {cls:=.type "list",data:=.seq ([]:List Value).toArray}}) _ r _ 0 (.inr rfl) hS (Heap.get?_push_of_some _ ho) hc hd ⟨_,s.toks,its,c,rfl,rfl,fun b o' hb=>?_,hc2,rfl⟩) fun h' tk acc kp sz e=>by rw [e];exact q h' tk kp sz
 exact (Heap.get?_update_other _ _ (Nat.ne_of_gt (Heap.lt_size hb))).trans ((Heap.get?_push_of_some _ hb))
theorem aB3 {d:Addr} {es:Array DictEntry} {ep:Nat} (lo:(d==sysModules)=false):KdlSrc prog w "dict" d d es.size (fun i v=>∃h:i<es.size,v=es[i].key) (fun h=>zN h d es ep) where
 type:=fun _ x=>x.ty
 there:=fun h x=>by obtain ⟨o,e,_⟩:=x;exact ⟨Heap.lt_size e,Heap.lt_size e⟩
 keep:=fun _ _ x k=>x.at fun o e=>k d (.inl rfl) o e
 notList:=rfl
 notTuple:=rfl
 hint:=fun _ _ _ _ x q=>kdl_hint_dict x.ty q
 iter:=fun _ s hh x=>⟨_,_,fun _ _ q=>HF lo x q,RQ hh _ d (by obtain ⟨o,e,_⟩:=x;exact Nat.ne_of_lt (Heap.lt_size e)) es ep,⟨_,Heap.get?_push_size _ rfl,rfl,rfl⟩,x.at fun o e=>Heap.get?_push_of_some _ e⟩
theorem RV {Q:List Value->Shared->Prop} {d:Addr} {es:Array DictEntry} {ep:Nat} (hh:A.handled=none) (lo:(d==sysModules)=false) (x:zN s.heap d es ep) (hz:es.size<=sizeLine)
  (q:∀h' tk,(∀b o,s.heap.get? b=some o->h'.get? b=some o)->s.heap.objs.size<=h'.objs.size->Q (es.toList.map (·.key)) {s with heap:=h',toks:=tk}):wpAny (model prog w) A (collect (.ref d)) Q E s:=by
 have lt:d<s.heap.objs.size:=by obtain ⟨o,e,_⟩:=x;exact Heap.lt_size e
 refine RT (F:=fun acc=>acc.toList=es.toList.map (·.key)) (kdl_extend (aB3 (prog:=prog) (w:=w) (es:=es) (ep:=ep) lo) hh (x.at fun o e=>Heap.get?_push_of_some _ e) s.heap.objs.size (Nat.ne_of_gt lt) (Nat.ne_of_gt lt) _ 0 (Heap.get?_push_size _ rfl) (fun h' tk acc c kp at_ it=>⟨h',tk,acc,c,rfl,rfl,fun b o e=>kp b o (Nat.ne_of_lt (Heap.lt_size e)) (Heap.get?_push_of_some _ e),at_,?_⟩) hz) fun h' tk acc kp sz e=>by rw [e];exact q h' tk kp sz
 refine List.ext_getElem? fun i=>?_
 by_cases hi:i<es.size
 ·obtain ⟨v,hv⟩:∃v,acc[i]?=some v:=⟨acc[i]'(by rw [it.1];exact hi),by simp [it.1,hi]⟩
  obtain ⟨_,e⟩:=it.2 i v hv;rw [Array.getElem?_toList,hv,e,List.getElem?_map,Array.getElem?_toList,Array.getElem?_eq_getElem hi];rfl
 ·rw [Array.getElem?_toList,Array.getElem?_eq_none (by rw [it.1];lia),List.getElem?_eq_none (by simpa using hi)]
end
noncomputable def nP:List D->Res D
 | [.dct kvs]=>if kvs.all (fun p=>isTup p.1)&&bF (eE kvs) then .ok (.lst (jC (eE kvs))) else .bad
 | [.tup xs]=>if bF xs then .ok (.lst (jC xs)) else .bad
 | ds=>lC ds
variable [KFrag]
section
variable {X:Cx}
theorem RW {H:Hp} {s:Shared} {pins:List (Addr×Obj)} {σ:L2.St} {a:Addr} {kvs:List (List Key×V)} (I:Inv X pins σ H s) (e:H a=some (.dT kvs)):∃(es:Array DictEntry) (ep:Nat) (xs:List (List Key×Addr×Value)),zN s.heap a es ep/\(a==sysModules)=false/\kvs.length<=sizeLine/\KT H kvs xs/\es.toList=xs.map (entryOfKey (tupleKind (cU X.prog X.w))):=by
 obtain ⟨z,hd,xs,rel,o,es,ep,h1,h2,h3,h4,_⟩:=NK I.hok e;exact ⟨es,ep,xs,⟨o,h1,h2,h3⟩,hd,z,rel,h4⟩
theorem rW {H:Hp}:∀k:List Key,bN All H (k.map kV) (k.map kD)
 | []=>.nil
 | .inl i::r=>.cons (.int i) (rW r)
 | .inr x::r=>.cons (.str x) (rW r)
theorem RX {H:Hp} {P:Addr->Prop} {kvs:List (List Key×V)} {xs:List (List Key×Addr×Value)} (rel:KT H kvs xs):∀{ds:List (D×D)},kI P H kvs ds->Vals (xs.map fun x=>V.ref x.2.1) (xs.map fun x=>Value.ref x.2.1)/\bN All H (xs.map fun x=>V.ref x.2.1) (eE ds):=by
 induction rel with
 | nil=>
  intro ds r;cases r;exact ⟨.nil,.nil⟩
 | @cons p q ps qs h t ih=>
  intro ds r;cases r with
  | cons r u=>
   obtain ⟨h1,h2⟩:=ih u;exact ⟨.cons rfl h1,.cons (.tup h.2.1 (rW _)) h2⟩
theorem pF (hc:X.calm=true) (hu:X.A.units+20<cLine):iY X (.builtin "sorted") (rs nP true):=by
 intro pins s σ H xs us Q I vr ⟨ds,d,r,e,k⟩;have fin:∀{ys:List D},bF ys=true->d=.lst (jC ys)->∀p xs',H p=none->bN All H xs' (jC ys)->Q (.ref p) (upd H p (.lst xs')):=fun {ys} hl e p xs' hp r'=>by
  subst e;have sp:cJ H (upd H p (.lst xs')):=cJ.upd hp;exact k _ _ sp (.lst aJ trivial (r'.same sp)) fun _=>.lst aJ hp ((r'.bY (rK hl)).same sp)
 unfold nP at e;split at e
 ·rename_i kvs;split at e
  ·rename_i hl;rw [Bool.and_eq_true] at hl;cases e;obtain ⟨vv,uu,rfl,rfl,r,v⟩:=iI r vr;have key:∀{H':Hp} {a:Addr} {kk:List (List Key×V)},Inv X pins σ H' s->H' a=some (.dT kk)->kI All H' kk kvs->H'=H->vv=.ref a->wpAny (model X.prog X.w) X.A (call (.builtin "sorted") [.ref a]) (EP X pins σ Q) X.xe s:=fun {H' a kk} I' e rt eH _=>by
    subst eH;obtain ⟨es,ep,zs,raw,lo,hz,rel,he⟩:=RW I' e;obtain ⟨r1,r2⟩:=RX rel rt;have hl2:es.size=zs.length:=by rw [<-Array.length_toList,he,List.length_map]
    have hl3:kk.length=zs.length:=Paired.length rel;have keys:es.toList.map (·.key)=zs.map fun x=>Value.ref x.2.1:=by rw [he,List.map_map];rfl
    exact jR I' hu r1 (by rw [List.length_map,<-hl3];exact hz) r2 hl.2 (fun Q' E' h=>RV (I'.ok.hd hc) lo raw (by rw [hl2,<-hl3];exact hz) fun h1 tk kp sz=>by rw [keys];exact h h1 tk kp sz) (fin hl.2 rfl)
   cases r with
   | dK e _ rk _=>
    cases rk with
    | cons r t=>
     have:=hl.1;rw [List.all_cons,fX] at this;cases this
    | nil=>
     cases v;obtain ⟨_,lo,vs,rel,o,es,ep,e1,e2,e3,_,hp,_⟩:=JM I.hok e;have h0:vs.length=0:=by rw [<-rel.length];rfl
     have h1:es.toList=[]:=List.eq_nil_of_length_eq_zero (by rw [hp.length];exact h0);exact jR I hu .nil (Nat.zero_le _) .nil hl.2 (fun Q' E' h=>RV (I.ok.hd hc) lo ⟨o,e1,e2,e3⟩ (by rw [<-Array.length_toList,h1];exact Nat.zero_le _) fun h' tk kp sz=>by rw [h1];exact h h' tk kp sz) (fin hl.2 rfl)
   | dT e _ rt _=>
    cases v;exact key I e rt rfl rfl
  ·cases e
 ·rename_i ys;split at e
  ·rename_i hl;cases e;obtain ⟨vv,uu,rfl,rfl,r,v⟩:=iI r vr;cases r with
   | tup e rr=>
    cases v;obtain ⟨its,vr,o,ho,hc',n,hd⟩:=fP I e;have hz:=I.hok _ _ e;exact jR I hu vr (by rw [<-vr.length];exact hz.1) rr hl (fun Q' E' h=>aB2 ho hc' hd (by rw [List.size_toArray,<-vr.length];exact hz.1) fun h1 tk kp sz=>by simpa using h h1 tk kp sz) (fin hl rfl)
  ·cases e
 ·exact oF hu pins s σ H xs us Q I vr ⟨_,d,r,e,k⟩
noncomputable def aDh:List D->Res D
 | [.dct kvs]=>if kvs.all (fun p=>isTup p.1) then .ok (.int kvs.length) else .bad
 | ds=>fM ds
theorem aB4 (hK:KFrag.K=X.K):iY X (.builtin "len") (rs aDh true):=by
 intro pins s σ H xs us Q I vr ⟨ds,d,r,e,k⟩;unfold aDh at e;split at e
 ·rename_i kvs;split at e
  ·rename_i hl;cases e;obtain ⟨vv,uu,rfl,rfl,r,v⟩:=iI r vr;cases r with
   | dK e _ rk _=>
    cases rk with
    | cons r t=>rw [List.all_cons,fX] at hl;cases hl
    | nil=>
     cases v;obtain ⟨_,lo,vs,rel,dd⟩:=JM I.hok e;have h0:vs.length=0:=by rw [<-rel.length];rfl
     refine call_len_dict lo dd (by lia) ?_;rw [h0];exact ⟨.int 0,H,I.tok _,⟨_,rfl⟩,k.int⟩
   | dT e _ rt _=>
    cases v;obtain ⟨es,ep,zs,raw,lo,hz,rel,he⟩:=RW I e;have hl2:es.size=kvs.length:=by rw [<-Array.length_toList,he,List.length_map,<-Paired.length rel,rt.length]
    refine aB1 lo raw (by have:=rt.length;rw [sizeLine_eq] at hz;lia) fun t t'=>?_
    rw [hl2];exact ⟨.int _,H,I.tok _,⟨_,rfl⟩,k.int⟩
  ·cases e
 ·exact dY hK pins s σ H xs us Q I vr ⟨_,d,r,e,k⟩
end
end Mi
end
section
namespace Mi
open PySem L2 PySem.SeqAt PySem.Spec PyProof.Rows
noncomputable def yG (n i:Nat) (t:D->Res (List D)) (c:FT) (f:FE):FE:=fun ρ=>do
 let d <- aF i ρ
 match d with
 | .dct kvs=>if decide (kvs.length<=lim)&&(kvs.all (fun p=>isTup p.1)&&D.a_ (kvs.map (·.2))) then (do
   let ys <- gD (jE n t c f false (ρ.set i (.fdc kvs))) [] (eE kvs)
   pure (.lst ys)) else .bad
 | _=>.bad
variable [KFrag]
noncomputable def Itw (a:Addr) (o:Obj) (u:HO) (zs:List (List Key×Addr×Value)):It where
 go:=fun i H=>H a=some (.frz o u)/\∃p,zs[i]?=some p
 yld:=fun i H x H'=>H'=H/\∃p,zs[i]?=some p/\x=.ref p.2.1
 stop:=fun i H=>H a=some (.frz o u)/\zs.length<=i
theorem W8 {P:Program} {w:World} {K:PySem.W.Frag} {tg:Expr} {a it:Addr} {o:Obj} {u:HO} {zs:List (List Key×Addr×Value)} {es:Array DictEntry} {ep:Nat} (hd:∀h:Heap,h.get? a=some o->zN h a es ep) (he:es.toList=zs.map (entryOfKey (tupleKind (cU P w)))) :
  Turn P w K tg (Itw a o u zs) [it] it (fun i h=>h.IsKeyIter it a i es.size ep) where
 mem:=by simp
 obj:=fun i h st b hb=>by
  have e:b=it:=by simpa using hb
  subst e;obtain ⟨o,e,c,d⟩:=st;exact ⟨o,e,fun v z=>by rw [d] at z;cases z⟩
 keep:=fun i h h' st k=>st.at fun o e=>k it (by simp) o e
 item:=by
  intro X hP hw hK hc i pins s σ H E I hf st hg;subst hP hw hK;obtain ⟨ea,p,hx⟩:=hg;obtain ⟨px,_⟩:=I.hok a _ ea;have hsz:es.size=zs.length:=by rw [<-Array.length_toList,he,List.length_map]
  have hi:i<es.size:=by rw [hsz];exact (List.getElem?_eq_some_iff.mp hx).1
  have hkey:es[i].key=Value.ref p.2.1:=by
   have:es.toList[i]?=some es[i]:=by rw [Array.getElem?_toList,Array.getElem?_eq_getElem hi]
   rw [he,List.getElem?_map,hx] at this;have this:entryOfKey (tupleKind (cU X.prog X.w)) p=es[i]:=by simpa using this
   rw [<-this];rfl
  obtain ⟨f0,f1,f2,f3,f4,f5⟩:=hf it (by simp);refine HH st (hd _ px) hi fun h' st' sb=>?_
  have I1:Inv X pins σ H {s with heap:=h'}:=I.turned (t':=s.toks) (fun b o hb e=>(sb.2 b hb).trans e) f0 f1 f3 f4 f5;obtain ⟨o',e,c,d⟩:=id st';exact ⟨_,rfl,U4 (s:={s with heap:=h'}) e c d (by decide) ⟨.ref p.2.1,H,I1,hkey,⟨rfl,_,hx,rfl⟩,st',fun b hb=>(hf b hb).1⟩⟩
 done:=by
  intro X hP hw hK hc i pins s σ H E I hf st hg;subst hP hw hK;obtain ⟨ea,hx⟩:=hg;obtain ⟨px,_⟩:=I.hok a _ ea;obtain ⟨f0,f1,f2,f3,f4,f5⟩:=hf it (by simp);have hsz:es.size=zs.length:=by rw [<-Array.length_toList,he,List.length_map]
  exact RP (I.ok.hd hc) st (hd _ px) (by lia) fun h' eb=>⟨rfl,I.turned (t':=s.toks) (fun b o hb e=>eb b o hb e) f0 f1 f3 f4 f5⟩
 self:=fun _ _ _ _ _ st h=>wpAny_pyIter_keyiter st h
section
variable {X:Cx} {pins:List (Addr×Obj)} {σ:L2.St} {H:Hp} {s:Shared} {a:Addr} {kvs:List (List Key×V)}
theorem aB5 {tg:Expr} {x:Str} {i:Nat} {np:Pos} (hN:X.N[i]?=some x) (hv:Vis X.env.scope x) (hd:(x==("__debug__" : Str))=false:=by decide) (hcd:(x==("__classdict__" : Str))=false:=by decide) :
  PI X tg (.Name x np) (fun σ H R=>∃a kvs,σ[i]?=some (some (.ref a))/\H a=some (.dT kvs)/\∀o zs,KT H kvs zs->R (Itw a o (.dT kvs) zs) (upd H a (.frz o (.dT kvs)))):=by
 intro pins s σ H R I ⟨a,kvs,hσ,hua,q⟩;refine thn (j6 (pos:=np) hN hv hd hcd pins s σ H (fun v H1=>v=.ref a/\H1=H) I ⟨_,hσ,rfl,rfl⟩) fun v s1 ⟨w,H1,I1,r1,e1,e2⟩=>?_
 subst e1 e2;cases r1;obtain ⟨es,ep,zs,raw,lo,hz,rel,he⟩:=RW I1 hua;obtain ⟨o,ho,hx,hdt⟩:=raw;have hra:∀h:Heap,h.get? a=some o->zN h a es ep:=fun h e=>⟨o,e,hx,hdt⟩
 have keepT:∀b xs,H1 b=some (.tup xs)->upd H1 a (.frz o (.dT kvs)) b=some (.tup xs):=fun b xs h=>by
  rw [aX (fun z=>by subst z;rw [hua] at h;cases h)];exact h
 have If:Inv X pins σ (upd H1 a (.frz o (.dT kvs))) s1:=I1.write (t':=s1.toks) (x:=a) (e:=a) (h':=s1.heap) (o:=.frz o (.dT kvs)) (by rw [hua];trivial) (.inl rfl) (fun _ _ _ q=>q) ⟨o,ho⟩ ⟨ho,(I1.hok a _ hua).stay (fun _ _ _ q=>q) (fun b hb=>by
  rw [aX (fun z=>by subst z;rw [hua] at hb;cases hb)];exact hb) keepT⟩
 refine HF lo (hra _ ho) ?_;have I2:Inv X pins σ (upd H1 a (.frz o (.dT kvs))) {s1 with heap:=s1.heap.push {cls:=.type "dict_keyiterator",data:=.fields #[.ref a,.int 0 0,.int es.size 0,.int ep 0]}}:=If.kept (t':=s1.toks) fun b o e=>Heap.get?_push_of_some _ e
 refine ⟨s1.heap.objs.size,[s1.heap.objs.size],fun i h=>h.IsKeyIter s1.heap.objs.size a i es.size ep,Itw a o (.dT kvs) zs,_,rfl,I2,W8 hra he,⟨_,Heap.get?_push_size _ rfl,rfl,rfl⟩,fun b hb=>?_,q o zs rel⟩;have e:b=s1.heap.objs.size:=by simpa using hb
 subst e;exact If.aE0 (Nat.le_refl _) (If.hok.fresh (Nat.le_refl _))
end
theorem HJ {own:Nat->Bool} {o:Bool} {i:Nat} {D':Ends} {σ:L2.St} {H:Hp} {ρ:List D} {fl:Fl} {fe:FE} {re:Bool} (ho:own i=o) (E:ES own H σ ρ) (h:cA o i fe re ρ=.ok fl) (q:kS own D' σ H fl):∃d,fe ρ=.ok d/\kR H d re (fun v H'=>oW i v σ H' D'.nx):=by
 obtain ⟨d,h1,h2⟩:=bI h;refine ⟨d,h1,?_⟩;cases o with
 | true=>
  simp only [if_true] at h2;split at h2
  ·rename_i hk;cases h2;intro v H' s r n;rw [Bool.and_eq_true] at hk;obtain ⟨a,ob,rfl,hn,ha,hm⟩:=Y8 (n hk.1) hk.2;obtain ⟨E2,k⟩:=E.aFo s ho hn r hk.2 ha hm;exact q _ H' k E2
  ·cases h2
 | false=>
  simp only [Bool.false_eq_true,if_false] at h2;split at h2
  ·rename_i hk;cases h2;intro v H' s r n;rw [Bool.or_eq_true] at hk;have r2:Rep (fun a=>¬Own own σ a) H' v d:=by
    rcases hk with hk|hk
    ·exact QM E (n hk)
    ·exact r.bY hk
   exact q _ H' (fun a ob e hn=>⟨s a ob e,by rw [lJ ho];exact hn⟩) ((E.same s).set ho r2)
  ·cases h2
theorem rY {P:Addr->Prop} {H:Hp}:∀{kvs:List (List Key×V)} {ds:List (D×D)},kI P H kvs ds->D.a_ (eE ds)=true
 | _,_,.nil=>rfl
 | _,_,.cons (k:=k) r t=>by
  show D.a_ (D.tup (k.map kD)::eE _)=true;rw [D.a_,Bool.and_eq_true];refine ⟨?_,rY t⟩;rw [D.pure];induction k with
  | nil=>rfl
  | cons x k ih=>rw [List.map_cons,D.a_,ih];cases x <;> rfl
section
variable {X:Cx} {scope:Scope} {own:Nat->Bool} {x c y:Str} {i n iy:Nat} {elt cnd:Expr} {fe:FE} {gc:FT} {re o:Bool} {np cpos pos py pos2:Pos}
theorem uE {pins:List (Addr×Obj)} {s:Shared} {σ:L2.St} {H:Hp} {Dn:Ends} {ρ:List D} {fl:Fl} {a:Addr} {kvs:List (List Key×V)} {ds:List (D×D)} (I:Inv X pins σ H s) (E:ES own H σ ρ) (hfl:cA o iy (yG n i j7 gc fe) true ρ=.ok fl) (q:kS own Dn σ H fl) (hoi:own i=true) (hσ:σ[i]?=some (some (.ref a))) (hdi:ρ.getD i .uDf=.dct ds) (hua:H a=some (.dT kvs)) (rt:kI All H kvs ds)
  (S:cO X.N X.env.scope scope [c]) (hn:X.N.length=n) (hcalm:X.calm=true) (hN:X.N[i]?=some x) (hv:Vis X.env.scope x) (hg:∀y,PG (mkC X scope [c] y) (.Name c cpos) (oW n)) (hc:∀y,PT (mkC X scope [c] y) cnd (gT gc)) (he:∀y,PE (mkC X scope [c] y) elt (gE fe re))
  (hs:∀z,foldedSetIterable (.Name x np) X.env z=pure z) (ho:own iy=o) (hNn:X.N.Nodup) (hiy:X.N[iy]?=some y) (hxy:Loc X.env.scope y) (hfy:X.fn y=true\/X.env.scope.names.lookup y=some .local) (hsw:swapsWith (.ListComp elt [⟨.Name c cpos,.Name x np,[cnd],0⟩] scope pos) (some (.Name y py)) pos2.line X.env=pure true)
  (hd:(x==("__debug__" : Str))=false) (hcd:(x==("__classdict__" : Str))=false) :
  wpAny (model X.prog X.w) X.A (exec (.Assign [.Name y py] (.ListComp elt [⟨.Name c cpos,.Name x np,[cnd],0⟩] scope pos) pos2) X.env) (SP X pins Dn) X.xe s:=by
 obtain ⟨d,hcomp,q⟩:=HJ ho E hfl q;obtain ⟨d0,h1,h2⟩:=bI hcomp;have e0:aF i ρ=.ok (.dct ds):=by unfold aF;rw [hdi]
 rw [e0] at h1;cases h1;replace h2:(if decide (ds.length<=lim)&&(ds.all (fun p=>isTup p.1)&&D.a_ (ds.map (·.2))) then (do
   let ys <- gD (jE n j7 gc fe false (ρ.set i (.fdc ds))) [] (eE ds)
   pure (D.lst ys)) else Res.bad)=.ok d:=h2
 by_cases hb0:(decide (ds.length<=lim)&&(ds.all (fun p=>isTup p.1)&&D.a_ (ds.map (·.2))))=true
 ·rw [if_pos hb0] at h2
  ·have hb:=hb0;rw [Bool.and_eq_true,Bool.and_eq_true] at hb;obtain ⟨ys,h3,h4⟩:=bI h2;cases h4;have hlen:kvs.length=(eE ds).length:=by unfold eE;rw [List.length_map];exact rt.length
   have hlim:(eE ds).length<=lim:=by unfold eE;rw [List.length_map];exact of_decide_eq_true hb.1
   have hno:∀o u,X.H₀ a≠some (.frz o u):=fun o u h=>by
    have:=I.base.frzs a o u h;rw [hua] at this;cases this
   have hσl:σ.length=n:=I.len.trans hn;have tg:=iZ n;refine thn (xY S hcalm (aB5 (tg:=.Name c cpos) (np:=np) hN hv hd hcd) (fun X' cc=>by obtain ⟨y,rfl⟩:=jH cc;exact hg y) (fun X' cc=>by obtain ⟨y,rfl⟩:=jH cc;exact hc y) (fun X' cc=>by obtain ⟨y,rfl⟩:=jH cc;exact he y) hs hNn hiy hxy hfy hsw pins s σ H
    {Dn with nx:=fun σ' H'=>∃o,H' a=some (.frz o (.dT kvs))/\Dn.nx σ' (upd H' a (.dT kvs))} I ⟨a,kvs,hσ,hua,fun o zs rel p hp=>?_⟩) fun f s' hq=>?_
   ·have hpa:p≠a:=fun z=>by subst z;rw [aJ] at hp;cases hp
    have hp0:H p=none:=by rw [aX hpa] at hp;exact hp
    have EF:ER (upd H a (.frz o (.dT kvs))) σ (ρ.set i (.fdc ds)):=(aF4 E hoi hσ hdi hua rfl).1.er;have hzl:kvs.length=zs.length:=Paired.length rel;obtain ⟨_,rk⟩:=RX rel rt;have pk:D.a_ (eE ds)=true:=rY rt;refine ⟨fun i' n' vs H'=>n'=kvs.length-i'/\i'<=kvs.length/\H' p=some (.lst vs)/\cJ (upd H a (.frz o (.dT kvs))) H'/\∃acc,acc.length<=i'/\D.a_ acc=true/\bN All H' vs acc/\gD (jE n j7 gc fe false (ρ.set i (.fdc ds))) acc ((eE ds).drop i')=.ok ys,⟨kvs.length,rfl,Nat.zero_le _,aJ,cJ.upd hp,[],Nat.zero_le _,rfl,.nil,h3⟩,?_⟩;rintro i' n' vs H' ⟨rfl,hi,hH,sm,acc,hal,pacc,racc,hf⟩;have ea:H' a=some (.frz o (.dT kvs)):=sm a _ aJ;refine ⟨hH,?_⟩;rcases Nat.lt_or_ge i' kvs.length with hlt|hge
    ·refine .inr ⟨⟨ea,_,List.getElem?_eq_getElem (hzl▸hlt)⟩,?_,fun x H2 hy=>?_⟩
     ·rw [racc.length];exact Nat.lt_of_le_of_lt hal (Nat.lt_of_lt_of_le (hlen▸hlt) (Nat.le_trans hlim (by rw [sizeLine_eq];decide)))
     ·obtain ⟨rfl,pr,hx,rfl⟩:=hy;have hlt2:i'<(eE ds).length:=hlen▸hlt;have rk2:bN All H2 (zs.map fun x=>V.ref x.2.1) (eE ds):=(lM (u:=.frz o (.dT kvs)) (fun xs z=>by rw [hua] at z;cases z) rk pk).same sm;obtain ⟨dx,hdx,rx⟩:=rk2.at (i:=i') (v:=.ref pr.2.1) (by simp [hx]);have edx:(eE ds)[i']=dx:=by
       have:=List.getElem?_eq_getElem hlt2;rw [hdx] at this;exact (Option.some.inj this).symm
      rw [List.drop_eq_getElem_cons hlt2,edx] at hf;obtain ⟨acc2,hs,hf⟩:=bI hf;obtain ⟨bs,hbs,hs⟩:=bI hs;obtain ⟨ok,hok,hs⟩:=bI hs;refine tg (.ref pr.2.1) dx bs σ H2 _ hσl rx hbs fun σ2 hx2 hbs2=>⟨hx2,?_⟩
      have E2:ER H2 σ2 (BK n (ρ.set i (.fdc ds))++bs):=(EF.same sm).ext hσl hx2 hbs2;refine ⟨_,ok,E2,hok,fun H4 s4=>?_⟩;cases ok with
      | true=>
       rw [if_pos rfl];rw [if_pos rfl] at hs;obtain ⟨yy,hy2,hs⟩:=bI hs;split at hs
       ·rename_i hk;cases hs;have py:yy.pure=true:=by simpa using hk
        refine ⟨_,yy,E2.same s4,hy2,fun w H5 s5 r5 n5=>⟨s5 p _ (s4 p _ hH),kvs.length-(i'+1),by lia,rfl,hlt,aJ,?_,acc++[yy],?_,pD pacc py,?_,hf⟩⟩
        ·exact fun b ob e=>by
          rw [aX (bJ e hp)];exact s5 b ob (s4 b ob (sm b ob e))
        ·rw [List.length_append,List.length_singleton];lia
        ·have hp5:H5 p=some (.lst vs):=s5 p _ (s4 p _ hH);have hpn:∀xs,H5 p≠some (.tup xs):=fun xs z=>by rw [hp5] at z;cases z
         exact lM hpn ((racc.same (s4.trans s5)).snoc r5) (pD pacc py)
       ·cases hs
      | false=>
       rw [if_neg (by simp)];rw [if_neg (by simp)] at hs;cases hs;exact ⟨kvs.length-(i'+1),by lia,rfl,hlt,s4 p _ hH,sm.trans s4,acc,by lia,pacc,racc.same s4,hf⟩
    ·refine .inl ⟨⟨ea,hzl▸hge⟩,o,ea,?_⟩;rw [List.drop_eq_nil_of_le (by lia)] at hf;cases hf;have hna:∀xs,H' a≠some (.tup xs):=fun xs z=>by rw [ea] at z;cases z
     have sF:cJ H (upd H' a (.dT kvs)):=fun b ob e=>by
      by_cases hba:b=a
      ·subst hba;rw [aJ,<-hua];exact e
      ·rw [aX hba];exact sm b ob (by rw [aX hba];exact e)
     have hpF:upd H' a (.dT kvs) p=some (.lst vs):=by rw [aX hpa];exact hH
     have rF:∀{P:Addr->Prop},bN P (upd H' a (.dT kvs)) vs ys:=fun {P}=>(lM hna racc pacc).bY pacc
     exact q _ _ sF (.lst hpF trivial rF) fun _=>.lst hpF hp0 rF
   ·cases f with
    | next=>
     obtain ⟨σ',H',I',o,ea,q'⟩:=hq;exact ⟨σ',_,W5 I' ea hno,q'⟩
    | brk=>exact hq
    | cont=>exact hq
    | ret u=>exact hq
 ·rw [if_neg hb0] at h2;cases h2
theorem HN {α:Type}:∀{l:List α} {i:Nat} {x:α} (h:i<l.length),(some l[i]).getD x=x->l.set i x=l
 | y::l,0,x,_,e=>by have e:y=x:=e;rw [e];rfl
 | y::l,i+1,x,h,e=>by
  have h':i<l.length:=by simpa using h
  exact congrArg (List.cons y) (HN h' e)
theorem W9 (S:cO X.N X.env.scope scope [c]) (hn:X.N.length=n) (hcalm:X.calm=true) (hoi:own i=true) (hN:X.N[i]?=some x) (hv:Vis X.env.scope x) (hg:∀y,PG (mkC X scope [c] y) (.Name c cpos) (oW n)) (hc:∀y,PT (mkC X scope [c] y) cnd (gT gc)) (he:∀y,PE (mkC X scope [c] y) elt (gE fe re))
  (hs:∀z,foldedSetIterable (.Name x np) X.env z=pure z) (ho:own iy=o) (hNn:X.N.Nodup) (hiy:X.N[iy]?=some y) (hxy:Loc X.env.scope y) (hfy:X.fn y=true\/X.env.scope.names.lookup y=some .local) (hsw:swapsWith (.ListComp elt [⟨.Name c cpos,.Name x np,[cnd],0⟩] scope pos) (some (.Name y py)) pos2.line X.env=pure true)
  (hd:(x==("__debug__" : Str))=false:=by decide) (hcd:(x==("__classdict__" : Str))=false:=by decide) :
  PS X (.Assign [.Name y py] (.ListComp elt [⟨.Name c cpos,.Name x np,[cnd],0⟩] scope pos) pos2) (tS own (cA o iy (yG n i j7 gc fe) true)):=by
 intro pins s σ H Dn I ⟨ρ,fl,E,hfl,q⟩;obtain ⟨d,hcomp,_⟩:=HJ ho E hfl q;obtain ⟨d0,h1,h2⟩:=bI hcomp;have e0:ρ.getD i .uDf=d0:=by
  unfold aF at h1;split at h1
  ·cases h1
  ·cases h1;rfl
 split at h2
 ·rename_i ds;split at h2
  ·rename_i hb;rw [Bool.and_eq_true,Bool.and_eq_true] at hb;obtain ⟨a,ob,hσ,r,hin,ha,hm⟩:=E.ownAt hoi (by rw [e0];intro z;cases z);rw [e0] at r hin;cases r with
   | @dT _ kvs _ e _ rt _=>exact uE I E hfl q hoi hσ e0 e rt S hn hcalm hN hv hg hc he hs ho hNn hiy hxy hfy hsw hd hcd
   | dK e _ rk _=>
    cases rk with
    | cons r t=>
     have:=hb.2.1;rw [List.all_cons,fX] at this;cases this
    | nil=>
     obtain ⟨E2,k2⟩:=E.mut (o:=.dT []) (d:=.dct []) hoi hσ rfl (.dT aJ trivial .nil List.nodup_nil) rfl;have eρ:ρ.set i (.dct [])=ρ:=by
      have hl:i<ρ.length:=by rw [<-E.len];exact (List.getElem?_eq_some_iff.mp hσ).1
      rw [List.getD_eq_getElem?_getD,List.getElem?_eq_getElem hl] at e0;exact HN hl e0
     rw [eρ] at E2;exact uE (jF I e) E2 hfl (q.step k2) hoi hσ e0 aJ .nil S hn hcalm hN hv hg hc he hs ho hNn hiy hxy hfy hsw hd hcd
  ·cases h2
 ·cases h2
end
end Mi
end
section
local macro_rules | `(tactic| trivial) => `(tactic| first | exact Or.inl rfl | exact Or.inr rfl | exact Or.inr (Or.inl rfl) | exact Or.inr (Or.inr rfl))
namespace Lk06
open PySem L2 Mi PySem.W
noncomputable def top (i:Nat):Stmt:=PySem.Challenge.pw_hookmill_k06_hooked.main.body.getD i (.Pass ⟨0,0,0,0⟩)
noncomputable abbrev dH:Stmt:=top 27
noncomputable def tM:Nat->Bool:=fun i=>false
noncomputable def eN:FS:=bW (sIf (bTB (b2 (bV (.ord .lt)) (aF 1) (aO fM (aC (aF 0) (aV))))) (j8 (b2 getD (aF 0) (aF 1)) false) (jO)) (j8 (bC (.int 0)) true)
noncomputable def dI:List D->Res D:=fnS 2 2 eN
noncomputable abbrev fB:Stmt:=top 28
noncomputable def yH:Nat->Bool:=fun i=>i==5
noncomputable def lO:FS:=bW (cA false 2 (bC (.str "abcdefghijklmnopqrstuvwxyz")) true) (bW (cA false 3 (b2 (aW .add) (bC (.int 1)) (b2 (aW .mod) (aF 0) (bC (.int 8)))) true) (bW (cA false 4 (b2 (aW .mod) (b2 (aW .fdiv) (aF 0) (bC (.int 8))) (aF 3)) true) (bW (cA true 5 (bC (.dct [])) true) (bW (zM (jD (aC (b2 (aW .add) (bC (.int 3)) (b2 (aW .mod) (b2 (aW .fdiv) (aF 0) (bC (.int 64))) (bC (.int 3)))) (aV)) mZ) (tg1 6) (bW (cA false 7 (bC (.str "")) true) (bW (zM (jD (aC (aF 3) (aV)) mZ) (tg1 8) (bW (cA false 9 (b2 (aW .mul) (b2 (aW .mod) (b2 (aW .fdiv) (aF 0) (bC (.int 192))) (bC (.int 2))) (b2 (aW .add) (aF 8) (bC (.int 2)))) true) (bW (sIf (bTB (b2 (bV .eq) (aF 8) (aF 4))) (cA false 9 (bC (.int 1)) true) (jO)) (cA false 7 (b2 (aW .add) (aF 7) (b2 getD (aF 2) (b2 (aW .mod) (b2 (aW .add) (b2 (aW .fdiv) (b2 (aW .fdiv) (aF 0) (bC (.int 384))) (b2 (aW .add) (b2 (aW .mul) (aF 8) (aF 8)) (bC (.int 1)))) (b2 (aW .mul) (aF 6) (aF 9))) (bC (.int 26))))) true)))) (bW (BL 5 (aF 7) (b2 (aW .mod) (aF 1) (bC (.int 7)))) (cA false 1 (b2 (aW .fdiv) (aF 1) (bC (.int 7))) true))))) (O4 5)))))
noncomputable def gG:List D->Res D:=fnS 2 10 lO
noncomputable abbrev cQ:Stmt:=top 30
noncomputable def rZ:Nat->Bool:=fun i=>i==2
noncomputable def iQ:FS:=bW (cA true 2 (aBo (aV)) true) (bW (zM (jD (aC (aO fM (aC (aF 0) (aV))) (aV)) mZ) (tg1 3) (aCp 2 (b2 (aW .mod) (b2 (aW .add) (b2 (aW .fdiv) (aF 1) (b2 (aW .add) (aF 3) (bC (.int 1)))) (b2 (aW .mul) (aF 3) (aF 3))) (b2 (aW .add) (aF 3) (bC (.int 1)))) (b2 getD (aF 0) (aF 3)))) (O4 2))
noncomputable def cR:List D->Res D:=fnS 2 4 iQ
noncomputable abbrev dX:Stmt:=top 31
noncomputable def vY:Nat->Bool:=fun i=>i==4
noncomputable def jV:FS:=bW (cA false 3 (aO (cW 2 cR) (aC (aO G_ (aC (b2 (aW .add) (aO fM (aC (aF 0) (aV))) (b2 (aW .mul) (bC (.int 2)) (aF 1))) (aV))) (aC (aF 2) (aV)))) true) (bW (cA true 4 (aBo (aV)) true) (bW (zM (jD (aC (aO fM (aC (aF 0) (aV))) (aV)) mZ) (tg1 5) (FQ 4 (dM (aC (dM (aC (bC (.int 0)) (aC (b2 getD (aF 3) (aF 5)) (aV)))) (aC (b2 getD (aF 0) (aF 5)) (aV)))))) (bW (zM (jD (aC (aF 1) (aV)) mZ) (tg1 5) (bW (cA false 6 (VV (aF 3) (tL (b2 (aW .add) (aO fM (aC (aF 0) (aV))) (b2 (aW .mul) (bC (.int 2)) (aF 5)))) (tL (b2 (aW .add) (b2 (aW .add) (aO fM (aC (aF 0) (aV))) (b2 (aW .mul) (bC (.int 2)) (aF 5))) (bC (.int 2))))) true) (FQ 4 (dM (aC (dM (aC (bC (.int 0)) (aC (aO (fO .lt) (aC (aF 6) (aV))) (aV)))) (aC (dM (aC (bC (.int 0)) (aC (aO (fO .gt) (aC (aF 6) (aV))) (aV)))) (aV))))))) (O4 4))))
noncomputable def fK:List D->Res D:=fnS 3 7 jV
noncomputable abbrev eY:Stmt:=top 29
noncomputable def CT:Nat->Bool:=fun i=>false
noncomputable def nQ:FS:=bW (cA false 2 (b2 getD (aF 0) (b2 (aW .mod) (aF 1) (aO fM (aC (aF 0) (aV))))) false) (bW (cA false 3 (eU 5 (dJ (aF 0) false) j7 (bTB (b2 (bV .ne) (aF 5) (aF 2))) (aF 5) false) true) (bW (cA false 4 (b2 getD (aF 3) (b2 (aW .mod) (b2 (aW .fdiv) (aF 1) (aO fM (aC (aF 0) (aV)))) (aO fM (aC (aF 3) (aV))))) false) (j8 (dM (aC (aO (fO .lt) (aC (aF 2) (aC (aF 4) (aV)))) (aC (aO (fO .gt) (aC (aF 2) (aC (aF 4) (aV)))) (aV)))) false)))
noncomputable def dO:List D->Res D:=fnS 2 5 nQ
noncomputable abbrev cF:Stmt:=top 32
noncomputable def yI:Nat->Bool:=fun i=>i==4||i==6
noncomputable def lQ:FS:=bW (cA false 3 (aO V0 (aC (aF 0) (aV))) true) (bW (cA true 4 (aBo (aV)) true) (bW (cA false 5 (aBo (aV)) true) (bW (cA true 6 (aBo (aV)) true) (bW (cA false 7 (bC (.int 0)) true) (bW (cA false 8 (bC (.int 0)) true) (bW (cA false 9 (bC (.int 0)) true) (bW (O6 1 (tg1 10) (bW (cA false 11 (b2 (aW .fdiv) (aF 10) (bC (.int 8))) true) (bW (sAl 12 5) (bW (sIf (bTB (b2 (bV .eq) (b2 (aW .mod) (aF 10) (bC (.int 8))) (bC (.int 5)))) (cA false 12 (eU 13 (dJ (aF 5) false) j7 (bTB (b2 (bV .eq) (b2 getD (aF 13) (bC (.int 1))) (bC (.int 0)))) (aF 13) false) true) (jO)) (sIf (JS (bTB (b2 (bV (.ord .lt)) (b2 (aW .mod) (aF 10) (bC (.int 8))) (bC (.int 4)))) (bTB (b2 (bV (.ord .lt)) (aO fM (aC (aF 4) (aV))) (bC (.int 24))))) (bW (cA false 7 (b2 (aW .add) (b2 (aW .add) (aF 7) (bC (.int 1))) (b2 (aW .mod) (b2 (aW .fdiv) (aF 11) (aO fM (aC (aF 3) (aV)))) (b2 (aW .pow) (bC (.int 10)) (bC (.int 9))))) true) (bW (FQ 4 (dM (aC (aF 7) (aC (b2 getD (aF 3) (b2 (aW .mod) (aF 11) (aO fM (aC (aF 3) (aV))))) (aV))))) (cA false 5 (b2 (aW .add) (aF 5) (eU 13 (jD (aC (b2 (aW .add) (b2 getD (aF 0) (b2 getD (aF 3) (b2 (aW .mod) (aF 11) (aO fM (aC (aF 3) (aV)))))) (bC (.int 1))) (aV)) mZ) j7 (lD) (dM (aC (aF 7) (aC (aF 13) (aV)))) false)) true))) (sIf (JS (bTB (bCh (bV (.ord .le)) (bV (.ord .lt)) (bC (.int 4)) (b2 (aW .mod) (aF 10) (bC (.int 8))) (bC (.int 6)))) (bTB (b2 (bV (.ord .gt)) (aO fM (aC (aF 12) (aV))) (bC (.int 1))))) (bW (FQ 6 (aO (cW 2 dO) (aC (aF 12) (aC (aF 11) (aV))))) (cA false 5 (eU 13 (dJ (aF 5) false) j7 (bTB (b2 (bV .notin) (aF 13) (b2 getD (aF 6) (b1 O3 (bC (.int 1)))))) (aF 13) false) true)) (sIf (bTB (b2 (bV .eq) (b2 (aW .mod) (aF 10) (bC (.int 8))) (bC (.int 6)))) (cA false 8 (b2 (aW .add) (aF 8) (bC (.int 1))) true) (sIf (bTB (b2 (bV .eq) (b2 (aW .mod) (aF 10) (bC (.int 8))) (bC (.int 7)))) (cA false 9 (b2 (aW .add) (aF 9) (b2 (aW .mod) (aF 11) (b2 (aW .pow) (bC (.int 10)) (bC (.int 50))))) true) (jO))))))))) (bW (cA true 6 (b2 (aW .add) (aF 6) (aO (cW 3 fK) (aC (aF 5) (aC (aF 8) (aC (aF 2) (aV)))))) true) (j8 (dM (aC (aO rB (aC (aF 4) (aV))) (aC (aO rB (aC (aO lC (aC (aF 6) (aV))) (aV))) (aC (aF 9) (aV))))) false)))))))))
noncomputable def iW:List D->Res D:=fnS 3 13 lQ
noncomputable abbrev fC:Stmt:=top 34
noncomputable def yJ:Nat->Bool:=fun i=>i==1
noncomputable def yK:FS:=bW (cA true 1 (bC (.dct [])) true) (bW (zM (dJ (b2 getD (aF 0) (bC (.int 1))) false) (tgN [2,3]) (bW (BL 1 (aF 2) (aF 3)) (BL 1 (aF 3) (aF 2)))) (O4 1))
noncomputable def fD:List D->Res D:=fnS 1 4 yK
noncomputable abbrev cX:Stmt:=top 35
noncomputable def vZ:Nat->Bool:=fun i=>i==3||i==7
noncomputable def v4:FS:=bW (cA true 3 (aO (cW 1 fD) (aC (aF 0) (aV))) true) (bW (aDg 3 4 (dM (aC (bC (.int 0)) (aC (aF 1) (aV))))) (bW (aDg 3 5 (dM (aC (bC (.int 0)) (aC (aF 2) (aV))))) (bW (cA false 6 (b2 (aW .add) (b2 getD (aF 0) (bC (.int 2))) (aO aE6 (aC (b2 (bV .eq) (aF 4) (dM (aC (bC (.int 0)) (aC (aF 2) (aV))))) (aV)))) true) (bW (sIf (bTB (b2 (bV .ne) (aF 4) (dM (aC (bC (.int 0)) (aC (aF 2) (aV)))))) (bW (BL 3 (aF 4) (aF 5)) (BL 3 (aF 5) (aF 4))) (jO)) (bW (cA true 7 (bC (.dct [])) true) (bW (zM (dJ (aO nP (aC (aF 3) (aV))) true) (tg1 8) (bW (BL 7 (aF 8) (aF 8)) (sIf (bTB (b2 (bV .eq) (b2 getD (aF 8) (bC (.int 0))) (bC (.int 0)))) (BL 7 (aF 8) (dM (aC (bC (.int 0)) (aC (b2 (aW .sub) (aO aDh (aC (aF 7) (aV))) (bC (.int 1))) (aV))))) (jO)))) (bW (cA false 9 (yG 10 7 j7 (bTB (b2 (bV (.ord .lt)) (aF 10) (b2 getD (aF 3) (aF 10)))) (dM (aC (b2 getD (aF 7) (aF 10)) (aC (b2 getD (aF 7) (b2 getD (aF 3) (aF 10))) (aV))))) true) (j8 (dM (aC (b2 getD (aF 0) (bC (.int 0))) (aC (aO rB (aC (aO lC (aC (aF 9) (aV))) (aV))) (aC (aF 6) (aV))))) false))))))))
noncomputable def fL:List D->Res D:=fnS 3 10 v4
noncomputable abbrev g8:Stmt:=top 22
noncomputable def KR:Nat->Bool:=fun i=>false
noncomputable def KY:FS:=j8 (p6 (b1 (n6 .int) (aF 0)) (O2 (b1 (n6 .bool) (aF 0)))) true
noncomputable def mU:List D->Res D:=fnS 1 1 KY
noncomputable abbrev mV:Stmt:=top 21
noncomputable def W_:Nat->Bool:=fun i=>false
noncomputable def XD:FS:=j8 (p6 (b1 (n6 .tuple) (aF 0)) (p6 (b2 (bV .eq) (aO fM (aC (aF 0) (aV))) (bC (.int 2))) (p6 (aO (cW 1 mU) (aC (b2 getD (aF 0) (bC (.int 0))) (aV))) (aO (cW 1 mU) (aC (b2 getD (aF 0) (bC (.int 1))) (aV)))))) true
noncomputable def jW:List D->Res D:=fnS 1 1 XD
noncomputable abbrev pX:Stmt:=top 19
noncomputable def ZJ:Nat->Bool:=fun i=>false
noncomputable def aDi:FS:=bW (sIf (bTr (aO (cW 1 jW) (aC (aF 1) (aV)))) (zM (dJ (b2 getD (aF 0) (bC (.int 1))) false) (tgN [2,3]) (bW (sIf (bTB (b2 (bV .eq) (aF 2) (aF 1))) (j8 (aF 3) false) (jO)) (sIf (bTB (b2 (bV .eq) (aF 3) (aF 1))) (j8 (aF 2) false) (jO)))) (jO)) (aD6)
noncomputable def oO:List D->Res D:=fnS 2 4 aDi
noncomputable def ZK:FR:=aAz (sIf (bTr (aO (cW 1 jW) (aC (aF 1) (aV)))) (zM (dJ (b2 getD (aF 0) (bC (.int 1))) false) (tgN [2,3]) (bW (sIf (bTB (b2 (bV .eq) (aF 2) (aF 1))) (j8 (aF 3) false) (jO)) (sIf (bTB (b2 (bV .eq) (aF 3) (aF 1))) (j8 (aF 2) false) (jO)))) (jO)) (rT)
noncomputable def yL:List D->Bool:=rfn 2 4 ZK
noncomputable abbrev fQ:Stmt:=top 20
noncomputable def KZ:Nat->Bool:=fun i=>false
noncomputable def K1:FS:=bW (cA false 3 (eU 4 (dJ (aF 1) false) (YW 2) (lD) (dM (aC (aO (fO .lt) (aC (aF 4) (aC (aF 5) (aV)))) (aC (aO (fO .gt) (aC (aF 4) (aC (aF 5) (aV)))) (aV)))) false) true) (j8 (dM (aC (aO rB (aC (aO nP (aC (aF 0) (aV))) (aV))) (aC (aO rB (aC (aO lC (aC (aF 3) (aV))) (aV))) (aC (aF 2) (aV))))) false)
noncomputable def jL:List D->Res D:=fnS 3 4 K1
noncomputable abbrev eZ:Stmt:=top 25
noncomputable def CV:Nat->Bool:=fun i=>false
noncomputable def CW:FS:=bW (sIf (bTB (b2 (bV .ne) (b2 getD (aF 0) (bC (.int 0))) (bC (.int 0)))) (j8 (aF 0) false) (jO)) (j8 (dM (aC (bC (.int 0)) (aC (b2 (aW .sub) (b2 getD (aF 0) (bC (.int 1))) (aO fM (aC (eU 3 (dJ (dM (aC (aF 1) (aC (aF 2) (aV)))) false) j7 (bTB (b2 (bV (.ord .lt)) (aF 3) (b2 getD (aF 0) (bC (.int 1))))) (aF 3) false) (aV)))) (aV)))) true)
noncomputable def dR:List D->Res D:=fnS 3 3 CW
noncomputable abbrev gB:Stmt:=top 24
noncomputable def HQ:Nat->Bool:=fun i=>i==6
noncomputable def XF:FS:=bW (cA false 3 (aO (cW 2 oO) (aC (aF 0) (aC (dM (aC (bC (.int 0)) (aC (aF 1) (aV)))) (aV)))) true) (bW (cA false 4 (aO (cW 2 oO) (aC (aF 0) (aC (dM (aC (bC (.int 0)) (aC (aF 2) (aV)))) (aV)))) true) (bW (sIf (bTB (b2 (bV .eq) (aF 1) (aF 2))) (aD6) (jO)) (bW (cA false 5 (dM (aC (dM (aC (bC (.int 0)) (aC (aF 1) (aV)))) (aC (dM (aC (bC (.int 0)) (aC (aF 2) (aV)))) (aV)))) false) (bW (cA true 6 (eU 9 (dJ (b2 getD (aF 0) (bC (.int 1))) false) j7 (JS (bTB (b2 (bV .notin) (b2 getD (aF 9) (bC (.int 0))) (aF 5))) (bTB (b2 (bV .notin) (b2 getD (aF 9) (bC (.int 1))) (aF 5)))) (aF 9) false) true) (bW (cA false 7 (b2 getD (aF 0) (bC (.int 2))) false) (bW (sIf (bTB (b2 (bV .eq) (aF 3) (dM (aC (bC (.int 0)) (aC (aF 2) (aV)))))) (cA false 7 (b2 (aW .add) (aF 7) (bC (.int 1))) true) (FQ 6 (dM (aC (aF 3) (aC (aF 4) (aV)))))) (bW (cA false 8 (eU 9 (dJ (aF 6) false) (YW 2) (lD) (dM (aC (aO (cW 3 dR) (aC (aF 9) (aC (aF 1) (aC (aF 2) (aV))))) (aC (aO (cW 3 dR) (aC (aF 10) (aC (aF 1) (aC (aF 2) (aV))))) (aV)))) true) true) (j8 (aO (cW 3 jL) (aC (b2 getD (aF 0) (bC (.int 0))) (aC (aF 8) (aC (aF 7) (aV))))) true))))))))
noncomputable def jX:List D->Res D:=fnS 3 9 XF
noncomputable def qI:FR:=rOr (KN (yL) (aC (aF 0) (aC (dM (aC (bC (.int 0)) (aC (aF 1) (aV)))) (aV)))) (aAz (cA false 3 (aO (cW 2 oO) (aC (aF 0) (aC (dM (aC (bC (.int 0)) (aC (aF 1) (aV)))) (aV)))) true) (rOr (KN (yL) (aC (aF 0) (aC (dM (aC (bC (.int 0)) (aC (aF 2) (aV)))) (aV)))) (aAz (cA false 4 (aO (cW 2 oO) (aC (aF 0) (aC (dM (aC (bC (.int 0)) (aC (aF 2) (aV)))) (aV)))) true) (rIf (bTB (b2 (bV .eq) (aF 1) (aF 2)))))))
noncomputable def mW:List D->Bool:=rfn 3 9 qI
noncomputable abbrev fU:Stmt:=top 36
noncomputable def bB:List D->Res D:=HB mW 3
noncomputable abbrev fV:Stmt:=top 33
noncomputable def sE:Nat->Bool:=fun i=>false
noncomputable def jY (rr:List D->Res D):FS:=bW (sIf (bTr (b1 (n6 .tuple) (aF 1))) (bW (sIf (bOr (pZ (bTr (b1 (n6 .tuple) (aF 0)))) (bTB (b2 (bV .ne) (aO fM (aC (aF 0) (aV))) (aO fM (aC (aF 1) (aV)))))) (j8 (bC (.bl false)) true) (jO)) (bW (zM (jD (aC (aO fM (aC (aF 1) (aV))) (aV)) mZ) (tg1 2) (sIf (pZ (bTr (aO (cW 2 rr) (aC (b2 getD (aF 0) (aF 2)) (aC (b2 getD (aF 1) (aF 2)) (aV)))))) (j8 (bC (.bl false)) true) (jO))) (j8 (bC (.bl true)) true))) (jO)) (bW (sIf (bTr (b1 (n6 .str) (aF 1))) (j8 (p6 (b1 (n6 .str) (aF 0)) (b2 (bV .eq) (aF 0) (aF 1))) true) (jO)) (j8 (p6 (b1 (n6 .int) (aF 0)) (p6 (O2 (b1 (n6 .bool) (aF 0))) (b2 (bV .eq) (aF 0) (aF 1)))) true))
noncomputable def bR:Nat->List D->Res D
 | 0=>fnS 2 3 aD6
 | m+1=>fnS 2 3 (jY (bR m))
noncomputable abbrev p7:Stmt:=top 37
noncomputable def o_law:Nat->Bool:=fun i=>false
noncomputable def aF7:FS:=bW (cA false 1 (aO (cW 2 dI) (aC (aF 0) (aC (bC (.int 1)) (aV)))) true) (bW (cA false 2 (aO (cW 2 gG) (aC (aO (cW 2 dI) (aC (aF 0) (aC (bC (.int 0)) (aV)))) (aC (aF 1) (aV)))) true) (bW (cA false 3 (aO (cW 3 iW) (aC (aF 2) (aC (VV (aF 0) (tL (bC (.int 2))) (tL (bC (.int 66)))) (aC (aO (cW 2 dI) (aC (aF 0) (aC (bC (.int 0)) (aV)))) (aV))))) true) (bW (cA false 4 (aO (cW 1 fD) (aC (aF 3) (aV))) true) (bW (cA false 5 (eU 13 (dJ (aO nP (aC (aF 4) (aV))) true) j7 (bTB (b2 (bV .eq) (b2 getD (aF 13) (bC (.int 0))) (bC (.int 0)))) (b2 getD (aF 13) (bC (.int 1))) false) true) (bW (cA false 6 (aO fM (aC (aF 5) (aV))) true) (bW (cA false 7 (VV (aO (cW 2 cR) (aC (aF 5) (aC (aF 1) (aV)))) (aCo) (tL (bC (.int 8)))) true) (bW (cA false 8 (eU 13 (jD (aC (bC (.int 1)) (aC (aO fM (aC (aF 7) (aV))) (aV))) V1) j7 (lD) (dM (aC (b2 getD (aF 7) (b2 (aW .sub) (aF 13) (bC (.int 1)))) (aC (b2 getD (aF 7) (aF 13)) (aV)))) false) true) (bW (cA false 8 (b2 (aW .add) (aF 8) (eU 13 (dJ (aF 7) false) j7 (bTB (b2 (bV .eq) (b2 getD (b2 getD (aF 4) (dM (aC (bC (.int 0)) (aC (aF 13) (aV))))) (bC (.int 0))) (bC (.int 0)))) (dM (aC (aF 13) (aC (b2 getD (b2 getD (aF 4) (dM (aC (bC (.int 0)) (aC (aF 13) (aV))))) (bC (.int 1))) (aV)))) false)) true) (bW (O6 8 (tgN [9,10]) (bW (cA false 11 (aO (cW 3 fL) (aC (aF 3) (aC (aF 9) (aC (aF 10) (aV))))) true) (bW (sIf (bOr (pZ (bTr (aO (cW 2 (bR 6)) (aC (aO (cW 3 jX) (aC (aF 3) (aC (aF 9) (aC (aF 10) (aV))))) (aC (aF 11) (aV)))))) (pZ (bTr (aO (cW 2 (bR 6)) (aC (aO (cW 3 jX) (aC (aF 3) (aC (aF 10) (aC (aF 9) (aV))))) (aC (aF 11) (aV))))))) (j8 (bC (.bl false)) true) (jO)) (bW (cA false 12 (b2 (aW .add) (aF 6) (b2 (aW .mul) (b2 (aW .mod) (aF 1) (bC (.int 3))) (b2 (aW .mod) (b2 (aW .fdiv) (aF 1) (bC (.int 3))) (b2 (aW .pow) (bC (.int 10)) (bC (.int 50)))))) true) (bW (sIf (bOr (pZ (bTr (aO (cW 3 bB) (aC (aF 3) (aC (aF 9) (aC (aF 9) (aV))))))) (bOr (pZ (bTr (aO (cW 3 bB) (aC (aF 3) (aC (aF 10) (aC (aF 12) (aV))))))) (pZ (bTr (aO (cW 3 bB) (aC (aF 3) (aC (aF 12) (aC (aF 9) (aV))))))))) (j8 (bC (.bl false)) true) (jO)) (sIf (bOr (pZ (bTr (aO (cW 3 bB) (aC (aF 3) (aC (b1 O3 (bC (.int 1))) (aC (aF 9) (aV))))))) (pZ (bTr (aO (cW 3 bB) (aC (aF 3) (aC (aF 10) (aC (b1 O3 (bC (.int 1))) (aV)))))))) (j8 (bC (.bl false)) true) (jO))))))) (bW (sIf (bOr (pZ (bTr (aO (cW 3 bB) (aC (aF 3) (aC (bC (.int 0)) (aC (aF 6) (aV))))))) (pZ (bTr (aO (cW 3 bB) (aC (aF 3) (aC (aF 6) (aC (b2 (aW .add) (aF 6) (bC (.int 1))) (aV)))))))) (j8 (bC (.bl false)) true) (jO)) (j8 (p6 (aO (cW 3 bB) (aC (aF 3) (aC (aF 6) (aC (aF 6) (aV))))) (aO (cW 3 bB) (aC (aF 3) (aC (b1 O3 (bC (.int 1))) (aC (b1 O3 (bC (.int 2))) (aV)))))) true)))))))))))
noncomputable def K3:List D->Res D:=fnS 1 13 aF7
theorem sG:b8 (["script", "k"]:List Str) ["script", "k"] (aL dH):=⟨rfl,rfl,rfl,by decide +kernel,rfl,by decide +kernel,by decide +kernel⟩
theorem p8 [KFrag] {P:Program} {w:World} {K:Frag} {mg:Str->Option Value} {base:Heap} {fad:Addr} {fd:FuncData} (hK:KFrag.K=K) (B:Bt mg)  (F:Fun K "_law_cell_at" "_law_cell_at" dH fad fd) (hm:mg "_law_cell_at" = some (.ref fad)):cP P w K mg base 1 "_law_cell_at" 2 dI:=by
 have sc:=sG;refine gP (ps:=["script", "k"]) (N:=(["script", "k"]:List Str)) (k:=0) F hm (F.binds fun _ _ _ _ _ _ us hl=>match us,hl with|[_,_],_=>rfl) sc tM (by decide) (by decide) fun cdv A outer s H E hr=>?_
 have hu:=wI hr;exact aG (gF (cH (J7 hu) (aA (i:=1)) (bA (dY hK) (by rfl) B.len dZ (aB (aA (i:=0)) (aH))) (cD _)) (aU (dB (cL (cN hK hu) (aA (i:=0)) (aA (i:=1)) (fun _ _=>rfl)))) (cC)) (aU (dB (aK)))
theorem v5:b8 (["cell", "sides", "letters", "size", "at", "stock", "k", "name", "j", "step"]:List Str) ["cell", "sides"] (aL fB):=⟨rfl,rfl,rfl,by decide +kernel,rfl,by decide +kernel,by decide +kernel⟩
theorem tO [KFrag] {P:Program} {w:World} {K:Frag} {mg:Str->Option Value} {base:Heap} {fad:Addr} {fd:FuncData} (hK:KFrag.K=K) (B:Bt mg)  (F:Fun K "_law_stock" "_law_stock" fB fad fd) (hm:mg "_law_stock" = some (.ref fad)):cP P w K mg base 1 "_law_stock" 2 gG:=by
 have sc:=v5;refine gP (ps:=["cell", "sides"]) (N:=(["cell", "sides", "letters", "size", "at", "stock", "k", "name", "j", "step"]:List Str)) (k:=0) F hm (F.binds fun _ _ _ _ _ _ us hl=>match us,hl with|[_,_],_=>rfl) sc yH (by decide) (by decide) fun cdv A outer s H E hr=>?_
 have hu:=wI hr;exact aG (bG (i:=2) (o:=false) rfl sc.nd rfl (by trivial) (Y0)) (aG (bG (i:=3) (o:=false) rfl sc.nd rfl (by trivial) (bH cZ (aK) (bH e_ (aA (i:=0)) (aK)))) (aG (bG (i:=4) (o:=false) rfl sc.nd rfl (by trivial) (bH e_ (bH iG (aA (i:=0)) (aK)) (aA (i:=3)))) (aG (bG (i:=5) (o:=true) rfl sc.nd rfl (by trivial) (vG)) (aG (m9 PassesOwn.never rfl (nJ (by rfl) B.range (aB (bH cZ (aK) (bH e_ (bH iG (aA (i:=0)) (aK)) (aK))) (aH))) (lK (i:=6) rfl) (bK (i:=6) sc.nd rfl (by trivial)) (aG (bG (i:=7) (o:=false) rfl sc.nd rfl (by trivial) (Y0)) (aG (m9 PassesOwn.never rfl (nJ (by rfl) B.range (aB (aA (i:=3)) (aH))) (lK (i:=8) rfl) (bK (i:=8) sc.nd rfl (by trivial)) (aG (bG (i:=9) (o:=false) rfl sc.nd rfl (by trivial) (bH pO (bH e_ (bH iG (aA (i:=0)) (aK)) (aK)) (bH cZ (aA (i:=8)) (aK)))) (aG (gF (cH (jT hu) (aA (i:=8)) (aA (i:=4)) (cD _)) (aU (bG (i:=9) (o:=false) rfl sc.nd rfl (by trivial) (aK))) (cC)) (aU (bG (i:=7) (o:=false) rfl sc.nd rfl (by trivial) (bH cZ (aA (i:=7)) (cL (cN hK hu) (aA (i:=2)) (bH e_ (bH cZ (bH iG (bH iG (aA (i:=0)) (aK)) (bH cZ (bH pO (aA (i:=8)) (aA (i:=8))) (aK))) (bH pO (aA (i:=6)) (aA (i:=9)))) (aK)) (fun _ _=>rfl)))))))) (aG (rN (i:=5) hu rfl rfl (by trivial) (aA (i:=7)) (bH e_ (aA (i:=1)) (aK))) (aU (bG (i:=1) (o:=false) rfl sc.nd rfl (by trivial) (bH iG (aA (i:=1)) (aK)))))))) (aU (vL (i:=5) rfl rfl (by trivial)))))))
theorem p_:b8 (["some", "seed", "found", "k"]:List Str) ["some", "seed"] (aL cQ):=⟨rfl,rfl,rfl,by decide +kernel,rfl,by decide +kernel,by decide +kernel⟩
theorem pG [KFrag] {P:Program} {w:World} {K:Frag} {mg:Str->Option Value} {base:Heap} {fad:Addr} {fd:FuncData} (hK:KFrag.K=K) (B:Bt mg)  (F:Fun K "_law_shuffled" "_law_shuffled" cQ fad fd) (hm:mg "_law_shuffled" = some (.ref fad)):cP P w K mg base 1 "_law_shuffled" 2 cR:=by
 have sc:=p_;refine gP (ps:=["some", "seed"]) (N:=(["some", "seed", "found", "k"]:List Str)) (k:=0) F hm (F.binds fun _ _ _ _ _ _ us hl=>match us,hl with|[_,_],_=>rfl) sc rZ (by decide) (by decide) fun cdv A outer s H E hr=>?_
 have hu:=wI hr;exact aG (bG (i:=2) (o:=true) rfl sc.nd rfl (by trivial) (xO (aH))) (aG (m9 PassesOwn.never rfl (nJ (by rfl) B.range (aB (bA (dY hK) (by rfl) B.len dZ (aB (aA (i:=0)) (aH))) (aH))) (lK (i:=3) rfl) (bK (i:=3) sc.nd rfl (by trivial)) (aU (aD4 (i:=2) rfl rfl (by trivial) (bH e_ (bH cZ (bH iG (aA (i:=1)) (bH cZ (aA (i:=3)) (aK))) (bH pO (aA (i:=3)) (aA (i:=3)))) (bH cZ (aA (i:=3)) (aK))) (cL (cN hK hu) (aA (i:=0)) (aA (i:=3)) (fun _ _=>rfl))))) (aU (vL (i:=2) rfl rfl (by trivial))))
theorem tQ:b8 (["loose", "bare", "seed", "spots", "ties", "k", "pair"]:List Str) ["loose", "bare", "seed"] (aL dX):=⟨rfl,rfl,rfl,by decide +kernel,rfl,by decide +kernel,by decide +kernel⟩
theorem sI [KFrag] {P:Program} {w:World} {K:Frag} {mg:Str->Option Value} {base:Heap} {fad:Addr} {fd:FuncData} (hK:KFrag.K=K) (B:Bt mg) (c__law_shuffled:cP P w K mg base 1 "_law_shuffled" 2 cR) (F:Fun K "_law_rimmed" "_law_rimmed" dX fad fd) (hm:mg "_law_rimmed" = some (.ref fad)):cP P w K mg base 2 "_law_rimmed" 3 fK:=by
 have sc:=tQ;refine gP (ps:=["loose", "bare", "seed"]) (N:=(["loose", "bare", "seed", "spots", "ties", "k", "pair"]:List Str)) (k:=1) F hm (F.binds fun _ _ _ _ _ _ us hl=>match us,hl with|[_,_,_],_=>rfl) sc vY (by decide) (by decide) fun cdv A outer s H E hr=>?_
 have hu:=wI hr;exact aG (bG (i:=3) (o:=false) rfl sc.nd rfl (by trivial) (aZ c__law_shuffled hr (by decide) (by rfl) (aB (W4 (by rfl) (by rfl) B.list (by rfl) B.range (aB (bH cZ (bA (dY hK) (by rfl) B.len dZ (aB (aA (i:=0)) (aH))) (bH pO (aK) (aA (i:=1)))) (aH))) (aB (aA (i:=2)) (aH))))) (aG (bG (i:=4) (o:=true) rfl sc.nd rfl (by trivial) (xO (aH))) (aG (m9 PassesOwn.never rfl (nJ (by rfl) B.range (aB (bA (dY hK) (by rfl) B.len dZ (aB (aA (i:=0)) (aH))) (aH))) (lK (i:=5) rfl) (bK (i:=5) sc.nd rfl (by trivial)) (aU (xX (i:=4) rfl rfl (by trivial) (bZ (aB (bZ (aB (aK) (aB (cL (cN hK hu) (aA (i:=3)) (aA (i:=5)) (fun _ _=>rfl)) (aH)))) (aB (cL (cN hK hu) (aA (i:=0)) (aA (i:=5)) (fun _ _=>rfl)) (aH))))))) (aG (m9 PassesOwn.never rfl (nJ (by rfl) B.range (aB (aA (i:=1)) (aH))) (lK (i:=5) rfl) (bK (i:=5) sc.nd rfl (by trivial)) (aG (bG (i:=6) (o:=false) rfl sc.nd rfl (by trivial) (aAg hK (aA (i:=3)) (rJ (bH cZ (bA (dY hK) (by rfl) B.len dZ (aB (aA (i:=0)) (aH))) (bH pO (aK) (aA (i:=5))))) (rJ (bH cZ (bH cZ (bA (dY hK) (by rfl) B.len dZ (aB (aA (i:=0)) (aH))) (bH pO (aK) (aA (i:=5)))) (aK))))) (aU (xX (i:=4) rfl rfl (by trivial) (bZ (aB (bZ (aB (aK) (aB (bA (QF hu (by rfl)) (by rfl) B.min QT (aB (aA (i:=6)) (aH))) (aH)))) (aB (bZ (aB (aK) (aB (bA (QG hu (by rfl)) (by rfl) B.max QV (aB (aA (i:=6)) (aH))) (aH)))) (aH)))))))) (aU (vL (i:=4) rfl rfl (by trivial))))))
theorem yM:b8 (["loose", "more", "one", "rest", "other"]:List Str) ["loose", "more"] (aL eY):=⟨rfl,rfl,rfl,by decide +kernel,rfl,by decide +kernel,by decide +kernel⟩
theorem v6 [KFrag] {P:Program} {w:World} {K:Frag} {mg:Str->Option Value} {base:Heap} {fad:Addr} {fd:FuncData} (hK:KFrag.K=K) (B:Bt mg)  (F:Fun K "_law_tied" "_law_tied" eY fad fd) (hm:mg "_law_tied" = some (.ref fad)):cP P w K mg base 1 "_law_tied" 2 dO:=by
 have sc:=yM;refine gP (ps:=["loose", "more"]) (N:=(["loose", "more", "one", "rest", "other"]:List Str)) (k:=0) F hm (F.binds fun _ _ _ _ _ _ us hl=>match us,hl with|[_,_],_=>rfl) sc CT (by decide) (by decide) fun cdv A outer s H E hr=>?_
 have hu:=wI hr;exact aG (bG (i:=2) (o:=false) rfl sc.nd rfl (by trivial) (cL (cN hK hu) (aA (i:=0)) (bH e_ (aA (i:=1)) (bA (dY hK) (by rfl) B.len dZ (aB (aA (i:=0)) (aH)))) (fun _ _=>rfl))) (aG (jJ (ownN:=(["end"]:List Str)) (show cO (["loose", "more", "one", "rest", "other"]:List Str) (aL eY) _ (["end"]:List Str) from ⟨rfl,by decide +kernel,by decide +kernel,by decide +kernel,by decide +kernel,by decide +kernel,by decide +kernel⟩) (n:=5) (m:=1) rfl rfl rfl (jG (aA (i:=0))) (iZ 5) (fun _=>bK (i:=5) (show ((List.map (iR (["end"]:List Str)) (["loose", "more", "one", "rest", "other"]:List Str)++(["end"]:List Str)):List Str).Nodup from by decide +kernel) rfl (by trivial)) (fun _=>cH (V9 hu) (aA (i:=5)) (aA (i:=2)) (cD _)) (fun _=>aA (i:=5)) (fun _=>rfl) (iy:=3) (o:=false) rfl sc.nd rfl (by trivial) (Or.inl rfl) (by with_unfolding_all rfl)) (aG (bG (i:=4) (o:=false) rfl sc.nd rfl (by trivial) (cL (cN hK hu) (aA (i:=3)) (bH e_ (bH iG (aA (i:=1)) (bA (dY hK) (by rfl) B.len dZ (aB (aA (i:=0)) (aH)))) (bA (dY hK) (by rfl) B.len dZ (aB (aA (i:=3)) (aH)))) (fun _ _=>rfl))) (aU (dB (bZ (aB (bA (QF hu (by rfl)) (by rfl) B.min QT (aB (aA (i:=2)) (aB (aA (i:=4)) (aH)))) (aB (bA (QG hu (by rfl)) (by rfl) B.max QV (aB (aA (i:=2)) (aB (aA (i:=4)) (aH)))) (aH))))))))
theorem v7:b8 (["stock", "cells", "seed", "names", "pieces", "loose", "ties", "number", "bare", "rings", "cell", "more", "some"]:List Str) ["stock", "cells", "seed"] (aL cF):=⟨rfl,rfl,rfl,by decide +kernel,rfl,by decide +kernel,by decide +kernel⟩
theorem tU [KFrag] {P:Program} {w:World} {K:Frag} {mg:Str->Option Value} {base:Heap} {fad:Addr} {fd:FuncData} (hK:KFrag.K=K) (B:Bt mg) (c__law_tied:cP P w K mg base 1 "_law_tied" 2 dO) (c__law_rimmed:cP P w K mg base 2 "_law_rimmed" 3 fK) (F:Fun K "_law_grown" "_law_grown" cF fad fd) (hm:mg "_law_grown" = some (.ref fad)):cP P w K mg base 3 "_law_grown" 3 iW:=by
 have sc:=v7;refine gP (ps:=["stock", "cells", "seed"]) (N:=(["stock", "cells", "seed", "names", "pieces", "loose", "ties", "number", "bare", "rings", "cell", "more", "some"]:List Str)) (k:=2) F hm (F.binds fun _ _ _ _ _ _ us hl=>match us,hl with|[_,_,_],_=>rfl) sc yI (by decide) (by decide) fun cdv A outer s H E hr=>?_
 have hu:=wI hr
 exact aG (bG (i:=3) (o:=false) rfl sc.nd rfl (by trivial) (iJ (aAh (by rfl)) (by rfl) B.list QW (aB (aA (i:=0)) (aH)))) (aG (bG (i:=4) (o:=true) rfl sc.nd rfl (by trivial) (xO (aH))) (aG (bG (i:=5) (o:=false) rfl sc.nd rfl (by trivial) (xO (aH))) (aG (bG (i:=6) (o:=true) rfl sc.nd rfl (by trivial) (xO (aH))) (aG (bG (i:=7) (o:=false) rfl sc.nd rfl (by trivial) (aK)) (aG (bG (i:=8) (o:=false) rfl sc.nd rfl (by trivial) (aK)) (aG (bG (i:=9) (o:=false) rfl sc.nd rfl (by trivial) (aK)) (aG (QS (i:=1) rfl PassesOwn.never rfl rfl (by trivial) (lK (i:=10) rfl) (bK (i:=10) sc.nd rfl (by trivial)) (aG (bG (i:=11) (o:=false) rfl sc.nd rfl (by trivial) (bH iG (aA (i:=10)) (aK))) (aG (aEz (i:=12) (j:=5) rfl rfl sc.nd rfl (by trivial) rfl (by trivial)) (aG (gF (cH (jT hu) (bH e_ (aA (i:=10)) (aK)) (aK) (cD _)) (aU (jJ (ownN:=(["end"]:List Str)) (show cO (["stock", "cells", "seed", "names", "pieces", "loose", "ties", "number", "bare", "rings", "cell", "more", "some"]:List Str) (aL cF) _ (["end"]:List Str) from ⟨rfl,by decide +kernel,by decide +kernel,by decide +kernel,by decide +kernel,by decide +kernel,by decide +kernel⟩) (n:=13) (m:=1) rfl rfl rfl (jG (aA (i:=5))) (iZ 13) (fun _=>bK (i:=13) (show ((List.map (iR (["end"]:List Str)) (["stock", "cells", "seed", "names", "pieces", "loose", "ties", "number", "bare", "rings", "cell", "more", "some"]:List Str)++(["end"]:List Str)):List Str).Nodup from by decide +kernel) rfl (by trivial)) (fun _=>cH (jT hu) (cL (cN hK hu) (aA (i:=13)) (aK) (fun _ _=>rfl)) (aK) (cD _)) (fun _=>aA (i:=13)) (fun _=>rfl) (iy:=12) (o:=false) rfl sc.nd rfl (by trivial) (Or.inl rfl) (by with_unfolding_all rfl))) (cC)) (aU (gF (PW.pt (PX (cH (J7 hu) (bH e_ (aA (i:=10)) (aK)) (aK) (cD _)) (BX (cH (J7 hu) (bA (dY hK) (by rfl) B.len dZ (aB (aA (i:=4)) (aH))) (aK) (cD _))))) (aG (bG (i:=7) (o:=false) rfl sc.nd rfl (by trivial) (bH cZ (bH cZ (aA (i:=7)) (aK)) (bH e_ (bH iG (aA (i:=11)) (bA (dY hK) (by rfl) B.len dZ (aB (aA (i:=3)) (aH)))) (bH P_ (aK) (aK))))) (aG (xX (i:=4) rfl rfl (by trivial) (bZ (aB (aA (i:=7)) (aB (cL (cN hK hu) (aA (i:=3)) (bH e_ (aA (i:=11)) (bA (dY hK) (by rfl) B.len dZ (aB (aA (i:=3)) (aH)))) (fun _ _=>rfl)) (aH))))) (aU (bG (i:=5) (o:=false) rfl sc.nd rfl (by trivial) (bH cZ (aA (i:=5)) (WR (ownN:=(["hook"]:List Str)) (show cO (["stock", "cells", "seed", "names", "pieces", "loose", "ties", "number", "bare", "rings", "cell", "more", "some"]:List Str) (aL cF) _ (["hook"]:List Str) from ⟨rfl,by decide +kernel,by decide +kernel,by decide +kernel,by decide +kernel,by decide +kernel,by decide +kernel⟩) (n:=13) (m:=1) rfl rfl rfl (nJ (by rfl) B.range (aB (bH cZ (cL (cN hK hu) (aA (i:=0)) (cL (cN hK hu) (aA (i:=3)) (bH e_ (aA (i:=11)) (bA (dY hK) (by rfl) B.len dZ (aB (aA (i:=3)) (aH)))) (fun _ _=>rfl)) (fun _ _=>rfl)) (aK)) (aH))) (iZ 13) (fun _=>bK (i:=13) (show ((List.map (iR (["hook"]:List Str)) (["stock", "cells", "seed", "names", "pieces", "loose", "ties", "number", "bare", "rings", "cell", "more", "some"]:List Str)++(["hook"]:List Str)):List Str).Nodup from by decide +kernel) rfl (by trivial)) (fun _=>bZ (aB (aA (i:=7)) (aB (aA (i:=13)) (aH)))) (fun _=>rfl))))))) (aU (gF (PW.pt (PX (V8 (aEu hu) (J7 hu) (aK) (bH e_ (aA (i:=10)) (aK)) (aK)) (BX (cH (aEv hu) (bA (dY hK) (by rfl) B.len dZ (aB (aA (i:=12)) (aH))) (aK) (cD _))))) (aG (xX (i:=6) rfl rfl (by trivial) (aZ c__law_tied hr (by decide) (by rfl) (aB (aA (i:=12)) (aB (aA (i:=11)) (aH))))) (aU (jJ (ownN:=(["end"]:List Str)) (show cO (["stock", "cells", "seed", "names", "pieces", "loose", "ties", "number", "bare", "rings", "cell", "more", "some"]:List Str) (aL cF) _ (["end"]:List Str) from ⟨rfl,by decide +kernel,by decide +kernel,by decide +kernel,by decide +kernel,by decide +kernel,by decide +kernel⟩) (n:=13) (m:=1) rfl rfl rfl (jG (aA (i:=5))) (iZ 13) (fun _=>bK (i:=13) (show ((List.map (iR (["end"]:List Str)) (["stock", "cells", "seed", "names", "pieces", "loose", "ties", "number", "bare", "rings", "cell", "more", "some"]:List Str)++(["end"]:List Str)):List Str).Nodup from by decide +kernel) rfl (by trivial)) (fun _=>cH (vK hu) (aA (i:=13)) (cL (cN hK hu) (aA (i:=6)) (PQ xQ (aK)) (fun _ _=>rfl)) (by with_unfolding_all rfl)) (fun _=>aA (i:=13)) (fun _=>rfl) (iy:=5) (o:=false) rfl sc.nd rfl (by trivial) (Or.inl rfl) (by with_unfolding_all rfl)))) (aU (gF (cH (jT hu) (bH e_ (aA (i:=10)) (aK)) (aK) (cD _)) (aU (bG (i:=8) (o:=false) rfl sc.nd rfl (by trivial) (bH cZ (aA (i:=8)) (aK)))) (aU (gF (cH (jT hu) (bH e_ (aA (i:=10)) (aK)) (aK) (cD _)) (aU (bG (i:=9) (o:=false) rfl sc.nd rfl (by trivial) (bH cZ (aA (i:=9)) (bH e_ (aA (i:=11)) (bH P_ (aK) (aK)))))) (cC))))))))))))) (aG (bG (i:=6) (o:=true) rfl sc.nd rfl (by trivial) (bH cZ (aA (i:=6)) (aZ c__law_rimmed hr (by decide) (by rfl) (aB (aA (i:=5)) (aB (aA (i:=8)) (aB (aA (i:=2)) (aH))))))) (aU (dB (bZ (aB (iJ oE (by rfl) B.tuple iU (aB (aA (i:=4)) (aH))) (aB (iJ oE (by rfl) B.tuple iU (aB (bA (oF hu) (by rfl) B.sorted jK (aB (aA (i:=6)) (aH))) (aH))) (aB (aA (i:=9)) (aH)))))))))))))))
theorem v8:b8 (["net", "mates", "one", "other"]:List Str) ["net"] (aL fC):=⟨rfl,rfl,rfl,by decide +kernel,rfl,by decide +kernel,by decide +kernel⟩
theorem tV [KFrag] {P:Program} {w:World} {K:Frag} {mg:Str->Option Value} {base:Heap} {fad:Addr} {fd:FuncData} (hK:KFrag.K=K) (B:Bt mg)  (F:Fun K "_law_mates" "_law_mates" fC fad fd) (hm:mg "_law_mates" = some (.ref fad)):cP P w K mg base 1 "_law_mates" 1 fD:=by
 have sc:=v8;refine gP (ps:=["net"]) (N:=(["net", "mates", "one", "other"]:List Str)) (k:=0) F hm (F.binds fun _ _ _ _ _ _ us hl=>match us,hl with|[_],_=>rfl) sc yJ (by decide) (by decide) fun cdv A outer s H E hr=>?_
 have hu:=wI hr;exact aG (bG (i:=1) (o:=true) rfl sc.nd rfl (by trivial) (vG)) (aG (m9 PassesOwn.never rfl (jG (cL (cN hK hu) (aA (i:=0)) (aK) (fun _ _=>rfl))) (vO _ (is:=[2,3]) (by decide)) (t6 rfl (eQ (bK (i:=2) sc.nd rfl (by trivial)) (eQ (bK (i:=3) sc.nd rfl (by trivial)) (oX)))) (aG (rN (i:=1) hu rfl rfl (by trivial) (aA (i:=2)) (aA (i:=3))) (aU (rN (i:=1) hu rfl rfl (by trivial) (aA (i:=3)) (aA (i:=2)))))) (aU (vL (i:=1) rfl rfl (by trivial))))
theorem tW:b8 (["net", "k", "l", "mates", "one", "other", "rings", "anew", "end", "ties"]:List Str) ["net", "k", "l"] (aL cX):=⟨rfl,rfl,rfl,by decide +kernel,rfl,by decide +kernel,by decide +kernel⟩
theorem sJ [KFrag] {P:Program} {w:World} {K:Frag} {mg:Str->Option Value} {base:Heap} {fad:Addr} {fd:FuncData} (hK:KFrag.K=K) (B:Bt mg) (c__law_mates:cP P w K mg base 1 "_law_mates" 1 fD) (F:Fun K "_law_hooked" "_law_hooked" cX fad fd) (hm:mg "_law_hooked" = some (.ref fad)):cP P w K mg base 2 "_law_hooked" 3 fL:=by
 have sc:=tW;refine gP (ps:=["net", "k", "l"]) (N:=(["net", "k", "l", "mates", "one", "other", "rings", "anew", "end", "ties"]:List Str)) (k:=1) F hm (F.binds fun _ _ _ _ _ _ us hl=>match us,hl with|[_,_,_],_=>rfl) sc vZ (by decide) (by decide) fun cdv A outer s H E hr=>?_
 have hu:=wI hr;exact aG (bG (i:=3) (o:=true) rfl sc.nd rfl (by trivial) (aZ c__law_mates hr (by decide) (by rfl) (aB (aA (i:=0)) (aH)))) (aG (ZG (i:=3) (j:=4) hu rfl rfl (by trivial) sc.nd rfl (by trivial) rfl (bZ (aB (aK) (aB (aA (i:=1)) (aH))))) (aG (ZG (i:=3) (j:=5) hu rfl rfl (by trivial) sc.nd rfl (by trivial) rfl (bZ (aB (aK) (aB (aA (i:=2)) (aH))))) (aG (bG (i:=6) (o:=false) rfl sc.nd rfl (by trivial) (bH cZ (cL (cN hK hu) (aA (i:=0)) (aK) (fun _ _=>rfl)) (iJ aAy (by rfl) B.int QX (aB (GF (jT hu) (aA (i:=4)) (bZ (aB (aK) (aB (aA (i:=2)) (aH)))) (cD _)) (aH))))) (aG (gF (cH (V9 hu) (aA (i:=4)) (bZ (aB (aK) (aB (aA (i:=2)) (aH)))) (cD _)) (aG (rN (i:=3) hu rfl rfl (by trivial) (aA (i:=4)) (aA (i:=5))) (aU (rN (i:=3) hu rfl rfl (by trivial) (aA (i:=5)) (aA (i:=4))))) (cC)) (aG (bG (i:=7) (o:=true) rfl sc.nd rfl (by trivial) (vG)) (aG (m9 PassesOwn.never rfl (jG (bA (pF (by rfl) hu) (by rfl) B.sorted jK (aB (aA (i:=3)) (aH)))) (lK (i:=8) rfl) (bK (i:=8) sc.nd rfl (by trivial)) (aG (rN (i:=7) hu rfl rfl (by trivial) (aA (i:=8)) (aA (i:=8))) (aU (gF (cH (jT hu) (cL (cN hK hu) (aA (i:=8)) (aK) (fun _ _=>rfl)) (aK) (cD _)) (aU (rN (i:=7) hu rfl rfl (by trivial) (aA (i:=8)) (bZ (aB (aK) (aB (bH P0 (bA (aB4 hK) (by rfl) B.len dZ (aB (aA (i:=7)) (aH))) (aK)) (aH)))))) (cC))))) (aG (W9 (show cO (["net", "k", "l", "mates", "one", "other", "rings", "anew", "end", "ties"]:List Str) (aL cX) _ (["end"]:List Str) from ⟨rfl,by decide +kernel,by decide +kernel,by decide +kernel,by decide +kernel,by decide +kernel,by decide +kernel⟩) (n:=10) (i:=7) rfl rfl rfl rfl (by trivial) (fun _=>bK (i:=10) (show ((List.map (iR (["end"]:List Str)) (["net", "k", "l", "mates", "one", "other", "rings", "anew", "end", "ties"]:List Str)++(["end"]:List Str)):List Str).Nodup from by decide +kernel) rfl (by trivial)) (fun _=>cH (J7 hu) (aA (i:=10)) (cL (cN hK hu) (aA (i:=3)) (aA (i:=10)) (fun _ _=>rfl)) (cD _)) (fun _=>bZ (aB (cL (cN hK hu) (aA (i:=7)) (aA (i:=10)) (fun _ _=>rfl)) (aB (cL (cN hK hu) (aA (i:=7)) (cL (cN hK hu) (aA (i:=3)) (aA (i:=10)) (fun _ _=>rfl)) (fun _ _=>rfl)) (aH)))) (fun _=>rfl) (iy:=9) (o:=false) rfl sc.nd rfl (by trivial) (Or.inl rfl) (by with_unfolding_all rfl)) (aU (dB (bZ (aB (cL (cN hK hu) (aA (i:=0)) (aK) (fun _ _=>rfl)) (aB (iJ oE (by rfl) B.tuple iU (aB (bA (oF hu) (by rfl) B.sorted jK (aB (aA (i:=9)) (aH))) (aH))) (aB (aA (i:=6)) (aH))))))))))))))
theorem CZ:b8 (["thing"]:List Str) ["thing"] (aL g8):=⟨rfl,rfl,rfl,by decide +kernel,rfl,by decide +kernel,by decide +kernel⟩
theorem yN [KFrag] {P:Program} {w:World} {K:Frag} {mg:Str->Option Value} {base:Heap} {fad:Addr} {fd:FuncData} (hK:KFrag.K=K) (B:Bt mg)  (F:Fun K "is_whole" "is_whole" g8 fad fd) (hm:mg "is_whole" = some (.ref fad)):cP P w K mg base 1 "is_whole" 1 mU:=by
 have sc:=CZ;refine gP (ps:=["thing"]) (N:=(["thing"]:List Str)) (k:=0) F hm (F.binds fun _ _ _ _ _ _ us hl=>match us,hl with|[_],_=>rfl) sc KR (by decide) (by decide) fun cdv A outer s H E hr=>?_
 have hu:=wI hr;exact aU (dB (pN (oG .int (aA (i:=0)) (by rfl) B.isi b_ (by rfl) B.int QX) (xN (Y4 (oG .bool (aA (i:=0)) (by rfl) B.isi b_ (by rfl) B.bool QZ)))))
theorem RZ:b8 (["thing"]:List Str) ["thing"] (aL mV):=⟨rfl,rfl,rfl,by decide +kernel,rfl,by decide +kernel,by decide +kernel⟩
theorem K4 [KFrag] {P:Program} {w:World} {K:Frag} {mg:Str->Option Value} {base:Heap} {fad:Addr} {fd:FuncData} (hK:KFrag.K=K) (B:Bt mg) (c_is_whole:cP P w K mg base 1 "is_whole" 1 mU) (F:Fun K "is_end" "is_end" mV fad fd) (hm:mg "is_end" = some (.ref fad)):cP P w K mg base 2 "is_end" 1 jW:=by
 have sc:=RZ;refine gP (ps:=["thing"]) (N:=(["thing"]:List Str)) (k:=1) F hm (F.binds fun _ _ _ _ _ _ us hl=>match us,hl with|[_],_=>rfl) sc W_ (by decide) (by decide) fun cdv A outer s H E hr=>?_
 have hu:=wI hr;exact aU (dB (pN (oG .tuple (aA (i:=0)) (by rfl) B.isi b_ (by rfl) B.tuple iU) (pN (GF (jT hu) (bA (dY hK) (by rfl) B.len dZ (aB (aA (i:=0)) (aH))) (aK) (cD _)) (pN (aZ c_is_whole hr (by decide) (by rfl) (aB (cL (cN hK hu) (aA (i:=0)) (aK) (fun _ _=>rfl)) (aH))) (xN (aZ c_is_whole hr (by decide) (by rfl) (aB (cL (cN hK hu) (aA (i:=0)) (aK) (fun _ _=>rfl)) (aH))))))))
theorem R0:b8 (["net", "end", "one", "other"]:List Str) ["net", "end"] (aL pX):=⟨rfl,rfl,rfl,by decide +kernel,rfl,by decide +kernel,by decide +kernel⟩
theorem XH [KFrag] {P:Program} {w:World} {K:Frag} {mg:Str->Option Value} {base:Heap} {fad:Addr} {fd:FuncData} (hK:KFrag.K=K) (B:Bt mg) (c_is_end:cP P w K mg base 2 "is_end" 1 jW) (F:Fun K "mate" "mate" pX fad fd) (hm:mg "mate" = some (.ref fad)):cP P w K mg base 3 "mate" 2 oO:=by
 have sc:=R0;refine gP (ps:=["net", "end"]) (N:=(["net", "end", "one", "other"]:List Str)) (k:=2) F hm (F.binds fun _ _ _ _ _ _ us hl=>match us,hl with|[_,_],_=>rfl) sc ZJ (by decide) (by decide) fun cdv A outer s H E hr=>?_
 have hu:=wI hr;exact aG (gF (iD (aZ c_is_end hr (by decide) (by rfl) (aB (aA (i:=1)) (aH)))) (aU (m9 PassesOwn.never rfl (jG (cL (cN hK hu) (aA (i:=0)) (aK) (fun _ _=>rfl))) (vO _ (is:=[2,3]) (by decide)) (t6 rfl (eQ (bK (i:=2) sc.nd rfl (by trivial)) (eQ (bK (i:=3) sc.nd rfl (by trivial)) (oX)))) (aG (gF (cH (jT hu) (aA (i:=2)) (aA (i:=1)) (cD _)) (aU (dB (aA (i:=3)))) (cC)) (aU (gF (cH (jT hu) (aA (i:=3)) (aA (i:=1)) (cD _)) (aU (dB (aA (i:=2)))) (cC)))))) (cC)) (aU (Y_))
theorem XJ [KFrag] {P:Program} {w:World} {K:Frag} {mg:Str->Option Value} {base:Heap} {fad C:Addr} {fd:FuncData} (hK:KFrag.K=K) (B:Bt mg) (c_is_end:cP P w K mg base 2 "is_end" 1 jW)  (F:Fun K "mate" "mate" pX fad fd) (hm:mg "mate" = some (.ref fad)) (mC:mg "NoEnd" = some (.ref C)) (xC:excIn K C aD8 "ValueError.__new__" = true):KQ P w K mg base 3 "mate" 2 C yL:=by
 have sc:=R0;refine ZF (ps:=["net", "end"]) (N:=(["net", "end", "one", "other"]:List Str)) (k:=2) (g:=ZK) F hm (F.binds fun _ _ _ _ _ _ us hl=>match us,hl with|[_,_],_=>rfl) sc ZJ (by decide) (by decide) fun cdv A outer s H E hr=>?_
 have hu:=wI hr;exact RL (gF (iD (aZ c_is_end hr (by decide) (by rfl) (aB (aA (i:=1)) (aH)))) (aU (m9 PassesOwn.never rfl (jG (cL (cN hK hu) (aA (i:=0)) (aK) (fun _ _=>rfl))) (vO _ (is:=[2,3]) (by decide)) (t6 rfl (eQ (bK (i:=2) sc.nd rfl (by trivial)) (eQ (bK (i:=3) sc.nd rfl (by trivial)) (oX)))) (aG (gF (cH (jT hu) (aA (i:=2)) (aA (i:=1)) (cD _)) (aU (dB (aA (i:=3)))) (cC)) (aU (gF (cH (jT hu) (aA (i:=3)) (aA (i:=1)) (cD _)) (aU (dB (aA (i:=2)))) (cC)))))) (cC)) (aDe (HD (by rfl) mC xC))
theorem C_:b8 (["pieces", "ties", "rings", "rows"]:List Str) ["pieces", "ties", "rings"] (aL fQ):=⟨rfl,rfl,rfl,by decide +kernel,rfl,by decide +kernel,by decide +kernel⟩
theorem yO [KFrag] {P:Program} {w:World} {K:Frag} {mg:Str->Option Value} {base:Heap} {fad:Addr} {fd:FuncData} (hK:KFrag.K=K) (B:Bt mg)  (F:Fun K "arranged" "arranged" fQ fad fd) (hm:mg "arranged" = some (.ref fad)):cP P w K mg base 1 "arranged" 3 jL:=by
 have sc:=C_;refine gP (ps:=["pieces", "ties", "rings"]) (N:=(["pieces", "ties", "rings", "rows"]:List Str)) (k:=0) F hm (F.binds fun _ _ _ _ _ _ us hl=>match us,hl with|[_,_,_],_=>rfl) sc KZ (by decide) (by decide) fun cdv A outer s H E hr=>?_
 have hu:=wI hr;exact aG (vP (ownN:=(["one", "other"]:List Str)) (show cO (["pieces", "ties", "rings", "rows"]:List Str) (aL fQ) _ (["one", "other"]:List Str) from ⟨rfl,by decide +kernel,by decide +kernel,by decide +kernel,by decide +kernel,by decide +kernel,by decide +kernel⟩) (n:=4) (m:=2) rfl rfl rfl (jG (aA (i:=1))) (QK _ 4 2) (fun _=>t6 rfl (eQ (bK (i:=4) (show ((List.map (iR (["one", "other"]:List Str)) (["pieces", "ties", "rings", "rows"]:List Str)++(["one", "other"]:List Str)):List Str).Nodup from by decide +kernel) rfl (by trivial)) (eQ (bK (i:=5) (show ((List.map (iR (["one", "other"]:List Str)) (["pieces", "ties", "rings", "rows"]:List Str)++(["one", "other"]:List Str)):List Str).Nodup from by decide +kernel) rfl (by trivial)) (oX)))) (fun _=>bZ (aB (bA (QF hu (by rfl)) (by rfl) B.min QT (aB (aA (i:=4)) (aB (aA (i:=5)) (aH)))) (aB (bA (QG hu (by rfl)) (by rfl) B.max QV (aB (aA (i:=4)) (aB (aA (i:=5)) (aH)))) (aH)))) (fun _=>rfl) (iy:=3) (o:=false) rfl sc.nd rfl (by trivial) (Or.inl rfl) (by with_unfolding_all rfl)) (aU (dB (bZ (aB (iJ oE (by rfl) B.tuple iU (aB (bA (pF (by rfl) hu) (by rfl) B.sorted jK (aB (aA (i:=0)) (aH))) (aH))) (aB (iJ oE (by rfl) B.tuple iU (aB (bA (oF hu) (by rfl) B.sorted jK (aB (aA (i:=3)) (aH))) (aH))) (aB (aA (i:=2)) (aH)))))))
theorem yP:b8 (["end", "k", "l"]:List Str) ["end", "k", "l"] (aL eZ):=⟨rfl,rfl,rfl,by decide +kernel,rfl,by decide +kernel,by decide +kernel⟩
theorem v9 [KFrag] {P:Program} {w:World} {K:Frag} {mg:Str->Option Value} {base:Heap} {fad:Addr} {fd:FuncData} (hK:KFrag.K=K) (B:Bt mg)  (F:Fun K "closed_up" "closed_up" eZ fad fd) (hm:mg "closed_up" = some (.ref fad)):cP P w K mg base 1 "closed_up" 3 dR:=by
 have sc:=yP;refine gP (ps:=["end", "k", "l"]) (N:=(["end", "k", "l"]:List Str)) (k:=0) F hm (F.binds fun _ _ _ _ _ _ us hl=>match us,hl with|[_,_,_],_=>rfl) sc CV (by decide) (by decide) fun cdv A outer s H E hr=>?_
 have hu:=wI hr;exact aG (gF (cH (V9 hu) (cL (cN hK hu) (aA (i:=0)) (aK) (fun _ _=>rfl)) (aK) (cD _)) (aU (dB (aA (i:=0)))) (cC)) (aU (dB (bZ (aB (aK) (aB (bH P0 (cL (cN hK hu) (aA (i:=0)) (aK) (fun _ _=>rfl)) (bA (dY hK) (by rfl) B.len dZ (aB (uD (ownN:=(["gone"]:List Str)) (show cO (["end", "k", "l"]:List Str) (aL eZ) _ (["gone"]:List Str) from ⟨rfl,by decide +kernel,by decide +kernel,by decide +kernel,by decide +kernel,by decide +kernel,by decide +kernel⟩) (n:=3) (m:=1) rfl rfl rfl (jG (bZ (aB (aA (i:=1)) (aB (aA (i:=2)) (aH))))) (iZ 3) (fun _=>bK (i:=3) (show ((List.map (iR (["gone"]:List Str)) (["end", "k", "l"]:List Str)++(["gone"]:List Str)):List Str).Nodup from by decide +kernel) rfl (by trivial)) (fun _=>cH (J7 hu) (aA (i:=3)) (cL (cN hK hu) (aA (i:=0)) (aK) (fun _ _=>rfl)) (cD _)) (fun _=>aA (i:=3)) (fun _=>rfl)) (aH)))) (aH))))))
theorem yQ:b8 (["net", "k", "l", "at_k", "at_l", "gone", "ties", "rings", "left"]:List Str) ["net", "k", "l"] (aL gB):=⟨rfl,rfl,rfl,by decide +kernel,rfl,by decide +kernel,by decide +kernel⟩
theorem K5 [KFrag] {P:Program} {w:World} {K:Frag} {mg:Str->Option Value} {base:Heap} {fad:Addr} {fd:FuncData} (hK:KFrag.K=K) (B:Bt mg) (c_mate:cP P w K mg base 3 "mate" 2 oO) (c_closed_up:cP P w K mg base 1 "closed_up" 3 dR) (c_arranged:cP P w K mg base 1 "arranged" 3 jL) (F:Fun K "hooked" "hooked" gB fad fd) (hm:mg "hooked" = some (.ref fad)):cP P w K mg base 4 "hooked" 3 jX:=by
 have sc:=yQ;refine gP (ps:=["net", "k", "l"]) (N:=(["net", "k", "l", "at_k", "at_l", "gone", "ties", "rings", "left"]:List Str)) (k:=3) F hm (F.binds fun _ _ _ _ _ _ us hl=>match us,hl with|[_,_,_],_=>rfl) sc HQ (by decide) (by decide) fun cdv A outer s H E hr=>?_
 have hu:=wI hr
 exact aG (bG (i:=3) (o:=false) rfl sc.nd rfl (by trivial) (aZ c_mate hr (by decide) (by rfl) (aB (aA (i:=0)) (aB (bZ (aB (aK) (aB (aA (i:=1)) (aH)))) (aH))))) (aG (bG (i:=4) (o:=false) rfl sc.nd rfl (by trivial) (aZ c_mate hr (by decide) (by rfl) (aB (aA (i:=0)) (aB (bZ (aB (aK) (aB (aA (i:=2)) (aH)))) (aH))))) (aG (gF (cH (jT hu) (aA (i:=1)) (aA (i:=2)) (cD _)) (aU (Y_)) (cC)) (aG (bG (i:=5) (o:=false) rfl sc.nd rfl (by trivial) (bZ (aB (bZ (aB (aK) (aB (aA (i:=1)) (aH)))) (aB (bZ (aB (aK) (aB (aA (i:=2)) (aH)))) (aH))))) (aG (jJ (ownN:=(["tie"]:List Str)) (show cO (["net", "k", "l", "at_k", "at_l", "gone", "ties", "rings", "left"]:List Str) (aL gB) _ (["tie"]:List Str) from ⟨rfl,by decide +kernel,by decide +kernel,by decide +kernel,by decide +kernel,by decide +kernel,by decide +kernel⟩) (n:=9) (m:=1) rfl rfl rfl (jG (cL (cN hK hu) (aA (i:=0)) (aK) (fun _ _=>rfl))) (iZ 9) (fun _=>bK (i:=9) (show ((List.map (iR (["tie"]:List Str)) (["net", "k", "l", "at_k", "at_l", "gone", "ties", "rings", "left"]:List Str)++(["tie"]:List Str)):List Str).Nodup from by decide +kernel) rfl (by trivial)) (fun _=>PW.pt (PX (cH (vK hu) (cL (cN hK hu) (aA (i:=9)) (aK) (fun _ _=>rfl)) (aA (i:=5)) (by with_unfolding_all rfl)) (BX (cH (vK hu) (cL (cN hK hu) (aA (i:=9)) (aK) (fun _ _=>rfl)) (aA (i:=5)) (by with_unfolding_all rfl))))) (fun _=>aA (i:=9)) (fun _=>rfl) (iy:=6) (o:=true) rfl sc.nd rfl (by trivial) (Or.inl rfl) (by with_unfolding_all rfl)) (aG (bG (i:=7) (o:=false) rfl sc.nd rfl (by trivial) (cL (cN hK hu) (aA (i:=0)) (aK) (fun _ _=>rfl))) (aG (gF (cH (jT hu) (aA (i:=3)) (bZ (aB (aK) (aB (aA (i:=2)) (aH)))) (cD _)) (aU (bG (i:=7) (o:=false) rfl sc.nd rfl (by trivial) (bH cZ (aA (i:=7)) (aK)))) (aU (xX (i:=6) rfl rfl (by trivial) (bZ (aB (aA (i:=3)) (aB (aA (i:=4)) (aH))))))) (aG (vP (ownN:=(["end", "far"]:List Str)) (show cO (["net", "k", "l", "at_k", "at_l", "gone", "ties", "rings", "left"]:List Str) (aL gB) _ (["end", "far"]:List Str) from ⟨rfl,by decide +kernel,by decide +kernel,by decide +kernel,by decide +kernel,by decide +kernel,by decide +kernel⟩) (n:=9) (m:=2) rfl rfl rfl (jG (aA (i:=6))) (QK _ 9 2) (fun _=>t6 rfl (eQ (bK (i:=9) (show ((List.map (iR (["end", "far"]:List Str)) (["net", "k", "l", "at_k", "at_l", "gone", "ties", "rings", "left"]:List Str)++(["end", "far"]:List Str)):List Str).Nodup from by decide +kernel) rfl (by trivial)) (eQ (bK (i:=10) (show ((List.map (iR (["end", "far"]:List Str)) (["net", "k", "l", "at_k", "at_l", "gone", "ties", "rings", "left"]:List Str)++(["end", "far"]:List Str)):List Str).Nodup from by decide +kernel) rfl (by trivial)) (oX)))) (fun _=>bZ (aB (aZ c_closed_up hr (by decide) (by rfl) (aB (aA (i:=9)) (aB (aA (i:=1)) (aB (aA (i:=2)) (aH))))) (aB (aZ c_closed_up hr (by decide) (by rfl) (aB (aA (i:=10)) (aB (aA (i:=1)) (aB (aA (i:=2)) (aH))))) (aH)))) (fun _=>rfl) (iy:=8) (o:=false) rfl sc.nd rfl (by trivial) (Or.inl rfl) (by with_unfolding_all rfl)) (aU (dB (aZ c_arranged hr (by decide) (by rfl) (aB (cL (cN hK hu) (aA (i:=0)) (aK) (fun _ _=>rfl)) (aB (aA (i:=8)) (aB (aA (i:=7)) (aH))))))))))))))
theorem K6 [KFrag] {P:Program} {w:World} {K:Frag} {mg:Str->Option Value} {base:Heap} {fad C:Addr} {fd:FuncData} (hK:KFrag.K=K) (B:Bt mg) (c_mate:cP P w K mg base 3 "mate" 2 oO) (c_closed_up:cP P w K mg base 1 "closed_up" 3 dR) (c_arranged:cP P w K mg base 1 "arranged" 3 jL) (rx_mate:KQ P w K mg base 3 "mate" 2 C yL) (F:Fun K "hooked" "hooked" gB fad fd) (hm:mg "hooked" = some (.ref fad)) (mC:mg "NoEnd" = some (.ref C)) (xC:excIn K C aD8 "ValueError.__new__" = true):KQ P w K mg base 4 "hooked" 3 C mW:=by
 have sc:=yQ;refine ZF (ps:=["net", "k", "l"]) (N:=(["net", "k", "l", "at_k", "at_l", "gone", "ties", "rings", "left"]:List Str)) (k:=3) (g:=qI) F hm (F.binds fun _ _ _ _ _ _ us hl=>match us,hl with|[_,_,_],_=>rfl) sc HQ (by decide) (by decide) fun cdv A outer s H E hr=>?_
 have hu:=wI hr;exact aDf (RK (RM (i:=3) rx_mate hr (by decide) (by rfl) (aB (aA (i:=0)) (aB (bZ (aB (aK) (aB (aA (i:=1)) (aH)))) (aH))) sc.nd rfl (by trivial))) (RL (bG (i:=3) (o:=false) rfl sc.nd rfl (by trivial) (aZ c_mate hr (by decide) (by rfl) (aB (aA (i:=0)) (aB (bZ (aB (aK) (aB (aA (i:=1)) (aH)))) (aH))))) (aDf (RK (RM (i:=4) rx_mate hr (by decide) (by rfl) (aB (aA (i:=0)) (aB (bZ (aB (aK) (aB (aA (i:=2)) (aH)))) (aH))) sc.nd rfl (by trivial))) (RL (bG (i:=4) (o:=false) rfl sc.nd rfl (by trivial) (aZ c_mate hr (by decide) (by rfl) (aB (aA (i:=0)) (aB (bZ (aB (aK) (aB (aA (i:=2)) (aH)))) (aH))))) (RK (aF5 (cH (jT hu) (aA (i:=1)) (aA (i:=2)) (cD _)) (HD (by rfl) mC xC))))))
theorem yR:b8 (["net", "k", "l", "caught", "e"]:List Str) ["net", "k", "l"] (aL fU):=⟨rfl,rfl,rfl,by decide +kernel,rfl,by decide +kernel,by decide +kernel⟩
theorem v_ [KFrag] {P:Program} {w:World} {K:Frag} {mg:Str->Option Value} {base:Heap} {fad C c_MillError c_BadKind c_BadRow c_Lacking c_NoName c_NoNet c_NoPair c_NoRule c_NoTerm c_NoValue c_Spent c_Stuck c_Twice c_TwoRules c_Uneven c_Unfit:Addr} {fd:FuncData} (B:Bt mg) (R:KQ P w K mg base 4 "hooked" 3 C mW) (xc:XC K C) (xM:exmOne K (.ref C) (.ref c_MillError)=some true) (zV:mg "ValueError" = none) (m_NoEnd:mg "NoEnd" = some (.ref C)) (m_MillError:mg "MillError" = some (.ref c_MillError)) (m_BadKind:mg "BadKind" = some (.ref c_BadKind)) (m_BadRow:mg "BadRow" = some (.ref c_BadRow)) (m_Lacking:mg "Lacking" = some (.ref c_Lacking)) (m_NoName:mg "NoName" = some (.ref c_NoName)) (m_NoNet:mg "NoNet" = some (.ref c_NoNet)) (m_NoPair:mg "NoPair" = some (.ref c_NoPair)) (m_NoRule:mg "NoRule" = some (.ref c_NoRule)) (m_NoTerm:mg "NoTerm" = some (.ref c_NoTerm)) (m_NoValue:mg "NoValue" = some (.ref c_NoValue)) (m_Spent:mg "Spent" = some (.ref c_Spent)) (m_Stuck:mg "Stuck" = some (.ref c_Stuck)) (m_Twice:mg "Twice" = some (.ref c_Twice)) (m_TwoRules:mg "TwoRules" = some (.ref c_TwoRules)) (m_Uneven:mg "Uneven" = some (.ref c_Uneven)) (m_Unfit:mg "Unfit" = some (.ref c_Unfit)) (k1:kitAny K (.ref C) [.ref c_BadKind,.ref c_BadRow,.ref c_Lacking,.ref c_NoName,.ref c_NoNet,.ref c_NoPair,.ref c_NoRule,.ref c_NoTerm,.ref c_NoValue]=some false) (k2:kitAny K (.ref C) [.ref c_Spent,.ref c_Stuck,.ref c_Twice,.ref c_TwoRules,.ref c_Uneven,.ref c_Unfit]=some false) (k3:kitOne K (.ref C) (.ref C)=some true) (k4:kitOne K (.ref C) (.type "ValueError")=some true) (F:Fun K "_law_none" "_law_none" fU fad fd) (hm:mg "_law_none" = some (.ref fad)):cP P w K mg base 5 "_law_none" 3 bB:=by
 have sc:=yR;obtain ⟨fm,fdm,psm,R,hmm,hkm,hbm,_⟩:=R;refine RN (ps:=["net", "k", "l"]) (N:=(["net", "k", "l", "caught", "e"]:List Str)) (k:=4) (C:=C) (cs1:=[c_BadKind,c_BadRow,c_Lacking,c_NoName,c_NoNet,c_NoPair,c_NoRule,c_NoTerm,c_NoValue]) (cs2:=[c_Spent,c_Stuck,c_Twice,c_TwoRules,c_Uneven,c_Unfit]) F hm (F.binds fun _ _ _ _ _ _ us hl=>match us,hl with|[_,_,_],_=>rfl) sc rfl rfl fun cdv A outer s H E hr=>?_
 exact jP (t7 (i:=3) sc.nd rfl (by trivial) aBx) (jP (aDb (ie:=4) rfl rfl R hr (by rfl) hmm hkm hbm (aB (aA (i:=0)) (aB (aA (i:=1)) (aB (aA (i:=2)) aH))) (by rfl) m_MillError xM sc.nd rfl rfl (fun v=>nC (t7 (i:=3) sc.nd rfl (by trivial) (j6 (i:=4) rfl (by trivial))))) (jP (U3 (YF (RD (i:=3) (cs:=[c_BadKind,c_BadRow,c_Lacking,c_NoName,c_NoNet,c_NoPair,c_NoRule,c_NoTerm,c_NoValue]) xc k1 (show 9<=sizeLine from by decide) (by rfl) B.isi rfl (by trivial) (PA.imp (bT (d8 (v:=.ref c_BadKind) (by rfl) m_BadKind rfl) (bT (d8 (v:=.ref c_BadRow) (by rfl) m_BadRow rfl) (bT (d8 (v:=.ref c_Lacking) (by rfl) m_Lacking rfl) (bT (d8 (v:=.ref c_NoName) (by rfl) m_NoName rfl) (bT (d8 (v:=.ref c_NoNet) (by rfl) m_NoNet rfl) (bT (d8 (v:=.ref c_NoPair) (by rfl) m_NoPair rfl) (bT (d8 (v:=.ref c_NoRule) (by rfl) m_NoRule rfl) (bT (d8 (v:=.ref c_NoTerm) (by rfl) m_NoTerm rfl) (bT (d8 (v:=.ref c_NoValue) (by rfl) m_NoValue rfl) (kO)))))))))) fun _ _ _ h=>h))) (nC (wL ZX)) uM) (jP (U3 (YF (RD (i:=3) (cs:=[c_Spent,c_Stuck,c_Twice,c_TwoRules,c_Uneven,c_Unfit]) xc k2 (show 6<=sizeLine from by decide) (by rfl) B.isi rfl (by trivial) (PA.imp (bT (d8 (v:=.ref c_Spent) (by rfl) m_Spent rfl) (bT (d8 (v:=.ref c_Stuck) (by rfl) m_Stuck rfl) (bT (d8 (v:=.ref c_Twice) (by rfl) m_Twice rfl) (bT (d8 (v:=.ref c_TwoRules) (by rfl) m_TwoRules rfl) (bT (d8 (v:=.ref c_Uneven) (by rfl) m_Uneven rfl) (bT (d8 (v:=.ref c_Unfit) (by rfl) m_Unfit rfl) (kO))))))) fun _ _ _ h=>h))) (nC (wL ZX)) uM) (nC (wL (YH (RG (i:=3) (v:=.ref C) xc k3 (fun u' r=>r) (by rfl) B.isi rfl (by trivial) (d8 (by rfl) m_NoEnd rfl) rfl rfl) (YG (RG (i:=3) (v:=.ty "ValueError") xc k4 (fun u' r=>r) (by rfl) B.isi rfl (by trivial) (MF (by rfl) zV vV rfl) rfl rfl))))))))
theorem yS:b8 (["found", "due", "k"]:List Str) ["found", "due"] (aL fV):=⟨rfl,rfl,rfl,by decide +kernel,rfl,by decide +kernel,by decide +kernel⟩
theorem wA [KFrag] {P:Program} {w:World} {K:Frag} {mg:Str->Option Value} {base:Heap} {fad:Addr} {fd:FuncData} (hK:KFrag.K=K) (B:Bt mg)  (F:Fun K "_law_same" "_law_same" fV fad fd) (hm:mg "_law_same" = some (.ref fad)):∀m:Nat,cP P w K mg base (m+1) "_law_same" 2 (bR m):=by
 have sc:=yS;intro m;induction m with
 | zero=>
  refine gP (ps:=["found", "due"]) (N:=(["found", "due", "k"]:List Str)) (k:=0) F hm (F.binds fun _ _ _ _ _ _ us hl=>match us,hl with|[_,_],_=>rfl) sc sE (by decide) (by decide) fun cdv A outer s H E hr=>?_
  exact aAp
 | succ m ih=>
  have c__law_same:=ih;refine gP (ps:=["found", "due"]) (N:=(["found", "due", "k"]:List Str)) (k:=m+1) F hm (F.binds fun _ _ _ _ _ _ us hl=>match us,hl with|[_,_],_=>rfl) sc sE (by decide) (by decide) fun cdv A outer s H E hr=>?_
  have hu:=wI hr;exact aG (gF (iD (oG .tuple (aA (i:=1)) (by rfl) B.isi b_ (by rfl) B.tuple iU)) (aG (gF (PW.pt (J6 (lG (iD (oG .tuple (aA (i:=0)) (by rfl) B.isi b_ (by rfl) B.tuple iU))) (xP (cH (V9 hu) (bA (dY hK) (by rfl) B.len dZ (aB (aA (i:=0)) (aH))) (bA (dY hK) (by rfl) B.len dZ (aB (aA (i:=1)) (aH))) (cD _))))) (aU (dB (BW))) (cC)) (aG (m9 PassesOwn.never rfl (nJ (by rfl) B.range (aB (bA (dY hK) (by rfl) B.len dZ (aB (aA (i:=1)) (aH))) (aH))) (lK (i:=2) rfl) (bK (i:=2) sc.nd rfl (by trivial)) (aU (gF (lG (iD (aZ c__law_same hr (Nat.le_refl _) (by rfl) (aB (cL (cN hK hu) (aA (i:=0)) (aA (i:=2)) (fun _ _=>rfl)) (aB (cL (cN hK hu) (aA (i:=1)) (aA (i:=2)) (fun _ _=>rfl)) (aH)))))) (aU (dB (BW))) (cC)))) (aU (dB (BW))))) (cC)) (aG (gF (iD (oG .str (aA (i:=1)) (by rfl) B.isi b_ (by rfl) B.str ZC)) (aU (dB (pN (oG .str (aA (i:=0)) (by rfl) B.isi b_ (by rfl) B.str ZC) (xN (GF (jT hu) (aA (i:=0)) (aA (i:=1)) (cD _)))))) (cC)) (aU (dB (pN (oG .int (aA (i:=0)) (by rfl) B.isi b_ (by rfl) B.int QX) (pN (Y4 (oG .bool (aA (i:=0)) (by rfl) B.isi b_ (by rfl) B.bool QZ)) (xN (GF (jT hu) (aA (i:=0)) (aA (i:=1)) (cD _))))))))
theorem aDj:b8 (["script", "cell", "stock", "net", "mates", "spots", "many", "row", "pairs", "k", "l", "due", "far"]:List Str) ["script"] (aL p7):=⟨rfl,rfl,rfl,by decide +kernel,rfl,by decide +kernel,by decide +kernel⟩
theorem aDk [KFrag] {P:Program} {w:World} {K:Frag} {mg:Str->Option Value} {base:Heap} {fad:Addr} {fd:FuncData} (hK:KFrag.K=K) (B:Bt mg) (c__law_cell_at:cP P w K mg base 1 "_law_cell_at" 2 dI) (c__law_stock:cP P w K mg base 1 "_law_stock" 2 gG) (c__law_grown:cP P w K mg base 3 "_law_grown" 3 iW) (c__law_mates:cP P w K mg base 1 "_law_mates" 1 fD) (c__law_shuffled:cP P w K mg base 1 "_law_shuffled" 2 cR) (c__law_hooked:cP P w K mg base 2 "_law_hooked" 3 fL) (c_hooked:cP P w K mg base 4 "hooked" 3 jX) (c__law_same:cP P w K mg base 7 "_law_same" 2 (bR 6)) (c__law_none:cP P w K mg base 5 "_law_none" 3 bB) (F:Fun K "law" "law" p7 fad fd):D_ P w K mg base CX0 8 fad fd ["script"] (spD K3 1):=by
 have sc:=aDj;refine aD5 (ps:=["script"]) (N:=(["script", "cell", "stock", "net", "mates", "spots", "many", "row", "pairs", "k", "l", "due", "far"]:List Str)) (k:=7) F sc o_law (by decide) (by decide) fun cdv A outer s H E hr=>?_
 have hu:=wI hr
 exact aG (bG (i:=1) (o:=false) rfl sc.nd rfl (by trivial) (aZ c__law_cell_at hr (by decide) (by rfl) (aB (aA (i:=0)) (aB (aK) (aH))))) (aG (bG (i:=2) (o:=false) rfl sc.nd rfl (by trivial) (aZ c__law_stock hr (by decide) (by rfl) (aB (aZ c__law_cell_at hr (by decide) (by rfl) (aB (aA (i:=0)) (aB (aK) (aH)))) (aB (aA (i:=1)) (aH))))) (aG (bG (i:=3) (o:=false) rfl sc.nd rfl (by trivial) (aZ c__law_grown hr (by decide) (by rfl) (aB (aA (i:=2)) (aB (aAg hK (aA (i:=0)) (rJ (aK)) (rJ (aK))) (aB (aZ c__law_cell_at hr (by decide) (by rfl) (aB (aA (i:=0)) (aB (aK) (aH)))) (aH)))))) (aG (bG (i:=4) (o:=false) rfl sc.nd rfl (by trivial) (aZ c__law_mates hr (by decide) (by rfl) (aB (aA (i:=3)) (aH)))) (aG (jJ (ownN:=(["end"]:List Str)) (show cO (["script", "cell", "stock", "net", "mates", "spots", "many", "row", "pairs", "k", "l", "due", "far"]:List Str) (aL p7) _ (["end"]:List Str) from ⟨rfl,by decide +kernel,by decide +kernel,by decide +kernel,by decide +kernel,by decide +kernel,by decide +kernel⟩) (n:=13) (m:=1) rfl rfl rfl (jG (bA (pF (by rfl) hu) (by rfl) B.sorted jK (aB (aA (i:=4)) (aH)))) (iZ 13) (fun _=>bK (i:=13) (show ((List.map (iR (["end"]:List Str)) (["script", "cell", "stock", "net", "mates", "spots", "many", "row", "pairs", "k", "l", "due", "far"]:List Str)++(["end"]:List Str)):List Str).Nodup from by decide +kernel) rfl (by trivial)) (fun _=>cH (jT hu) (cL (cN hK hu) (aA (i:=13)) (aK) (fun _ _=>rfl)) (aK) (cD _)) (fun _=>cL (cN hK hu) (aA (i:=13)) (aK) (fun _ _=>rfl)) (fun _=>rfl) (iy:=5) (o:=false) rfl sc.nd rfl (by trivial) (Or.inl rfl) (by with_unfolding_all rfl)) (aG (bG (i:=6) (o:=false) rfl sc.nd rfl (by trivial) (bA (dY hK) (by rfl) B.len dZ (aB (aA (i:=5)) (aH)))) (aG (bG (i:=7) (o:=false) rfl sc.nd rfl (by trivial) (aAg hK (aZ c__law_shuffled hr (by decide) (by rfl) (aB (aA (i:=5)) (aB (aA (i:=1)) (aH)))) (aAf) (rJ (aK)))) (aG (vP (ownN:=(["k"]:List Str)) (show cO (["script", "cell", "stock", "net", "mates", "spots", "many", "row", "pairs", "k", "l", "due", "far"]:List Str) (aL p7) _ (["k"]:List Str) from ⟨rfl,by decide +kernel,by decide +kernel,by decide +kernel,by decide +kernel,by decide +kernel,by decide +kernel⟩) (n:=13) (m:=1) rfl rfl rfl (aAj (by rfl) B.range (aB (aK) (aB (bA (dY hK) (by rfl) B.len dZ (aB (aA (i:=7)) (aH))) (aH)))) (iZ 13) (fun _=>bK (i:=13) (show ((List.map (iR (["k"]:List Str)) (["script", "cell", "stock", "net", "mates", "spots", "many", "row", "pairs", "k", "l", "due", "far"]:List Str)++(["k"]:List Str)):List Str).Nodup from by decide +kernel) rfl (by trivial)) (fun _=>bZ (aB (cL (cN hK hu) (aA (i:=7)) (bH P0 (aA (i:=13)) (aK)) (fun _ _=>rfl)) (aB (cL (cN hK hu) (aA (i:=7)) (aA (i:=13)) (fun _ _=>rfl)) (aH)))) (fun _=>rfl) (iy:=8) (o:=false) rfl sc.nd rfl (by trivial) (Or.inl rfl) (by with_unfolding_all rfl)) (aG (bG (i:=8) (o:=false) rfl sc.nd rfl (by trivial) (bH cZ (aA (i:=8)) (uD (ownN:=(["k"]:List Str)) (show cO (["script", "cell", "stock", "net", "mates", "spots", "many", "row", "pairs", "k", "l", "due", "far"]:List Str) (aL p7) _ (["k"]:List Str) from ⟨rfl,by decide +kernel,by decide +kernel,by decide +kernel,by decide +kernel,by decide +kernel,by decide +kernel⟩) (n:=13) (m:=1) rfl rfl rfl (jG (aA (i:=7))) (iZ 13) (fun _=>bK (i:=13) (show ((List.map (iR (["k"]:List Str)) (["script", "cell", "stock", "net", "mates", "spots", "many", "row", "pairs", "k", "l", "due", "far"]:List Str)++(["k"]:List Str)):List Str).Nodup from by decide +kernel) rfl (by trivial)) (fun _=>cH (jT hu) (cL (cN hK hu) (cL (cN hK hu) (aA (i:=4)) (bZ (aB (aK) (aB (aA (i:=13)) (aH)))) (fun _ _=>rfl)) (aK) (fun _ _=>rfl)) (aK) (cD _)) (fun _=>bZ (aB (aA (i:=13)) (aB (cL (cN hK hu) (cL (cN hK hu) (aA (i:=4)) (bZ (aB (aK) (aB (aA (i:=13)) (aH)))) (fun _ _=>rfl)) (aK) (fun _ _=>rfl)) (aH)))) (fun _=>rfl)))) (aG (QS (i:=8) rfl PassesOwn.never rfl rfl (by trivial) (vO _ (is:=[9,10]) (by decide)) (t6 rfl (eQ (bK (i:=9) sc.nd rfl (by trivial)) (eQ (bK (i:=10) sc.nd rfl (by trivial)) (oX)))) (aG (bG (i:=11) (o:=false) rfl sc.nd rfl (by trivial) (aZ c__law_hooked hr (by decide) (by rfl) (aB (aA (i:=3)) (aB (aA (i:=9)) (aB (aA (i:=10)) (aH)))))) (aG (gF (PW.pt (J6 (lG (iD (aZ c__law_same hr (by decide) (by rfl) (aB (aZ c_hooked hr (by decide) (by rfl) (aB (aA (i:=3)) (aB (aA (i:=9)) (aB (aA (i:=10)) (aH))))) (aB (aA (i:=11)) (aH)))))) (xP (lG (iD (aZ c__law_same hr (by decide) (by rfl) (aB (aZ c_hooked hr (by decide) (by rfl) (aB (aA (i:=3)) (aB (aA (i:=10)) (aB (aA (i:=9)) (aH))))) (aB (aA (i:=11)) (aH))))))))) (aU (dB (BW))) (cC)) (aG (bG (i:=12) (o:=false) rfl sc.nd rfl (by trivial) (bH cZ (aA (i:=6)) (bH pO (bH e_ (aA (i:=1)) (aK)) (bH e_ (bH iG (aA (i:=1)) (aK)) (bH P_ (aK) (aK)))))) (aG (gF (PW.pt (J6 (lG (iD (aZ c__law_none hr (by decide) (by rfl) (aB (aA (i:=3)) (aB (aA (i:=9)) (aB (aA (i:=9)) (aH))))))) (J6 (lG (iD (aZ c__law_none hr (by decide) (by rfl) (aB (aA (i:=3)) (aB (aA (i:=10)) (aB (aA (i:=12)) (aH))))))) (xP (lG (iD (aZ c__law_none hr (by decide) (by rfl) (aB (aA (i:=3)) (aB (aA (i:=12)) (aB (aA (i:=9)) (aH))))))))))) (aU (dB (BW))) (cC)) (aU (gF (PW.pt (J6 (lG (iD (aZ c__law_none hr (by decide) (by rfl) (aB (aA (i:=3)) (aB (PQ xQ (aK)) (aB (aA (i:=9)) (aH))))))) (xP (lG (iD (aZ c__law_none hr (by decide) (by rfl) (aB (aA (i:=3)) (aB (aA (i:=10)) (aB (PQ xQ (aK)) (aH)))))))))) (aU (dB (BW))) (cC)))))))) (aG (gF (PW.pt (J6 (lG (iD (aZ c__law_none hr (by decide) (by rfl) (aB (aA (i:=3)) (aB (aK) (aB (aA (i:=6)) (aH))))))) (xP (lG (iD (aZ c__law_none hr (by decide) (by rfl) (aB (aA (i:=3)) (aB (aA (i:=6)) (aB (bH cZ (aA (i:=6)) (aK)) (aH)))))))))) (aU (dB (BW))) (cC)) (aU (dB (pN (aZ c__law_none hr (by decide) (by rfl) (aB (aA (i:=3)) (aB (aA (i:=6)) (aB (aA (i:=6)) (aH))))) (xN (aZ c__law_none hr (by decide) (by rfl) (aB (aA (i:=3)) (aB (PQ xQ (aK)) (aB (PQ xQ (aK)) (aH)))))))))))))))))))
theorem aDl {l:OpenLaw} {w:World} {K:Frag} {h:Heap} {mg:Str->Option Value} {fa:Addr} (X:K.In h) (G:h.Ns mainGlobals mg) (hfa:mg "law" = some (.ref fa))
  {f0:Addr} {oc0 kV0 dc0 pm0 cd0 ct0:Value} {od0 an0:Option Addr} {sl0:Array (Option Value)} (a0:nsIn K mainGlobals "_law_cell_at" = some (some (.ref f0))) (l0:K.lookup f0=some ⟨oc0,od0,.func (fnOf "_law_cell_at" "_law_cell_at" (cB dH) (bU dH) (aL dH) .none kV0 dc0 pm0 an0 cd0 ct0),sl0⟩) (c0:codeIn K cd0 "_law_cell_at" = true) (k0:keepIn K (.ref f0)=true)
  {f1:Addr} {oc1 kV1 dc1 pm1 cd1 ct1:Value} {od1 an1:Option Addr} {sl1:Array (Option Value)} (a1:nsIn K mainGlobals "_law_stock" = some (some (.ref f1))) (l1:K.lookup f1=some ⟨oc1,od1,.func (fnOf "_law_stock" "_law_stock" (cB fB) (bU fB) (aL fB) .none kV1 dc1 pm1 an1 cd1 ct1),sl1⟩) (c1:codeIn K cd1 "_law_stock" = true) (k1:keepIn K (.ref f1)=true)
  {f2:Addr} {oc2 kV2 dc2 pm2 cd2 ct2:Value} {od2 an2:Option Addr} {sl2:Array (Option Value)} (a2:nsIn K mainGlobals "_law_shuffled" = some (some (.ref f2))) (l2:K.lookup f2=some ⟨oc2,od2,.func (fnOf "_law_shuffled" "_law_shuffled" (cB cQ) (bU cQ) (aL cQ) .none kV2 dc2 pm2 an2 cd2 ct2),sl2⟩) (c2:codeIn K cd2 "_law_shuffled" = true) (k2:keepIn K (.ref f2)=true)
  {f3:Addr} {oc3 kV3 dc3 pm3 cd3 ct3:Value} {od3 an3:Option Addr} {sl3:Array (Option Value)} (a3:nsIn K mainGlobals "_law_rimmed" = some (some (.ref f3))) (l3:K.lookup f3=some ⟨oc3,od3,.func (fnOf "_law_rimmed" "_law_rimmed" (cB dX) (bU dX) (aL dX) .none kV3 dc3 pm3 an3 cd3 ct3),sl3⟩) (c3:codeIn K cd3 "_law_rimmed" = true) (k3:keepIn K (.ref f3)=true)
  {f4:Addr} {oc4 kV4 dc4 pm4 cd4 ct4:Value} {od4 an4:Option Addr} {sl4:Array (Option Value)} (a4:nsIn K mainGlobals "_law_tied" = some (some (.ref f4))) (l4:K.lookup f4=some ⟨oc4,od4,.func (fnOf "_law_tied" "_law_tied" (cB eY) (bU eY) (aL eY) .none kV4 dc4 pm4 an4 cd4 ct4),sl4⟩) (c4:codeIn K cd4 "_law_tied" = true) (k4:keepIn K (.ref f4)=true)
  {f5:Addr} {oc5 kV5 dc5 pm5 cd5 ct5:Value} {od5 an5:Option Addr} {sl5:Array (Option Value)} (a5:nsIn K mainGlobals "_law_grown" = some (some (.ref f5))) (l5:K.lookup f5=some ⟨oc5,od5,.func (fnOf "_law_grown" "_law_grown" (cB cF) (bU cF) (aL cF) .none kV5 dc5 pm5 an5 cd5 ct5),sl5⟩) (c5:codeIn K cd5 "_law_grown" = true) (k5:keepIn K (.ref f5)=true)
  {f6:Addr} {oc6 kV6 dc6 pm6 cd6 ct6:Value} {od6 an6:Option Addr} {sl6:Array (Option Value)} (a6:nsIn K mainGlobals "_law_mates" = some (some (.ref f6))) (l6:K.lookup f6=some ⟨oc6,od6,.func (fnOf "_law_mates" "_law_mates" (cB fC) (bU fC) (aL fC) .none kV6 dc6 pm6 an6 cd6 ct6),sl6⟩) (c6:codeIn K cd6 "_law_mates" = true) (k6:keepIn K (.ref f6)=true)
  {f7:Addr} {oc7 kV7 dc7 pm7 cd7 ct7:Value} {od7 an7:Option Addr} {sl7:Array (Option Value)} (a7:nsIn K mainGlobals "_law_hooked" = some (some (.ref f7))) (l7:K.lookup f7=some ⟨oc7,od7,.func (fnOf "_law_hooked" "_law_hooked" (cB cX) (bU cX) (aL cX) .none kV7 dc7 pm7 an7 cd7 ct7),sl7⟩) (c7:codeIn K cd7 "_law_hooked" = true) (k7:keepIn K (.ref f7)=true)
  {f8:Addr} {oc8 kV8 dc8 pm8 cd8 ct8:Value} {od8 an8:Option Addr} {sl8:Array (Option Value)} (a8:nsIn K mainGlobals "is_whole" = some (some (.ref f8))) (l8:K.lookup f8=some ⟨oc8,od8,.func (fnOf "is_whole" "is_whole" (cB g8) (bU g8) (aL g8) .none kV8 dc8 pm8 an8 cd8 ct8),sl8⟩) (c8:codeIn K cd8 "is_whole" = true) (k8:keepIn K (.ref f8)=true)
  {f9:Addr} {oc9 kV9 dc9 pm9 cd9 ct9:Value} {od9 an9:Option Addr} {sl9:Array (Option Value)} (a9:nsIn K mainGlobals "is_end" = some (some (.ref f9))) (l9:K.lookup f9=some ⟨oc9,od9,.func (fnOf "is_end" "is_end" (cB mV) (bU mV) (aL mV) .none kV9 dc9 pm9 an9 cd9 ct9),sl9⟩) (c9:codeIn K cd9 "is_end" = true) (k9:keepIn K (.ref f9)=true)
  {f10:Addr} {oc10 kV10 dc10 pm10 cd10 ct10:Value} {od10 an10:Option Addr} {sl10:Array (Option Value)} (a10:nsIn K mainGlobals "mate" = some (some (.ref f10))) (l10:K.lookup f10=some ⟨oc10,od10,.func (fnOf "mate" "mate" (cB pX) (bU pX) (aL pX) .none kV10 dc10 pm10 an10 cd10 ct10),sl10⟩) (c10:codeIn K cd10 "mate" = true) (k10:keepIn K (.ref f10)=true)
  {f11:Addr} {oc11 kV11 dc11 pm11 cd11 ct11:Value} {od11 an11:Option Addr} {sl11:Array (Option Value)} (a11:nsIn K mainGlobals "arranged" = some (some (.ref f11))) (l11:K.lookup f11=some ⟨oc11,od11,.func (fnOf "arranged" "arranged" (cB fQ) (bU fQ) (aL fQ) .none kV11 dc11 pm11 an11 cd11 ct11),sl11⟩) (c11:codeIn K cd11 "arranged" = true) (k11:keepIn K (.ref f11)=true)
  {f12:Addr} {oc12 kV12 dc12 pm12 cd12 ct12:Value} {od12 an12:Option Addr} {sl12:Array (Option Value)} (a12:nsIn K mainGlobals "closed_up" = some (some (.ref f12))) (l12:K.lookup f12=some ⟨oc12,od12,.func (fnOf "closed_up" "closed_up" (cB eZ) (bU eZ) (aL eZ) .none kV12 dc12 pm12 an12 cd12 ct12),sl12⟩) (c12:codeIn K cd12 "closed_up" = true) (k12:keepIn K (.ref f12)=true)
  {f13:Addr} {oc13 kV13 dc13 pm13 cd13 ct13:Value} {od13 an13:Option Addr} {sl13:Array (Option Value)} (a13:nsIn K mainGlobals "hooked" = some (some (.ref f13))) (l13:K.lookup f13=some ⟨oc13,od13,.func (fnOf "hooked" "hooked" (cB gB) (bU gB) (aL gB) .none kV13 dc13 pm13 an13 cd13 ct13),sl13⟩) (c13:codeIn K cd13 "hooked" = true) (k13:keepIn K (.ref f13)=true)
  {f14:Addr} {oc14 kV14 dc14 pm14 cd14 ct14:Value} {od14 an14:Option Addr} {sl14:Array (Option Value)} (a14:nsIn K mainGlobals "_law_none" = some (some (.ref f14))) (l14:K.lookup f14=some ⟨oc14,od14,.func (fnOf "_law_none" "_law_none" (cB fU) (bU fU) (aL fU) .none kV14 dc14 pm14 an14 cd14 ct14),sl14⟩) (c14:codeIn K cd14 "_law_none" = true) (k14:keepIn K (.ref f14)=true)
  {f15:Addr} {oc15 kV15 dc15 pm15 cd15 ct15:Value} {od15 an15:Option Addr} {sl15:Array (Option Value)} (a15:nsIn K mainGlobals "_law_same" = some (some (.ref f15))) (l15:K.lookup f15=some ⟨oc15,od15,.func (fnOf "_law_same" "_law_same" (cB fV) (bU fV) (aL fV) .none kV15 dc15 pm15 an15 cd15 ct15),sl15⟩) (c15:codeIn K cd15 "_law_same" = true) (k15:keepIn K (.ref f15)=true)
  {f16:Addr} {oc16 kV16 dc16 pm16 cd16 ct16:Value} {od16 an16:Option Addr} {sl16:Array (Option Value)} (a16:nsIn K mainGlobals "law" = some (some (.ref f16))) (l16:K.lookup f16=some ⟨oc16,od16,.func (fnOf "law" "law" (cB p7) (bU p7) (aL p7) .none kV16 dc16 pm16 an16 cd16 ct16),sl16⟩) (c16:codeIn K cd16 "law" = true) (k16:keepIn K (.ref f16)=true) (z_len:nsIn K mainGlobals "len" = some none) (z_min:nsIn K mainGlobals "min" = some none) (z_max:nsIn K mainGlobals "max" = some none) (z_list:nsIn K mainGlobals "list" = some none) (z_tuple:nsIn K mainGlobals "tuple" = some none) (z_sorted:nsIn K mainGlobals "sorted" = some none) (z_range:nsIn K mainGlobals "range" = some none) (z_isinstance:nsIn K mainGlobals "isinstance" = some none) (z_int:nsIn K mainGlobals "int" = some none) (z_bool:nsIn K mainGlobals "bool" = some none) (z_str:nsIn K mainGlobals "str" = some none) (z_dict:nsIn K mainGlobals "dict" = some none) (z_all:nsIn K mainGlobals "all" = some none) (z_enumerate:nsIn K mainGlobals "enumerate" = some none) (z_sum:nsIn K mainGlobals "sum" = some none) (z_zip:nsIn K mainGlobals "zip" = some none) (z_abs:nsIn K mainGlobals "abs" = some none) (z_reversed:nsIn K mainGlobals "reversed" = some none) {d_MillError:Addr} (g_MillError:nsIn K mainGlobals "MillError" = some (some (.ref d_MillError))) {d_NoEnd:Addr} (g_NoEnd:nsIn K mainGlobals "NoEnd" = some (some (.ref d_NoEnd))) {d_BadKind:Addr} (g_BadKind:nsIn K mainGlobals "BadKind" = some (some (.ref d_BadKind))) {d_BadRow:Addr} (g_BadRow:nsIn K mainGlobals "BadRow" = some (some (.ref d_BadRow))) {d_Lacking:Addr} (g_Lacking:nsIn K mainGlobals "Lacking" = some (some (.ref d_Lacking))) {d_NoName:Addr} (g_NoName:nsIn K mainGlobals "NoName" = some (some (.ref d_NoName))) {d_NoNet:Addr} (g_NoNet:nsIn K mainGlobals "NoNet" = some (some (.ref d_NoNet))) {d_NoPair:Addr} (g_NoPair:nsIn K mainGlobals "NoPair" = some (some (.ref d_NoPair))) {d_NoRule:Addr} (g_NoRule:nsIn K mainGlobals "NoRule" = some (some (.ref d_NoRule))) {d_NoTerm:Addr} (g_NoTerm:nsIn K mainGlobals "NoTerm" = some (some (.ref d_NoTerm))) {d_NoValue:Addr} (g_NoValue:nsIn K mainGlobals "NoValue" = some (some (.ref d_NoValue))) {d_Spent:Addr} (g_Spent:nsIn K mainGlobals "Spent" = some (some (.ref d_Spent))) {d_Stuck:Addr} (g_Stuck:nsIn K mainGlobals "Stuck" = some (some (.ref d_Stuck))) {d_Twice:Addr} (g_Twice:nsIn K mainGlobals "Twice" = some (some (.ref d_Twice))) {d_TwoRules:Addr} (g_TwoRules:nsIn K mainGlobals "TwoRules" = some (some (.ref d_TwoRules))) {d_Uneven:Addr} (g_Uneven:nsIn K mainGlobals "Uneven" = some (some (.ref d_Uneven))) {d_Unfit:Addr} (g_Unfit:nsIn K mainGlobals "Unfit" = some (some (.ref d_Unfit))) (xe__law_none:excIn K d_NoEnd aD8 "ValueError.__new__" = true) (xm__law_none:exmOne K (.ref d_NoEnd) (.ref d_MillError)=some true) (y1__law_none:kitAny K (.ref d_NoEnd) [.ref d_BadKind,.ref d_BadRow,.ref d_Lacking,.ref d_NoName,.ref d_NoNet,.ref d_NoPair,.ref d_NoRule,.ref d_NoTerm,.ref d_NoValue]=some false) (y2__law_none:kitAny K (.ref d_NoEnd) [.ref d_Spent,.ref d_Stuck,.ref d_Twice,.ref d_TwoRules,.ref d_Uneven,.ref d_Unfit]=some false) (y3__law_none:kitOne K (.ref d_NoEnd) (.ref d_NoEnd)=some true) (y4__law_none:kitOne K (.ref d_NoEnd) (.type "ValueError")=some true) (w1__law_none:isClsIn K d_NoEnd=true) (w2__law_none:findIn K (.ref d_NoEnd) "__getattribute__" = some (some (.builtin "BaseException.__getattribute__"))) (w3__law_none:findIn K (.ref d_NoEnd) "__getattr__" = some none) (w4__law_none:findIn K (.ref d_NoEnd) "__class__" = some (some (.builtin "object.__class__"))) (w5__law_none:specialIn K (.builtin "object.__class__") "__get__" = some (some (.builtin "getset_descriptor.__get__"))) (w6__law_none:takesIn K (.builtin "object.__class__")=some true) (w7__law_none:mroIn K d_NoEnd (.type "object")=some true) (w8__law_none:mroIn K d_NoEnd (.type "BaseException")=some true) (z_ValueError:nsIn K mainGlobals "ValueError" = some none) :
  ∃fd:FuncData,(∀(s:Shared) (v:Value),BindsTo s fd ⟨[v],[]⟩ [("script",v)])/\∀base:Heap,K.In base->base.Ns mainGlobals mg->D_ l.prog w K mg base CX0 8 fa fd ["script"] (@spD ⟨K⟩ K3 1):=by
 have e:=hfa.symm.trans (mg_of X G a16);cases e
 letI:KFrag:=⟨K⟩
 have B:Bt mg:=⟨mg_none_of X G z_len,mg_none_of X G z_min,mg_none_of X G z_max,mg_none_of X G z_list,mg_none_of X G z_tuple,mg_none_of X G z_sorted,mg_none_of X G z_range,mg_none_of X G z_isinstance,mg_none_of X G z_int,mg_none_of X G z_bool,mg_none_of X G z_str,mg_none_of X G z_dict,mg_none_of X G z_all,mg_none_of X G z_enumerate,mg_none_of X G z_sum,mg_none_of X G z_zip,mg_none_of X G z_abs,mg_none_of X G z_reversed⟩
 refine ⟨fnOf "law" "law" (cB p7) (bU p7) (aL p7) .none kV16 dc16 pm16 an16 cd16 ct16,fun s v=>.of_eq rfl,fun base _ _=>?_⟩;have h__law_cell_at:=p8 (P:=l.prog) (w:=w) (base:=base) rfl B  (fG (st:=dH) l0 c0 k0) (mg_of X G a0);have h__law_stock:=tO (P:=l.prog) (w:=w) (base:=base) rfl B  (fG (st:=fB) l1 c1 k1) (mg_of X G a1);have h__law_shuffled:=pG (P:=l.prog) (w:=w) (base:=base) rfl B  (fG (st:=cQ) l2 c2 k2) (mg_of X G a2);have h__law_rimmed:=sI (P:=l.prog) (w:=w) (base:=base) rfl B h__law_shuffled (fG (st:=dX) l3 c3 k3) (mg_of X G a3);have h__law_tied:=v6 (P:=l.prog) (w:=w) (base:=base) rfl B  (fG (st:=eY) l4 c4 k4) (mg_of X G a4);have h__law_grown:=tU (P:=l.prog) (w:=w) (base:=base) rfl B h__law_tied h__law_rimmed (fG (st:=cF) l5 c5 k5) (mg_of X G a5);have h__law_mates:=tV (P:=l.prog) (w:=w) (base:=base) rfl B  (fG (st:=fC) l6 c6 k6) (mg_of X G a6);have h__law_hooked:=sJ (P:=l.prog) (w:=w) (base:=base) rfl B h__law_mates (fG (st:=cX) l7 c7 k7) (mg_of X G a7);have h_is_whole:=yN (P:=l.prog) (w:=w) (base:=base) rfl B  (fG (st:=g8) l8 c8 k8) (mg_of X G a8);have h_is_end:=K4 (P:=l.prog) (w:=w) (base:=base) rfl B h_is_whole (fG (st:=mV) l9 c9 k9) (mg_of X G a9);have h_mate:=XH (P:=l.prog) (w:=w) (base:=base) rfl B h_is_end (fG (st:=pX) l10 c10 k10) (mg_of X G a10);have rx_mate:=XJ (P:=l.prog) (w:=w) (base:=base) rfl B h_is_end  (fG (st:=pX) l10 c10 k10) (mg_of X G a10) (mg_of X G g_NoEnd) xe__law_none;have h_arranged:=yO (P:=l.prog) (w:=w) (base:=base) rfl B  (fG (st:=fQ) l11 c11 k11) (mg_of X G a11);have h_closed_up:=v9 (P:=l.prog) (w:=w) (base:=base) rfl B  (fG (st:=eZ) l12 c12 k12) (mg_of X G a12);have h_hooked:=K5 (P:=l.prog) (w:=w) (base:=base) rfl B h_mate h_closed_up h_arranged (fG (st:=gB) l13 c13 k13) (mg_of X G a13);have rx_hooked:=K6 (P:=l.prog) (w:=w) (base:=base) rfl B h_mate h_closed_up h_arranged rx_mate (fG (st:=gB) l13 c13 k13) (mg_of X G a13) (mg_of X G g_NoEnd) xe__law_none
 have h__law_none:=v_ (P:=l.prog) (w:=w) (base:=base) B rx_hooked ⟨w1__law_none,w2__law_none,w3__law_none,w4__law_none,w5__law_none,w6__law_none,w7__law_none,w8__law_none⟩ xm__law_none (mg_none_of X G z_ValueError) (mg_of X G g_NoEnd) (mg_of X G g_MillError) (mg_of X G g_BadKind) (mg_of X G g_BadRow) (mg_of X G g_Lacking) (mg_of X G g_NoName) (mg_of X G g_NoNet) (mg_of X G g_NoPair) (mg_of X G g_NoRule) (mg_of X G g_NoTerm) (mg_of X G g_NoValue) (mg_of X G g_Spent) (mg_of X G g_Stuck) (mg_of X G g_Twice) (mg_of X G g_TwoRules) (mg_of X G g_Uneven) (mg_of X G g_Unfit) y1__law_none y2__law_none y3__law_none y4__law_none (fG (st:=fU) l14 c14 k14) (mg_of X G a14);have h__law_same:=wA (P:=l.prog) (w:=w) (base:=base) rfl B  (fG (st:=fV) l15 c15 k15) (mg_of X G a15) 6;exact aDk rfl B h__law_cell_at h__law_stock h__law_grown h__law_mates h__law_shuffled h__law_hooked h_hooked h__law_same h__law_none (fG (st:=p7) l16 c16 k16)
theorem walk {l:OpenLaw} {q:Program} {loose:List Str} {XP:(Str->Option Value)->Heap->Prop} {YP:World->Heap->Prop} {d:DefRec} {K:Params->Frag} (main:∀ns:List Int,ns.length<=63->K3 [.scr (ns.map D.int)]=.ok (.bl true)) (hn:l.most=some 63) (hdf:d.params.defaults=[])
  (hY:∀(w:World) (h:Heap),YP w h->(K w.params).In h)
  (F:∀(w:World) (mg:Str->Option Value) (fa:Addr) (h:Heap),(K w.params).In h->h.Ns mainGlobals mg->mg d.name=some (.ref fa)->
   ∃fd:FuncData,(∀(s:Shared) (u:Value),BindsTo s fd ⟨[u],[]⟩ [("script",u)])/\∀base:Heap,(K w.params).In base->base.Ns mainGlobals mg->D_ l.prog w (K w.params) mg base CX0 8 fa fd ["script"] (@spD ⟨K w.params⟩ K3 1)) :
  WalkO q loose XP YP l.row.toRowW d [] (fun f vs=>PySem.call f vs):=
 L2.aA2 (n:=63) (k:=8) (x := "script") (CX:=fun _=>CX0) (sp:=fun w=>@spD ⟨K w.params⟩ K3 1) hn (by decide) hdf ⟨rfl,by decide,by decide⟩ hY F (fun w H a ns hl hO hS=>Q0 main hl hO hS) fun _ _ _ _ _ z=>z
end Lk06
end
section
namespace Lk06
open PySem L2 Mi
noncomputable abbrev Pt:=Int×Int
noncomputable def enP (p:Pt):D:=.tup [.int p.1,.int p.2]
noncomputable abbrev Tie:=Pt×Pt
noncomputable def bM (t:Tie):D:=.tup [enP t.1,enP t.2]
theorem lU (p q:Pt):eqD (enP p) (enP q)=decide (p=q):=by
 obtain ⟨a,b⟩:=p;obtain ⟨c,d⟩:=q;by_cases h1:a=c <;> by_cases h2:b=d <;> simp [enP,eqD,tK,h1,h2]
noncomputable def ltP (p q:Pt):Prop:=p.1<q.1\/p.1=q.1/\p.2<q.2
noncomputable instance (p q:Pt):Decidable (ltP p q):=by unfold ltP;infer_instance
theorem sO (p q:Pt):dG .lt (enP p) (enP q)=some (decide (ltP p q)):=by
 obtain ⟨a,b⟩:=p;obtain ⟨c,d⟩:=q;by_cases h1:a=c <;> by_cases h2:b=d <;> simp [enP,dG,cV,eqD,h1,h2,gY.int,gY.nat,ltP]
theorem ZL (p q:Pt):dG .gt (enP p) (enP q)=some (decide (ltP q p)):=by
 obtain ⟨a,b⟩:=p;obtain ⟨c,d⟩:=q;by_cases h1:a=c
 ·by_cases h2:b=d <;> simp [enP,dG,cV,eqD,h1,h2,gY.int,gY.nat,ltP]
 ·simp [enP,dG,cV,eqD,h1,gY.int];simp only [ltP];lia
theorem nT (p q:Pt):bV .eq (enP p) (enP q)=.ok (.bl (decide (p=q))):=by
 rw [<-lU];rfl
theorem R1 (p q:Pt):bV .ne (enP p) (enP q)=.ok (.bl (!decide (p=q))):=by
 rw [<-lU];rfl
noncomputable def ends (T:List Tie):List Pt:=T.flatMap fun t=>[t.1,t.2]
noncomputable abbrev Pc:=Int×Str
noncomputable def pcD (c:Pc):D:=.tup [.int c.1,.str c.2]
theorem z2:decide ((2:Nat)<=lim)=true:=rfl
noncomputable def bO (Q:List Pc) (T:List Tie) (r:Int):D:=.tup [.tup (Q.map pcD),.tup (T.map bM),.int r]
theorem XM (Q:List Pc):(D.tup (Q.map pcD)).pure=true:=by
 show D.a_ (Q.map pcD)=true;induction Q with
 | nil=>rfl
 | cons q Q ih=>rw [List.map_cons,D.a_,ih];rfl
theorem oR (T:List Tie):(D.tup (T.map bM)).pure=true:=by
 show D.a_ (T.map bM)=true;induction T with
 | nil=>rfl
 | cons q Q ih=>rw [List.map_cons,D.a_,ih];rfl
theorem jM (l:List Pt):D.a_ (l.map enP)=true:=by
 induction l with
 | nil=>rfl
 | cons q Q ih=>rw [List.map_cons,D.a_,ih];rfl
end Lk06
end
section
namespace Lk06
open PySem L2 Mi
noncomputable def aB6:FS:=(bW (cA false 9 (b2 (aW .mul) (b2 (aW .mod) (b2 (aW .fdiv) (aF 0) (bC (.int 192))) (bC (.int 2))) (b2 (aW .add) (aF 8) (bC (.int 2)))) true) (bW (sIf (bTB (b2 (bV .eq) (aF 8) (aF 4))) (cA false 9 (bC (.int 1)) true) (jO)) (cA false 7 (b2 (aW .add) (aF 7) (b2 getD (aF 2) (b2 (aW .mod) (b2 (aW .add) (b2 (aW .fdiv) (b2 (aW .fdiv) (aF 0) (bC (.int 384))) (b2 (aW .add) (b2 (aW .mul) (aF 8) (aF 8)) (bC (.int 1)))) (b2 (aW .mul) (aF 6) (aF 9))) (bC (.int 26))))) true)))
noncomputable def aF8:FS:=(bW (cA false 7 (bC (.str "")) true) (bW (zM (jD (aC (aF 3) (aV)) mZ) (tg1 8) (bW (cA false 9 (b2 (aW .mul) (b2 (aW .mod) (b2 (aW .fdiv) (aF 0) (bC (.int 192))) (bC (.int 2))) (b2 (aW .add) (aF 8) (bC (.int 2)))) true) (bW (sIf (bTB (b2 (bV .eq) (aF 8) (aF 4))) (cA false 9 (bC (.int 1)) true) (jO)) (cA false 7 (b2 (aW .add) (aF 7) (b2 getD (aF 2) (b2 (aW .mod) (b2 (aW .add) (b2 (aW .fdiv) (b2 (aW .fdiv) (aF 0) (bC (.int 384))) (b2 (aW .add) (b2 (aW .mul) (aF 8) (aF 8)) (bC (.int 1)))) (b2 (aW .mul) (aF 6) (aF 9))) (bC (.int 26))))) true)))) (bW (BL 5 (aF 7) (b2 (aW .mod) (aF 1) (bC (.int 7)))) (cA false 1 (b2 (aW .fdiv) (aF 1) (bC (.int 7))) true))))
noncomputable def abc:Str := "abcdefghijklmnopqrstuvwxyz"
theorem letter (i:Int) (h0:0<=i) (h1:i<26):∃c:Str,getD (.str abc) (.int i)=.ok (.str c)/\c.length=1:=by
 have hl:decide (abc.length<=lim)=true:=by decide +kernel
 have h26:abc.cps.toList.length=26:=by decide +kernel
 have hix:ixD abc.cps.toList.length i=some i.toNat:=by
  unfold ixD;rw [if_pos h0,h26,if_pos (by lia)]
 have hlt:i.toNat<abc.cps.toList.length:=by rw [h26];lia
 refine ⟨⟨#[abc.cps.toList[i.toNat]]⟩,?_,rfl⟩;show (if decide (abc.length<=lim) then Res.ofOpt (((ixD abc.cps.toList.length i).bind fun j=>abc.cps.toList[j]?).map fun c=>D.str ⟨#[c]⟩) else .bad)=_;rw [hl,if_pos rfl,hix];simp only [Option.bind_some];rw [List.getElem?_eq_getElem hlt];rfl
theorem uF {c0 c1 sz at_ k:Int} {dk:D} {ab:Str} (hab:∀i:Int,0<=i->i<26->∃c:Str,getD (.str ab) (.int i)=.ok (.str c)/\c.length=1) (hk0:0<=k) (hk1:k<=10):∀(js:List Nat) (nm:Str) (x y:D),(∀j∈js,j<10)->nm.length+js.length<=1000->∃nm' x' y',nm'.length<=nm.length+js.length/\
  n8 (tg1 8) aB6 (js.map fun (j:Nat)=>D.int (0+(j:Int))) [.int c0,.int c1,.str ab,.int sz,.int at_,dk,.int k,.str nm,x,y]=.ok (.nx [.int c0,.int c1,.str ab,.int sz,.int at_,dk,.int k,.str nm',x',y'])
 | [],nm,x,y,_,_=>⟨nm,x,y,by simp,rfl⟩
 | j::js,nm,x,y,hj,hl=>by
  have hj':=hj j (List.mem_cons_self ..);rw [List.length_cons] at hl;generalize hjj:(0+(j:Int))=jj;have b0:0<=jj:=by lia
  have b1:jj<10:=by lia
  have hsq:jj*jj<100:=by
   have:jj*jj<=9*9:=Int.mul_le_mul (by lia) (by lia) b0 (by lia);lia
  have hsq0:0<=jj*jj:=Int.mul_nonneg b0 b0;have f1:=iM c0 192 (by decide) (by decide);have f2:=gQ (c0 / 192) 2 (by decide);have f3:=fJ jj 2;have f4:=Q5 (c0 / 192 % 2) (jj+2) (jU _ (by lia) (by lia));have f5:bV .eq (.int jj) (.int at_)=.ok (.bl (jj==at_)):=rfl;have f6:=iM c0 384 (by decide) (by decide);have f7:=Q5 jj jj (jU _ (by lia) (by lia));have f8:=fJ (jj*jj) 1;have f9:=iM (c0 / 384) (jj*jj+1) (by lia) (by lia);have pi:∀i:Int,(D.int i).pure=true:=fun _=>rfl
  have ps:∀i:Str,(D.str i).pure=true:=fun _=>rfl
  rw [List.map_cons,n8,hjj];have rest:∀st:Int,∃(cc:Str) (nm':Str) (x' y':D),nm'.length<=nm.length+(js.length+1)/\(cA false 7 (b2 (aW .add) (aF 7) (b2 getD (aF 2) (b2 (aW .mod) (b2 (aW .add) (b2 (aW .fdiv) (b2 (aW .fdiv) (aF 0) (bC (.int 384))) (b2 (aW .add) (b2 (aW .mul) (aF 8) (aF 8)) (bC (.int 1)))) (b2 (aW .mul) (aF 6) (aF 9))) (bC (.int 26))))) true) [.int c0,.int c1,.str ab,.int sz,.int at_,dk,.int k,.str nm,.int jj,.int st]=.ok (.nx [.int c0,.int c1,.str ab,.int sz,.int at_,dk,.int k,.str (nm++cc),.int jj,.int st])/\
    n8 (tg1 8) aB6 (js.map fun (j:Nat)=>D.int (0+(j:Int))) [.int c0,.int c1,.str ab,.int sz,.int at_,dk,.int k,.str (nm++cc),.int jj,.int st]=.ok (.nx [.int c0,.int c1,.str ab,.int sz,.int at_,dk,.int k,.str nm',x',y']):=by
   intro st;have g1:=vR k st (jU _ (by lia) (by lia));have g2:=fJ (c0 / 384 / (jj*jj+1)) (k*st);have g3:=gQ (c0 / 384 / (jj*jj+1)+k*st) 26 (by decide);obtain ⟨cc,g4,g5⟩:=hab ((c0 / 384 / (jj*jj+1)+k*st) % 26) (by lia) (by lia);have g6:=z_ nm cc (by rw [g5,bQ];lia);obtain ⟨nm',x',y',h1,h2⟩:=uF (c0:=c0) (c1:=c1) (sz:=sz) (at_:=at_) (dk:=dk) hab hk0 hk1 js (nm++cc) (.int jj) (.int st) (fun j hj2=>hj j (List.mem_cons_of_mem _ hj2)) (by rw [str_len,g5];lia);refine ⟨cc,nm',x',y',by rw [str_len,g5] at h1;lia,?_,h2⟩;exact bL (aM rfl (aM rfl (aM (aM (aM (aM rfl rfl f6) (aM (aM rfl rfl f7) rfl f8) f9) (aM rfl rfl g1) g2) rfl g3) g4) g6)
  have step:∃st:Int,aB6 [.int c0,.int c1,.str ab,.int sz,.int at_,dk,.int k,.str nm,.int jj,y]=(cA false 7 (b2 (aW .add) (aF 7) (b2 getD (aF 2) (b2 (aW .mod) (b2 (aW .add) (b2 (aW .fdiv) (b2 (aW .fdiv) (aF 0) (bC (.int 384))) (b2 (aW .add) (b2 (aW .mul) (aF 8) (aF 8)) (bC (.int 1)))) (b2 (aW .mul) (aF 6) (aF 9))) (bC (.int 26))))) true) [.int c0,.int c1,.str ab,.int sz,.int at_,dk,.int k,.str nm,.int jj,.int st]:=by
   cases he:(jj==at_) with
   | true=>
    refine ⟨1,?_⟩;exact aP (bL (aM (aM (aM rfl rfl f1) rfl f2) (aM rfl rfl f3) f4)) (aP (WT (dC (aM rfl rfl (f5.trans (by rw [he])))) rfl) rfl)
   | false=>
    refine ⟨c0 / 192 % 2*(jj+2),?_⟩;exact aP (bL (aM (aM (aM rfl rfl f1) rfl f2) (aM rfl rfl f3) f4)) (aP (WT (dC (aM rfl rfl (f5.trans (by rw [he])))) rfl) rfl)
  obtain ⟨st,step⟩:=step;obtain ⟨cc,nm',x',y',h1,s7,h2⟩:=rest st;refine ⟨nm',x',y',h1,?_⟩;have tgx:tg1 8 (.int jj) [.int c0,.int c1,.str ab,.int sz,.int at_,dk,.int k,.str nm,x,y]=.ok [.int c0,.int c1,.str ab,.int sz,.int at_,dk,.int k,.str nm,.int jj,y]:=rfl;rw [tgx,Res.aR,step,s7,Res.aR];exact h2
end Lk06
end
section
namespace Lk06
open PySem L2 Mi
noncomputable def gK (kvs:List (D×D)):Prop:=∀p∈kvs,∃(s:Str) (v:Int),p=(.str s,.int v)/\0<=v/\v<=6
theorem yU {s:Str} {v:Int} (h0:0<=v) (h1:v<=6):∀{kvs:List (D×D)},gK kvs->gK (putD kvs (.str s) (.int v))/\(putD kvs (.str s) (.int v)).length<=kvs.length+1/\putD kvs (.str s) (.int v)≠[]
 | [],h=>⟨fun p hp=>⟨s,v,by simpa [putD] using hp,h0,h1⟩,by simp [putD],by simp [putD]⟩
 | (k,w)::r,h=>by
  obtain ⟨i1,i2,i3⟩:=yU (s:=s) h0 h1 (kvs:=r) fun p hp=>h p (List.mem_cons_of_mem _ hp)
  rw [putD];split
  ·obtain ⟨s',v',e,_⟩:=h _ (List.mem_cons_self ..);cases e;refine ⟨fun p hp=>?_,by simp,by simp⟩;rcases List.mem_cons.mp hp with rfl|hp
   ·exact ⟨s',v,rfl,h0,h1⟩
   ·exact h p (List.mem_cons_of_mem _ hp)
  ·refine ⟨fun p hp=>?_,by simp only [List.length_cons];lia,by simp⟩;rcases List.mem_cons.mp hp with rfl|hp
   ·exact h _ (List.mem_cons_self ..)
   ·exact i1 p hp
theorem R3 {kvs:List (D×D)} (h:gK kvs) (s:Str):FP kvs (.str s)=true:=by
 unfold FP;rw [show keyOk (.str s)=true from rfl,Bool.true_and,List.all_eq_true];intro p hp;obtain ⟨s',v',rfl,_⟩:=h p hp;rfl
theorem range_all (n:Nat):∀j∈List.range n,j<n:=fun j hj=>List.mem_range.mp hj
theorem uG {c0 sz at_:Int} {ab:Str} (hab:∀i:Int,0<=i->i<26->∃c:Str,getD (.str ab) (.int i)=.ok (.str c)/\c.length=1) (hs0:0<=sz) (hs1:sz<=9):∀(ks:List Nat) (c1:Int) (kvs:List (D×D)) (x6 x7 x8 x9:D),(∀k∈ks,k<10)->gK kvs->kvs.length+ks.length<=1000->
  ∃c1' kvs' y6 y7 y8 y9,gK kvs'/\(ks≠[]\/kvs≠[]->kvs'≠[])/\kvs'.length<=kvs.length+ks.length/\
  n8 (tg1 6) aF8 (ks.map fun (j:Nat)=>D.int (0+(j:Int))) [.int c0,.int c1,.str ab,.int sz,.int at_,.dct kvs,x6,x7,x8,x9]=.ok (.nx [.int c0,c1',.str ab,.int sz,.int at_,.dct kvs',y6,y7,y8,y9])
 | [],c1,kvs,x6,x7,x8,x9,_,hk,_=>⟨.int c1,kvs,x6,x7,x8,x9,hk,fun h=>h.elim (fun z=>absurd rfl z) id,by simp,rfl⟩
 | k::ks,c1,kvs,x6,x7,x8,x9,hks,hk,hl=>by
  have hk':=hks k (List.mem_cons_self ..);rw [List.length_cons] at hl;generalize hkk:(0+(k:Int))=kk;obtain ⟨nm,u8,u9,_,hin⟩:=uF (c0:=c0) (c1:=c1) (sz:=sz) (at_:=at_) (k:=kk) (dk:=.dct kvs) hab (by lia) (by lia) (List.range sz.toNat) "" x8 x9 (fun j hj=>by have:=range_all _ j hj;lia) (by
   rw [List.length_range];have:("" : Str).length=0:=rfl;lia)
  obtain ⟨i1,i2,i3⟩:=yU (s:=nm) (v:=c1 % 7) (by lia) (by lia) hk;obtain ⟨c1',kvs',y6,y7,y8,y9,j1,j2,j3,j4⟩:=uG hab hs0 hs1 ks (c1 / 7) (putD kvs (.str nm) (.int (c1 % 7))) (.int kk) (.str nm) u8 u9 (fun j hj=>hks j (List.mem_cons_of_mem _ hj)) i1 (by lia);refine ⟨c1',kvs',y6,y7,y8,y9,j1,fun _=>j2 (.inr i3),by simp only [List.length_cons];lia,?_⟩;rw [List.map_cons,hkk];have m7:=gQ c1 7 (by decide);have d7:=iM c1 7 (by decide) (by decide);refine dN (ρ1:=[.int c0,.int c1,.str ab,.int sz,.int at_,.dct kvs,.int kk,x7,x8,x9]) rfl ?_ j4;refine aP (ρ':=[.int c0,.int c1,.str ab,.int sz,.int at_,.dct kvs,.int kk,.str "",x8,x9]) (bL rfl) ?_;refine aP (ρ':=[.int c0,.int c1,.str ab,.int sz,.int at_,.dct kvs,.int kk,.str nm,u8,u9]) (oM (rO (n:=sz) (aD rfl rfl) hs0 (by lia)) hin) ?_;refine aP (ρ':=[.int c0,.int c1,.str ab,.int sz,.int at_,.dct (putD kvs (.str nm) (.int (c1 % 7))),.int kk,.str nm,u8,u9]) (rP (kvs:=kvs) (aM rfl rfl m7) rfl rfl (by rw [bQ];lia) (R3 hk nm) rfl) ?_;exact bL (aM rfl rfl d7)
theorem XN (c0 c1:Int):∃kvs,gK kvs/\kvs≠[]/\kvs.length<=5/\gG [.int c0,.int c1]=.ok (.dct kvs):=by
 have m8:=gQ c0 8 (by decide);have a1:=fJ 1 (c0 % 8);have f8:=iM c0 8 (by decide) (by decide);have ms:=gQ (c0 / 8) (1+c0 % 8) (by lia);have f64:=iM c0 64 (by decide) (by decide);have m3:=gQ (c0 / 64) 3 (by decide);have a3:=fJ 3 (c0 / 64 % 3);obtain ⟨c1',kvs',y6,y7,y8,y9,j1,j2,j3,j4⟩:=uG (c0:=c0) (sz:=1+c0 % 8) (at_:=c0 / 8 % (1+c0 % 8)) (ab:=abc) letter (by lia) (by lia) (List.range (3+c0 / 64 % 3).toNat) c1 [] .uDf .uDf .uDf .uDf (fun j hj=>by have:=range_all _ j hj;lia) (fun p hp=>by cases hp) (by rw [List.length_range];simp;lia);refine ⟨kvs',j1,j2 (.inl fun z=>?_),by rw [List.length_range] at j3;simp at j3;lia,?_⟩
 ·have:=congrArg List.length z;rw [List.length_range] at this;simp at this;lia
 ·have e:lO [.int c0,.int c1,.uDf,.uDf,.uDf,.uDf,.uDf,.uDf,.uDf,.uDf]=.ok (.rt (.dct kvs')):=by
   refine aP (ρ':=[.int c0,.int c1,.str abc,.uDf,.uDf,.uDf,.uDf,.uDf,.uDf,.uDf]) (bL rfl) ?_;refine aP (ρ':=[.int c0,.int c1,.str abc,.int (1+c0 % 8),.uDf,.uDf,.uDf,.uDf,.uDf,.uDf]) (bL (aM rfl (aM rfl rfl m8) a1)) ?_;refine aP (ρ':=[.int c0,.int c1,.str abc,.int (1+c0 % 8),.int (c0 / 8 % (1+c0 % 8)),.uDf,.uDf,.uDf,.uDf,.uDf]) (bL (aM (aM rfl rfl f8) rfl ms)) ?_;refine aP (ρ':=[.int c0,.int c1,.str abc,.int (1+c0 % 8),.int (c0 / 8 % (1+c0 % 8)),.dct [],.uDf,.uDf,.uDf,.uDf]) (i_ rfl rfl) ?_;refine aP (oM (rO (n:=3+c0 / 64 % 3) (aD (aM rfl (aM (aM rfl rfl f64) rfl m3) a3) rfl) (by lia) (by lia)) j4) ?_;rfl
  show (do let r <- lO _;YT r)=_;rw [show ([D.int c0,D.int c1]++List.replicate (10-2) D.uDf)=[.int c0,.int c1,.uDf,.uDf,.uDf,.uDf,.uDf,.uDf,.uDf,.uDf] from rfl,e];rfl
end Lk06
end
section
namespace Lk06
open PySem L2 Mi
theorem R4 (L:List Pt) (i:Int) (h0:0<=i) (h1:i<L.length):∃p∈L,getD (.lst (L.map enP)) (.int i)=.ok (enP p):=by
 obtain ⟨h,e⟩:=pB (L.map enP) i h0 (by simpa using h1);rw [List.length_map] at h;refine ⟨L[i.toNat],List.getElem_mem _,?_⟩;rw [e];simp
theorem XQ (o:gY) (a b:Pt) (r:Pt->Pt->Prop) [∀x y,Decidable (r x y)] (h:∀x y,dG o (enP x) (enP y)=some (decide (r x y))):fO o [enP a,enP b]=.ok (enP (if r b a then b else a)):=by
 show j_ o [enP a,enP b]=_;have hall:([enP a,enP b].all fun x=>x.b7 aY&&[enP a,enP b].all fun y=>(dG o x y).isSome)=true:=by
  simp only [List.all_cons,List.all_nil,h,Option.isSome_some,Bool.and_true];rfl
 rw [j_,if_pos hall];simp only [List.foldl_cons,List.foldl_nil,h,Option.getD_some];by_cases hr:r b a
 ·simp [hr]
 ·simp [hr]
theorem XR {α:Type} [DecidableEq α] {L:List α} (hn:L.Nodup) {a:α} (ha:a∈L):(L.filter fun x=>!decide (x=a)).length+1=L.length:=by
 induction L with
 | nil=>cases ha
 | cons x L ih=>
  rw [List.nodup_cons] at hn;rw [List.filter_cons];by_cases h:x=a
  ·subst h;have:(L.filter fun y=>!decide (y=x))=L:=List.filter_eq_self.mpr fun y hy=>by
    have:y≠x:=fun z=>hn.1 (z▸hy)
    simp [this]
   simp [this]
  ·rw [if_pos (by simp [h])];rcases List.mem_cons.mp ha with rfl|ha
   ·exact absurd rfl h
   ·have:=ih hn.2 ha;simp only [List.length_cons];lia
theorem aB7 (L:List Pt) (more:Int) (hn:L.Nodup) (h2:2<=L.length) (hl:L.length<=100000):∃a b,a∈L/\b∈L/\ltP a b/\dO [.lst (L.map enP),.int more]=.ok (bM (a,b)):=by
 have hpos:(0:Int)<(L.length:Int):=by lia
 have g0:=gQ more L.length hpos;obtain ⟨one,h1,e1⟩:=R4 L (more % L.length) (Int.emod_nonneg _ (by lia)) (Int.emod_lt_of_pos _ hpos);have hf:=XR hn h1
 let R:=L.filter fun x=>!decide (x=one)
 have hR:R.length+1=L.length:=hf;have hRp:(0:Int)<(R.length:Int):=by lia
 have g1:=iM more L.length hpos (by lia);have g2:=gQ (more / L.length) R.length hRp;obtain ⟨other,h3,e3⟩:=R4 R (more / L.length % R.length) (Int.emod_nonneg _ (by lia)) (Int.emod_lt_of_pos _ hRp);have h4:other∈L/\other≠one:=by
  have:=List.mem_filter.mp h3;exact ⟨this.1,by simpa using this.2⟩
 have lL:fM [.lst (L.map enP)]=.ok (.int L.length):=by rw [m_,List.length_map]
 have lR:fM [.lst (R.map enP)]=.ok (.int R.length):=by rw [m_,List.length_map]
 have mn:=XQ .lt one other ltP sO;have mx:=XQ .gt one other (fun x y=>ltP y x) ZL;have tri:ltP one other\/ltP other one:=by
  have:one≠other:=fun z=>h4.2 z.symm
  simp only [ltP];by_cases hh:one.1=other.1
  ·have:one.2≠other.2:=fun z=>this (Prod.ext hh z)
   lia
  ·lia
 have T_:ltP other one->¬ltP one other:=by
  simp only [ltP];lia
 have body:nQ [.lst (L.map enP),.int more,.uDf,.uDf,.uDf]=.ok (.rt (.tup [enP (if ltP other one then other else one),enP (if ltP one other then other else one)])):=by
  refine aP (ρ':=[.lst (L.map enP),.int more,enP one,.uDf,.uDf]) (vQ (aM rfl (aM rfl (aN (aD rfl rfl) lL) g0) e1) rfl) ?_;refine aP (ρ':=[.lst (L.map enP),.int more,enP one,.lst (R.map enP),.uDf]) (bL (iK (fZ rfl rfl) (by rw [List.length_map,bQ];lia) ?_)) ?_
  ·rw [eG _ enP (fun x=>!decide (x=one)) enP]
   ·rfl
   ·intro acc p;exact oN (ρ:=[.lst (L.map enP),.int more,enP one,.uDf,.uDf]) rfl (dC (aM rfl rfl (R1 p one))) fun _=>⟨rfl,rfl⟩
  refine aP (ρ':=[.lst (L.map enP),.int more,enP one,.lst (R.map enP),enP other]) (vQ (aM rfl (aM (aM rfl (aN (aD rfl rfl) lL) g1) (aN (aD rfl rfl) lR) g2) e3) rfl) ?_;exact iV (cI (aD (aN (aD rfl (aD rfl rfl)) mn) (aD (aN (aD rfl (aD rfl rfl)) mx) rfl)) (by rw [bQ];simp)) rfl
 have ev:dO [.lst (L.map enP),.int more]=.ok (.tup [enP (if ltP other one then other else one),enP (if ltP one other then other else one)]):=by
  show (do let r <- nQ _;YT r)=_;rw [show ([D.lst (L.map enP),D.int more]++List.replicate (5-2) D.uDf)=[.lst (L.map enP),.int more,.uDf,.uDf,.uDf] from rfl,body];rfl
 rcases tri with h|h
 ·have n:¬ltP other one:=fun z=>T_ z h
  rw [if_neg n,if_pos h] at ev;exact ⟨one,other,h1,h4.1,h,ev⟩
 ·rw [if_pos h,if_neg (T_ h)] at ev;exact ⟨other,one,h4.1,h1,h,ev⟩
end Lk06
end
section
namespace Lk06
open PySem L2 Mi
noncomputable def rb1:FS:=(aCp 2 (b2 (aW .mod) (b2 (aW .add) (b2 (aW .fdiv) (aF 1) (b2 (aW .add) (aF 3) (bC (.int 1)))) (b2 (aW .mul) (aF 3) (aF 3))) (b2 (aW .add) (aF 3) (bC (.int 1)))) (b2 getD (aF 0) (aF 3)))
noncomputable def rb2:FS:=(FQ 4 (dM (aC (dM (aC (bC (.int 0)) (aC (b2 getD (aF 3) (aF 5)) (aV)))) (aC (b2 getD (aF 0) (aF 5)) (aV)))))
noncomputable def rb3:FS:=(bW (cA false 6 (VV (aF 3) (tL (b2 (aW .add) (aO fM (aC (aF 0) (aV))) (b2 (aW .mul) (bC (.int 2)) (aF 5)))) (tL (b2 (aW .add) (b2 (aW .add) (aO fM (aC (aF 0) (aV))) (b2 (aW .mul) (bC (.int 2)) (aF 5))) (bC (.int 2))))) true) (FQ 4 (dM (aC (dM (aC (bC (.int 0)) (aC (aO (fO .lt) (aC (aF 6) (aV))) (aV)))) (aC (dM (aC (bC (.int 0)) (aC (aO (fO .gt) (aC (aF 6) (aV))) (aV)))) (aV))))))
theorem yV {xs:List D} {seed:Int} (hp:∀x∈xs,x.pure=true) (hl:xs.length<=10000):∀(n k:Nat) (F:List D) (x3:D),k+n=xs.length->F.Perm (xs.take k)->∃(F':List D) (y3:D),F'.Perm xs/\
  n8 (tg1 3) rb1 ((List.range' k n).map fun (j:Nat)=>D.int (0+(j:Int))) [.lst xs,.int seed,.lst F,x3]=.ok (.nx [.lst xs,.int seed,.lst F',y3])
 | 0,k,F,x3,h1,h2=>⟨F,x3,by rw [List.take_of_length_le (by lia)] at h2;exact h2,rfl⟩
 | n+1,k,F,x3,h1,h2=>by
  rw [List.range'_succ,List.map_cons];generalize hkk:(0+(k:Int))=kk;have hkl:k<xs.length:=by lia
  have hkk':kk=(k:Int):=by lia
  have hsq:kk*kk<=10000*10000:=Int.mul_le_mul (by lia) (by lia) (by lia) (by lia);have hsq0:0<=kk*kk:=Int.mul_nonneg (by lia) (by lia);have g1:=fJ kk 1;have g2:=iM seed (kk+1) (by lia) (by lia);have g3:=Q5 kk kk (jU _ (by lia) (by lia));have g4:=fJ (seed / (kk+1)) (kk*kk);have g5:=gQ (seed / (kk+1)+kk*kk) (kk+1) (by lia);generalize hj:(seed / (kk+1)+kk*kk) % (kk+1)=j at g5;have j0:0<=j:=by rw [<-hj];exact Int.emod_nonneg _ (by lia)
  have j1:j<kk+1:=by rw [<-hj];exact Int.emod_lt_of_pos _ (by lia)
  have hF:F.length=k:=by rw [h2.length_eq,List.length_take];lia
  have hg:getD (.lst xs) (.int kk)=.ok xs[k]:=by
   obtain ⟨h,e⟩:=pB xs kk (by lia) (by lia);rw [e]
   congr 2
   lia
  have hperm:(F.take j.toNat++xs[k]::F.drop j.toNat).Perm (xs.take (k+1)):=by
   refine List.perm_middle.trans ?_;rw [List.take_append_drop,List.take_succ_eq_append_getElem hkl];exact (List.Perm.cons _ h2).trans (List.perm_append_singleton _ _).symm
  obtain ⟨F',y3,i1,i2⟩:=yV hp hl n (k+1) (F.take j.toNat++xs[k]::F.drop j.toNat) (.int kk) (by lia) hperm;refine ⟨F',y3,i1,?_⟩;refine dN (ρ1:=[.lst xs,.int seed,.lst F,.int kk]) rfl (aD7 (xs:=F) (aM (aM (aM rfl (aM rfl rfl g1) g2) (aM rfl rfl g3) g4) (aM rfl rfl g1) g5) (aM rfl rfl hg) rfl (by rw [bQ];lia) (hp _ (List.getElem_mem _)) j0 (by lia)) ?_;rw [<-i2];rfl
theorem R5 {xs:List D} (seed:Int) (hp:∀x∈xs,x.pure=true) (hl:xs.length<=10000):∃ys:List D,ys.Perm xs/\cW 2 cR [.lst xs,.int seed]=.ok (.lst ys):=by
 obtain ⟨ys,y3,h1,h2⟩:=yV (seed:=seed) hp hl xs.length 0 [] .uDf (by lia) (by simp);refine ⟨ys,h1,(eX rfl).trans ?_⟩;have e:iQ [.lst xs,.int seed,.uDf,.uDf]=.ok (.rt (.lst ys)):=by
  refine aP (ρ':=[.lst xs,.int seed,.lst [],.uDf]) (i_ rfl rfl) ?_;refine aP (ρ':=[.lst xs,.int seed,.lst ys,y3]) (oM (rO (n:=xs.length) (aD (aN (aD rfl rfl) (m_ xs)) rfl) (by lia) (by lia)) ?_) ?_
  ·rw [<-h2,show ((xs.length:Int)).toNat=xs.length by lia,List.range_eq_range'];rfl
  rfl
 show (do let r <- iQ _;YT r)=_;rw [show ([D.lst xs,D.int seed]++List.replicate (4-2) D.uDf)=[.lst xs,.int seed,.uDf,.uDf] from rfl,e];rfl
theorem HR {α:Type} (f:α->D) (g:D->α) (h:∀a,g (f a)=a) {ys:List D} {L:List α} (p:ys.Perm (L.map f)):∃L':List α,L'.Perm L/\ys=L'.map f:=by
 refine ⟨ys.map g,?_,?_⟩
 ·refine (p.map g).trans ?_;rw [List.map_map];refine List.Perm.of_eq ?_
  conv=>rhs;rw [<-List.map_id L]
  exact List.map_congr_left fun a _=>h a
 ·rw [List.map_map]
  conv=>lhs;rw [<-List.map_id ys]
  refine List.map_congr_left fun y hy=>?_
  obtain ⟨a,_,rfl⟩:=List.mem_map.mp (p.mem_iff.mp hy);show f a=f (g (f a));rw [h]
noncomputable def unI:D->Int
 | .int i=>i
 | _=>0
end Lk06
end
section
namespace Lk06
open PySem L2 Mi
noncomputable def rim (s:Int):Pt:=(0,s)
theorem sS (T:List Tie) (t:Tie):ends (T++[t])=ends T++[t.1,t.2]:=by simp [ends]
theorem aDm {bare seed:Int} {a6:D} {L:List Pt} {S:List Int} (hL:∀p∈L,0<p.1):∀(n k:Nat) (T:List Tie) (x4:D),L.length=k+n->k+n<=S.length->T.length+n<=10000->∃(T':List Tie) (y4:D),(ends T').Perm (ends T++(L.drop k++((S.drop k).take n).map rim))/\(∀t∈T',t∈T\/ltP t.1 t.2)/\T'.length=T.length+n/\
  n8 (tg1 5) rb2 ((List.range' k n).map fun (j:Nat)=>D.int (0+(j:Int))) [.lst (L.map enP),.int bare,.int seed,.lst (S.map D.int),.lst (T.map bM),x4,a6]=.ok (.nx [.lst (L.map enP),.int bare,.int seed,.lst (S.map D.int),.lst (T'.map bM),y4,a6])
 | 0,k,T,x4,h1,_,_=>⟨T,x4,by rw [List.drop_of_length_le (by lia)];simp,fun t ht=>.inl ht,rfl,rfl⟩
 | n+1,k,T,x4,h1,h2,h3=>by
  have hk1:k<L.length:=by lia
  have hk2:k<S.length:=by lia
  have e1:getD (.lst (S.map D.int)) (.int (0+(k:Int)))=.ok (.int S[k]):=by
   obtain ⟨h,e⟩:=pB (S.map D.int) (0+(k:Int)) (by lia) (by rw [List.length_map];lia);rw [e];simp
  have e2:getD (.lst (L.map enP)) (.int (0+(k:Int)))=.ok (enP L[k]):=by
   obtain ⟨h,e⟩:=pB (L.map enP) (0+(k:Int)) (by lia) (by rw [List.length_map];lia);rw [e];simp
  have hpos:=hL L[k] (List.getElem_mem _);obtain ⟨T',y4,i1,i2,i3,i4⟩:=aDm (bare:=bare) (seed:=seed) (a6:=a6) (S:=S) hL n (k+1) (T++[(rim S[k],L[k])]) (.int (0+(k:Int))) (by lia) (by lia) (by simp;lia);refine ⟨T',y4,?_,fun t ht=>?_,by rw [i3];simp;lia,?_⟩
  ·refine i1.trans ?_;rw [sS,List.append_assoc];refine List.Perm.append_left _ ?_;rw [List.drop_eq_getElem_cons hk1,List.drop_eq_getElem_cons hk2,List.take_succ_cons,List.map_cons];show (rim S[k]::L[k]::(L.drop (k+1)++((S.drop (k+1)).take n).map rim)).Perm (L[k]::(L.drop (k+1)++rim S[k]::((S.drop (k+1)).take n).map rim));exact (List.Perm.swap ..).trans (List.Perm.cons _ List.perm_middle.symm)
  ·rcases i2 t ht with h|h
   ·rcases List.mem_append.mp h with h|h
    ·exact .inl h
    ·have:t=(rim S[k],L[k]):=by simpa using h
     subst this;exact .inr (.inl hpos)
   ·exact .inr h
  ·rw [List.range'_succ,List.map_cons];refine dN (ρ1:=[.lst (L.map enP),.int bare,.int seed,.lst (S.map D.int),.lst (T.map bM),.int (0+(k:Int)),a6]) rfl (x_ (xs:=T.map bM) (cI (aD (cI (aD rfl (aD (aM rfl rfl e1) rfl)) (by rw [bQ];simp)) (aD (aM rfl rfl e2) rfl)) (by rw [bQ];simp)) rfl (by rw [List.length_map,bQ];lia) rfl) ?_;rw [<-i4,List.map_append];rfl
theorem aF9 {a:FE} {l h:List D->Res (Option Int)} {ρ:List D} {x:D} {i j:Option Int} {d:D} (h1:a ρ=.ok x) (h2:l ρ=.ok i) (h3:h ρ=.ok j) (h4:VR x i j=.ok d):VV a l h ρ=.ok d:=by
 unfold VV;rw [h1,Res.aR,h2,Res.aR,h3,Res.aR,h4]
theorem R6 {a:FE} {ρ:List D} {i:Int} (h1:a ρ=.ok (.int i)):tL a ρ=.ok (some i):=by
 unfold tL;rw [h1,Res.aR];rfl
theorem aDn (o:gY) (a b:Int) (r:Int->Int->Prop) [∀x y,Decidable (r x y)] (h:∀x y,dG o (.int x) (.int y)=some (decide (r x y))):fO o [.lst [.int a,.int b]]=.ok (.int (if r b a then b else a)):=by
 show j_ o [.int a,.int b]=_;have hall:([D.int a,D.int b].all fun x=>x.b7 aY&&[D.int a,D.int b].all fun y=>(dG o x y).isSome)=true:=by
  simp only [List.all_cons,List.all_nil,h,Option.isSome_some,Bool.and_true];rfl
 rw [j_,if_pos hall];simp only [List.foldl_cons,List.foldl_nil,h,Option.getD_some];by_cases hr:r b a
 ·simp [hr]
 ·simp [hr]
theorem aDo {bare seed:Int} {L:List Pt} {S:List Int} (hS:S.Nodup) (hb:S.length<=10000):∀(n k:Nat) (T:List Tie) (x4 x6:D),L.length+2*(k+n)=S.length->T.length+n<=10000->∃(T':List Tie) (y4 y6:D),(ends T').Perm (ends T++(S.drop (L.length+2*k)).map rim)/\(∀t∈T',t∈T\/ltP t.1 t.2)/\T'.length=T.length+n/\
  n8 (tg1 5) rb3 ((List.range' k n).map fun (j:Nat)=>D.int (0+(j:Int))) [.lst (L.map enP),.int bare,.int seed,.lst (S.map D.int),.lst (T.map bM),x4,x6]=.ok (.nx [.lst (L.map enP),.int bare,.int seed,.lst (S.map D.int),.lst (T'.map bM),y4,y6])
 | 0,k,T,x4,x6,h1,_=>⟨T,x4,x6,by rw [List.drop_of_length_le (by lia)];simp,fun t ht=>.inl ht,rfl,rfl⟩
 | n+1,k,T,x4,x6,h1,h3=>by
  have hi:L.length+2*k<S.length:=by lia
  have hi2:L.length+2*k+1<S.length:=by lia
  have hd:S.drop (L.length+2*k)=S[L.length+2*k]::S[L.length+2*k+1]::S.drop (L.length+2*(k+1)):=by
   rw [List.drop_eq_getElem_cons hi,List.drop_eq_getElem_cons hi2];rfl
  generalize ha:S[L.length+2*k]=a at hd;generalize hb':S[L.length+2*k+1]=b at hd;have hab:a≠b:=by
   have:=(List.drop_sublist (L.length+2*k) S).nodup hS;rw [hd,List.nodup_cons] at this;intro z;subst z;exact this.1 (List.mem_cons_self ..)
  have lL:fM [.lst (L.map enP)]=.ok (.int L.length):=by rw [m_,List.length_map]
  generalize hkk:(0+(k:Int))=kk;have m2:=vR 2 kk (jU _ (by lia) (by lia));have a1:=fJ L.length (2*kk);have a2:=fJ (L.length+2*kk) 2;have sl:VR (.lst (S.map D.int)) (some (L.length+2*kk)) (some (L.length+2*kk+2))=.ok (.lst [.int a,.int b]):=by
   simp only [VR,pC,if_true]
   congr 2
   have e1:UJ (S.map D.int).length 0 (some ((L.length:Int)+2*kk))=L.length+2*k:=by
    simp only [UJ,List.length_map];rw [if_neg (by lia)];lia
   have e2:UJ (S.map D.int).length (S.map D.int).length (some ((L.length:Int)+2*kk+2))=L.length+2*k+2:=by
    simp only [UJ,List.length_map];rw [if_neg (by lia)];lia
   unfold cutD;rw [e1,e2,<-List.map_drop,hd,show L.length+2*k+2-(L.length+2*k)=2 by lia];rfl
  have mn:=aDn .lt a b (fun x y=>x<y) fun x y=>rfl
  have mx:=aDn .gt a b (fun x y=>y<x) fun x y=>rfl
  have main:∃u v:Int,(u=a/\v=b\/u=b/\v=a)/\u<v/\fO .lt [.lst [.int a,.int b]]=.ok (.int u)/\fO .gt [.lst [.int a,.int b]]=.ok (.int v):=by
   by_cases hlt:b<a
   ·rw [if_pos hlt] at mn;rw [if_neg (by lia)] at mx;exact ⟨b,a,.inr ⟨rfl,rfl⟩,hlt,mn,mx⟩
   ·rw [if_neg hlt] at mn;rw [if_pos (by lia)] at mx;exact ⟨a,b,.inl ⟨rfl,rfl⟩,by lia,mn,mx⟩
  obtain ⟨u,v,huv,hlt,mn,mx⟩:=main;obtain ⟨T',y4,y6,i1,i2,i3,i4⟩:=aDo (bare:=bare) (seed:=seed) (L:=L) hS hb n (k+1) (T++[(rim u,rim v)]) (.int kk) (.lst [.int a,.int b]) (by lia) (by simp;lia);refine ⟨T',y4,y6,?_,fun t ht=>?_,by rw [i3];simp;lia,?_⟩
  ·refine i1.trans ?_;rw [sS,List.append_assoc];refine List.Perm.append_left _ ?_;rw [hd];rcases huv with ⟨rfl,rfl⟩|⟨rfl,rfl⟩
   ·exact List.Perm.refl _
   ·exact List.Perm.swap ..
  ·rcases i2 t ht with h|h
   ·rcases List.mem_append.mp h with h|h
    ·exact .inl h
    ·have:t=(rim u,rim v):=by simpa using h
     subst this;exact .inr (.inr ⟨rfl,hlt⟩)
   ·exact .inr h
  ·rw [List.range'_succ,List.map_cons,hkk];refine dN (ρ1:=[.lst (L.map enP),.int bare,.int seed,.lst (S.map D.int),.lst (T.map bM),.int kk,x6]) rfl (aP (ρ':=[.lst (L.map enP),.int bare,.int seed,.lst (S.map D.int),.lst (T.map bM),.int kk,.lst [.int a,.int b]]) (bL (aF9 rfl (R6 (aM (aN (aD rfl rfl) lL) (aM rfl rfl m2) a1)) (R6 (aM (aM (aN (aD rfl rfl) lL) (aM rfl rfl m2) a1) rfl a2)) sl)) (x_ (xs:=T.map bM) (cI (aD (cI (aD rfl (aD (aN (aD rfl rfl) mn) rfl)) (by rw [bQ];simp)) (aD (cI (aD rfl (aD (aN (aD rfl rfl) mx) rfl)) (by rw [bQ];simp)) rfl)) (by rw [bQ];simp)) rfl (by rw [List.length_map,bQ];lia) rfl)) ?_;rw [<-i4,List.map_append];rfl
theorem R7 (L:List Pt) (bare:Nat) (seed:Int) (hL:∀p∈L,0<p.1) (hl:L.length+2*bare<=5000):∃(R:List Tie) (S:List Int),S.Nodup/\S.Perm ((List.range S.length).map fun (k:Nat)=>(k:Int))/\(ends R).Perm (L++S.map rim)/\(∀t∈R,ltP t.1 t.2)/\R.length=L.length+bare/\fK [.lst (L.map enP),.int bare,.int seed]=.ok (.lst (R.map bM)):=by
 have lL:fM [.lst (L.map enP)]=.ok (.int L.length):=by rw [m_,List.length_map]
 have m2:=vR 2 (bare:Int) (jU _ (by lia) (by lia));have a1:=fJ L.length (2*(bare:Int));have hr:G_ [.int (L.length+2*(bare:Int))]=.ok (.lst (((List.range (L.length+2*bare)).map fun (k:Nat)=>(k:Int)).map D.int)):=by
  show (if decide (-1000000<=(L.length:Int)+2*(bare:Int))&&decide ((L.length:Int)+2*(bare:Int)<=1000000) then Res.ok (D.lst ((List.range ((L.length:Int)+2*(bare:Int)).toNat).map fun (k:Nat)=>D.int k)) else .bad)=_;rw [if_pos (by rw [decide_eq_true (by lia),decide_eq_true (by lia)];rfl),show ((L.length:Int)+2*(bare:Int)).toNat=L.length+2*bare by lia,List.map_map];rfl
 obtain ⟨ys,p0,s4⟩:=R5 (xs:=((List.range (L.length+2*bare)).map fun (k:Nat)=>(k:Int)).map D.int) seed (fun x hx=>by
  obtain ⟨a,_,rfl⟩:=List.mem_map.mp hx;rfl) (by simp;lia)
 obtain ⟨S,pS,rfl⟩:=HR D.int unI (fun _=>rfl) p0;have s1:S.length=L.length+2*bare:=by rw [pS.length_eq];simp
 have s2:∀s∈S,0<=s/\s<S.length:=fun s hs=>by
  obtain ⟨k,hk,rfl⟩:=List.mem_map.mp (pS.mem_iff.mp hs);have:=List.mem_range.mp hk;lia
 have s3:S.Nodup:=pS.nodup_iff.mpr (List.Pairwise.map _ (fun a b hab z=>hab (by lia)) List.nodup_range);obtain ⟨T1,z4,t1,t2,t3,t4⟩:=aDm (bare:=bare) (seed:=seed) (a6:=.uDf) (L:=L) (S:=S) hL L.length 0 [] .uDf (by lia) (by lia) (by simp;lia);obtain ⟨T2,w4,w6,u1,u2,u3,u4⟩:=aDo (bare:=bare) (seed:=seed) (L:=L) (S:=S) s3 (by lia) bare 0 T1 z4 .uDf (by lia) (by rw [t3];simp;lia);refine ⟨T2,S,s3,by rw [s1];exact pS,?_,fun t ht=>?_,by rw [u3,t3];simp,?_⟩
 ·refine u1.trans ?_;have t1':(ends T1).Perm (L++(S.take L.length).map rim):=by simpa [ends] using t1
  refine (t1'.append_right _).trans ?_;rw [List.append_assoc,<-List.map_append];simp only [Nat.mul_zero,Nat.add_zero];rw [List.take_append_drop]
 ·rcases u2 t ht with h|h
  ·rcases t2 t h with h|h
   ·cases h
   ·exact h
  ·exact h
 ·have e:jV [.lst (L.map enP),.int bare,.int seed,.uDf,.uDf,.uDf,.uDf]=.ok (.rt (.lst (T2.map bM))):=by
   refine aP (ρ':=[.lst (L.map enP),.int bare,.int seed,.lst (S.map D.int),.uDf,.uDf,.uDf]) (bL (i:=3) (aN (xs:=[.lst (((List.range (L.length+2*bare)).map fun (k:Nat)=>(k:Int)).map D.int),.int seed]) (aD (aN (xs:=[.int (L.length+2*(bare:Int))]) (aD (aM (aN (aD rfl rfl) lL) (aM rfl rfl m2) a1) rfl) hr) (aD rfl rfl)) s4)) ?_;refine aP (ρ':=[.lst (L.map enP),.int bare,.int seed,.lst (S.map D.int),.lst [],.uDf,.uDf]) (i_ rfl rfl) ?_;refine aP (ρ':=[.lst (L.map enP),.int bare,.int seed,.lst (S.map D.int),.lst (T1.map bM),z4,.uDf]) (oM (rO (n:=L.length) (aD (aN (aD rfl rfl) lL) rfl) (by lia) (by lia)) ?_) ?_
   ·rw [<-t4,show ((L.length:Int)).toNat=L.length by lia,List.range_eq_range'];rfl
   refine aP (ρ':=[.lst (L.map enP),.int bare,.int seed,.lst (S.map D.int),.lst (T2.map bM),w4,w6]) (oM (rO (n:=bare) (aD rfl rfl) (by lia) (by lia)) ?_) ?_
   ·rw [<-u4,show ((bare:Int)).toNat=bare by lia,List.range_eq_range'];rfl
   rfl
  show (do let r <- jV _;YT r)=_;rw [show ([D.lst (L.map enP),D.int bare,D.int seed]++List.replicate (7-3) D.uDf)=[.lst (L.map enP),.int bare,.int seed,.uDf,.uDf,.uDf,.uDf] from rfl,e];rfl
end Lk06
end
section
namespace Lk06
open PySem L2 Mi
noncomputable def gbr:FS:=(sIf (JS (bTB (b2 (bV (.ord .lt)) (b2 (aW .mod) (aF 10) (bC (.int 8))) (bC (.int 4)))) (bTB (b2 (bV (.ord .lt)) (aO fM (aC (aF 4) (aV))) (bC (.int 24))))) (bW (cA false 7 (b2 (aW .add) (b2 (aW .add) (aF 7) (bC (.int 1))) (b2 (aW .mod) (b2 (aW .fdiv) (aF 11) (aO fM (aC (aF 3) (aV)))) (b2 (aW .pow) (bC (.int 10)) (bC (.int 9))))) true) (bW (FQ 4 (dM (aC (aF 7) (aC (b2 getD (aF 3) (b2 (aW .mod) (aF 11) (aO fM (aC (aF 3) (aV))))) (aV))))) (cA false 5 (b2 (aW .add) (aF 5) (eU 13 (jD (aC (b2 (aW .add) (b2 getD (aF 0) (b2 getD (aF 3) (b2 (aW .mod) (aF 11) (aO fM (aC (aF 3) (aV)))))) (bC (.int 1))) (aV)) mZ) j7 (lD) (dM (aC (aF 7) (aC (aF 13) (aV)))) false)) true))) (sIf (JS (bTB (bCh (bV (.ord .le)) (bV (.ord .lt)) (bC (.int 4)) (b2 (aW .mod) (aF 10) (bC (.int 8))) (bC (.int 6)))) (bTB (b2 (bV (.ord .gt)) (aO fM (aC (aF 12) (aV))) (bC (.int 1))))) (bW (FQ 6 (aO (cW 2 dO) (aC (aF 12) (aC (aF 11) (aV))))) (cA false 5 (eU 13 (dJ (aF 5) false) j7 (bTB (b2 (bV .notin) (aF 13) (b2 getD (aF 6) (b1 O3 (bC (.int 1)))))) (aF 13) false) true)) (sIf (bTB (b2 (bV .eq) (b2 (aW .mod) (aF 10) (bC (.int 8))) (bC (.int 6)))) (cA false 8 (b2 (aW .add) (aF 8) (bC (.int 1))) true) (sIf (bTB (b2 (bV .eq) (b2 (aW .mod) (aF 10) (bC (.int 8))) (bC (.int 7)))) (cA false 9 (b2 (aW .add) (aF 9) (b2 (aW .mod) (aF 11) (b2 (aW .pow) (bC (.int 10)) (bC (.int 50))))) true) (jO)))))
noncomputable def R8:FS:=(bW (cA false 11 (b2 (aW .fdiv) (aF 10) (bC (.int 8))) true) (bW (sAl 12 5) (bW (sIf (bTB (b2 (bV .eq) (b2 (aW .mod) (aF 10) (bC (.int 8))) (bC (.int 5)))) (cA false 12 (eU 13 (dJ (aF 5) false) j7 (bTB (b2 (bV .eq) (b2 getD (aF 13) (bC (.int 1))) (bC (.int 0)))) (aF 13) false) true) (jO)) gbr)))
noncomputable def vOf (kvs:List (D×D)) (s:Str):Nat:=match cY kvs (.str s) with
 | some (.int v)=>v.toNat
 | _=>0
theorem aDp {kvs:List (D×D)} {s:Str} {v:Nat} (h:cY kvs (.str s)=some (.int v)):vOf kvs s=v:=by
 unfold vOf;rw [h];rfl
noncomputable def aFr (kvs:List (D×D)) (pc:Pc):List Pt:=(List.range (vOf kvs pc.2+1)).map fun (h:Nat)=>((pc.1,(h:Int)):Pt)
noncomputable def hks (kvs:List (D×D)) (Q:List Pc):List Pt:=Q.flatMap (aFr kvs)
structure Gr (kvs:List (D×D)) (Q:List Pc) (L:List Pt) (T:List Tie) (num:Int):Prop where
 nd:(ends T++L).Nodup
 qn:(Q.map (·.1)).Nodup
 qb:∀pc∈Q,0<pc.1/\pc.1<=num
 n0:0<=num
 chf:∀pc∈Q,(pc.1,(0:Int))∈ends T++L
 num:∀e∈ends T++L,e.1∈Q.map (·.1)
 lt:∀t∈T,ltP t.1 t.2
 ll:L.length<=7*Q.length
 ql:Q.length<=24
 qs:Q.Pairwise fun a b=>a.1<b.1
 pm:(ends T++L).Perm (hks kvs Q)
 sk:∀pc∈Q,∃v:Nat,v<=6/\cY kvs (.str pc.2)=some (.int v)
theorem Gr.perm {kvs:List (D×D)} {Q:List Pc} {L L':List Pt} {T T':List Tie} {num:Int} (g:Gr kvs Q L T num) (p:(ends T'++L').Perm (ends T++L)) (hlt:∀t∈T',ltP t.1 t.2) (hl:L'.length<=L.length):Gr kvs Q L' T' num:=
 ⟨p.nodup_iff.mpr g.nd,g.qn,g.qb,g.n0,fun pc h=>p.mem_iff.mpr (g.chf pc h),fun e h=>g.num e (p.mem_iff.mp h),hlt,Nat.le_trans hl g.ll,g.ql,g.qs,p.trans g.pm,g.sk⟩
theorem Gr.ln {kvs:List (D×D)} {Q:List Pc} {L:List Pt} {T:List Tie} {num:Int} (g:Gr kvs Q L T num):L.Nodup:=(List.nodup_append.mp g.nd).2.1
theorem Gr.tie {kvs:List (D×D)} {Q:List Pc} {L:List Pt} {T:List Tie} {num:Int} (g:Gr kvs Q L T num) {a b:Pt} (ha:a∈L) (hb:b∈L) (h:ltP a b):Gr kvs Q (L.filter fun x=>!(decide (a=x)||decide (b=x))) (T++[(a,b)]) num:=by
 have hab:a≠b:=fun z=>by subst z;simp only [ltP] at h;lia
 have split:∀{L:List Pt},L.Nodup->a∈L->b∈L->(a::b::L.filter fun x=>!(decide (a=x)||decide (b=x))).Perm L:=by
  intro L hn ha hb;refine (List.perm_iff_count).mpr fun x=>?_
  rw [List.count_cons,List.count_cons];have hc:∀{M:List Pt} (y:Pt),M.Nodup->List.count y M=if y∈M then 1 else 0:=fun {M} y hm=>List.Nodup.count hm
  rw [hc x hn,hc x (List.filter_sublist.nodup hn)];simp only [List.mem_filter,Bool.not_eq_true',Bool.or_eq_false_iff,decide_eq_false_iff_not,beq_iff_eq];by_cases h1:a=x
  ·subst h1;have:¬b=a:=fun z=>hab z.symm
   simp [ha,this]
  ·by_cases h2:b=x
   ·subst h2;simp [hb,h1]
   ·simp [h1,h2]
 refine g.perm ?_ (fun t ht=>?_) (List.length_filter_le ..)
 ·rw [sS,List.append_assoc];exact List.Perm.append_left _ (split g.ln ha hb)
 ·rcases List.mem_append.mp ht with ht|ht
  ·exact g.lt t ht
  ·have:t=(a,b):=by simpa using ht
   subst this;exact h
theorem Gr.piece {kvs:List (D×D)} {Q:List Pc} {L:List Pt} {T:List Tie} {num:Int} (g:Gr kvs Q L T num) {n:Int} {s:Str} {v:Nat} (hn:num<n) (hv:v<=6) (hlk:cY kvs (.str s)=some (.int v)) (hq:Q.length<24):Gr kvs (Q++[(n,s)]) (L++(List.range (v+1)).map fun (h:Nat)=>((n,(h:Int)):Pt)) T n:=by
 have old:∀e∈ends T++L,e.1<=num:=fun e he=>by
  obtain ⟨pc,h1,h2⟩:=List.mem_map.mp (g.num e he);have:=g.qb pc h1;lia
 have newm:∀e∈(List.range (v+1)).map (fun (h:Nat)=>((n,(h:Int)):Pt)),e.1=n:=fun e he=>by
  obtain ⟨h,_,rfl⟩:=List.mem_map.mp he;rfl
 refine ⟨?_,?_,fun pc h=>?_,by have:=g.n0;lia,fun pc h=>?_,fun e he=>?_,g.lt,?_,by simp;lia,List.pairwise_append.mpr ⟨g.qs,by simp,fun a ha b hb=>by have:=g.qb a ha;rw [show b=(n,s) from by simpa using hb];show a.1<n;lia⟩,?_,fun pc h=>?_⟩
 ·rw [<-List.append_assoc];refine List.nodup_append.mpr ⟨g.nd,?_,fun a ha b hb z=>?_⟩
  ·refine List.Pairwise.map _ ?_ List.nodup_range;intro a b hab z;have:(a:Int)=b:=congrArg Prod.snd z;lia
  ·subst z;have:=old a ha;rw [newm a hb] at this;lia
 ·rw [List.map_append];refine List.nodup_append.mpr ⟨g.qn,by simp,fun a ha b hb z=>?_⟩;subst z;obtain ⟨pc,h1,h2⟩:=List.mem_map.mp ha;have:=g.qb pc h1;have:a=n:=by simpa using hb
  lia
 ·rcases List.mem_append.mp h with h|h
  ·have:=g.qb pc h;lia
  ·have:pc=(n,s):=by simpa using h
   subst this;have:=g.n0;show 0<n/\n<=n;lia
 ·rw [<-List.append_assoc];rcases List.mem_append.mp h with h|h
  ·exact List.mem_append_left _ (g.chf pc h)
  ·have:pc=(n,s):=by simpa using h
   subst this;exact List.mem_append_right _ (List.mem_map.mpr ⟨0,by simp,rfl⟩)
 ·rw [<-List.append_assoc] at he;rw [List.map_append];rcases List.mem_append.mp he with he|he
  ·exact List.mem_append_left _ (g.num e he)
  ·rw [newm e he];exact List.mem_append_right _ (by simp)
 ·have:=g.ll;simp;lia
 ·rw [<-List.append_assoc];have e:hks kvs (Q++[(n,s)])=hks kvs Q++(List.range (v+1)).map fun (h:Nat)=>((n,(h:Int)):Pt):=by
   simp only [hks,List.flatMap_append,List.flatMap_cons,List.flatMap_nil,List.append_nil,aFr,aDp hlk]
  rw [e];exact g.pm.append_right _
 ·rcases List.mem_append.mp h with h|h
  ·exact g.sk pc h
  ·have:pc=(n,s):=by simpa using h
   subst this;exact ⟨v,hv,hlk⟩
end Lk06
end
section
namespace Lk06
open PySem L2 Mi
section
variable {kvs:List (D×D)} {cells:D} {seed:Int} {NS:List Str}
@[reducible] noncomputable def St (kvs:List (D×D)) (cells:D) (seed:Int) (NS:List Str) (Q:List Pc) (L:List Pt) (T:List Tie) (num bare rings:Int) (c m sm:D):List D:=
 [.dct kvs,cells,.int seed,.lst (NS.map D.str),.lst (Q.map pcD),.lst (L.map enP),.lst (T.map bM),.int num,.int bare,.int rings,c,m,sm]
theorem aDq {Q:List Pc} {L:List Pt} {T:List Tie} {num bare rings c:Int} {m sm:D} (hl:L.length<=10000):∃SM:List Pt,SM.Sublist L/\∀r,gbr (St kvs cells seed NS Q L T num bare rings (.int c) (.int (c / 8)) (.lst (SM.map enP)))=r->R8 (St kvs cells seed NS Q L T num bare rings (.int c) m sm)=r:=by
 have f8:=iM c 8 (by decide) (by decide);have m8:=gQ c 8 (by decide);have ce:bV .eq (.int (c % 8)) (.int 5)=.ok (.bl (c % 8==5)):=rfl;have s1:cA false 11 (b2 (aW .fdiv) (aF 10) (bC (.int 8))) true (St kvs cells seed NS Q L T num bare rings (.int c) m sm)=.ok (.nx (St kvs cells seed NS Q L T num bare rings (.int c) (.int (c / 8)) sm)):=bL (aM rfl rfl f8);have s2:sAl 12 5 (St kvs cells seed NS Q L T num bare rings (.int c) (.int (c / 8)) sm)=.ok (.nx (St kvs cells seed NS Q L T num bare rings (.int c) (.int (c / 8)) (.lst (L.map enP)))):=aF2 rfl;have tc:bTB (b2 (bV .eq) (b2 (aW .mod) (aF 10) (bC (.int 8))) (bC (.int 5))) (St kvs cells seed NS Q L T num bare rings (.int c) (.int (c / 8)) (.lst (L.map enP)))=.ok (c % 8==5):=dC (aM (aM rfl rfl m8) rfl ce);unfold R8;cases h:(c % 8==5) with
 | true=>
  rw [h] at tc;refine ⟨L.filter fun x=>x.2==0,List.filter_sublist,fun r hr=>?_⟩;have cf:eU 13 (dJ (aF 5) false) j7 (bTB (b2 (bV .eq) (b2 getD (aF 13) (bC (.int 1))) (bC (.int 0)))) (aF 13) false (St kvs cells seed NS Q L T num bare rings (.int c) (.int (c / 8)) (.lst (L.map enP)))=.ok (.lst ((L.filter fun x=>x.2==0).map enP)):=by
   refine iK (fZ rfl rfl) (by rw [List.length_map,bQ];lia) ?_;rw [eG _ enP (fun x=>x.2==0) enP]
   ·rfl
   ·intro acc p;have e1:b2 getD (aF 13) (bC (.int 1)) (St kvs cells seed NS Q L T num bare rings (.int c) (.int (c / 8)) (.lst (L.map enP))++[enP p])=.ok (.int p.2):=aM (x:=enP p) (y:=.int 1) rfl rfl rfl;have e2:bV .eq (.int p.2) (.int 0)=.ok (.bl (p.2==0)):=rfl;exact oN (ρ:=St kvs cells seed NS Q L T num bare rings (.int c) (.int (c / 8)) (.lst (L.map enP))) rfl (dC (aM e1 rfl e2)) fun _=>⟨rfl,rfl⟩
  have s3:sIf (bTB (b2 (bV .eq) (b2 (aW .mod) (aF 10) (bC (.int 8))) (bC (.int 5)))) (cA false 12 (eU 13 (dJ (aF 5) false) j7 (bTB (b2 (bV .eq) (b2 getD (aF 13) (bC (.int 1))) (bC (.int 0)))) (aF 13) false) true) jO (St kvs cells seed NS Q L T num bare rings (.int c) (.int (c / 8)) (.lst (L.map enP)))=.ok (.nx (St kvs cells seed NS Q L T num bare rings (.int c) (.int (c / 8)) (.lst ((L.filter fun x=>x.2==0).map enP)))):=CP tc (bL cf);exact aP s1 (aP s2 (aP s3 hr))
 | false=>
  rw [h] at tc;refine ⟨L,List.Sublist.refl _,fun r hr=>?_⟩;exact aP s1 (aP s2 (aP (oK tc rfl) hr))
theorem jQ (NS:List Str) (i:Int) (h0:0<=i) (h1:i<NS.length):∃s∈NS,getD (.lst (NS.map D.str)) (.int i)=.ok (.str s):=by
 obtain ⟨h,e⟩:=pB (NS.map D.str) i h0 (by simpa using h1);rw [List.length_map] at h;refine ⟨NS[i.toNat],List.getElem_mem _,?_⟩;rw [e];simp
theorem yW {s:Str}:∀{kvs:List (D×D)},gK kvs->D.str s∈eE kvs->∃v:Nat,v<=6/\cY kvs (.str s)=some (.int v)
 | [],_,hm=>by cases hm
 | p::r,h,hm=>by
  obtain ⟨s',v,rfl,h0,h1⟩:=h _ (List.mem_cons_self ..);rw [cY];by_cases e:eqD (.str s') (.str s)=true
  ·rw [if_pos e];exact ⟨v.toNat,by lia,by congr 2;lia⟩
  ·rw [if_neg e];refine yW (fun p hp=>h p (List.mem_cons_of_mem _ hp)) ?_;rcases List.mem_cons.mp (show D.str s∈D.str s'::eE r from hm) with z|z
   ·cases z;exact absurd (by simp [eqD]) e
   ·exact z
theorem aGh (Q:List Pc):fM [.lst (Q.map pcD)]=.ok (.int Q.length):=by rw [m_,List.length_map]
theorem aFa (Q:List Str):fM [.lst (Q.map D.str)]=.ok (.int Q.length):=by rw [m_,List.length_map]
theorem aGi (Q:List Pt):fM [.lst (Q.map enP)]=.ok (.int Q.length):=by rw [m_,List.length_map]
end
end Lk06
end
section
namespace Lk06
open PySem L2 Mi
section
variable {kvs:List (D×D)} {cells:D} {seed:Int} {NS:List Str}
theorem aB8 (hst:gK kvs) (hNS:eE kvs=NS.map D.str) (hne:NS≠[]) (hNl:NS.length<=1000) {Q:List Pc} {L:List Pt} {T:List Tie} {num rings c:Int} {bare:Nat} {m sm:D} (g:Gr kvs Q L T num) (hT:T.length<=1000) (hb:bare<=1000) (hr:0<=rings) :
  ∃(Q':List Pc) (L':List Pt) (T':List Tie) (num' rings':Int) (bare':Nat) (m' sm':D),Gr kvs Q' L' T' num'/\0<=rings'/\T'.length<=T.length+1/\bare'<=bare+1/\R8 (St kvs cells seed NS Q L T num bare rings (.int c) m sm)=.ok (.nx (St kvs cells seed NS Q' L' T' num' bare' rings' (.int c) m' sm')):=by
 have hll:=g.ll;have hql:=g.ql;obtain ⟨SM,hSM,pre⟩:=aDq (kvs:=kvs) (cells:=cells) (seed:=seed) (NS:=NS) (Q:=Q) (L:=L) (T:=T) (num:=num) (bare:=bare) (rings:=rings) (c:=c) (m:=m) (sm:=sm) (by lia);have m8:=gQ c 8 (by decide);have c4:bV (.ord .lt) (.int (c % 8)) (.int 4)=.ok (.bl (decide (c % 8<4))):=rfl;have c60:bV (.ord .lt) (.int Q.length) (.int 24)=.ok (.bl (decide ((Q.length:Int)<24))):=rfl;have c46:bV (.ord .le) (.int 4) (.int (c % 8))=.ok (.bl (decide (4<=c % 8))):=rfl;have c66:bV (.ord .lt) (.int (c % 8)) (.int 6)=.ok (.bl (decide (c % 8<6))):=rfl;have c1:bV (.ord .gt) (.int SM.length) (.int 1)=.ok (.bl (decide ((1:Int)<SM.length))):=rfl;have e6:bV .eq (.int (c % 8)) (.int 6)=.ok (.bl (c % 8==6)):=rfl;have e7:bV .eq (.int (c % 8)) (.int 7)=.ok (.bl (c % 8==7)):=rfl;have hNp:(0:Int)<(NS.length:Int):=by
  cases NS with
  | nil=>exact absurd rfl hne
  | cons _ _=>simp
 -- the first test
 have t1:∀b,b=(decide (c % 8<4)&&decide ((Q.length:Int)<24))->JS (bTB (b2 (bV (.ord .lt)) (b2 (aW .mod) (aF 10) (bC (.int 8))) (bC (.int 4)))) (bTB (b2 (bV (.ord .lt)) (aO fM (aC (aF 4) (aV))) (bC (.int 24)))) (St kvs cells seed NS Q L T num bare rings (.int c) (.int (c / 8)) (.lst (SM.map enP)))=.ok b:=by
  rintro b rfl;cases h1:decide (c % 8<4) with
  | true=>rw [h1] at c4;exact aAq (dC (aM (aM rfl rfl m8) rfl c4)) (dC (aM (aN (aD rfl rfl) (aGh Q)) rfl c60))
  | false=>rw [h1] at c4;exact WW (dC (aM (aM rfl rfl m8) rfl c4))
 have t2:∀b,b=(decide (4<=c % 8)&&decide (c % 8<6)&&decide ((1:Int)<SM.length))->JS (bTB (bCh (bV (.ord .le)) (bV (.ord .lt)) (bC (.int 4)) (b2 (aW .mod) (aF 10) (bC (.int 8))) (bC (.int 6)))) (bTB (b2 (bV (.ord .gt)) (aO fM (aC (aF 12) (aV))) (bC (.int 1)))) (St kvs cells seed NS Q L T num bare rings (.int c) (.int (c / 8)) (.lst (SM.map enP)))=.ok b:=by
  rintro b rfl;cases h1:decide (4<=c % 8) with
  | false=>rw [h1] at c46;exact WW (dC (aGg rfl (aM rfl rfl m8) c46))
  | true=>
   rw [h1] at c46;cases h2:decide (c % 8<6) with
   | false=>rw [h2] at c66;exact WW (dC (aFp rfl (aM rfl rfl m8) c46 rfl c66))
   | true=>rw [h2] at c66;exact aAq (dC (aFp rfl (aM rfl rfl m8) c46 rfl c66)) (dC (aM (aN (aD rfl rfl) (aGi SM)) rfl c1))
 have fin:∀{r:Res Fl},gbr (St kvs cells seed NS Q L T num bare rings (.int c) (.int (c / 8)) (.lst (SM.map enP)))=r->R8 (St kvs cells seed NS Q L T num bare rings (.int c) m sm)=r:=fun {r} h=>pre r h
 cases hA:(decide (c % 8<4)&&decide ((Q.length:Int)<24)) with
 | true=>
  rw [Bool.and_eq_true,decide_eq_true_eq,decide_eq_true_eq] at hA;have T1:=t1 true (by rw [decide_eq_true hA.1,decide_eq_true hA.2];rfl);have gm:=gQ (c / 8) NS.length hNp;obtain ⟨s,hs,es⟩:=jQ NS (c / 8 % NS.length) (Int.emod_nonneg _ (by lia)) (Int.emod_lt_of_pos _ hNp);obtain ⟨v,hv,ev⟩:=yW (s:=s) hst (by rw [hNS];exact List.mem_map.mpr ⟨s,hs,rfl⟩);have gs:getD (.dct kvs) (.str s)=.ok (.int v):=by
   show (if keyOk (.str s) then Res.ofOpt (cY kvs (.str s)) else .bad)=_;rw [ev];rfl
  have f1:=iM (c / 8) NS.length hNp (by lia);obtain ⟨pw,hp,f2⟩:∃pw:Int,0<pw/\aW .pow (.int 10) (.int 9)=.ok (.int pw):=⟨10 ^ 9,by decide,Q7 9 (by decide)⟩
  have f3:=gQ (c / 8 / NS.length) pw hp;have f4:=fJ num 1;have f5:=fJ (num+1) (c / 8 / NS.length % pw);have h9:0<=c / 8 / NS.length % pw:=Int.emod_nonneg _ (by lia);generalize hn:num+1+c / 8 / NS.length % pw=n at f5;have G:=g.piece (n:=n) (s:=s) (v:=v) (by lia) hv ev (by lia);refine ⟨_,_,T,n,rings,bare,.int (c / 8),.lst (SM.map enP),G,hr,by lia,by lia,fin ?_⟩;have s1:cA false 7 (b2 (aW .add) (b2 (aW .add) (aF 7) (bC (.int 1))) (b2 (aW .mod) (b2 (aW .fdiv) (aF 11) (aO fM (aC (aF 3) (aV)))) (b2 (aW .pow) (bC (.int 10)) (bC (.int 9))))) true (St kvs cells seed NS Q L T num bare rings (.int c) (.int (c / 8)) (.lst (SM.map enP)))=.ok (.nx (St kvs cells seed NS Q L T n bare rings (.int c) (.int (c / 8)) (.lst (SM.map enP)))):=
   bL (aM (aM rfl rfl f4) (aM (aM rfl (aN (aD rfl rfl) (aFa NS)) f1) (aM rfl rfl f2) f3) f5)
  have s2:FQ 4 (dM (aC (aF 7) (aC (b2 getD (aF 3) (b2 (aW .mod) (aF 11) (aO fM (aC (aF 3) (aV))))) (aV)))) (St kvs cells seed NS Q L T n bare rings (.int c) (.int (c / 8)) (.lst (SM.map enP)))=.ok (.nx (St kvs cells seed NS (Q++[(n,s)]) L T n bare rings (.int c) (.int (c / 8)) (.lst (SM.map enP)))):=by
   have d0:dM (aC (aF 7) (aC (b2 getD (aF 3) (b2 (aW .mod) (aF 11) (aO fM (aC (aF 3) (aV))))) (aV))) (St kvs cells seed NS Q L T n bare rings (.int c) (.int (c / 8)) (.lst (SM.map enP)))=.ok (.tup [.int n,.str s]):=cI (aD rfl (aD (aM rfl (aM rfl (aN (aD rfl rfl) (aFa NS)) gm) es) rfl)) (by rw [bQ];simp);refine (x_ (i:=4) (ρ:=St kvs cells seed NS Q L T n bare rings (.int c) (.int (c / 8)) (.lst (SM.map enP))) (xs:=Q.map pcD) (d:=.tup [.int n,.str s]) d0 rfl (by rw [List.length_map,bQ];lia) rfl).trans ?_;show _=Res.ok (Fl.nx [.dct kvs,cells,.int seed,.lst (NS.map D.str),.lst ((Q++[(n,s)]).map pcD),.lst (L.map enP),.lst (T.map bM),.int n,.int bare,.int rings,.int c,.int (c / 8),.lst (SM.map enP)]);rw [List.map_append];rfl
  have cf:eU 13 (jD (aC (b2 (aW .add) (b2 getD (aF 0) (b2 getD (aF 3) (b2 (aW .mod) (aF 11) (aO fM (aC (aF 3) (aV)))))) (bC (.int 1))) (aV)) mZ) j7 (lD) (dM (aC (aF 7) (aC (aF 13) (aV)))) false (St kvs cells seed NS (Q++[(n,s)]) L T n bare rings (.int c) (.int (c / 8)) (.lst (SM.map enP)))=.ok (.lst (((List.range (v+1)).map fun (h:Nat)=>((n,(h:Int)):Pt)).map enP)):=by
   refine iK (rO (n:=(v:Int)+1) (aD (aM (aM rfl (aM rfl (aM rfl (aN (aD rfl rfl) (aFa NS)) gm) es) gs) rfl (fJ v 1)) rfl) (by lia) (by lia)) (by rw [List.length_map,List.length_range,bQ];lia) ?_;rw [eG _ (fun (k:Nat)=>D.int (0+(k:Int))) (fun _=>true) (fun (k:Nat)=>enP (n,(k:Int)))]
   ·rw [show ((v:Int)+1).toNat=v+1 by lia];rw [List.filter_eq_self.mpr (fun _ _=>rfl),List.map_map,List.nil_append];rfl
   ·intro acc k;refine oN (ρ:=St kvs cells seed NS (Q++[(n,s)]) L T n bare rings (.int c) (.int (c / 8)) (.lst (SM.map enP))) (b:=true) rfl rfl fun _=>⟨?_,rfl⟩
    have d1:dM (aC (aF 7) (aC (aF 13) (aV))) (St kvs cells seed NS (Q++[(n,s)]) L T n bare rings (.int c) (.int (c / 8)) (.lst (SM.map enP))++[D.int (0+(k:Int))])=.ok (.tup [.int n,.int (0+(k:Int))]):=cI (aD rfl (aD rfl rfl)) (by rw [bQ];simp);refine d1.trans ?_;rw [Int.zero_add];rfl
  have s3:cA false 5 (b2 (aW .add) (aF 5) (eU 13 (jD (aC (b2 (aW .add) (b2 getD (aF 0) (b2 getD (aF 3) (b2 (aW .mod) (aF 11) (aO fM (aC (aF 3) (aV)))))) (bC (.int 1))) (aV)) mZ) j7 (lD) (dM (aC (aF 7) (aC (aF 13) (aV)))) false)) true (St kvs cells seed NS (Q++[(n,s)]) L T n bare rings (.int c) (.int (c / 8)) (.lst (SM.map enP)))=.ok (.nx (St kvs cells seed NS (Q++[(n,s)]) (L++(List.range (v+1)).map fun (h:Nat)=>((n,(h:Int)):Pt)) T n bare rings (.int c) (.int (c / 8)) (.lst (SM.map enP)))):=by
   refine (bL (aM rfl cf (Q6 (L.map enP) _ (by simp only [List.length_map,List.length_range,bQ];lia) (jM _) (jM _)))).trans ?_;rw [<-List.map_append];rfl
  exact CP T1 (aP s1 (aP s2 s3))
 | false=>
  have T1:=t1 false hA.symm;cases hB:(decide (4<=c % 8)&&decide (c % 8<6)&&decide ((1:Int)<SM.length)) with
  | true=>
   have T2:=t2 true hB.symm;rw [Bool.and_eq_true,decide_eq_true_eq] at hB;obtain ⟨a,b,ha,hb',hlt,et⟩:=aB7 SM (c / 8) (hSM.nodup g.ln) (by lia) (by have:=hSM.length_le;lia);have G:=g.tie (hSM.mem ha) (hSM.mem hb') hlt;refine ⟨Q,_,T++[(a,b)],num,rings,bare,.int (c / 8),.lst (SM.map enP),G,hr,by simp,by lia,fin (oK T1 (CP T2 ?_))⟩;have s1:FQ 6 (aO (cW 2 dO) (aC (aF 12) (aC (aF 11) (aV)))) (St kvs cells seed NS Q L T num bare rings (.int c) (.int (c / 8)) (.lst (SM.map enP)))=.ok (.nx (St kvs cells seed NS Q L (T++[(a,b)]) num bare rings (.int c) (.int (c / 8)) (.lst (SM.map enP)))):=by
    have d0:aO (cW 2 dO) (aC (aF 12) (aC (aF 11) (aV))) (St kvs cells seed NS Q L T num bare rings (.int c) (.int (c / 8)) (.lst (SM.map enP)))=.ok (bM (a,b)):=aN (aD rfl (aD rfl rfl)) ((eX rfl).trans et);refine (x_ (i:=6) (ρ:=St kvs cells seed NS Q L T num bare rings (.int c) (.int (c / 8)) (.lst (SM.map enP))) (xs:=T.map bM) (d:=bM (a,b)) d0 rfl (by rw [List.length_map,bQ];lia) rfl).trans ?_;show _=Res.ok (Fl.nx [.dct kvs,cells,.int seed,.lst (NS.map D.str),.lst (Q.map pcD),.lst (L.map enP),.lst ((T++[(a,b)]).map bM),.int num,.int bare,.int rings,.int c,.int (c / 8),.lst (SM.map enP)]);rw [List.map_append];rfl
   have gl:getD (.lst ((T++[(a,b)]).map bM)) (.int (-1))=.ok (bM (a,b)):=by
    show Res.ofOpt ((ixD ((T++[(a,b)]).map bM).length (-1)).bind fun j=>((T++[(a,b)]).map bM)[j]?)=_;have:ixD ((T++[(a,b)]).map bM).length (-1)=some T.length:=by
     unfold ixD;rw [if_neg (by decide),if_pos (by simp only [List.length_map,List.length_append,List.length_cons,List.length_nil];lia)]
     congr 1
     simp only [List.length_map,List.length_append,List.length_cons,List.length_nil];lia
    rw [this];simp
   have cf:eU 13 (dJ (aF 5) false) j7 (bTB (b2 (bV .notin) (aF 13) (b2 getD (aF 6) (b1 O3 (bC (.int 1)))))) (aF 13) false (St kvs cells seed NS Q L (T++[(a,b)]) num bare rings (.int c) (.int (c / 8)) (.lst (SM.map enP)))=.ok (.lst ((L.filter fun x=>!(decide (a=x)||decide (b=x))).map enP)):=by
    refine iK (fZ rfl rfl) (by rw [List.length_map,bQ];lia) ?_;rw [eG _ enP (fun x=>!(decide (a=x)||decide (b=x))) enP]
    ·rfl
    ·intro acc p;have cn:bV .notin (enP p) (bM (a,b))=.ok (.bl (!(decide (a=p)||decide (b=p)))):=by
      show (if (enP p).b7 aY&&D.gW aY [enP a,enP b] then Res.ok (D.bl (!([enP a,enP b].any fun y=>eqD y (enP p)))) else .bad)=_;rw [if_pos (show (D.b7 aY (enP p)&&D.gW aY [enP a,enP b])=true from rfl)];simp only [List.any_cons,List.any_nil,lU,Bool.or_false]
     exact oN (ρ:=St kvs cells seed NS Q L (T++[(a,b)]) num bare rings (.int c) (.int (c / 8)) (.lst (SM.map enP))) rfl (dC (aM (x:=enP p) rfl (aM rfl (y:=.int (-1)) rfl gl) cn)) fun _=>⟨rfl,rfl⟩
   exact aP s1 (bL cf)
  | false=>
   have T2:=t2 false hB.symm;cases h6:(c % 8==6) with
   | true=>
    rw [h6] at e6;refine ⟨Q,L,T,num,rings,bare+1,.int (c / 8),.lst (SM.map enP),g,hr,by lia,by lia,fin (oK T1 (oK T2 (CP (dC (aM (aM rfl rfl m8) rfl e6)) ?_)))⟩;exact bL (aM rfl rfl (fJ bare 1))
   | false=>
    rw [h6] at e6;cases h7:(c % 8==7) with
    | true=>
     rw [h7] at e7;have f2:aW .pow (.int 10) (.int 50)=.ok (.int (10 ^ 50)):=Q7 50 (by decide);have f3:=gQ (c / 8) (10 ^ 50) (by decide);refine ⟨Q,L,T,num,rings+c / 8 % 10 ^ 50,bare,.int (c / 8),.lst (SM.map enP),g,Int.add_nonneg hr (Int.emod_nonneg _ (by decide)),by lia,by lia,fin (oK T1 (oK T2 (oK (dC (aM (aM rfl rfl m8) rfl e6)) (CP (dC (aM (aM rfl rfl m8) rfl e7)) ?_))))⟩;exact bL (aM rfl (aM rfl (aM rfl rfl f2) f3) (fJ rings _))
    | false=>
     rw [h7] at e7;exact ⟨Q,L,T,num,rings,bare,.int (c / 8),.lst (SM.map enP),g,hr,by lia,by lia,fin (oK T1 (oK T2 (oK (dC (aM (aM rfl rfl m8) rfl e6)) (oK (dC (aM (aM rfl rfl m8) rfl e7)) rfl))))⟩
end
end Lk06
end
section
namespace Lk06
open PySem L2 Mi
section
variable {kvs:List (D×D)} {cells:D} {seed:Int} {NS:List Str}
theorem yX (hst:gK kvs) (hNS:eE kvs=NS.map D.str) (hne:NS≠[]) (hNl:NS.length<=1000):∀(cs:List Int) {Q:List Pc} {L:List Pt} {T:List Tie} {num rings:Int} {bare:Nat} {x m sm:D},Gr kvs Q L T num->0<=rings->T.length+cs.length<=1000->bare+cs.length<=1000->
  ∃(Q':List Pc) (L':List Pt) (T':List Tie) (num' rings':Int) (bare':Nat) (x' m' sm':D),Gr kvs Q' L' T' num'/\0<=rings'/\T'.length<=T.length+cs.length/\bare'<=bare+cs.length/\n8 (tg1 10) R8 (cs.map D.int) (St kvs cells seed NS Q L T num bare rings x m sm)=.ok (.nx (St kvs cells seed NS Q' L' T' num' bare' rings' x' m' sm'))
 | [],Q,L,T,num,rings,bare,x,m,sm,g,hr,_,_=>⟨Q,L,T,num,rings,bare,x,m,sm,g,hr,by simp,by simp,rfl⟩
 | c::cs,Q,L,T,num,rings,bare,x,m,sm,g,hr,h1,h2=>by
  rw [List.length_cons] at h1 h2;obtain ⟨Q1,L1,T1,n1,r1,b1,m1,s1,g1,hr1,i1,i2,e1⟩:=aB8 (cells:=cells) (seed:=seed) (rings:=rings) (c:=c) (m:=m) (sm:=sm) hst hNS hne hNl g (bare:=bare) (by lia) (by lia) hr;obtain ⟨Q2,L2,T2,n2,r2,b2,x2,m2,s2,g2,hr2,j1,j2,e2⟩:=yX hst hNS hne hNl cs (rings:=r1) (bare:=b1) (x:=.int c) (m:=m1) (sm:=s1) g1 hr1 (by lia) (by lia);refine ⟨Q2,L2,T2,n2,r2,b2,x2,m2,s2,g2,hr2,by simp only [List.length_cons];lia,by simp only [List.length_cons];lia,?_⟩;exact dN (ρ1:=St kvs cells seed NS Q L T num bare rings (.int c) m sm) rfl e1 e2
end
theorem gr0 {kvs:List (D×D)}:Gr kvs [] [] [] 0:=⟨by simp [ends],by simp,by simp,by lia,by simp,by simp [ends],by simp,by simp,by simp,by simp,by simp [ends,hks],by simp⟩
end Lk06
end
section
namespace Lk06
open PySem L2 Mi
noncomputable def R9:D->Tie
 | .tup [.tup [.int a,.int b],.tup [.int c,.int d]]=>((a,b),(c,d))
 | _=>((0,0),(0,0))
theorem sV (t:Tie):R9 (bM t)=t:=rfl
noncomputable def gM (U:List Tie):List Tie:=(jC (U.map bM)).map R9
theorem g_ (U:List Tie):(gM U).Perm U:=by
 have h:=(dW (U.map bM)).map R9;rw [List.map_map] at h;have e:U.map (R9 ∘ bM)=U:=by
  conv=>rhs;rw [<-List.map_id U]
  exact List.map_congr_left fun t _=>sV t
 rw [e] at h;exact h
theorem R_ (U:List Tie):(gM U).map bM=jC (U.map bM):=by
 unfold gM;rw [List.map_map]
 conv=>rhs;rw [<-List.map_id (jC (U.map bM))]
 refine List.map_congr_left fun d hd=>?_
 obtain ⟨t,_,rfl⟩:=List.mem_map.mp ((dW (U.map bM)).mem_iff.mp hd);rfl
theorem aB9 (s t:Tie):∃k,dG .lt (bM s) (bM t)=some k:=by
 have e:dG .lt (bM s) (bM t)=(if eqD (enP s.1) (enP t.1) then (if eqD (enP s.2) (enP t.2) then some (gY.lt.nat 0 0) else dG .lt (enP s.2) (enP t.2)) else dG .lt (enP s.1) (enP t.1)):=rfl;rw [e,sO,sO];split
 ·split
  ·exact ⟨_,rfl⟩
  ·exact ⟨_,rfl⟩
 ·exact ⟨_,rfl⟩
theorem sW (U:List Tie):bF (U.map bM)=true:=by
 unfold bF;refine List.all_eq_true.mpr fun d hd=>?_
 obtain ⟨t,ht,rfl⟩:=List.mem_map.mp hd;have hk:d_ ((U.map bM).headD .non)=5:=by
  cases U with
  | nil=>cases ht
  | cons u U=>rfl
 have h5:d_ (bM t)=5:=rfl;have hp:(bM t).plain=true:=rfl;have hq:(bM t).b7 aY=true:=rfl;rw [hk,h5,hp,hq];refine List.all_eq_true.mpr fun b hb=>?_
 obtain ⟨u,_,rfl⟩:=List.mem_map.mp hb;obtain ⟨k,e⟩:=aB9 t u;rw [e];rfl
theorem wB (U:List Tie):lC [.lst (U.map bM)]=.ok (.lst ((gM U).map bM)):=by
 show (if bF (U.map bM) then Res.ok (D.lst (jC (U.map bM))) else .bad)=_;rw [sW,if_pos rfl,R_]
noncomputable def LeT (s t:Tie):Prop:=leE (bM s) (bM t)=true
theorem lV (U:List Tie):(gM U).Pairwise LeT:=by
 have h:=iT (U.map bM);rw [<-R_,List.pairwise_map] at h;exact h
theorem SJ:∀{xs ys:List Tie},xs.map bM=ys.map bM->xs=ys
 | [],[],_=>rfl
 | x::xs,y::ys,h=>by
  rw [List.map_cons,List.map_cons,List.cons.injEq] at h;have e:=congrArg R9 h.1;rw [sV,sV] at e;rw [e,SJ h.2]
 | [],_::_,h=>by cases h
 | _::_,[],h=>by cases h
theorem eq_of_sorted {U V:List Tie} (h:U.Perm V) (h1:U.Pairwise LeT) (h2:V.Pairwise LeT):U=V:=by
 refine SJ (rD (fun d hd=>?_) (h.map bM) (List.pairwise_map.mpr h1) (List.pairwise_map.mpr h2));obtain ⟨t,_,rfl⟩:=List.mem_map.mp hd;rfl
theorem XS {U V:List Tie} (h:U.Perm V):gM U=gM V:=eq_of_sorted ((g_ U).trans (h.trans (g_ V).symm)) (lV U) (lV V)
theorem aBa (a b:Int):eqD (.int a) (.int b)=(a==b):=rfl
theorem ZM (a b:Pc):∃k,dG .lt (pcD a) (pcD b)=some k/\(a.1≠b.1->k=decide (a.1<b.1)):=by
 have e:dG .lt (pcD a) (pcD b)=(if eqD (.int a.1) (.int b.1) then (if eqD (.str a.2) (.str b.2) then some (gY.lt.nat 0 0) else some (gY.lt.str a.2 b.2)) else some (gY.lt.int a.1 b.1)):=rfl;rw [e,aBa];by_cases h:a.1=b.1
 ·rw [if_pos (by simp [h])];split
  ·exact ⟨_,rfl,fun z=>absurd h z⟩
  ·exact ⟨_,rfl,fun z=>absurd h z⟩
 ·rw [if_neg (by simp [h])];exact ⟨_,rfl,fun _=>rfl⟩
theorem tX (U:List Pc):bF (U.map pcD)=true:=by
 unfold bF;refine List.all_eq_true.mpr fun d hd=>?_
 obtain ⟨t,ht,rfl⟩:=List.mem_map.mp hd;have hk:d_ ((U.map pcD).headD .non)=3:=by
  cases U with
  | nil=>cases ht
  | cons u U=>rfl
 have h5:d_ (pcD t)=3:=rfl;have hp:(pcD t).plain=true:=rfl;have hq:(pcD t).b7 aY=true:=rfl;rw [hk,h5,hp,hq];refine List.all_eq_true.mpr fun b hb=>?_
 obtain ⟨u,_,rfl⟩:=List.mem_map.mp hb;obtain ⟨k,e,_⟩:=ZM t u;rw [e];rfl
noncomputable def LtN (a b:Pc):Prop:=a.1<b.1
theorem pH (T:List Tie):D.a_ (T.map bM)=true:=oR T
theorem wC (Q:List Pc) (V:List Tie) (r:Int):(bO Q V r).pure=true:=by
 show ((D.tup (Q.map pcD)).pure&&((D.tup (V.map bM)).pure&&(true&&true)))=true;rw [XM,oR];rfl
theorem sX:∀{kvs:List (D×D)},gK kvs->∃NS:List Str,eE kvs=NS.map D.str
 | [],_=>⟨[],rfl⟩
 | p::kvs,h=>by
  obtain ⟨s,v,e,_⟩:=h p (List.mem_cons_self ..);obtain ⟨NS,ih⟩:=sX (kvs:=kvs) fun q hq=>h q (List.mem_cons_of_mem _ hq)
  refine ⟨s::NS,?_⟩;subst e;show D.str s::eE kvs=_;rw [ih];rfl
theorem K7 {kvs:List (D×D)} (h:gK kvs):V0 [.dct kvs]=.ok (.lst (eE kvs)):=by
 have e:kvs.all (fun p=>!isTup p.1)=true:=List.all_eq_true.mpr fun p hp=>by
  obtain ⟨s,v,rfl,_⟩:=h p hp;rfl
 show (if kvs.all (fun p=>!isTup p.1) then Res.ok (D.lst (eE kvs)) else .bad)=_;rw [e,if_pos rfl]
theorem XX {U W:List Pc} (p:U.Perm W) (h:W.Pairwise LtN):lC [.lst (U.map pcD)]=.ok (.lst (W.map pcD)):=by
 show (if bF (U.map pcD) then Res.ok (D.lst (jC (U.map pcD))) else .bad)=_;rw [tX,if_pos rfl]
 congr 2
 refine rD (fun d hd=>?_) ((dW _).trans (p.map pcD)) (iT _) (List.pairwise_map.mpr (h.imp fun {a b} hab=>?_))
 ·obtain ⟨t,_,rfl⟩:=List.mem_map.mp ((dW (U.map pcD)).mem_iff.mp hd);rfl
 ·have hab:a.1<b.1:=hab;obtain ⟨k,e,hk⟩:=ZM b a;have e1:=u_ (pcD b) (pcD a) k rfl rfl e;rw [hk (by lia),decide_eq_false (by lia)] at e1;unfold leE;rw [<-e1];rfl
theorem call_v {n m:Nat} {f:FS} {ds:List D} {d:D} (h:f (ds++List.replicate (m-n) D.uDf)=.ok (.rt d)):fnS n m f ds=.ok d:=by
 show (do let r <- f (ds++List.replicate (m-n) D.uDf);YT r)=_;rw [h];rfl
theorem gH {n:Nat} {t:D->Res (List D)} {c:FT} {f:FE} {k:Bool} {ρ acc bs:List D} {x y:D} {b:Bool} (hρ:ρ.length=n) (ht:t x=.ok bs) (h1:c (ρ++bs)=.ok b) (h2:b=true->f (ρ++bs)=.ok y/\(k||y.pure)=true):jE n t c f k ρ acc x=.ok (if b then acc++[y] else acc):=by
 unfold jE;rw [ht,Res.aR,xZ hρ,h1,Res.aR];cases b with
 | false=>rfl
 | true=>
  obtain ⟨h3,h4⟩:=h2 rfl;rw [if_pos rfl,h3,Res.aR,if_pos h4];rfl
theorem X3 {f:FE} {ρ:List D} {d:D} {b:Bool} (h:f ρ=.ok d) (h2:aFm d=.ok b):bTr f ρ=.ok b:=by
 unfold bTr;rw [h];exact h2
theorem SN {f:FT} {ρ:List D} {b:Bool} (h:f ρ=.ok b):pZ f ρ=.ok (!b):=by
 unfold pZ;rw [h];rfl
theorem aBr {x y:FT} {ρ:List D} {r:Res Bool} (h1:x ρ=.ok false) (h2:y ρ=r):bOr x y ρ=r:=by
 unfold bOr;rw [h1];exact h2
theorem HS {a b:FE} {ρ:List D} {r:Res D} (h1:a ρ=.ok (.bl true)) (h2:b ρ=r):p6 a b ρ=r:=by
 unfold p6;rw [h1];exact h2
theorem X4 {f:D->Res D} {a:FE} {ρ:List D} {x y:D} (h1:a ρ=.ok x) (h2:f x=.ok y):b1 f a ρ=.ok y:=by
 unfold b1;rw [h1];exact h2
theorem aBb {a:FE} {ρ:List D} {k:Bool} (h:a ρ=.ok (.bl k)):O2 a ρ=.ok (.bl (!k)):=by
 unfold O2;rw [h];rfl
theorem irr (a b:Pt) (h:ltP a b):¬ltP b a:=by
 simp only [ltP] at *;lia
section
variable (Q:List Pc) (T:List Tie) (r:Int)
theorem n0:getD (bO Q T r) (.int 0)=.ok (.tup (Q.map pcD)):=rfl
theorem n1:getD (bO Q T r) (.int 1)=.ok (.tup (T.map bM)):=rfl
theorem n2:getD (bO Q T r) (.int 2)=.ok (.int r):=rfl
end
theorem HW (T:List Tie):(ends T).length=2*T.length:=by
 induction T with
 | nil=>rfl
 | cons t T ih=>simp only [ends,List.flatMap_cons,List.length_append,List.length_cons,List.length_nil] at *;lia
theorem ends_app (T R:List Tie):ends (T++R)=ends T++ends R:=by simp [ends]
theorem SQ {V U:List Tie} (h:V.Perm U):(ends V).Perm (ends U):=by
 unfold ends;induction h with
 | nil=>exact .nil
 | cons x _ ih=>simpa using ih
 | swap x y l=>
  simp only [List.flatMap_cons];rw [<-List.append_assoc,<-List.append_assoc];exact List.Perm.append_right _ List.perm_append_comm
 | trans _ _ ih1 ih2=>exact ih1.trans ih2
theorem yZ {f g:FS} {ρ:List D} {d:D} (h:f ρ=.ok (.rt d)):bW f g ρ=.ok (.rt d):=by
 unfold bW;rw [h];rfl
noncomputable def nA:Nat->D->Bool
 | 0,_=>false
 | n+1,.tup xs=>decide (xs.length<=1000000)&&xs.all (nA n)
 | _+1,.int _=>true
 | _+1,.str _=>true
 | _+1,_=>false
theorem aBc (xs:List D) (j:Nat) (h:j<xs.length):getD (.tup xs) (.int (0+(j:Int)))=.ok xs[j]:=by
 show Res.ofOpt ((ixD xs.length (0+(j:Int))).bind fun i=>xs[i]?)=_;have e:ixD xs.length (0+(j:Int))=some j:=by
  unfold ixD;rw [if_pos (by lia),if_pos (by lia)]
  congr 1
  lia
 rw [e];show Res.ofOpt (xs[j]?)=_;rw [List.getElem?_eq_getElem h];rfl
theorem y_ {rr:List D->Res D} {xs:List D} (ih:∀d∈xs,rr [d,d]=.ok (.bl true)):∀(m k:Nat) (x:D),k+m=xs.length->∃x',n8 (tg1 2) (sIf (pZ (bTr (aO (cW 2 rr) (aC (b2 getD (aF 0) (aF 2)) (aC (b2 getD (aF 1) (aF 2)) (aV)))))) (j8 (bC (.bl false)) true) (jO)) ((List.range' k m).map fun (j:Nat)=>D.int (0+(j:Int))) [.tup xs,.tup xs,x]=.ok (.nx [.tup xs,.tup xs,x'])
 | 0,k,x,_=>⟨x,rfl⟩
 | m+1,k,x,h=>by
  obtain ⟨x',e⟩:=y_ ih m (k+1) (.int (0+(k:Int))) (by lia);have hk:k<xs.length:=by lia
  have hg:=aBc xs k hk;have hr:cW 2 rr [xs[k],xs[k]]=.ok (.bl true):=(eX rfl).trans (ih _ (List.getElem_mem hk));refine ⟨x',?_⟩;rw [List.range'_succ,List.map_cons];exact dN (ρ1:=[.tup xs,.tup xs,.int (0+(k:Int))]) (ρ2:=[.tup xs,.tup xs,.int (0+(k:Int))]) rfl (oK (SN (b:=true) (X3 (aN (xs:=[xs[k],xs[k]]) (aD (aM (x:=.tup xs) (y:=.int (0+(k:Int))) rfl rfl hg) (aD (aM (x:=.tup xs) (y:=.int (0+(k:Int))) rfl rfl hg) rfl)) hr) rfl)) rfl) e
theorem SX:∀(n:Nat) (d:D),nA n d=true->bR n [d,d]=.ok (.bl true)
 | 0,_,h=>by cases h
 | n+1,.tup xs,h=>by
  simp only [nA,Bool.and_eq_true,decide_eq_true_eq] at h;obtain ⟨hl,ha⟩:=h;obtain ⟨x',e⟩:=y_ (rr:=bR n) (xs:=xs) (fun d hd=>SX n d (List.all_eq_true.mp ha d hd)) xs.length 0 .uDf (by lia);rw [<-List.range_eq_range'] at e;have hlen:aO fM (aC (aF 1) (aV)) [.tup xs,.tup xs,.uDf]=.ok (.int xs.length):=aN (xs:=[.tup xs]) (aD rfl rfl) rfl;have hlen0:aO fM (aC (aF 0) (aV)) [.tup xs,.tup xs,.uDf]=.ok (.int xs.length):=aN (xs:=[.tup xs]) (aD rfl rfl) rfl;have hne:bV .ne (.int xs.length) (.int xs.length)=.ok (.bl false):=by
   show Res.ok (D.bl (!((xs.length:Int)==xs.length)))=_;simp
  have hr:=rO (f:=aC (aO fM (aC (aF 1) (aV))) (aV)) (ρ:=[.tup xs,.tup xs,.uDf]) (n:=(xs.length:Int)) (aD hlen rfl) (by lia) (by lia);have first:(sIf (bTr (b1 (n6 .tuple) (aF 1))) (bW (sIf (bOr (pZ (bTr (b1 (n6 .tuple) (aF 0)))) (bTB (b2 (bV .ne) (aO fM (aC (aF 0) (aV))) (aO fM (aC (aF 1) (aV)))))) (j8 (bC (.bl false)) true) (jO)) (bW (zM (jD (aC (aO fM (aC (aF 1) (aV))) (aV)) mZ) (tg1 2) (sIf (pZ (bTr (aO (cW 2 (bR n)) (aC (b2 getD (aF 0) (aF 2)) (aC (b2 getD (aF 1) (aF 2)) (aV)))))) (j8 (bC (.bl false)) true) (jO))) (j8 (bC (.bl true)) true))) (jO)) [.tup xs,.tup xs,.uDf]=.ok (.rt (.bl true)):=by
   refine CP (X3 (d:=.bl true) rfl rfl) ?_;refine aP (ρ':=[.tup xs,.tup xs,.uDf]) (oK (aBr (SN (b:=true) (X3 (d:=.bl true) rfl rfl)) (dC (aM hlen0 hlen hne))) rfl) ?_;exact aP (oM hr e) rfl
  show fnS 2 3 (jY (bR n)) [.tup xs,.tup xs]=_;refine call_v ?_;exact yZ first
 | n+1,.int i,_=>by
  show fnS 2 3 (jY (bR n)) [.int i,.int i]=_;refine call_v ?_;refine aP (ρ':=[.int i,.int i,.uDf]) (oK (X3 (d:=.bl false) rfl rfl) rfl) ?_;refine aP (ρ':=[.int i,.int i,.uDf]) (oK (X3 (d:=.bl false) rfl rfl) rfl) ?_;refine iV (d:=.bl true) (HS rfl (HS (aBb (k:=false) rfl) (aM (x:=.int i) (y:=.int i) rfl rfl ?_))) rfl;show Res.ok (D.bl (i==i))=_;simp
 | n+1,.str i,_=>by
  have e:(sIf (bTr (b1 (n6 .str) (aF 1))) (j8 (p6 (b1 (n6 .str) (aF 0)) (b2 (bV .eq) (aF 0) (aF 1))) true) (jO)) [.str i,.str i,.uDf]=.ok (.rt (.bl true)):=by
   refine CP (X3 (d:=.bl true) rfl rfl) (iV (d:=.bl true) (HS rfl (aM (x:=.str i) (y:=.str i) rfl rfl ?_)) rfl);show Res.ok (D.bl (i==i))=_;simp
  show fnS 2 3 (jY (bR n)) [.str i,.str i]=_;refine call_v ?_;refine aP (ρ':=[.str i,.str i,.uDf]) (oK (X3 (d:=.bl false) rfl rfl) rfl) ?_;exact yZ e
 | n+1,.uDf,h=>by cases h
 | n+1,.non,h=>by cases h
 | n+1,.bl _,h=>by cases h
 | n+1,.lst _,h=>by cases h
 | n+1,.dct _,h=>by cases h
 | n+1,.scr _,h=>by cases h
theorem X5 {Q:List Pc} {T:List Tie} {r:Int} (hq:Q.length<=1000) (ht:T.length<=100000):cW 2 (bR 6) [bO Q T r,bO Q T r]=.ok (.bl true):=by
 refine (eX rfl).trans (SX 6 _ ?_);have h1:nA 5 (.tup (Q.map pcD))=true:=by
  simp only [nA,Bool.and_eq_true,decide_eq_true_eq,List.length_map];refine ⟨by lia,List.all_eq_true.mpr fun d hd=>?_⟩;obtain ⟨p,_,rfl⟩:=List.mem_map.mp hd;rfl
 have h2:nA 5 (.tup (T.map bM))=true:=by
  simp only [nA,Bool.and_eq_true,decide_eq_true_eq,List.length_map];refine ⟨by lia,List.all_eq_true.mpr fun d hd=>?_⟩;obtain ⟨p,_,rfl⟩:=List.mem_map.mp hd;rfl
 show (decide (3<=1000000)&&(nA 5 (.tup (Q.map pcD))&&(nA 5 (.tup (T.map bM))&&(nA 5 (.int r)&&true))))=true;rw [h1,h2];rfl
structure Net (kvs:List (D×D)) (Q:List Pc) (T:List Tie):Prop where
 nd:(ends T).Nodup
 small:T.length<=1000
 qs:Q.Pairwise LtN
 qpos:∀pc∈Q,0<pc.1
 ql:Q.length<=24
 sk:∀pc∈Q,∃v:Nat,v<=6/\cY kvs (.str pc.2)=some (.int v)
 lt:∀t∈T,ltP t.1 t.2
 srt:T.Pairwise LeT
 rims:∃S:List Int,S.Nodup/\S.Perm ((List.range S.length).map fun (k:Nat)=>(k:Int))/\(ends T).Perm (hks kvs Q++S.map rim)
theorem aDr {kvs:List (D×D)} {Q:List Pc} {L:List Pt} {T R:List Tie} {num:Int} {S:List Int} (g:Gr kvs Q L T num) (hS:S.Nodup) (hS2:S.Perm ((List.range S.length).map fun (k:Nat)=>(k:Int))) (pR:(ends R).Perm (L++S.map rim)) (hR:∀t∈R,ltP t.1 t.2) (hsm:(T++R).length<=1000):Net kvs Q (gM (T++R)):=by
 have pE:(ends (gM (T++R))).Perm (ends T++L++S.map rim):=by
  refine (SQ (g_ _)).trans ?_;rw [ends_app,List.append_assoc];exact List.Perm.append_left _ pR
 have pos:∀e∈ends T++L,0<e.1:=fun e he=>by
  obtain ⟨pc,h1,h2⟩:=List.mem_map.mp (g.num e he);have:=(g.qb pc h1).1;lia
 refine ⟨?_,by rw [(g_ _).length_eq];exact hsm,g.qs,fun pc h=>(g.qb pc h).1,g.ql,g.sk,fun t ht=>?_,lV _,S,hS,hS2,pE.trans (g.pm.append_right _)⟩
 ·refine pE.nodup_iff.mpr (List.nodup_append.mpr ⟨g.nd,?_,fun a ha b hb z=>?_⟩)
  ·refine List.Pairwise.map _ ?_ hS;intro a b hab z;exact hab (congrArg Prod.snd z)
  ·obtain ⟨s,_,rfl⟩:=List.mem_map.mp hb;have:=pos a ha;rw [z] at this;exact absurd this (Int.lt_irrefl 0)
 ·rcases List.mem_append.mp ((g_ _).mem_iff.mp ht) with h|h
  ·exact g.lt t h
  ·exact hR t h
end Lk06
end
section
namespace Lk06
open PySem L2 Mi
theorem X6 {kvs:List (D×D)} (hst:gK kvs) (hne:kvs≠[]) (hl:kvs.length<=5) (cs:List Int) (hc:cs.length<=200) (seed:Int):∃(Q:List Pc) (V:List Tie) (r:Int),Net kvs Q V/\0<=r/\cW 3 iW [.dct kvs,.lst (cs.map D.int),.int seed]=.ok (bO Q V r):=by
 obtain ⟨NS,hNS⟩:=sX hst;have lNS:NS.length=kvs.length:=by
  have:=congrArg List.length hNS;simpa [eE] using this.symm
 have nNS:NS≠[]:=fun z=>hne (by rw [z] at lNS;exact List.length_eq_zero_iff.mp lNS.symm)
 obtain ⟨Q,L,T,num,rings,bare,x,m,sm,g,hrg,i1,i2,e1⟩:=yX (cells:=.lst (cs.map D.int)) (seed:=seed) hst hNS nNS (by lia) cs (rings:=0) (bare:=0) (x:=.uDf) (m:=.uDf) (sm:=.uDf) gr0 (Int.le_refl 0) (by simp;lia) (by lia);have lL:L.length<=420:=by have:=g.ll;have:=g.ql;lia
 have posE:∀p∈ends T++L,0<p.1:=fun p hp=>by
  obtain ⟨pc,h1,h2⟩:=List.mem_map.mp (g.num p hp);have:=(g.qb pc h1).1;lia
 simp only [List.length_nil] at i1;obtain ⟨R,S,r1,rb,r2,r3,r4,r5⟩:=R7 L bare seed (fun p hp=>posE p (List.mem_append_right _ hp)) (by lia);have lTR:(T++R).length<=1000:=by rw [List.length_append,r4];lia
 have hadd:aW .add (.lst (T.map bM)) (.lst (R.map bM))=.ok (.lst ((T++R).map bM)):=by
  rw [List.map_append];refine Q6 _ _ ?_ (pH T) (pH R);rw [List.length_map,List.length_map,bQ];rw [List.length_append] at lTR;lia
 have hrim:cW 3 fK [.lst (L.map enP),.int bare,.int seed]=.ok (.lst (R.map bM)):=(eX rfl).trans r5;have hli:=K7 hst;rw [hNS] at hli;have hin:inner (.lst ((T++R).map bM))=true:=pH _;refine ⟨Q,gM (T++R),rings,aDr g r1 rb r2 r3 lTR,hrg,(eX rfl).trans ?_⟩;have fin:lQ [.dct kvs,.lst (cs.map D.int),.int seed,.uDf,.uDf,.uDf,.uDf,.uDf,.uDf,.uDf,.uDf,.uDf,.uDf]=.ok (.rt (bO Q (gM (T++R)) rings)):=by
  refine aP (ρ':=[.dct kvs,.lst (cs.map D.int),.int seed,.lst (NS.map D.str),.uDf,.uDf,.uDf,.uDf,.uDf,.uDf,.uDf,.uDf,.uDf]) (bL (aN (aD rfl rfl) hli)) ?_;refine aP (ρ':=[.dct kvs,.lst (cs.map D.int),.int seed,.lst (NS.map D.str),.lst [],.uDf,.uDf,.uDf,.uDf,.uDf,.uDf,.uDf,.uDf]) (i_ rfl rfl) ?_;refine aP (ρ':=[.dct kvs,.lst (cs.map D.int),.int seed,.lst (NS.map D.str),.lst [],.lst [],.uDf,.uDf,.uDf,.uDf,.uDf,.uDf,.uDf]) (bL rfl) ?_;refine aP (ρ':=[.dct kvs,.lst (cs.map D.int),.int seed,.lst (NS.map D.str),.lst [],.lst [],.lst [],.uDf,.uDf,.uDf,.uDf,.uDf,.uDf]) (i_ rfl rfl) ?_;refine aP (ρ':=[.dct kvs,.lst (cs.map D.int),.int seed,.lst (NS.map D.str),.lst [],.lst [],.lst [],.int 0,.uDf,.uDf,.uDf,.uDf,.uDf]) (bL rfl) ?_;refine aP (ρ':=[.dct kvs,.lst (cs.map D.int),.int seed,.lst (NS.map D.str),.lst [],.lst [],.lst [],.int 0,.int 0,.uDf,.uDf,.uDf,.uDf]) (bL rfl) ?_;refine aP (ρ':=[.dct kvs,.lst (cs.map D.int),.int seed,.lst (NS.map D.str),.lst [],.lst [],.lst [],.int 0,.int 0,.int 0,.uDf,.uDf,.uDf]) (bL rfl) ?_;refine aP (Q3 (d:=.lst (cs.map D.int)) (xs:=cs.map D.int) rfl rfl e1) ?_;refine aP (ρ':=[.dct kvs,.lst (cs.map D.int),.int seed,.lst (NS.map D.str),.lst (Q.map pcD),.lst (L.map enP),.lst ((T++R).map bM),.int num,.int bare,.int rings,x,m,sm])
   (i_ (i:=6) (aM (x:=.lst (T.map bM)) (y:=.lst (R.map bM)) rfl (aN (xs:=[.lst (L.map enP),.int bare,.int seed]) (aD rfl (aD rfl (aD rfl rfl))) hrim) hadd) hin) ?_
  refine iV (d:=bO Q (gM (T++R)) rings) (cI (xs:=[.tup (Q.map pcD),.tup ((gM (T++R)).map bM),.int rings]) (aD (aN (xs:=[.lst (Q.map pcD)]) (aD rfl rfl) rfl) (aD (aN (xs:=[.lst ((gM (T++R)).map bM)]) (aD (aN (xs:=[.lst ((T++R).map bM)]) (aD rfl rfl) (wB _)) rfl) rfl) (aD rfl rfl))) ?_) ?_
  ·rw [bQ];show 3<=1000000;lia
  ·rw [wC];rfl
 show (do let r <- lQ _;YT r)=_;rw [show ([D.dct kvs,D.lst (cs.map D.int),D.int seed]++List.replicate (13-3) D.uDf)=[.dct kvs,.lst (cs.map D.int),.int seed,.uDf,.uDf,.uDf,.uDf,.uDf,.uDf,.uDf,.uDf,.uDf,.uDf] from rfl,fin];rfl
noncomputable def cellAt (ns:List Int) (k:Nat):Int:=ns.getD k 0
theorem cell_eq (ns:List Int) (k:Nat):cW 2 dI [.scr (ns.map D.int),.int k]=.ok (.int (cellAt ns k)):=by
 refine (eX rfl).trans ?_;have hl:fM [.scr (ns.map D.int)]=.ok (.int ns.length):=by
  show Res.ok (D.int ((ns.map D.int).length:Int))=_;rw [List.length_map]
 have hc:bV (.ord .lt) (.int k) (.int ns.length)=.ok (.bl (decide ((k:Int)<ns.length))):=rfl;show (do let r <- eN [.scr (ns.map D.int),.int k];YT r)=_;by_cases h:k<ns.length
 ·have hg:getD (.scr (ns.map D.int)) (.int k)=.ok (.int (cellAt ns k)):=by
   show Res.ofOpt ((ixD (ns.map D.int).length k).bind fun j=>(ns.map D.int)[j]?)=_;have:ixD (ns.map D.int).length k=some k:=by
    unfold ixD;rw [if_pos (by lia),if_pos (by rw [List.length_map];lia)];rfl
   rw [this];show Res.ofOpt ((ns.map D.int)[k]?)=_;rw [List.getElem?_map,List.getElem?_eq_getElem h];show Res.ok (D.int ns[k])=_;rw [cellAt,List.getD_eq_getElem?_getD,List.getElem?_eq_getElem h];rfl
  have e:eN [.scr (ns.map D.int),.int k]=.ok (.rt (.int (cellAt ns k))):=by
   have ht:(bTB (b2 (bV (.ord .lt)) (aF 1) (aO fM (aC (aF 0) (aV))))) [.scr (ns.map D.int),.int k]=.ok true:=by
    refine dC (aM rfl (aN (aD rfl rfl) hl) (hc.trans ?_));rw [decide_eq_true (by lia)]
   unfold eN bW;rw [CP (r:=.ok (.rt (.int (cellAt ns k)))) ht (iV (aM rfl rfl hg) rfl)];rfl
  rw [e];rfl
 ·have e:eN [.scr (ns.map D.int),.int k]=.ok (.rt (.int (cellAt ns k))):=by
   refine aP (oK (r:=.ok (.nx [.scr (ns.map D.int),.int k])) (dC (aM rfl (aN (aD rfl rfl) hl) (hc.trans ?_))) rfl) (iV (d:=.int (cellAt ns k)) ?_ rfl)
   ·rw [decide_eq_false (by lia)]
   ·rw [cellAt,List.getD_eq_getElem?_getD,List.getElem?_eq_none (by lia)];rfl
  rw [e];rfl
end Lk06
end
section
namespace Lk06
open PySem L2 Mi
theorem S5 {t:D->List D->Res (List D)} {body:FS} {x:D} {xs:List D} {ρ ρ1:List D} {d:D} (h1:t x ρ=.ok ρ1) (h2:body ρ1=.ok (.rt d)):n8 t body (x::xs) ρ=.ok (.rt d):=by
 rw [n8,h1,Res.aR,h2,Res.aR]
theorem S6 (p:Pt):cW 1 jW [enP p]=.ok (.bl true):=rfl
noncomputable def mtb:FS:=bW (sIf (bTB (b2 (bV .eq) (aF 2) (aF 1))) (j8 (aF 3) false) (jO)) (sIf (bTB (b2 (bV .eq) (aF 3) (aF 1))) (j8 (aF 2) false) (jO))
noncomputable def hmt:FS:=sIf (bTr (aO (cW 1 jW) (aC (aF 1) (aV)))) (zM (dJ (b2 getD (aF 0) (bC (.int 1))) false) (tgN [2,3]) mtb) (jO)
theorem aFb {n:D} {e:Pt} {t:Tie} (h:t.1=e):mtb [n,enP e,enP t.1,enP t.2]=.ok (.rt (enP t.2)):=by
 have c:=nT t.1 e;rw [decide_eq_true h] at c;exact yZ (CP (dC (aM rfl rfl c)) (iV (d:=enP t.2) rfl rfl))
theorem aFc {n:D} {e:Pt} {t:Tie} (h:t.1≠e) (h2:t.2=e):mtb [n,enP e,enP t.1,enP t.2]=.ok (.rt (enP t.1)):=by
 have c:=nT t.1 e;rw [decide_eq_false h] at c;have c2:=nT t.2 e;rw [decide_eq_true h2] at c2;exact aP (ρ':=[n,enP e,enP t.1,enP t.2]) (oK (dC (aM rfl rfl c)) rfl) (CP (dC (aM rfl rfl c2)) (iV (d:=enP t.1) rfl rfl))
theorem aDs {n:D} {e:Pt} {t:Tie} (h:t.1≠e) (h2:t.2≠e):mtb [n,enP e,enP t.1,enP t.2]=.ok (.nx [n,enP e,enP t.1,enP t.2]):=by
 have c:=nT t.1 e;rw [decide_eq_false h] at c;have c2:=nT t.2 e;rw [decide_eq_false h2] at c2;exact aP (ρ':=[n,enP e,enP t.1,enP t.2]) (oK (dC (aM rfl rfl c)) rfl) (oK (dC (aM rfl rfl c2)) rfl)
theorem dD (t:Tie) (V:List Tie):ends (t::V)=t.1::t.2::ends V:=rfl
theorem gC {V:List Tie} {t:Tie} (h:t∈V):t.1∈ends V/\t.2∈ends V:=by
 unfold ends;exact ⟨List.mem_flatMap.mpr ⟨t,h,by simp⟩,List.mem_flatMap.mpr ⟨t,h,by simp⟩⟩
theorem zA {n:D} {e:Pt}:∀(V:List Tie) (x y:D),e∉ends V->∃x' y',n8 (tgN [2,3]) mtb (V.map bM) [n,enP e,x,y]=.ok (.nx [n,enP e,x',y'])
 | [],x,y,_=>⟨x,y,rfl⟩
 | t::V,x,y,h=>by
  rw [dD,List.mem_cons,List.mem_cons,not_or,not_or] at h;obtain ⟨x',y',ih⟩:=zA (n:=n) V (enP t.1) (enP t.2) h.2.2;exact ⟨x',y',dN (ρ1:=[n,enP e,enP t.1,enP t.2]) rfl (aDs (fun z=>h.1 z.symm) fun z=>h.2.1 z.symm) ih⟩
noncomputable def j9 (V:List Tie) (e f:Pt):Prop:=(e,f)∈V\/(f,e)∈V
theorem j9.mem {V:List Tie} {e f:Pt} (h:j9 V e f):e∈ends V/\f∈ends V:=by
 rcases h with h|h
 ·exact gC h
 ·exact ⟨(gC h).2,(gC h).1⟩
theorem j9.symm {V:List Tie} {e f:Pt} (h:j9 V e f):j9 V f e:=Or.symm h
theorem sY {V:List Tie} {e:Pt} (h:e∈ends V):∃f,j9 V e f:=by
 obtain ⟨t,ht,h⟩:=List.mem_flatMap.mp h;rcases List.mem_cons.mp h with h|h
 ·exact ⟨t.2,.inl (by rw [h];exact ht)⟩
 ·exact ⟨t.1,.inr (by rw [show e=t.2 by simpa using h];exact ht)⟩
theorem lW {t:Tie} {V:List Tie} {e f:Pt} (h:j9 (t::V) e f) (h1:t.1≠e) (h2:t.2≠e):j9 V e f:=by
 rcases h with h|h
 ·rcases List.mem_cons.mp h with h|h
  ·exact absurd (by rw [<-h]) h1
  ·exact .inl h
 ·rcases List.mem_cons.mp h with h|h
  ·exact absurd (by rw [<-h]) h2
  ·exact .inr h
theorem eO {t:Tie} {V:List Tie} {e f:Pt} (hn:(ends (t::V)).Nodup) (h:j9 (t::V) e f):(t.1=e->t.2=f)/\(t.2=e->t.1=f):=by
 rw [dD,List.nodup_cons,List.nodup_cons,List.mem_cons,not_or] at hn;have key:e=t.1\/e=t.2->t=(e,f)\/t=(f,e):=fun he=>by
  have hv:e∉ends V:=by
   rcases he with he|he
   ·rw [he];exact hn.1.2
   ·rw [he];exact hn.2.1
  rcases h with h|h
  ·rcases List.mem_cons.mp h with h|h
   ·exact .inl h.symm
   ·exact absurd (gC h).1 hv
  ·rcases List.mem_cons.mp h with h|h
   ·exact .inr h.symm
   ·exact absurd (gC h).2 hv
 refine ⟨fun z=>?_,fun z=>?_⟩
 ·rcases key (.inl z.symm) with h|h
  ·rw [h]
  ·rw [h] at hn z;exact absurd (show f=e from z) hn.1.1
 ·rcases key (.inr z.symm) with h|h
  ·rw [h] at hn z;exact absurd (show e=f from z.symm) hn.1.1
  ·rw [h]
theorem lX {e f g:Pt}:∀{V:List Tie},(ends V).Nodup->j9 V e f->j9 V e g->f=g
 | [],_,h,_=>by rcases h with h|h <;> cases h
 | t::V,hn,h1,h2=>by
  by_cases z:t.1=e
  ·rw [<-(eO hn h1).1 z,<-(eO hn h2).1 z]
  ·by_cases y:t.2=e
   ·rw [<-(eO hn h1).2 y,<-(eO hn h2).2 y]
   ·rw [dD,List.nodup_cons,List.nodup_cons] at hn;exact lX hn.2.2 (lW h1 z y) (lW h2 z y)
theorem pI {e f:Pt}:∀{V:List Tie},(ends V).Nodup->j9 V e f->e≠f
 | [],_,h=>by rcases h with h|h <;> cases h
 | t::V,hn,h=>by
  have hn':=hn;rw [dD,List.nodup_cons,List.nodup_cons,List.mem_cons,not_or] at hn;by_cases z:t.1=e
  ·rw [<-z,<-(eO hn' h).1 z];exact hn.1.1
  ·by_cases y:t.2=e
   ·rw [<-y,<-(eO hn' h).2 y];exact fun q=>hn.1.1 q.symm
   ·exact pI hn.2.2 (lW h z y)
theorem zB {n:D} {e f:Pt}:∀(V:List Tie) (x y:D),(ends V).Nodup->j9 V e f->n8 (tgN [2,3]) mtb (V.map bM) [n,enP e,x,y]=.ok (.rt (enP f))
 | [],x,y,_,h=>by rcases h with h|h <;> cases h
 | t::V,x,y,hn,h=>by
  by_cases h1:t.1=e
  ·rw [<-(eO hn h).1 h1];exact S5 (ρ1:=[n,enP e,enP t.1,enP t.2]) rfl (aFb h1)
  ·by_cases h2:t.2=e
   ·rw [<-(eO hn h).2 h2];exact S5 (ρ1:=[n,enP e,enP t.1,enP t.2]) rfl (aFc h1 h2)
   ·rw [dD,List.nodup_cons,List.nodup_cons] at hn;exact dN (ρ1:=[n,enP e,enP t.1,enP t.2]) rfl (aDs h1 h2) (zB V _ _ hn.2.2 (lW h h1 h2))
section
variable {Q:List Pc} {V:List Tie} {r:Int}
theorem DG {ρ:List D}:dJ (b2 getD (aF 0) (bC (.int 1))) false (bO Q V r::ρ)=.ok (V.map bM,true):=by
 refine (fZ (d:=.tup (V.map bM)) (xs:=V.map bM) (aM rfl rfl rfl) rfl).trans ?_;rw [oR];rfl
theorem aDt {e:Pt} {x y:D} {res:Res Fl} (h:n8 (tgN [2,3]) mtb (V.map bM) [bO Q V r,enP e,x,y]=res):hmt [bO Q V r,enP e,x,y]=res:=
 CP (X3 (aN (xs:=[enP e]) (aD rfl rfl) (S6 e)) rfl) (oM DG h)
theorem wD (hn:(ends V).Nodup) {e f:Pt} (h:j9 V e f):cW 2 oO [bO Q V r,enP e]=.ok (enP f):=by
 refine (eX rfl).trans (call_v ?_);exact yZ (f:=hmt) (aDt (zB V _ _ hn h))
theorem ZP {e:Pt} (h:e∉ends V):yL [bO Q V r,enP e]=true:=by
 obtain ⟨x',y',h1⟩:=zA (n:=bO Q V r) V .uDf .uDf h;have h2:=aDt h1;show (true&&(match hmt [bO Q V r,enP e,.uDf,.uDf] with|.ok (.nx ρ')=>rT ρ'|_=>false))=true;rw [h2];rfl
end
end Lk06
end
section
namespace Lk06
open PySem L2 Mi
noncomputable def norm (t:Tie):Tie:=(if ltP t.2 t.1 then t.2 else t.1,if ltP t.1 t.2 then t.2 else t.1)
theorem DK {t:Tie} (h:ltP t.1 t.2):norm t=t:=by
 unfold norm;rw [if_neg (irr _ _ h),if_pos h]
theorem S7 {t:Tie} (h:ltP t.1 t.2):norm (t.2,t.1)=t:=by
 unfold norm;show ((if ltP t.1 t.2 then t.1 else t.2),(if ltP t.2 t.1 then t.1 else t.2))=t;rw [if_pos h,if_neg (irr _ _ h)]
noncomputable def rem (p:Pt) (V:List Tie):List Tie:=V.filter fun t=>decide (t.1≠p/\t.2≠p)
theorem qJ {p:Pt}:∀{V:List Tie},p∉ends V->rem p V=V
 | [],_=>rfl
 | t::V,h=>by
  rw [dD,List.mem_cons,List.mem_cons,not_or,not_or] at h;unfold rem;rw [List.filter_cons,if_pos (by simpa using ⟨fun z=>h.1 z.symm,fun z=>h.2.1 z.symm⟩)];show t::rem p V=t::V;rw [qJ h.2.2]
theorem wF {p a:Pt}:∀{V:List Tie},(ends V).Nodup->j9 V p a->(ends V).Perm (p::a::ends (rem p V))
 | [],_,h=>by rcases h with h|h <;> cases h
 | t::V,hn,h=>by
  have hn':=hn;rw [dD,List.nodup_cons,List.nodup_cons,List.mem_cons,not_or] at hn;by_cases h1:t.1=p
  ·have h2:=(eO hn' h).1 h1;have e:rem p (t::V)=V:=by
    unfold rem;rw [List.filter_cons,if_neg (by simp [h1])];exact qJ (by rw [<-h1];exact hn.1.2)
   rw [e,dD,h1,h2]
  ·by_cases h2:t.2=p
   ·have h3:=(eO hn' h).2 h2;have e:rem p (t::V)=V:=by
     unfold rem;rw [List.filter_cons,if_neg (by simp [h2])];exact qJ (by rw [<-h2];exact hn.2.1)
    rw [e,dD,h3,h2];exact List.Perm.swap ..
   ·have e:rem p (t::V)=t::rem p V:=by
     unfold rem;rw [List.filter_cons,if_pos (by simpa using ⟨h1,h2⟩)]
    rw [e,dD,dD];have ih:=wF hn.2.2 (lW h h1 h2);have:(t.1::t.2::p::a::ends (rem p V)).Perm (p::a::t.1::t.2::ends (rem p V)):=by
     exact List.perm_append_comm (l₁:=[t.1,t.2]) (l₂:=[p,a]) |>.append_right (ends (rem p V))
    exact (List.Perm.cons _ (List.Perm.cons _ ih)).trans this
theorem wG {p:Pt} {V:List Tie} {t:Tie}:t∈rem p V↔t∈V/\t.1≠p/\t.2≠p:=by
 unfold rem;rw [List.mem_filter,decide_eq_true_eq]
theorem X7 {p e f:Pt} {V:List Tie} (h:j9 V e f) (h1:e≠p) (h2:f≠p):j9 (rem p V) e f:=by
 rcases h with h|h
 ·exact .inl (wG.mpr ⟨h,h1,h2⟩)
 ·exact .inr (wG.mpr ⟨h,h2,h1⟩)
noncomputable def jA (V:List Tie) (p q a b:Pt):List Tie:=if a=q then rem q (rem p V) else rem q (rem p V)++[(a,b)]
theorem S8 {V:List Tie} {p q a b:Pt} (hn:(ends V).Nodup) (hpq:p≠q) (ha:j9 V p a) (hb:j9 V q b):(ends V).Perm (p::q::ends (jA V p q a b)):=by
 have h1:=wF hn ha;have hn1:=h1.nodup_iff.mp hn;rw [List.nodup_cons,List.nodup_cons,List.mem_cons,not_or] at hn1;unfold jA;by_cases e:a=q
 ·rw [if_pos e,qJ (p:=q) (by rw [<-e];exact hn1.2.1)];rw [e] at h1;exact h1
 ·rw [if_neg e,ends_app];have hbp:b≠p:=fun z=>by
   subst z;exact e (lX hn ha hb.symm)
  have h2:=wF hn1.2.2 (X7 hb (Ne.symm hpq) hbp);refine h1.trans (List.Perm.cons _ ?_);have h3:(a::ends (rem p V)).Perm (a::q::b::ends (rem q (rem p V))):=List.Perm.cons _ h2;refine h3.trans ((List.Perm.swap ..).trans (List.Perm.cons _ ?_));show ([a,b]++ends (rem q (rem p V))).Perm (ends (rem q (rem p V))++ends [(a,b)]);exact List.perm_append_comm
noncomputable def cl (k l:Int) (e:Pt):Pt:=if e.1=0 then (0,e.2-((if k<e.2 then 1 else 0)+(if l<e.2 then 1 else 0))) else e
theorem ZQ (k l:Int) (e:Pt):(cl k l e).1=e.1:=by
 unfold cl;split
 ·rename_i h;rw [h]
 ·rfl
theorem aDu {k l:Int} (hkl:k≠l) {e f:Pt} (he:e≠(0,k)/\e≠(0,l)) (hf:f≠(0,k)/\f≠(0,l)) (h:ltP e f):ltP (cl k l e) (cl k l f):=by
 obtain ⟨e1,e2⟩:=e;obtain ⟨f1,f2⟩:=f;simp only [ne_eq,Prod.mk.injEq] at he hf;unfold ltP at h ⊢;rw [ZQ,ZQ];simp only at h ⊢;rcases h with h|⟨h,h2⟩
 ·exact .inl h
 ·subst h;refine .inr ⟨rfl,?_⟩;unfold cl;by_cases z:e1=0
  ·subst z;simp only [true_and,if_true] at he hf ⊢;split <;> split <;> split <;> split <;> lia
  ·simp only [z,if_false];exact h2
noncomputable def cl2 (k l:Int) (t:Tie):Tie:=(cl k l t.1,cl k l t.2)
theorem uH {g:Pt->Pt}:∀{W:List Tie},(∀t∈W,g t.1=t.2/\g t.2=t.1/\t.1≠t.2)->((ends W).filter fun e=>decide (ltP e (g e))).Perm (W.map fun t=>(norm t).1)
 | [],_=>.nil
 | t::W,h=>by
  obtain ⟨h1,h2,h3⟩:=h t (List.mem_cons_self ..);have ih:=uH (W:=W) fun s hs=>h s (List.mem_cons_of_mem _ hs)
  rw [dD,List.map_cons,List.filter_cons,List.filter_cons,h1,h2];have tot:ltP t.1 t.2\/ltP t.2 t.1:=by
   unfold ltP;have:t.1.1≠t.2.1\/t.1.2≠t.2.2:=by
    by_cases z:t.1.1=t.2.1
    ·exact .inr fun y=>h3 (Prod.ext z y)
    ·exact .inl z
   lia
  rcases tot with z|z
  ·rw [if_pos (by simpa using z),if_neg (by simpa using irr _ _ z),DK z];exact List.Perm.cons _ ih
  ·rw [if_neg (by simpa using irr _ _ z),if_pos (by simpa using z)];have:(norm t).1=t.2:=by
    unfold norm;rw [if_pos z]
   rw [this];exact List.Perm.cons _ ih
theorem aBd {k l:Int} (hkl:k≠l) {g:Pt->Pt} {t:Tie} (h1:g t.1=t.2) (h2:g t.2=t.1) (h3:t.1≠t.2) (n1:t.1≠(0,k)/\t.1≠(0,l)) (n2:t.2≠(0,k)/\t.2≠(0,l)):norm (cl2 k l t)=(cl k l (norm t).1,cl k l (g (norm t).1)):=by
 have tot:ltP t.1 t.2\/ltP t.2 t.1:=by
  unfold ltP;have:t.1.1≠t.2.1\/t.1.2≠t.2.2:=by
   by_cases z:t.1.1=t.2.1
   ·exact .inr fun y=>h3 (Prod.ext z y)
   ·exact .inl z
  lia
 rcases tot with z|z
 ·rw [DK z,h1];exact DK (t:=cl2 k l t) (aDu hkl n1 n2 z)
 ·have:(norm t).1=t.2:=by
   unfold norm;rw [if_pos z]
  rw [this,h2];exact S7 (t:=(cl k l t.2,cl k l t.1)) (aDu hkl n2 n1 z)
theorem S9 {k l:Int} (hkl:k≠l) {g:Pt->Pt} {W:List Tie} {E:List Pt} (hE:E.Perm (ends W)) (hg:∀t∈W,g t.1=t.2/\g t.2=t.1/\t.1≠t.2) (hne:∀e∈ends W,e≠(0,k)/\e≠(0,l)) :
  ((W.map (cl2 k l)).map norm).Perm ((E.filter fun e=>decide (ltP e (g e))).map fun e=>(cl k l e,cl k l (g e))):=by
 refine List.Perm.symm (((hE.filter _).map _).trans (((uH hg).map _).trans ?_));rw [List.map_map,List.map_map];refine List.Perm.of_eq (List.map_congr_left fun t ht=>?_);obtain ⟨h1,h2,h3⟩:=hg t ht;exact (aBd hkl h1 h2 h3 (hne _ (gC ht).1) (hne _ (gC ht).2)).symm
theorem ZR {k l j:Int} (hkl:k≠l) (hk:0<=k) (hl:0<=l) (hj:0<=j):∀n:Nat,(((List.range n).filter fun (i:Nat)=>decide ((i:Int)<j/\(i:Int)≠k/\(i:Int)≠l)).length:Int)=(if (n:Int)<=j then (n:Int) else j)-((if k<(if (n:Int)<=j then (n:Int) else j) then 1 else 0)+(if l<(if (n:Int)<=j then (n:Int) else j) then 1 else 0))
 | 0=>by
  rw [List.range_zero,List.filter_nil,List.length_nil];simp only [Int.ofNat_zero,Int.natCast_zero];rw [if_pos hj];rw [if_neg (by lia),if_neg (by lia)];lia
 | n+1=>by
  rw [List.range_succ,List.filter_append,List.length_append];have ih:=ZR hkl hk hl hj n;have e:((List.filter (fun (i:Nat)=>decide ((i:Int)<j/\(i:Int)≠k/\(i:Int)≠l)) [n]).length:Int)=if (n:Int)<j/\(n:Int)≠k/\(n:Int)≠l then 1 else 0:=by
   rw [List.filter_cons];by_cases z:(n:Int)<j/\(n:Int)≠k/\(n:Int)≠l
   ·rw [if_pos (by simpa using z),if_pos z];rfl
   ·rw [if_neg (by simpa using z),if_neg z];rfl
  rw [Int.natCast_add,ih,e];by_cases h1:(n:Int)+1<=j
  ·rw [if_pos (show (n:Int)<=j by lia),if_pos (show ((n+1:Nat):Int)<=j by lia)];split <;> split <;> split <;> split <;> split <;> lia
  ·by_cases h2:(n:Int)<=j
   ·have h3:(n:Int)=j:=by lia
    rw [if_pos h2,if_neg (show ¬((n+1:Nat):Int)<=j by lia),if_neg (show ¬((n:Int)<j/\(n:Int)≠k/\(n:Int)≠l) by lia),h3];lia
   ·rw [if_neg h2,if_neg (show ¬((n+1:Nat):Int)<=j by lia),if_neg (show ¬((n:Int)<j/\(n:Int)≠k/\(n:Int)≠l) by lia)];lia
theorem K8 {E:List Pt} (h:E.Pairwise ltP) {i:Nat} (hi:i<E.length):(E.filter fun e=>decide (ltP e E[i])).length=i:=by
 have h1:E=E.take i++E.drop i:=(List.take_append_drop i E).symm;have e1:(E.take i).filter (fun e=>decide (ltP e E[i]))=E.take i:=List.filter_eq_self.mpr fun e he=>by
  obtain ⟨j,hj,rfl⟩:=List.mem_iff_getElem.mp he;rw [List.length_take] at hj;rw [List.getElem_take];exact decide_eq_true (List.pairwise_iff_getElem.mp h j i (by lia) hi (by lia))
 have e2:(E.drop i).filter (fun e=>decide (ltP e E[i]))=[]:=List.filter_eq_nil_iff.mpr fun e he=>by
  obtain ⟨j,hj,rfl⟩:=List.mem_iff_getElem.mp he;rw [List.length_drop] at hj;rw [List.getElem_drop,decide_eq_true_eq];rcases Nat.eq_zero_or_pos j with z|z
  ·subst z;simp only [Nat.add_zero];intro q;exact irr _ _ q q
  ·exact irr _ _ (List.pairwise_iff_getElem.mp h i (i+j) hi (by lia) (by lia))
 generalize E[i]=x at e1 e2 ⊢
 conv=>lhs;rw [h1,List.filter_append,List.length_append]
 rw [e1,e2,List.length_take,List.length_nil];lia
end Lk06
end
section
namespace Lk06
open PySem L2 Mi
theorem wJ:(2:Nat)<=lim:=by rw [bQ];lia
theorem aFs:(3:Nat)<=lim:=by rw [bQ];lia
theorem S_ {Q:List Pc} (h:Q.Pairwise LtN):nP [.tup (Q.map pcD)]=.ok (.lst (Q.map pcD)):=XX (U:=Q) (.refl _) h
theorem DN {Q:List Pc} {U:List Tie} (r:Int) (hQ:Q.Pairwise LtN) (hl:U.length<=lim):cW 3 jL [.tup (Q.map pcD),.lst (U.map bM),.int r]=.ok (bO Q (gM (U.map norm)) r):=by
 refine (eX rfl).trans (call_v ?_);have hf:gD (jE 4 (YW 2) lD (dM (aC (aO (fO .lt) (aC (aF 4) (aC (aF 5) (aV)))) (aC (aO (fO .gt) (aC (aF 4) (aC (aF 5) (aV)))) (aV)))) false [.tup (Q.map pcD),.lst (U.map bM),.int r,.uDf]) [] (U.map bM)=.ok ((U.map norm).map bM):=by
  rw [eG _ bM (fun _=>true) (fun t=>bM (norm t))]
  ·rw [List.filter_eq_self.mpr (fun _ _=>rfl),List.map_map,List.nil_append];rfl
  ·intro acc t;have e1:=XQ .lt t.1 t.2 ltP sO;have e2:=XQ .gt t.1 t.2 (fun x y=>ltP y x) ZL;exact gH (n:=4) (t:=YW 2) (c:=lD) (k:=false) (acc:=acc) (x:=bM t) (ρ:=[.tup (Q.map pcD),.lst (U.map bM),.int r,.uDf]) (b:=true) (bs:=[enP t.1,enP t.2]) (y:=bM (norm t)) rfl rfl rfl fun _=>⟨cI (xs:=[enP (norm t).1,enP (norm t).2]) (aD (aN (xs:=[enP t.1,enP t.2]) (aD rfl (aD rfl rfl)) e1) (aD (aN (xs:=[enP t.1,enP t.2]) (aD rfl (aD rfl rfl)) e2) rfl)) wJ,rfl⟩
 have hs:=wB (U.map norm);refine aP (ρ':=[.tup (Q.map pcD),.lst (U.map bM),.int r,.lst ((U.map norm).map bM)]) (bL (i:=3) (iK (fZ rfl rfl) (by rw [List.length_map];exact hl) hf)) ?_;refine iV (d:=bO Q (gM (U.map norm)) r) (cI (xs:=[.tup (Q.map pcD),.tup ((gM (U.map norm)).map bM),.int r]) (aD (aN (xs:=[.lst (Q.map pcD)]) (aD (aN (xs:=[.tup (Q.map pcD)]) (aD rfl rfl) (S_ hQ)) rfl) rfl) (aD (aN (xs:=[.lst ((gM (U.map norm)).map bM)]) (aD (aN (xs:=[.lst ((U.map norm).map bM)]) (aD rfl rfl) hs) rfl) rfl) (aD rfl rfl))) aFs) ?_;rw [wC];rfl
theorem zE (e:Pt) (k l:Int):cW 3 dR [enP e,.int k,.int l]=.ok (enP (cl k l e)):=by
 refine (eX rfl).trans (call_v ?_);have ht:bTB (b2 (bV .ne) (b2 getD (aF 0) (bC (.int 0))) (bC (.int 0))) [enP e,.int k,.int l]=.ok (!(e.1==0)):=dC (aM (x:=.int e.1) (aM (x:=enP e) rfl rfl rfl) rfl rfl);by_cases h:e.1=0
 ·rw [show (!(e.1==0))=false by simp [h]] at ht;have hf:gD (jE 3 j7 (bTB (b2 (bV (.ord .lt)) (aF 3) (b2 getD (aF 0) (bC (.int 1))))) (aF 3) false [enP e,.int k,.int l]) [] ([k,l].map D.int)=.ok (([k,l].filter fun x=>decide (x<e.2)).map D.int):=by
   rw [eG _ D.int (fun x=>decide (x<e.2)) D.int]
   ·rfl
   ·intro acc x;exact gH (n:=3) (t:=j7) (k:=false) (acc:=acc) (x:=.int x) (ρ:=[enP e,.int k,.int l]) (b:=decide (x<e.2)) (bs:=[.int x]) (y:=.int x) rfl rfl (dC (aM (x:=.int x) (y:=.int e.2) rfl (aM (x:=enP e) rfl rfl rfl) rfl)) fun _=>⟨rfl,rfl⟩
  have hc:(eU 3 (dJ (dM (aC (aF 1) (aC (aF 2) (aV)))) false) j7 (bTB (b2 (bV (.ord .lt)) (aF 3) (b2 getD (aF 0) (bC (.int 1))))) (aF 3) false) [enP e,.int k,.int l]=.ok (.lst (([k,l].filter fun x=>decide (x<e.2)).map D.int)):=
   iK (fZ (d:=.tup [.int k,.int l]) (xs:=[k,l].map D.int) (cI (xs:=[.int k,.int l]) (aD rfl (aD rfl rfl)) wJ) rfl) (by rw [List.length_map];exact wJ) hf
  have hl:fM [.lst (([k,l].filter fun x=>decide (x<e.2)).map D.int)]=.ok (.int ((if k<e.2 then 1 else 0)+(if l<e.2 then 1 else 0))):=by
   rw [m_,List.length_map]
   congr 2
   rw [List.filter_cons,List.filter_cons,List.filter_nil];by_cases h1:k<e.2 <;> by_cases h2:l<e.2 <;> simp [h1,h2]
  have hcl:enP (cl k l e)=.tup [.int 0,.int (e.2-((if k<e.2 then 1 else 0)+(if l<e.2 then 1 else 0)))]:=by
   unfold cl;rw [if_pos h];rfl
  rw [hcl];exact aP (ρ':=[enP e,.int k,.int l]) (oK ht rfl) (iV (cI (xs:=[.int 0,.int (e.2-((if k<e.2 then 1 else 0)+(if l<e.2 then 1 else 0)))]) (aD rfl (aD (aM (x:=.int e.2) (aM (x:=enP e) rfl rfl rfl) (aN (aD hc rfl) hl) (Q4 _ _)) rfl)) wJ) rfl)
 ·rw [show (!(e.1==0))=true by simp [h]] at ht;have hcl:cl k l e=e:=by
   unfold cl;rw [if_neg h]
  rw [hcl];exact yZ (CP ht (iV (d:=enP e) rfl rfl))
theorem aBe {V:List Tie} {p q:Pt}:(V.filter fun t=>decide (t.1≠p/\t.1≠q)&&decide (t.2≠p/\t.2≠q))=rem q (rem p V):=by
 unfold rem;rw [List.filter_filter];refine List.filter_congr fun t _=>?_
 rw [Bool.eq_iff_iff];simp only [Bool.and_eq_true,decide_eq_true_eq];constructor
 ·rintro ⟨⟨a,b⟩,c,d⟩;exact ⟨⟨b,d⟩,a,c⟩
 ·rintro ⟨⟨b,d⟩,a,c⟩;exact ⟨⟨a,b⟩,c,d⟩
theorem zF (e p q:Pt):bV .notin (enP e) (.tup [enP p,enP q])=.ok (.bl (decide (e≠p/\e≠q))):=by
 show Res.ok (D.bl (!(eqD (enP p) (enP e)||(eqD (enP q) (enP e)||false))))=_;rw [lU,lU]
 congr 2
 by_cases h1:p=e
 ·subst h1;simp
 ·have h1':e≠p:=fun z=>h1 z.symm
  by_cases h2:q=e
  ·subst h2;simp
  ·have h2':e≠q:=fun z=>h2 z.symm
   simp [h1,h2,h1',h2']
theorem HX {V:List Tie} {p q a b:Pt}:(jA V p q a b).length<=V.length+1:=by
 have h:(rem q (rem p V)).length<=V.length:=Nat.le_trans (List.length_filter_le ..) (List.length_filter_le ..);unfold jA;split
 ·lia
 ·rw [List.length_append];show _+1<=_;lia
theorem zG {Q:List Pc} {V:List Tie} {r k l:Int} {a b:Pt} (hQ:Q.Pairwise LtN) (hn:(ends V).Nodup) (hsm:V.length<=1000) (hkl:k≠l) (ha:j9 V (0,k) a) (hb:j9 V (0,l) b) :
  cW 3 jX [bO Q V r,.int k,.int l]=.ok (bO Q (gM (((jA V (0,k) (0,l) a b).map (cl2 k l)).map norm)) (if a=(0,l) then r+1 else r)):=by
 have mk:=wD (Q:=Q) (r:=r) hn ha;have ml:=wD (Q:=Q) (r:=r) hn hb;have tk:∀{ρ:List D} {i:Nat} {j:Int},aF i ρ=.ok (.int j)->dM (aC (bC (.int 0)) (aC (aF i) (aV))) ρ=.ok (enP (0,j)):=fun h=>cI (xs:=[.int 0,.int _]) (aD rfl (aD h rfl)) wJ
 refine (eX rfl).trans (call_v ?_);refine aP (ρ':=[bO Q V r,.int k,.int l,enP a,.uDf,.uDf,.uDf,.uDf,.uDf]) (bL (i:=3) (aN (xs:=[bO Q V r,enP (0,k)]) (aD rfl (aD (tk rfl) rfl)) mk)) ?_;refine aP (ρ':=[bO Q V r,.int k,.int l,enP a,enP b,.uDf,.uDf,.uDf,.uDf]) (bL (i:=4) (aN (xs:=[bO Q V r,enP (0,l)]) (aD rfl (aD (tk rfl) rfl)) ml)) ?_;have ce:bV .eq (.int k) (.int l)=.ok (.bl false):=by
  show Res.ok (D.bl (k==l))=_;rw [show (k==l)=false by simpa using hkl]
 refine aP (ρ':=[bO Q V r,.int k,.int l,enP a,enP b,.uDf,.uDf,.uDf,.uDf]) (oK (dC (aM (x:=.int k) (y:=.int l) rfl rfl ce)) rfl) ?_;refine aP (ρ':=[bO Q V r,.int k,.int l,enP a,enP b,.tup [enP (0,k),enP (0,l)],.uDf,.uDf,.uDf]) (vQ (i:=5) (cI (xs:=[enP (0,k),enP (0,l)]) (aD (tk rfl) (aD (tk rfl) rfl)) wJ) rfl) ?_;have hf:gD (jE 9 j7 (JS (bTB (b2 (bV .notin) (b2 getD (aF 9) (bC (.int 0))) (aF 5))) (bTB (b2 (bV .notin) (b2 getD (aF 9) (bC (.int 1))) (aF 5)))) (aF 9) false [bO Q V r,.int k,.int l,enP a,enP b,.tup [enP (0,k),enP (0,l)],.uDf,.uDf,.uDf]) [] (V.map bM)=.ok ((rem (0,l) (rem (0,k) V)).map bM):=by
  rw [eG _ bM (fun t=>decide (t.1≠(0,k)/\t.1≠(0,l))&&decide (t.2≠(0,k)/\t.2≠(0,l))) bM,aBe]
  ·rfl
  ·intro acc t;refine gH (n:=9) (t:=j7) (k:=false) (acc:=acc) (x:=bM t) (ρ:=[bO Q V r,.int k,.int l,enP a,enP b,.tup [enP (0,k),enP (0,l)],.uDf,.uDf,.uDf]) (b:=decide (t.1≠(0,k)/\t.1≠(0,l))&&decide (t.2≠(0,k)/\t.2≠(0,l))) (bs:=[bM t]) (y:=bM t) rfl rfl ?_ fun _=>⟨rfl,rfl⟩
   have q1:bTB (b2 (bV .notin) (b2 getD (aF 9) (bC (.int 0))) (aF 5)) [bO Q V r,.int k,.int l,enP a,enP b,.tup [enP (0,k),enP (0,l)],.uDf,.uDf,.uDf,bM t]=.ok (decide (t.1≠(0,k)/\t.1≠(0,l))):=dC (aM (x:=enP t.1) (y:=.tup [enP (0,k),enP (0,l)]) (aM (x:=bM t) rfl rfl rfl) rfl (zF _ _ _));have q2:bTB (b2 (bV .notin) (b2 getD (aF 9) (bC (.int 1))) (aF 5)) [bO Q V r,.int k,.int l,enP a,enP b,.tup [enP (0,k),enP (0,l)],.uDf,.uDf,.uDf,bM t]=.ok (decide (t.2≠(0,k)/\t.2≠(0,l))):=dC (aM (x:=enP t.2) (y:=.tup [enP (0,k),enP (0,l)]) (aM (x:=bM t) rfl rfl rfl) rfl (zF _ _ _));cases hq:decide (t.1≠(0,k)/\t.1≠(0,l)) with
   | true=>rw [hq] at q1;exact (aAq q1 q2).trans (by rw [Bool.true_and])
   | false=>rw [hq] at q1;exact WW q1
 refine aP (ρ':=[bO Q V r,.int k,.int l,enP a,enP b,.tup [enP (0,k),enP (0,l)],.lst ((rem (0,l) (rem (0,k) V)).map bM),.uDf,.uDf]) (i_ (i:=6) (iK DG (by rw [List.length_map,bQ];lia) hf) (oR _)) ?_;refine aP (ρ':=[bO Q V r,.int k,.int l,enP a,enP b,.tup [enP (0,k),enP (0,l)],.lst ((rem (0,l) (rem (0,k) V)).map bM),.int r,.uDf]) (vQ (i:=7) (aM (x:=bO Q V r) rfl rfl (n2 Q V r)) rfl) ?_;have hrl:(rem (0,l) (rem (0,k) V)).length<=V.length:=Nat.le_trans (List.length_filter_le ..) (List.length_filter_le ..);have ht:bTB (b2 (bV .eq) (aF 3) (dM (aC (bC (.int 0)) (aC (aF 2) (aV))))) [bO Q V r,.int k,.int l,enP a,enP b,.tup [enP (0,k),enP (0,l)],.lst ((rem (0,l) (rem (0,k) V)).map bM),.int r,.uDf]=.ok (decide (a=(0,l))):=dC (aM (x:=enP a) (y:=enP (0,l)) rfl (tk rfl) (nT _ _));refine aP (ρ':=[bO Q V r,.int k,.int l,enP a,enP b,.tup [enP (0,k),enP (0,l)],.lst ((jA V (0,k) (0,l) a b).map bM),.int (if a=(0,l) then r+1 else r),.uDf]) ?_ ?_
 ·unfold jA;by_cases e:a=(0,l)
  ·rw [decide_eq_true e] at ht;rw [if_pos e,if_pos e];exact CP ht (bL (i:=7) (aM (x:=.int r) rfl rfl (fJ r 1)))
  ·rw [decide_eq_false e] at ht;rw [if_neg e,if_neg e];have:=x_ (i:=6) (ρ:=[bO Q V r,.int k,.int l,enP a,enP b,.tup [enP (0,k),enP (0,l)],.lst ((rem (0,l) (rem (0,k) V)).map bM),.int r,.uDf]) (f:=dM (aC (aF 3) (aC (aF 4) (aV)))) (xs:=(rem (0,l) (rem (0,k) V)).map bM) (d:=bM (a,b)) (cI (xs:=[enP a,enP b]) (aD rfl (aD rfl rfl)) wJ) rfl (by rw [List.length_map,bQ];lia) rfl;refine (oK ht this).trans ?_;rw [List.map_append];rfl
 have hl2:=HX (V:=V) (p:=(0,k)) (q:=(0,l)) (a:=a) (b:=b);generalize jA V (0,k) (0,l) a b=W at hl2;generalize (if a=(0,l) then r+1 else r)=r2;have hf2:gD (jE 9 (YW 2) lD (dM (aC (aO (cW 3 dR) (aC (aF 9) (aC (aF 1) (aC (aF 2) (aV))))) (aC (aO (cW 3 dR) (aC (aF 10) (aC (aF 1) (aC (aF 2) (aV))))) (aV)))) true [bO Q V r,.int k,.int l,enP a,enP b,.tup [enP (0,k),enP (0,l)],.lst (W.map bM),.int r2,.uDf]) [] (W.map bM)=.ok ((W.map (cl2 k l)).map bM):=by
  rw [eG _ bM (fun _=>true) (fun t=>bM (cl2 k l t))]
  ·rw [List.filter_eq_self.mpr (fun _ _=>rfl),List.map_map,List.nil_append];rfl
  ·intro acc t;exact gH (n:=9) (t:=YW 2) (c:=lD) (k:=true) (acc:=acc) (x:=bM t) (ρ:=[bO Q V r,.int k,.int l,enP a,enP b,.tup [enP (0,k),enP (0,l)],.lst (W.map bM),.int r2,.uDf]) (b:=true) (bs:=[enP t.1,enP t.2]) (y:=bM (cl2 k l t)) rfl rfl rfl fun _=>⟨cI (xs:=[enP (cl k l t.1),enP (cl k l t.2)]) (aD (aN (xs:=[enP t.1,.int k,.int l]) (aD rfl (aD rfl (aD rfl rfl))) (zE t.1 k l)) (aD (aN (xs:=[enP t.2,.int k,.int l]) (aD rfl (aD rfl (aD rfl rfl))) (zE t.2 k l)) rfl)) wJ,rfl⟩
 refine aP (ρ':=[bO Q V r,.int k,.int l,enP a,enP b,.tup [enP (0,k),enP (0,l)],.lst (W.map bM),.int r2,.lst ((W.map (cl2 k l)).map bM)]) (bL (i:=8) (iK (fZ (d:=.lst (W.map bM)) rfl rfl) (by rw [List.length_map,bQ];lia) hf2)) ?_;exact iV (aN (xs:=[.tup (Q.map pcD),.lst ((W.map (cl2 k l)).map bM),.int r2]) (aD (aM (x:=bO Q V r) rfl rfl (n0 Q V r)) (aD rfl (aD rfl rfl))) (DN r2 hQ (by rw [List.length_map,bQ];lia))) rfl
section
variable {Q:List Pc} {V:List Tie} {r:Int}
theorem DP {k l:Int} (h:mW [bO Q V r,.int k,.int l]=true):cW 3 bB [bO Q V r,.int k,.int l]=.ok (.bl true):=by
 refine (eX rfl).trans ?_;show (if (decide (([bO Q V r,.int k,.int l]:List D).length=3)&&mW [bO Q V r,.int k,.int l])=true then Res.ok (D.bl true) else .bad)=_;rw [h];rfl
theorem HY {h:List D->Bool} {a:FA} {ρ ds:List D} (h1:a ρ=.ok ds) (h2:h ds=true):KN h a ρ=true:=by
 unfold KN;rw [h1];exact h2
theorem DQ {f:FS} {g:FR} {ρ ρ':List D} (h1:f ρ=.ok (.nx ρ')) (h2:g ρ'=true):aAz f g ρ=true:=by
 unfold aAz;rw [h1];exact h2
theorem aDv {f g:FR} {ρ:List D} (h:f ρ=true):rOr f g ρ=true:=by
 unfold rOr;rw [h,Bool.true_or]
theorem aBf {f g:FR} {ρ:List D} (h:g ρ=true):rOr f g ρ=true:=by
 unfold rOr;rw [h,Bool.or_true]
theorem aDw {c:FT} {ρ:List D} (h:c ρ=.ok true):rIf c ρ=true:=by
 unfold rIf;rw [h]
theorem aBg {k l:Int} (h:qI [bO Q V r,.int k,.int l,.uDf,.uDf,.uDf,.uDf,.uDf,.uDf]=true):mW [bO Q V r,.int k,.int l]=true:=by
 show (true&&qI [bO Q V r,.int k,.int l,.uDf,.uDf,.uDf,.uDf,.uDf,.uDf])=true;rw [h];rfl
theorem sZ {k l:Int} (h:((0,k):Pt)∉ends V):cW 3 bB [bO Q V r,.int k,.int l]=.ok (.bl true):=
 DP (aBg (aDv (HY (ds:=[bO Q V r,enP (0,k)]) (aD rfl (aD (cI (xs:=[.int 0,.int k]) (aD rfl (aD rfl rfl)) wJ) rfl)) (ZP h))))
theorem at_k {k l:Int} {a:Pt} (hn:(ends V).Nodup) (ha:j9 V (0,k) a):(cA false 3 (aO (cW 2 oO) (aC (aF 0) (aC (dM (aC (bC (.int 0)) (aC (aF 1) (aV)))) (aV)))) true) [bO Q V r,.int k,.int l,.uDf,.uDf,.uDf,.uDf,.uDf,.uDf]=.ok (.nx [bO Q V r,.int k,.int l,enP a,.uDf,.uDf,.uDf,.uDf,.uDf]):=
 bL (i:=3) (aN (xs:=[bO Q V r,enP (0,k)]) (aD rfl (aD (cI (xs:=[.int 0,.int k]) (aD rfl (aD rfl rfl)) wJ) rfl)) (wD hn ha))
theorem TF {k l:Int} (hn:(ends V).Nodup) (hl:((0,l):Pt)∉ends V):cW 3 bB [bO Q V r,.int k,.int l]=.ok (.bl true):=by
 by_cases hk:((0,k):Pt)∈ends V
 ·obtain ⟨a,ha⟩:=sY hk;exact DP (aBg (aBf (DQ (at_k hn ha) (aDv (HY (ds:=[bO Q V r,enP (0,l)]) (aD rfl (aD (cI (xs:=[.int 0,.int l]) (aD rfl (aD rfl rfl)) wJ) rfl)) (ZP hl))))))
 ·exact sZ hk
theorem TJ {k:Int} (hn:(ends V).Nodup):cW 3 bB [bO Q V r,.int k,.int k]=.ok (.bl true):=by
 by_cases hk:((0,k):Pt)∈ends V
 ·obtain ⟨a,ha⟩:=sY hk;refine DP (aBg (aBf (DQ (at_k hn ha) (aBf (DQ (ρ':=[bO Q V r,.int k,.int k,enP a,enP a,.uDf,.uDf,.uDf,.uDf]) (bL (i:=4) (aN (xs:=[bO Q V r,enP (0,k)]) (aD rfl (aD (cI (xs:=[.int 0,.int k]) (aD rfl (aD rfl rfl)) wJ) rfl)) (wD hn ha))) (aDw (dC (aM (x:=.int k) (y:=.int k) rfl rfl ?_))))))));show Res.ok (D.bl (k==k))=_;simp
 ·exact sZ hk
end
end Lk06
end
section
namespace Lk06
open PySem L2 Mi
noncomputable def kvD (kv:Pt×Pt):D×D:=(enP kv.1,enP kv.2)
noncomputable def zH:List (Pt×Pt)->Pt->Pt->List (Pt×Pt)
 | [],p,q=>[(p,q)]
 | (k,v)::r,p,q=>if k=p then (k,q)::r else (k,v)::zH r p q
noncomputable def dU:List (Pt×Pt)->Pt->Option Pt
 | [],_=>none
 | (k,v)::r,p=>if k=p then some v else dU r p
theorem tD (p q:Pt):∀m:List (Pt×Pt),putD (m.map kvD) (enP p) (enP q)=(zH m p q).map kvD
 | []=>rfl
 | (k,v)::r=>by
  rw [List.map_cons,kvD,putD,lU,zH];by_cases h:k=p
  ·simp [h,kvD]
  ·simp only [h,decide_false,Bool.false_eq_true,if_false];rw [tD p q r];rfl
theorem wH (p:Pt):∀m:List (Pt×Pt),cY (m.map kvD) (enP p)=(dU m p).map enP
 | []=>rfl
 | (k,v)::r=>by
  rw [List.map_cons,kvD,cY,lU,dU];by_cases h:k=p
  ·simp [h]
  ·simp only [h,decide_false,Bool.false_eq_true,if_false];exact wH p r
theorem K9 (m:List (Pt×Pt)) (p:Pt):FP (m.map kvD) (enP p)=true:=by
 unfold FP;rw [show keyOk (enP p)=true from rfl,Bool.true_and,List.all_eq_true];intro x hx;obtain ⟨y,_,rfl⟩:=List.mem_map.mp hx;rfl
theorem qK {p q:Pt}:∀{m:List (Pt×Pt)},p∉m.map (·.1)->zH m p q=m++[(p,q)]
 | [],_=>rfl
 | (k,v)::r,h=>by
  rw [List.map_cons,List.mem_cons,not_or] at h;rw [zH,if_neg (fun z=>h.1 z.symm),qK h.2];rfl
theorem tE {p q:Pt}:∀{m:List (Pt×Pt)},(m.map (·.1)).Nodup->(p,q)∈m->dU m p=some q
 | (k,v)::r,hn,h=>by
  rw [List.map_cons,List.nodup_cons] at hn;rw [dU];rcases List.mem_cons.mp h with e|h
  ·cases e;rw [if_pos rfl]
  ·rw [if_neg,tE hn.2 h];rintro rfl;exact hn.1 (List.mem_map.mpr ⟨_,h,rfl⟩)
noncomputable def both (T:List Tie):List (Pt×Pt):=T.flatMap fun t=>[(t.1,t.2),(t.2,t.1)]
theorem lY (T:List Tie):(both T).map (·.1)=ends T:=by
 induction T with
 | nil=>rfl
 | cons t T ih=>simp only [both,ends,List.flatMap_cons,List.map_append] at *;rw [ih];rfl
theorem H_ (T:List Tie):(both T).length=2*T.length:=by
 induction T with
 | nil=>rfl
 | cons t T ih=>simp only [both,List.flatMap_cons,List.length_append,List.length_cons,List.length_nil] at *;lia
theorem TQ (m:List (Pt×Pt)):eE (m.map kvD)=(m.map (·.1)).map enP:=by
 unfold eE;rw [List.map_map,List.map_map];rfl
noncomputable def jN (m:List (Pt×Pt)) (p:Pt):List (Pt×Pt):=m.filter fun kv=>decide (kv.1≠p)
theorem TV (p:Pt):∀m:List (Pt×Pt),delD (m.map kvD) (enP p)=(jN m p).map kvD
 | []=>rfl
 | (k,v)::r=>by
  rw [List.map_cons,kvD,delD,lU];unfold jN;rw [List.filter_cons];by_cases h:k=p
  ·rw [if_pos (by simpa using h),if_neg (by simpa using h),TV p r];rfl
  ·rw [if_neg (by simpa using h),if_pos (by simpa using h),TV p r];rfl
theorem lZ {p e:Pt} (h:e≠p):∀m:List (Pt×Pt),dU (jN m p) e=dU m e
 | []=>rfl
 | (k,v)::r=>by
  unfold jN;rw [List.filter_cons];by_cases hk:k=p
  ·rw [if_neg (by simpa using hk),dU,if_neg (fun z:k=e=>h (z.symm.trans hk))];exact lZ h r
  ·rw [if_pos (by simpa using hk),dU,dU];by_cases he:k=e
   ·rw [if_pos he,if_pos he]
   ·rw [if_neg he,if_neg he];exact lZ h r
theorem IK (p:Pt) (m:List (Pt×Pt)):(jN m p).map (·.1)=(m.map (·.1)).filter fun e=>decide (e≠p):=by
 unfold jN;rw [List.filter_map];rfl
theorem qL {p q:Pt}:∀{m:List (Pt×Pt)},p∈m.map (·.1)->(zH m p q).map (·.1)=m.map (·.1)
 | [],h=>by cases h
 | (k,v)::r,h=>by
  rw [zH];by_cases hk:k=p
  ·rw [if_pos hk];rfl
  ·rw [if_neg hk,List.map_cons,List.map_cons,qL];rcases List.mem_cons.mp h with h|h
   ·exact absurd h.symm hk
   ·exact h
theorem gJ {p q e:Pt}:∀m:List (Pt×Pt),dU (zH m p q) e=if p=e then some q else dU m e
 | []=>rfl
 | (k,v)::r=>by
  rw [zH];by_cases hk:k=p
  ·rw [if_pos hk,dU,dU,hk];by_cases h:p=e
   ·rw [if_pos h,if_pos h]
   ·rw [if_neg h,if_neg h,if_neg h]
  ·rw [if_neg hk,dU,dU,gJ r];by_cases h:k=e
   ·rw [if_pos h,if_pos h,if_neg (fun z=>hk (h.trans z.symm))]
   ·rw [if_neg h,if_neg h]
theorem TX {p x y:Pt} {m:List (Pt×Pt)} (h:p∉m.map (·.1)):zH (m++[(p,x)]) p y=m++[(p,y)]:=by
 induction m with
 | nil=>show (if p=p then [(p,y)] else _)=_;rw [if_pos rfl];rfl
 | cons kv m ih=>
  rw [List.map_cons,List.mem_cons,not_or] at h;rw [List.cons_append,zH,if_neg (fun z=>h.1 z.symm),ih h.2];rfl
theorem X8 {V:List Tie} {e f:Pt}:j9 V e f->(e,f)∈both V:=fun h=>by
 unfold both;rcases h with h|h
 ·exact List.mem_flatMap.mpr ⟨_,h,by simp⟩
 ·exact List.mem_flatMap.mpr ⟨_,h,by simp⟩
theorem look_both {V:List Tie} {e f:Pt} (hn:(ends V).Nodup) (h:j9 V e f):dU (both V) e=some f:=tE (by rw [lY];exact hn) (X8 h)
noncomputable def aFd:FS:=bW (BL 1 (aF 2) (aF 3)) (BL 1 (aF 3) (aF 2))
theorem uI {a:D}:∀(T S:List Tie) (p q:D),(ends (S++T)).Nodup->2*(S++T).length<lim->∃p' q',n8 (tgN [2,3]) aFd (T.map bM) [a,.dct ((both S).map kvD),p,q]=.ok (.nx [a,.dct ((both (S++T)).map kvD),p',q'])
 | [],S,p,q,_,_=>⟨p,q,by rw [List.append_nil];rfl⟩
 | t::T,S,p,q,hn,hl=>by
  have hS:S++t::T=S++[t]++T:=by simp
  obtain ⟨p',q',e⟩:=uI (a:=a) T (S++[t]) (enP t.1) (enP t.2) (by rw [<-hS];exact hn) (by rw [<-hS];exact hl);refine ⟨p',q',?_⟩;rw [hS,<-e];have hb:both (S++[t])=(both S++[(t.1,t.2)])++[(t.2,t.1)]:=by simp [both]
  have hd:(ends S++([t.1,t.2]++ends T)).Nodup:=by
   have:ends (S++t::T)=ends S++([t.1,t.2]++ends T):=by simp [ends]
   rwa [this] at hn
  have n1:t.1∉(both S).map (·.1):=by
   rw [lY];intro h;exact (List.nodup_append.mp hd).2.2 _ h t.1 (by simp) rfl
  have n2:t.2∉(both S++[(t.1,t.2)]).map (·.1):=by
   rw [List.map_append,lY];intro h;rcases List.mem_append.mp h with h|h
   ·exact (List.nodup_append.mp hd).2.2 _ h t.2 (by simp) rfl
   ·have e:t.2=t.1:=by simpa using h
    have:=(List.nodup_append.mp (List.nodup_append.mp hd).2.1).1;rw [e] at this;simp at this
  have hlen:(both S).length+1<lim:=by
   rw [H_];rw [List.length_append,List.length_cons] at hl;lia
  have s1:=tD t.1 t.2 (both S);have s2:=tD t.2 t.1 (both S++[(t.1,t.2)]);rw [qK n1] at s1;rw [qK n2,<-hb] at s2;refine dN (ρ1:=[a,.dct ((both S).map kvD),enP t.1,enP t.2]) (ρ2:=[a,.dct ((both (S++[t])).map kvD),enP t.1,enP t.2]) rfl ?_ rfl;refine aP (ρ':=[a,.dct ((both S++[(t.1,t.2)]).map kvD),enP t.1,enP t.2]) ?_ ?_
  ·rw [<-s1];exact rP (i:=1) (kvs:=(both S).map kvD) (k:=enP t.1) (d:=enP t.2) rfl rfl rfl (by rw [List.length_map];lia) (K9 _ _) rfl
  ·rw [<-s2];exact rP (i:=1) (kvs:=(both S++[(t.1,t.2)]).map kvD) (k:=enP t.2) (d:=enP t.1) rfl rfl rfl (by rw [List.length_map,List.length_append];exact hlen) (K9 _ _) rfl
theorem IV {Q:List Pc} {V:List Tie} {r:Int} (hn:(ends V).Nodup) (hl:2*V.length<lim):cW 1 fD [bO Q V r]=.ok (.dct ((both V).map kvD)):=by
 obtain ⟨p',q',e⟩:=uI (a:=bO Q V r) V [] .uDf .uDf (by simpa using hn) (by simpa using hl);refine (eX rfl).trans (call_v ?_);refine aP (ρ':=[bO Q V r,.dct [],.uDf,.uDf]) (i_ rfl rfl) ?_;refine aP (oM DG e) ?_;rfl
noncomputable def unP:D->Pt
 | .tup [.int a,.int b]=>(a,b)
 | _=>(0,0)
theorem aDx (p:Pt):unP (enP p)=p:=rfl
noncomputable def jZ (U:List Pt):List Pt:=(jC (U.map enP)).map unP
theorem pJ (U:List Pt):(jZ U).Perm U:=by
 have h:=(dW (U.map enP)).map unP;rw [List.map_map] at h;have e:U.map (unP ∘ enP)=U:=by
  conv=>rhs;rw [<-List.map_id U]
  exact List.map_congr_left fun t _=>aDx t
 rw [e] at h;exact h
theorem TY (U:List Pt):(jZ U).map enP=jC (U.map enP):=by
 unfold jZ;rw [List.map_map]
 conv=>rhs;rw [<-List.map_id (jC (U.map enP))]
 refine List.map_congr_left fun d hd=>?_
 obtain ⟨t,_,rfl⟩:=List.mem_map.mp ((dW (U.map enP)).mem_iff.mp hd);rfl
theorem tY (U:List Pt):bF (U.map enP)=true:=by
 unfold bF;refine List.all_eq_true.mpr fun d hd=>?_
 obtain ⟨t,ht,rfl⟩:=List.mem_map.mp hd;have hk:d_ ((U.map enP).headD .non)=3:=by
  cases U with
  | nil=>cases ht
  | cons u U=>rfl
 have h5:d_ (enP t)=3:=rfl;have hp:(enP t).plain=true:=rfl;have hq:(enP t).b7 aY=true:=rfl;rw [hk,h5,hp,hq];refine List.all_eq_true.mpr fun b hb=>?_
 obtain ⟨u,_,rfl⟩:=List.mem_map.mp hb;rw [sO];rfl
theorem DR (m:List (Pt×Pt)):(m.map kvD).all (fun p=>isTup p.1)=true:=by
 refine List.all_eq_true.mpr fun x hx=>?_
 obtain ⟨y,_,rfl⟩:=List.mem_map.mp hx;rfl
theorem tG (m:List (Pt×Pt)):nP [.dct (m.map kvD)]=.ok (.lst ((jZ (m.map (·.1))).map enP)):=by
 show (if (m.map kvD).all (fun p=>isTup p.1)&&bF (eE (m.map kvD)) then Res.ok (D.lst (jC (eE (m.map kvD)))) else .bad)=_;rw [DR,TQ,tY,Bool.true_and,if_pos rfl,TY]
theorem K_ {U:List Pt} (hn:U.Nodup):(jZ U).Pairwise ltP:=by
 have h:=iT (U.map enP);rw [<-TY,List.pairwise_map] at h;have hn':(jZ U).Nodup:=(pJ U).nodup_iff.mpr hn;refine (List.pairwise_and_iff.mpr ⟨h,hn'⟩).imp fun {a b} hab=>?_
 obtain ⟨h1,h2⟩:=hab;have e:=u_ (enP b) (enP a) _ rfl rfl (sO b a);unfold leE at h1;rw [<-e] at h1;have h3:¬ltP b a:=by simpa using h1
 unfold ltP at h3 ⊢;have:a.1≠b.1\/a.2≠b.2:=by
  by_cases z:a.1=b.1
  ·exact .inr fun y=>h2 (Prod.ext z y)
  ·exact .inl z
 lia
end Lk06
end
section
namespace Lk06
open PySem L2 Mi
noncomputable def oU (V:List Tie) (p q a b:Pt):List (Pt×Pt):=if a=q then jN (jN (both V) p) q else zH (zH (jN (jN (both V) p) q) a b) b a
section
variable {V:List Tie} {p q a b:Pt}
theorem aGj (hn:(ends V).Nodup) (ha:j9 V p a) (hb:j9 V q b) (e:a≠q):b≠p:=fun z=>by
 subst z;exact e (lX hn ha hb.symm)
noncomputable def jB (V:List Tie) (p q:Pt):List Pt:=((ends V).filter fun e=>decide (e≠p)).filter fun e=>decide (e≠q)
theorem l_ {e:Pt}:e∈jB V p q↔e∈ends V/\e≠p/\e≠q:=by
 unfold jB;rw [List.mem_filter,List.mem_filter,decide_eq_true_eq,decide_eq_true_eq,and_assoc]
theorem oV:(jN (jN (both V) p) q).map (·.1)=jB V p q:=by
 rw [IK,IK,lY];rfl
theorem aFe (hn:(ends V).Nodup) (hpq:p≠q) (ha:j9 V p a) (hb:j9 V q b):(oU V p q a b).map (·.1)=jB V p q:=by
 unfold oU;by_cases e:a=q
 ·rw [if_pos e];exact oV
 ·rw [if_neg e];have ia:a∈jB V p q:=l_.mpr ⟨ha.mem.2,Ne.symm (pI hn ha),e⟩;have ib:b∈jB V p q:=l_.mpr ⟨hb.mem.2,aGj hn ha hb e,Ne.symm (pI hn hb)⟩;have k1:(zH (jN (jN (both V) p) q) a b).map (·.1)=jB V p q:=(qL (by rw [oV];exact ia)).trans oV;exact (qL (by rw [k1];exact ib)).trans k1
theorem uJ (hn:(ends V).Nodup) (hpq:p≠q) (ha:j9 V p a) (hb:j9 V q b):(jB V p q).Perm (ends (jA V p q a b)):=by
 have h:=S8 hn hpq ha hb;have hn2:=h.nodup_iff.mp hn;rw [List.nodup_cons,List.nodup_cons,List.mem_cons,not_or] at hn2;have h2:=(h.filter fun e=>decide (e≠p)).filter fun e=>decide (e≠q)
 refine h2.trans (List.Perm.of_eq ?_);rw [List.filter_cons,if_neg (by simp),List.filter_cons,if_pos (by simpa using Ne.symm hpq),List.filter_cons,if_neg (by simp)];rw [List.filter_filter];refine List.filter_eq_self.mpr fun e he=>?_
 rw [Bool.and_eq_true,decide_eq_true_eq,decide_eq_true_eq];exact ⟨fun z=>hn2.2.1 (z▸he),fun z=>hn2.1.2 (z▸he)⟩
theorem zJ (hn:(ends V).Nodup) {e f:Pt} (h:j9 V e f) (h1:e≠p) (h2:e≠q):dU (jN (jN (both V) p) q) e=some f:=by
 rw [lZ h2,lZ h1];exact look_both hn h
theorem aFf (hn:(ends V).Nodup) (hpq:p≠q) (ha:j9 V p a) (hb:j9 V q b):∀t∈jA V p q a b,dU (oU V p q a b) t.1=some t.2/\dU (oU V p q a b) t.2=some t.1/\t.1≠t.2:=by
 have hE:=uJ hn hpq ha hb;have nE:(ends (jA V p q a b)).Nodup:=hE.nodup_iff.mp ((hn.filter _).filter _);have old:∀t∈rem q (rem p V),dU (jN (jN (both V) p) q) t.1=some t.2/\dU (jN (jN (both V) p) q) t.2=some t.1/\t.1≠t.2:=fun t ht=>by
  obtain ⟨h1,h2,h3⟩:=wG.mp ht;obtain ⟨h4,h5,h6⟩:=wG.mp h1;have ht:j9 V t.1 t.2:=.inl h4;exact ⟨zJ hn ht h5 h2,zJ hn ht.symm h6 h3,pI hn ht⟩
 unfold oU;unfold jA at nE ⊢;by_cases e:a=q
 ·rw [if_pos e,if_pos e];exact old
 ·rw [if_neg e] at nE;rw [if_neg e,if_neg e];rw [ends_app] at nE;obtain ⟨_,n2,n3⟩:=List.nodup_append.mp nE;have hab:a≠b:=by
   have:(a::b::[]).Nodup:=n2;rw [List.nodup_cons] at this;intro z;exact this.1 (by simp [z])
  intro t ht;rcases List.mem_append.mp ht with ht|ht
  ·obtain ⟨h1,h2,h3⟩:=old t ht;obtain ⟨m1,m2⟩:=gC ht;have na:∀x∈ends (rem q (rem p V)),a≠x:=fun x hx z=>n3 x hx a (by show a∈[a,b];simp) z.symm
   have nb:∀x∈ends (rem q (rem p V)),b≠x:=fun x hx z=>n3 x hx b (by show b∈[a,b];simp) z.symm
   rw [gJ,gJ,gJ,gJ,if_neg (nb _ m1),if_neg (na _ m1),if_neg (nb _ m2),if_neg (na _ m2)];exact ⟨h1,h2,h3⟩
  ·have:t=(a,b):=by simpa using ht
   subst this;refine ⟨?_,?_,hab⟩
   ·show dU _ a=some b;rw [gJ,gJ,if_neg (Ne.symm hab),if_pos rfl]
   ·show dU _ b=some a;rw [gJ,if_pos rfl]
end
theorem X_ {kvs:List (D×D)} {Q:List Pc} {V:List Tie} (N:Net kvs Q V) {k l:Int} (hkl:k≠l) (hk:((0,k):Pt)∈ends V) (hl:((0,l):Pt)∈ends V) {E:List Pt} (hE:E.Perm (jB V (0,k) (0,l))) (hr:E.Pairwise ltP) :
  ∀(i:Nat) (h:i<E.length),E[i].1=0->cl k l E[i]=(0,(i:Int)):=by
 obtain ⟨S,s1,s2,s3⟩:=N.rims;have pos:∀e∈hks kvs Q,0<e.1:=fun e he=>by
  obtain ⟨pc,m,h⟩:=List.mem_flatMap.mp he;obtain ⟨j,_,rfl⟩:=List.mem_map.mp h;exact N.qpos pc m
 have rimS:∀j:Int,((0,j):Pt)∈ends V->0<=j/\j<S.length:=fun j hj=>by
  rcases List.mem_append.mp (s3.mem_iff.mp hj) with h|h
  ·exact absurd (pos _ h) (by simp)
  ·obtain ⟨s,hs,e⟩:=List.mem_map.mp h;have e:s=j:=congrArg Prod.snd e;subst e;obtain ⟨n,hn,rfl⟩:=List.mem_map.mp (s2.mem_iff.mp hs);have:=List.mem_range.mp hn;lia
 intro i h h0;have hj:((0,E[i].2):Pt)∈ends V:=by
  have:=(l_.mp (hE.mem_iff.mp (List.getElem_mem h))).1;rw [<-h0];exact this
 obtain ⟨j0,j1⟩:=rimS _ hj;obtain ⟨k0,_⟩:=rimS _ hk;obtain ⟨l0,_⟩:=rimS _ hl;have c1:=K8 hr h;have c2:(E.filter fun e=>decide (ltP e E[i])).length=((jB V (0,k) (0,l)).filter fun e=>decide (ltP e E[i])).length:=(hE.filter _).length_eq;generalize E[i]=x at h0 hj j0 j1 c1 c2 ⊢;obtain ⟨x1,j⟩:=x;simp only at h0 j0 j1;subst h0;have c3:((jB V (0,k) (0,l)).filter fun e=>decide (ltP e (0,j))).length=(((List.range S.length).filter fun (i:Nat)=>decide ((i:Int)<j/\(i:Int)≠k/\(i:Int)≠l)).length):=by
  unfold jB;rw [((((s3.filter _).filter _).filter _).length_eq),List.filter_append,List.filter_append,List.filter_append];have e1:(((hks kvs Q).filter fun e=>decide (e≠((0,k):Pt))).filter fun e=>decide (e≠((0,l):Pt))).filter (fun e=>decide (ltP e (0,j)))=[]:=by
   rw [List.filter_filter,List.filter_filter];refine List.filter_eq_nil_iff.mpr fun e he=>?_
   have:=pos e he;have hlt:¬ltP e (0,j):=by
    unfold ltP;simp only;lia
   simp [hlt]
  rw [e1,List.nil_append,List.filter_filter,List.filter_filter,List.filter_map,List.length_map];rw [((s2.filter _).length_eq),List.filter_map,List.length_map]
  congr 1
  refine List.filter_congr fun n _=>?_
  simp only [Function.comp,rim];rw [Bool.eq_iff_iff];simp only [Bool.and_eq_true,decide_eq_true_eq,ltP,ne_eq,Prod.mk.injEq,true_and,Int.lt_irrefl,false_or];constructor
  ·rintro ⟨⟨a,b⟩,c⟩;exact ⟨a,c,b⟩
  ·rintro ⟨a,c,b⟩;exact ⟨⟨a,b⟩,c⟩
 have c4:=ZR hkl k0 l0 j0 S.length;rw [if_neg (show ¬(S.length:Int)<=j by lia)] at c4;rw [c2,c3] at c1;rw [c1] at c4;unfold cl;rw [if_pos rfl];show (0,j-_)=((0,(i:Int)):Pt);rw [c4]
noncomputable def mX (k l:Int) (e:Pt):Pt×Pt:=(e,cl k l e)
noncomputable def aFg:FS:=(bW (BL 7 (aF 8) (aF 8)) (sIf (bTB (b2 (bV .eq) (b2 getD (aF 8) (bC (.int 0))) (bC (.int 0)))) (BL 7 (aF 8) (dM (aC (bC (.int 0)) (aC (b2 (aW .sub) (aO aDh (aC (aF 7) (aV))) (bC (.int 1))) (aV))))) (jO)))
theorem DW (k l:Int) (S:List Pt):(S.map (mX k l)).map (·.1)=S:=by
 rw [List.map_map]
 conv=>rhs;rw [<-List.map_id S]
 rfl
theorem zK {k l:Int} {x0 x1 x2 x3 x4 x5 x6 x9:D} {E:List Pt} (hn:E.Nodup) (hl:E.length<=10000) (hp:∀(i:Nat) (h:i<E.length),E[i].1=0->cl k l E[i]=(0,(i:Int))) :
  ∀(R S:List Pt) (y:D),E=S++R->∃y',n8 (tg1 8) aFg (R.map enP) [x0,x1,x2,x3,x4,x5,x6,.dct ((S.map (mX k l)).map kvD),y,x9]=.ok (.nx [x0,x1,x2,x3,x4,x5,x6,.dct ((E.map (mX k l)).map kvD),y',x9])
 | [],S,y,h=>⟨y,by rw [List.append_nil] at h;rw [h];rfl⟩
 | e::R,S,y,h=>by
  obtain ⟨y',ih⟩:=zK (x0:=x0) (x1:=x1) (x2:=x2) (x3:=x3) (x4:=x4) (x5:=x5) (x6:=x6) (x9:=x9) hn hl hp R (S++[e]) (enP e) (by rw [h];simp);refine ⟨y',?_⟩;rw [<-ih];have hlen:S.length<E.length:=by rw [h,List.length_append,List.length_cons];lia
  have he:E[S.length]=e:=by
   subst h;simp
  have hnot:e∉(S.map (mX k l)).map (·.1):=by
   rw [DW];rw [h] at hn;intro z;exact (List.nodup_append.mp hn).2.2 _ z e (by simp) rfl
  have p1:=tD e e (S.map (mX k l));rw [qK hnot] at p1;have p2:putD ((S.map (mX k l)++[(e,e)]).map kvD) (enP e) (enP (0,(S.length:Int)))=(S.map (mX k l)++[(e,(0,(S.length:Int)))]).map kvD:=(tD e (0,(S.length:Int)) _).trans (by rw [TX hnot]);have l1:((S.map (mX k l)).map kvD).length<lim:=by
   rw [List.length_map,List.length_map,bQ];lia
  have l2:((S.map (mX k l)++[(e,e)]).map kvD).length=S.length+1:=by simp
  refine dN (ρ1:=[x0,x1,x2,x3,x4,x5,x6,.dct ((S.map (mX k l)).map kvD),enP e,x9]) (ρ2:=[x0,x1,x2,x3,x4,x5,x6,.dct (((S++[e]).map (mX k l)).map kvD),enP e,x9]) rfl ?_ rfl;refine aP (ρ':=[x0,x1,x2,x3,x4,x5,x6,.dct ((S.map (mX k l)++[(e,e)]).map kvD),enP e,x9]) ?_ ?_
  ·rw [<-p1];exact rP (i:=7) (kvs:=(S.map (mX k l)).map kvD) (k:=enP e) (d:=enP e) rfl rfl rfl l1 (K9 _ _) rfl
  have ht:bTB (b2 (bV .eq) (b2 getD (aF 8) (bC (.int 0))) (bC (.int 0))) [x0,x1,x2,x3,x4,x5,x6,.dct ((S.map (mX k l)++[(e,e)]).map kvD),enP e,x9]=.ok (e.1==0):=dC (aM (x:=.int e.1) (aM (x:=enP e) rfl rfl rfl) rfl rfl);rw [List.map_append (l₁:=S)];by_cases z:e.1=0
  ·rw [show (e.1==0)=true by simpa using z] at ht;have hc:mX k l e=(e,(0,(S.length:Int))):=by
    unfold mX;have:=hp S.length hlen (by rw [he];exact z);rw [he] at this;rw [this]
   rw [show [e].map (mX k l)=[(e,(0,(S.length:Int)))] by rw [List.map_cons,hc];rfl];rw [<-p2];have hlx:aDh [.dct ((S.map (mX k l)++[(e,e)]).map kvD)]=.ok (.int ((S.length:Int)+1)):=by
    show (if ((S.map (mX k l)++[(e,e)]).map kvD).all (fun p=>isTup p.1) then Res.ok (D.int (((S.map (mX k l)++[(e,e)]).map kvD).length:Int)) else .bad)=_;rw [if_pos (DR _),l2];rfl
   have hs:aW .sub (.int ((S.length:Int)+1)) (.int 1)=.ok (.int (S.length:Int)):=by
    rw [Q4]
    congr 2
    lia
   exact CP ht (rP (i:=7) (kvs:=(S.map (mX k l)++[(e,e)]).map kvD) (k:=enP e) (d:=enP (0,(S.length:Int))) (cI (xs:=[.int 0,.int (S.length:Int)]) (aD rfl (aD (aM (x:=.int ((S.length:Int)+1)) (aN (xs:=[.dct ((S.map (mX k l)++[(e,e)]).map kvD)]) (aD rfl rfl) hlx) rfl hs) rfl)) wJ) rfl rfl (by rw [l2,bQ];lia) (K9 _ _) rfl)
  ·rw [show (e.1==0)=false by simpa using z] at ht;have hc:mX k l e=(e,e):=by
    unfold mX cl;rw [if_neg z]
   rw [show [e].map (mX k l)=[(e,e)] by rw [List.map_cons,hc];rfl];exact oK ht rfl
theorem ZS {i j:Nat} {f:FE} {ρ:List D} {m:List (Pt×Pt)} {p v:Pt} (h1:f ρ=.ok (enP p)) (h2:ρ.getD i .uDf=.dct (m.map kvD)) (h3:dU m p=some v):aDg i j f ρ=.ok (.nx ((ρ.set i (.dct ((jN m p).map kvD))).set j (enP v))):=by
 unfold aDg;rw [h1,Res.aR,h2];show (if isTup (enP p)&&keyOk (enP p) then _ else _)=_;rw [if_pos (show (isTup (enP p)&&keyOk (enP p))=true from rfl),wH,h3];show (if (enP v).pure then _ else _)=_;rw [if_pos (show (enP v).pure=true from rfl),TV]
theorem T3 {m:List (Pt×Pt)} {p v:Pt} (h:dU m p=some v):getD (.dct (m.map kvD)) (enP p)=.ok (enP v):=by
 show (if keyOk (enP p) then Res.ofOpt (cY (m.map kvD) (enP p)) else .bad)=_;rw [if_pos (show keyOk (enP p)=true from rfl),wH,h];rfl
theorem T4 {m:List (Pt×Pt)} {p v:Pt} (h:dU m p=some v):getD (.fdc (m.map kvD)) (enP p)=.ok (enP v):=by
 show (if keyOk (enP p) then Res.ofOpt (cY (m.map kvD) (enP p)) else .bad)=_;rw [if_pos (show keyOk (enP p)=true from rfl),wH,h];rfl
theorem YB (m:List (Pt×Pt)):D.a_ ((m.map kvD).map (·.2))=true:=by
 rw [List.map_map,show ((fun x:D×D=>x.2) ∘ kvD)=enP ∘ (fun x:Pt×Pt=>x.2) from rfl,<-List.map_map];exact jM _
theorem YC {n i:Nat} {t:D->Res (List D)} {c:FT} {f:FE} {ρ:List D} {kvs:List (D×D)} {ys:List D} (h1:aF i ρ=.ok (.dct kvs)) (hl:kvs.length<=lim) (ht:kvs.all (fun p=>isTup p.1)=true) (hp:D.a_ (kvs.map (·.2))=true) (h:gD (jE n t c f false (ρ.set i (.fdc kvs))) [] (eE kvs)=.ok ys):yG n i t c f ρ=.ok (.lst ys):=by
 unfold yG;rw [h1,Res.aR];show (if decide (kvs.length<=lim)&&(kvs.all (fun p=>isTup p.1)&&D.a_ (kvs.map (·.2))) then _ else _)=_;rw [decide_eq_true hl,ht,hp,if_pos (by rfl),h];rfl
theorem LC {kvs:List (D×D)} {Q:List Pc} {V:List Tie} {r k l:Int} {a b:Pt} (N:Net kvs Q V) (hkl:k≠l) (ha:j9 V (0,k) a) (hb:j9 V (0,l) b) :
  cW 3 fL [bO Q V r,.int k,.int l]=.ok (bO Q (gM (((jA V (0,k) (0,l) a b).map (cl2 k l)).map norm)) (if a=(0,l) then r+1 else r)):=by
 have hn:=N.nd;have hpq:((0,k):Pt)≠(0,l):=fun z=>hkl (congrArg Prod.snd z)
 have hsm:=N.small;have tk:∀{ρ:List D} {i:Nat} {j:Int},aF i ρ=.ok (.int j)->dM (aC (bC (.int 0)) (aC (aF i) (aV))) ρ=.ok (enP (0,j)):=fun h=>cI (xs:=[.int 0,.int _]) (aD rfl (aD h rfl)) wJ
 have mt:=IV (Q:=Q) (r:=r) hn (by rw [bQ];lia);refine (eX rfl).trans (call_v ?_);refine aP (ρ':=[bO Q V r,.int k,.int l,.dct ((both V).map kvD),.uDf,.uDf,.uDf,.uDf,.uDf,.uDf]) (i_ (i:=3) (aN (xs:=[bO Q V r]) (aD rfl rfl) mt) ?_) ?_
 ·show D.a_ (((both V).map kvD).map (·.2))=true;rw [List.map_map,show ((fun x:D×D=>x.2) ∘ kvD)=enP ∘ (fun x:Pt×Pt=>x.2) from rfl,<-List.map_map];exact jM _
 refine aP (ρ':=[bO Q V r,.int k,.int l,.dct ((jN (both V) (0,k)).map kvD),enP a,.uDf,.uDf,.uDf,.uDf,.uDf]) (ZS (i:=3) (j:=4) (m:=both V) (p:=(0,k)) (v:=a) (tk rfl) rfl (look_both hn ha)) ?_;refine aP (ρ':=[bO Q V r,.int k,.int l,.dct ((jN (jN (both V) (0,k)) (0,l)).map kvD),enP a,enP b,.uDf,.uDf,.uDf,.uDf]) (ZS (i:=3) (j:=5) (m:=jN (both V) (0,k)) (p:=(0,l)) (v:=b) (tk rfl) rfl (by rw [lZ (Ne.symm hpq)];exact look_both hn hb)) ?_;have hi:aE6 [.bl (decide (a=(0,l)))]=.ok (.int (if a=(0,l) then 1 else 0)):=by
  show Res.ok (D.int (if decide (a=(0,l))=true then 1 else 0))=_;by_cases e:a=(0,l)
  ·rw [if_pos e,decide_eq_true e];rfl
  ·rw [if_neg e,decide_eq_false e];rfl
 have hadd:aW .add (.int r) (.int (if a=(0,l) then 1 else 0))=.ok (.int (if a=(0,l) then r+1 else r)):=by
  rw [fJ];by_cases e:a=(0,l)
  ·rw [if_pos e,if_pos e]
  ·rw [if_neg e,if_neg e,Int.add_zero]
 refine aP (ρ':=[bO Q V r,.int k,.int l,.dct ((jN (jN (both V) (0,k)) (0,l)).map kvD),enP a,enP b,.int (if a=(0,l) then r+1 else r),.uDf,.uDf,.uDf]) (bL (i:=6) (aM (x:=.int r) (aM (x:=bO Q V r) rfl rfl (n2 Q V r)) (aN (xs:=[.bl (decide (a=(0,l)))]) (aD (aM (x:=enP a) (y:=enP (0,l)) rfl (tk rfl) (nT _ _)) rfl) hi) hadd)) ?_;clear hadd;generalize (if a=(0,l) then r+1 else r)=r2;have kd:=oV (V:=V) (p:=(0,k)) (q:=(0,l));have ld:(jN (jN (both V) (0,k)) (0,l)).length<=2000:=by
  have:(jN (jN (both V) (0,k)) (0,l)).length<=(both V).length:=Nat.le_trans (List.length_filter_le ..) (List.length_filter_le ..);rw [H_] at this;lia
 have ht:bTB (b2 (bV .ne) (aF 4) (dM (aC (bC (.int 0)) (aC (aF 2) (aV))))) [bO Q V r,.int k,.int l,.dct ((jN (jN (both V) (0,k)) (0,l)).map kvD),enP a,enP b,.int r2,.uDf,.uDf,.uDf]=.ok (!decide (a=(0,l))):=dC (aM (x:=enP a) (y:=enP (0,l)) rfl (tk rfl) (R1 _ _));refine aP (ρ':=[bO Q V r,.int k,.int l,.dct ((oU V (0,k) (0,l) a b).map kvD),enP a,enP b,.int r2,.uDf,.uDf,.uDf]) ?_ ?_
 ·unfold oU;by_cases e:a=(0,l)
  ·rw [decide_eq_true e] at ht;rw [if_pos e];exact oK ht rfl
  ·rw [decide_eq_false e] at ht;rw [if_neg e];have ia:a∈jB V (0,k) (0,l):=l_.mpr ⟨ha.mem.2,Ne.symm (pI hn ha),e⟩;have lk:∀(m:List (Pt×Pt)) (x y:Pt),x∈m.map (·.1)->(zH m x y).length=m.length:=fun m x y hx=>by
    have:=congrArg List.length (qL (q:=y) hx);rw [List.length_map,List.length_map] at this;exact this
   have l2:=lk (jN (jN (both V) (0,k)) (0,l)) a b (by rw [kd];exact ia);refine CP ht (aP (ρ':=[bO Q V r,.int k,.int l,.dct ((zH (jN (jN (both V) (0,k)) (0,l)) a b).map kvD),enP a,enP b,.int r2,.uDf,.uDf,.uDf]) ?_ ?_)
   ·rw [<-tD];exact rP (i:=3) (kvs:=(jN (jN (both V) (0,k)) (0,l)).map kvD) (k:=enP a) (d:=enP b) rfl rfl rfl (by rw [List.length_map,bQ];lia) (K9 _ _) rfl
   ·rw [<-tD b a];exact rP (i:=3) (kvs:=(zH (jN (jN (both V) (0,k)) (0,l)) a b).map kvD) (k:=enP b) (d:=enP a) rfl rfl rfl (by rw [List.length_map,bQ];lia) (K9 _ _) rfl
 have k2:=aFe hn hpq ha hb;have hE:=uJ hn hpq ha hb;have lk2:=aFf hn hpq ha hb;have nR:(jB V (0,k) (0,l)).Nodup:=(hn.filter _).filter _;have pE:=pJ (jB V (0,k) (0,l));have rE:=K_ nR;have plc:=X_ N hkl ha.mem.1 hb.mem.1 pE rE;have nE:(jZ (jB V (0,k) (0,l))).Nodup:=pE.nodup_iff.mpr nR;have sk:=tG (oU V (0,k) (0,l) a b);rw [k2] at sk;have mR:∀e∈jB V (0,k) (0,l),e≠(0,k)/\e≠(0,l):=fun e he=>(l_.mp he).2
 have hlE:(jZ (jB V (0,k) (0,l))).length<=2000:=by
  rw [pE.length_eq];unfold jB;refine Nat.le_trans (List.length_filter_le ..) (Nat.le_trans (List.length_filter_le ..) ?_);rw [HW];lia
 have memE:∀e,e∈jZ (jB V (0,k) (0,l))↔e∈ends (jA V (0,k) (0,l) a b):=fun e=>pE.mem_iff.trans hE.mem_iff
 have pEW:=pE.trans hE;have mR2:∀e∈ends (jA V (0,k) (0,l) a b),e≠(0,k)/\e≠(0,l):=fun e he=>mR e (hE.mem_iff.mpr he)
 generalize jZ (jB V (0,k) (0,l))=E at sk plc nE hlE memE pEW;generalize oU V (0,k) (0,l) a b=M at sk lk2;generalize jA V (0,k) (0,l) a b=W at lk2 memE pEW mR2
 -- g
 have hg:∀t∈W,(fun e=>(dU M e).getD e) t.1=t.2/\(fun e=>(dU M e).getD e) t.2=t.1/\t.1≠t.2:=fun t ht=>by
  obtain ⟨h1,h2,h3⟩:=lk2 t ht;simp only [h1,h2,Option.getD_some];exact ⟨trivial,trivial,h3⟩
 have hM:∀e∈E,dU M e=some ((dU M e).getD e)/\(dU M e).getD e∈E:=fun e he=>by
  obtain ⟨t,ht,h⟩:=List.mem_flatMap.mp ((memE e).mp he);obtain ⟨h1,h2,_⟩:=lk2 t ht;rcases List.mem_cons.mp h with h|h
  ·rw [h,h1];exact ⟨rfl,(memE _).mpr (gC ht).2⟩
  ·rw [show e=t.2 by simpa using h,h2];exact ⟨rfl,(memE _).mpr (gC ht).1⟩
 generalize hgg:(fun e=>(dU M e).getD e)=g at hg;have told:=S9 hkl pEW hg mR2;have hM:∀e∈E,dU M e=some (g e)/\g e∈E:=fun e he=>by rw [<-hgg];exact hM e he
 have hA:∀e∈E,dU (E.map (mX k l)) e=some (cl k l e):=fun e he=>tE (by rw [DW];exact nE) (List.mem_map.mpr ⟨e,he,rfl⟩)
 obtain ⟨y',lp⟩:=zK (x0:=bO Q V r) (x1:=.int k) (x2:=.int l) (x3:=.dct (M.map kvD)) (x4:=enP a) (x5:=enP b) (x6:=.int r2) (x9:=.uDf) nE (by lia) plc E [] .uDf rfl;refine aP (ρ':=[bO Q V r,.int k,.int l,.dct (M.map kvD),enP a,enP b,.int r2,.dct [],.uDf,.uDf]) (i_ (i:=7) rfl rfl) ?_;refine aP (ρ':=[bO Q V r,.int k,.int l,.dct (M.map kvD),enP a,enP b,.int r2,.dct ((E.map (mX k l)).map kvD),y',.uDf]) (oM (fZ (d:=.lst (E.map enP)) (aN (xs:=[.dct (M.map kvD)]) (aD rfl rfl) sk) rfl) lp) ?_;have hf:gD (jE 10 j7 (bTB (b2 (bV (.ord .lt)) (aF 10) (b2 getD (aF 3) (aF 10)))) (dM (aC (b2 getD (aF 7) (aF 10)) (aC (b2 getD (aF 7) (b2 getD (aF 3) (aF 10))) (aV)))) false [bO Q V r,.int k,.int l,.dct (M.map kvD),enP a,enP b,.int r2,.fdc ((E.map (mX k l)).map kvD),y',.uDf]) [] (E.map enP)=.ok (((E.filter fun e=>decide (ltP e (g e))).map fun e=>(cl k l e,cl k l (g e))).map bM):=by
  have:∀(R:List Pt) (acc:List D),(∀e∈R,e∈E)->gD (jE 10 j7 (bTB (b2 (bV (.ord .lt)) (aF 10) (b2 getD (aF 3) (aF 10)))) (dM (aC (b2 getD (aF 7) (aF 10)) (aC (b2 getD (aF 7) (b2 getD (aF 3) (aF 10))) (aV)))) false [bO Q V r,.int k,.int l,.dct (M.map kvD),enP a,enP b,.int r2,.fdc ((E.map (mX k l)).map kvD),y',.uDf]) acc (R.map enP)=.ok (acc++((R.filter fun e=>decide (ltP e (g e))).map fun e=>(cl k l e,cl k l (g e))).map bM):=by
   intro R;induction R with
   | nil=>intro acc _;simp [gD]
   | cons e R ih=>
    intro acc hR;have he:=hR e (List.mem_cons_self ..);obtain ⟨m1,m2⟩:=hM e he;have st:=gH (n:=10) (t:=j7) (c:=bTB (b2 (bV (.ord .lt)) (aF 10) (b2 getD (aF 3) (aF 10)))) (f:=dM (aC (b2 getD (aF 7) (aF 10)) (aC (b2 getD (aF 7) (b2 getD (aF 3) (aF 10))) (aV)))) (k:=false) (acc:=acc) (x:=enP e) (ρ:=[bO Q V r,.int k,.int l,.dct (M.map kvD),enP a,enP b,.int r2,.fdc ((E.map (mX k l)).map kvD),y',.uDf]) (b:=decide (ltP e (g e))) (bs:=[enP e]) (y:=bM (cl k l e,cl k l (g e))) rfl rfl (dC (aM (x:=enP e) (y:=enP (g e)) rfl (aM (x:=.dct (M.map kvD)) (y:=enP e) rfl rfl (T3 m1)) (aAr rfl rfl (sO _ _)))) fun _=>⟨cI (xs:=[enP (cl k l e),enP (cl k l (g e))]) (aD (aM (x:=.fdc ((E.map (mX k l)).map kvD)) (y:=enP e) rfl rfl (T4 (hA e he))) (aD (aM (x:=.fdc ((E.map (mX k l)).map kvD)) (y:=enP (g e)) rfl (aM (x:=.dct (M.map kvD)) (y:=enP e) rfl rfl (T3 m1)) (T4 (hA _ m2))) rfl)) wJ,rfl⟩
    rw [List.map_cons,gD,st];show gD _ _ _=_;rw [ih _ fun x hx=>hR x (List.mem_cons_of_mem _ hx),List.filter_cons];by_cases z:ltP e (g e)
    ·rw [if_pos (by simpa using z),if_pos (by simpa using z),List.append_assoc];rfl
    ·rw [if_neg (by simpa using z),if_neg (by simpa using z)]
  exact (this E [] fun _ h=>h).trans (by rw [List.nil_append])
 generalize hT:((E.filter fun e=>decide (ltP e (g e))).map fun e=>(cl k l e,cl k l (g e)))=TT at hf told;refine aP (ρ':=[bO Q V r,.int k,.int l,.dct (M.map kvD),enP a,enP b,.int r2,.dct ((E.map (mX k l)).map kvD),y',.lst (TT.map bM)]) (bL (i:=9) (YC (i:=7) (kvs:=(E.map (mX k l)).map kvD) rfl (by rw [List.length_map,List.length_map,bQ];lia) (DR _) (YB _) (by rw [TQ,DW];exact hf))) ?_;have hs:=wB TT;rw [XS told.symm] at hs;refine iV (d:=bO Q (gM ((W.map (cl2 k l)).map norm)) r2) (cI (xs:=[.tup (Q.map pcD),.tup ((gM ((W.map (cl2 k l)).map norm)).map bM),.int r2]) (aD (aM (x:=bO Q V r) rfl rfl (n0 Q V r)) (aD (aN (xs:=[.lst ((gM ((W.map (cl2 k l)).map norm)).map bM)]) (aD (aN (xs:=[.lst (TT.map bM)]) (aD rfl rfl) hs) rfl) rfl) (aD rfl rfl))) aFs) ?_;rw [wC];rfl
end Lk06
end
section
namespace Lk06
open PySem L2 Mi
theorem T5 (x y:Pt):norm (y,x)=norm (x,y):=by
 unfold norm;show ((if ltP x y then x else y),(if ltP y x then x else y))=((if ltP y x then y else x),(if ltP x y then y else x));by_cases h1:ltP x y
 ·rw [if_pos h1,if_neg (irr _ _ h1),if_neg (irr _ _ h1),if_pos h1]
 ·by_cases h2:ltP y x
  ·rw [if_neg h1,if_pos h2,if_pos h2,if_neg h1]
  ·rw [if_neg h1,if_neg h2,if_neg h2,if_neg h1];have:x=y:=by
    unfold ltP at h1 h2;exact Prod.ext (by lia) (by lia)
   rw [this]
theorem T6 (k l:Int) (e:Pt):cl l k e=cl k l e:=by
 unfold cl;by_cases h:e.1=0
 ·rw [if_pos h,if_pos h,Int.add_comm]
 ·rw [if_neg h,if_neg h]
theorem IW (p q:Pt) (V:List Tie):rem p (rem q V)=rem q (rem p V):=by
 unfold rem;rw [List.filter_filter,List.filter_filter];exact List.filter_congr fun t _=>Bool.and_comm _ _
theorem T7 {V:List Tie} {k l:Int} {a b:Pt} (hn:(ends V).Nodup) (ha:j9 V (0,k) a) (hb:j9 V (0,l) b) :
  ((jA V (0,l) (0,k) b a).map (cl2 l k)).map norm=((jA V (0,k) (0,l) a b).map (cl2 k l)).map norm/\(b=(0,k)↔a=(0,l)):=by
 have hiff:b=(0,k)↔a=(0,l):=by
  constructor
  ·intro z;subst z;exact lX hn ha hb.symm
  ·intro z;subst z;exact lX hn hb ha.symm
 refine ⟨?_,hiff⟩;have e2:cl2 l k=cl2 k l:=funext fun t=>by
  show (cl l k t.1,cl l k t.2)=(cl k l t.1,cl k l t.2);rw [T6 k l t.1,T6 k l t.2]
 rw [e2];unfold jA;by_cases e:a=(0,l)
 ·rw [if_pos (hiff.mpr e),if_pos e,IW]
 ·rw [if_neg (fun z=>e (hiff.mp z)),if_neg e,IW,List.map_append,List.map_append,List.map_append,List.map_append]
  congr 1
  show [norm (cl k l b,cl k l a)]=[norm (cl k l a,cl k l b)];rw [T5]
theorem tH {α:Type} (g:List D->D->Res (List D)) (d:α->D) (P:α->Prop):∀(xs acc:List D),(∀x∈xs,∀acc,∃ys:List α,(∀y∈ys,P y)/\ys.length<=1/\g acc x=.ok (acc++ys.map d))->∃zs:List α,(∀z∈zs,P z)/\zs.length<=xs.length/\gD g acc xs=.ok (acc++zs.map d)
 | [],acc,_=>⟨[],fun _ h=>(by cases h),Nat.le_refl _,(by simp [gD])⟩
 | x::xs,acc,h=>by
  obtain ⟨ys,h1,h2,h3⟩:=h x (List.mem_cons_self ..) acc;obtain ⟨zs,i1,i2,i3⟩:=tH g d P xs (acc++ys.map d) fun y hy=>h y (List.mem_cons_of_mem _ hy)
  refine ⟨ys++zs,fun z hz=>?_,by rw [List.length_append,List.length_cons];lia,?_⟩
  ·rcases List.mem_append.mp hz with hz|hz
   ·exact h1 z hz
   ·exact i1 z hz
  ·rw [gD,h3];show gD g _ _=_;rw [i3,List.map_append,List.append_assoc]
noncomputable def Two (V:List Tie) (p:Pt):Prop:=((0,p.1):Pt)∈ends V/\((0,p.2):Pt)∈ends V/\p.1≠p.2
theorem ints_get (R:List Int) (i:Int) (h0:0<=i) (h1:i<R.length):∃(h:i.toNat<R.length),getD (.lst (R.map D.int)) (.int i)=.ok (.int R[i.toNat]):=by
 obtain ⟨h,e⟩:=pB (R.map D.int) i h0 (by rw [List.length_map];exact h1);rw [List.length_map] at h;exact ⟨h,by rw [e,List.getElem_map]⟩
theorem ZV {a:FE} {lo hi:List D->Res (Option Int)} {ρ:List D} {x d:D} {l h:Option Int} (h1:a ρ=.ok x) (h2:lo ρ=.ok l) (h3:hi ρ=.ok h) (h4:VR x l h=.ok d):VV a lo hi ρ=.ok d:=by
 unfold VV;rw [h1,Res.aR,h2,Res.aR,h3,Res.aR,h4]
theorem aBh (cs:List Int) (lo hi:Option Int):VR (.lst (cs.map D.int)) lo hi=.ok (.lst ((cutD cs lo hi).map D.int)):=by
 show (if D.a_ (cs.map D.int) then Res.ok (D.lst (cutD (cs.map D.int) lo hi)) else .bad)=_;rw [pC,if_pos rfl,Q8]
theorem aBi (ns:List Int) (lo hi:Option Int):(cutD ns lo hi).Sublist ns:=(List.take_sublist ..).trans (List.drop_sublist ..)
theorem aBj {f:FA} {g:List D->Res (List D×Bool)} {ρ xs:List D} (h:f ρ=.ok xs):jD f g ρ=g xs:=by
 unfold jD;rw [h,Res.aR]
noncomputable def aDy:FS:=(bW (cA false 11 (aO (cW 3 fL) (aC (aF 3) (aC (aF 9) (aC (aF 10) (aV))))) true) (bW (sIf (bOr (pZ (bTr (aO (cW 2 (bR 6)) (aC (aO (cW 3 jX) (aC (aF 3) (aC (aF 9) (aC (aF 10) (aV))))) (aC (aF 11) (aV)))))) (pZ (bTr (aO (cW 2 (bR 6)) (aC (aO (cW 3 jX) (aC (aF 3) (aC (aF 10) (aC (aF 9) (aV))))) (aC (aF 11) (aV))))))) (j8 (bC (.bl false)) true) (jO)) (bW (cA false 12 (b2 (aW .add) (aF 6) (b2 (aW .mul) (b2 (aW .mod) (aF 1) (bC (.int 3))) (b2 (aW .mod) (b2 (aW .fdiv) (aF 1) (bC (.int 3))) (b2 (aW .pow) (bC (.int 10)) (bC (.int 50)))))) true) (bW (sIf (bOr (pZ (bTr (aO (cW 3 bB) (aC (aF 3) (aC (aF 9) (aC (aF 9) (aV))))))) (bOr (pZ (bTr (aO (cW 3 bB) (aC (aF 3) (aC (aF 10) (aC (aF 12) (aV))))))) (pZ (bTr (aO (cW 3 bB) (aC (aF 3) (aC (aF 12) (aC (aF 9) (aV))))))))) (j8 (bC (.bl false)) true) (jO)) (sIf (bOr (pZ (bTr (aO (cW 3 bB) (aC (aF 3) (aC (b1 O3 (bC (.int 1))) (aC (aF 9) (aV))))))) (pZ (bTr (aO (cW 3 bB) (aC (aF 3) (aC (aF 10) (aC (b1 O3 (bC (.int 1))) (aV)))))))) (j8 (bC (.bl false)) true) (jO))))))
theorem nt {f:FE} {ρ:List D} (h:f ρ=.ok (.bl true)):pZ (bTr f) ρ=.ok false:=SN (b:=true) (X3 h rfl)
theorem aBk {kvs:List (D×D)} {Q:List Pc} {V:List Tie} {r cell:Int} {many:Nat} (N:Net kvs Q V) (hr:∀j:Int,(j<0\/(many:Int)<=j)->((0,j):Pt)∉ends V) {p:Pt} (hp:Two V p) {x0 x2 x4 x5 x7 x8 x11 x12:D} :
  ∃y11 y12,aDy [x0,.int cell,x2,bO Q V r,x4,x5,.int many,x7,x8,.int p.1,.int p.2,x11,x12]=.ok (.nx [x0,.int cell,x2,bO Q V r,x4,x5,.int many,x7,x8,.int p.1,.int p.2,y11,y12]):=by
 obtain ⟨hk,hl,hkl⟩:=hp;obtain ⟨k,l⟩:=p;simp only at hk hl hkl ⊢;obtain ⟨a,ha⟩:=sY hk;obtain ⟨b,hb⟩:=sY hl;have hn:=N.nd;have hsm:=N.small;have hq:=N.ql;have d1:=LC (r:=r) N hkl ha hb;have d2:=zG (r:=r) N.qs hn hsm hkl ha hb;have d3:=zG (r:=r) N.qs hn hsm (Ne.symm hkl) hb ha;obtain ⟨c1,c2⟩:=T7 hn ha hb;rw [c1,show (if b=(0,k) then r+1 else r)=(if a=(0,l) then r+1 else r) by
  by_cases e:a=(0,l)
  ·rw [if_pos e,if_pos (c2.mpr e)]
  ·rw [if_neg e,if_neg (fun z=>e (c2.mp z))]] at d3
 have hlen:(gM (((jA V (0,k) (0,l) a b).map (cl2 k l)).map norm)).length<=100000:=by
  rw [(g_ _).length_eq,List.length_map,List.length_map];have:=HX (V:=V) (p:=(0,k)) (q:=(0,l)) (a:=a) (b:=b);lia
 generalize gM (((jA V (0,k) (0,l) a b).map (cl2 k l)).map norm)=TT at d1 d2 d3 hlen;generalize (if a=(0,l) then r+1 else r)=r2 at d1 d2 d3;have sm:=X5 (Q:=Q) (T:=TT) (r:=r2) (by lia) hlen;have p50:aW .pow (.int 10) (.int 50)=.ok (.int (10 ^ 50)):=Q7 50 (by decide);have m3:=gQ cell 3 (by decide);have f3:=iM cell 3 (by decide) (by decide);have m50:=gQ (cell / 3) (10 ^ 50) (by decide);have g0:0<=cell % 3:=Int.emod_nonneg _ (by decide);have g1:cell % 3<3:=Int.emod_lt_of_pos _ (by decide);have g2:0<=cell / 3 % 10 ^ 50:=Int.emod_nonneg _ (by decide);have mu:=vR (cell % 3) (cell / 3 % 10 ^ 50) (jU _ (by lia) (by lia));have g3:0<=cell % 3*(cell / 3 % 10 ^ 50):=Int.mul_nonneg g0 g2;generalize cell % 3*(cell / 3 % 10 ^ 50)=w at mu g3;have hfar:((0,(many:Int)+w):Pt)∉ends V:=hr _ (.inr (by lia));have hneg:((0,-1):Pt)∉ends V:=hr _ (.inl (by decide));refine ⟨bO Q TT r2,.int (many+w),?_⟩;refine aP (ρ':=[x0,.int cell,x2,bO Q V r,x4,x5,.int many,x7,x8,.int k,.int l,bO Q TT r2,x12]) (bL (i:=11) (aN (xs:=[bO Q V r,.int k,.int l]) (aD rfl (aD rfl (aD rfl rfl))) d1)) ?_;refine aP (ρ':=[x0,.int cell,x2,bO Q V r,x4,x5,.int many,x7,x8,.int k,.int l,bO Q TT r2,x12]) (oK (aBr (nt (aN (xs:=[bO Q TT r2,bO Q TT r2]) (aD (aN (xs:=[bO Q V r,.int k,.int l]) (aD rfl (aD rfl (aD rfl rfl))) d2) (aD rfl rfl)) sm)) (nt (aN (xs:=[bO Q TT r2,bO Q TT r2]) (aD (aN (xs:=[bO Q V r,.int l,.int k]) (aD rfl (aD rfl (aD rfl rfl))) d3) (aD rfl rfl)) sm))) rfl) ?_;refine aP (ρ':=[x0,.int cell,x2,bO Q V r,x4,x5,.int many,x7,x8,.int k,.int l,bO Q TT r2,.int (many+w)]) (bL (i:=12) (aM (x:=.int many) (y:=.int w) rfl (aM (x:=.int (cell % 3)) (y:=.int (cell / 3 % 10 ^ 50)) (aM (x:=.int cell) rfl rfl m3) (aM (x:=.int (cell / 3)) (aM (x:=.int cell) rfl rfl f3) (aM rfl rfl p50) m50) mu) (fJ _ _))) ?_;have three:∀{f g:FE} {ρ:List D} {u v:Int},aF 3 ρ=.ok (bO Q V r)->f ρ=.ok (.int u)->g ρ=.ok (.int v)->aC (aF 3) (aC f (aC g aV)) ρ=.ok [bO Q V r,.int u,.int v]:=fun h1 h2 h3=>aD h1 (aD h2 (aD h3 rfl))
 refine aP (ρ':=[x0,.int cell,x2,bO Q V r,x4,x5,.int many,x7,x8,.int k,.int l,bO Q TT r2,.int (many+w)]) (oK (aBr (nt (aN (three rfl rfl rfl) (TJ hn))) (aBr (nt (aN (three (u:=l) (v:=many+w) rfl rfl rfl) (TF hn hfar))) (nt (aN (three (u:=many+w) (v:=k) rfl rfl rfl) (sZ hfar))))) rfl) ?_;exact oK (aBr (nt (aN (three (u:=-1) (v:=k) rfl (X4 (x:=.int 1) rfl rfl) rfl) (sZ hneg))) (nt (aN (three (u:=l) (v:=-1) rfl rfl (X4 (x:=.int 1) rfl rfl)) (TF hn hneg)))) rfl
theorem I_ {kvs:List (D×D)} {Q:List Pc} {V:List Tie} {r cell:Int} {many:Nat} (N:Net kvs Q V) (hr:∀j:Int,(j<0\/(many:Int)<=j)->((0,j):Pt)∉ends V) {x0 x2 x4 x5 x7 x8:D}:∀(Ps:List Pt) (x9 x10 x11 x12:D),(∀p∈Ps,Two V p)->
  ∃y9 y10 y11 y12,n8 (tgN [9,10]) aDy (Ps.map enP) [x0,.int cell,x2,bO Q V r,x4,x5,.int many,x7,x8,x9,x10,x11,x12]=.ok (.nx [x0,.int cell,x2,bO Q V r,x4,x5,.int many,x7,x8,y9,y10,y11,y12])
 | [],x9,x10,x11,x12,_=>⟨x9,x10,x11,x12,rfl⟩
 | p::Ps,x9,x10,x11,x12,h=>by
  obtain ⟨y11,y12,e⟩:=aBk (r:=r) (cell:=cell) (x0:=x0) (x2:=x2) (x4:=x4) (x5:=x5) (x7:=x7) (x8:=x8) (x11:=x11) (x12:=x12) N hr (h p (List.mem_cons_self ..));obtain ⟨z9,z10,z11,z12,ih⟩:=I_ (r:=r) (cell:=cell) (x0:=x0) (x2:=x2) (x4:=x4) (x5:=x5) (x7:=x7) (x8:=x8) N hr Ps (.int p.1) (.int p.2) y11 y12 fun q hq=>h q (List.mem_cons_of_mem _ hq)
  exact ⟨z9,z10,z11,z12,dN (ρ1:=[x0,.int cell,x2,bO Q V r,x4,x5,.int many,x7,x8,.int p.1,.int p.2,x11,x12]) rfl e ih⟩
theorem main:∀ns:List Int,ns.length<=63->K3 [.scr (ns.map D.int)]=.ok (.bl true):=by
 intro ns hlen;have c0:=cell_eq ns 0;have c1:=cell_eq ns 1;obtain ⟨kvs,k1,k2,k3,k4⟩:=XN (cellAt ns 0) (cellAt ns 1);have k4':cW 2 gG [.int (cellAt ns 0),.int (cellAt ns 1)]=.ok (.dct kvs):=(eX rfl).trans k4;have hs:VR (.scr (ns.map D.int)) (some 2) (some 66)=.ok (.lst ((cutD ns (some 2) (some 66)).map D.int)):=by
  show (if D.a_ (ns.map D.int) then Res.ok (D.lst (cutD (ns.map D.int) (some 2) (some 66))) else .bad)=_;rw [pC,if_pos rfl,Q8]
 have hcl:=aAs ns (some 2) (some 66);generalize cutD ns (some 2) (some 66)=cs at hs hcl;obtain ⟨Q,V,r,N,hr0,gw⟩:=X6 k1 k2 k3 cs (by lia) (cellAt ns 0);generalize cellAt ns 0=a0 at c0 k4' gw;generalize cellAt ns 1=cell at c1 k4';have hn:=N.nd;have hsm:=N.small;obtain ⟨S,s1,s2,s3⟩:=N.rims;have pos:∀e∈hks kvs Q,0<e.1:=fun e he=>by
  obtain ⟨pc,m,h⟩:=List.mem_flatMap.mp he;obtain ⟨j,_,rfl⟩:=List.mem_map.mp h;exact N.qpos pc m
 have noRim:∀j:Int,(j<0\/(S.length:Int)<=j)->((0,j):Pt)∉ends V:=fun j hj z=>by
  rcases List.mem_append.mp (s3.mem_iff.mp z) with h|h
  ·exact absurd (pos _ h) (by simp)
  ·obtain ⟨s,hs,e⟩:=List.mem_map.mp h;have e:s=j:=congrArg Prod.snd e;subst e;obtain ⟨n,hn,rfl⟩:=List.mem_map.mp (s2.mem_iff.mp hs);have:=List.mem_range.mp hn;lia
 -- the spots
 have pE:=pJ (ends V);have hspot:(((jZ (ends V)).filter fun e=>e.1==0).map fun e=>e.2).Perm S:=by
  refine ((pE.filter _).map _).trans (((s3.filter _).map _).trans ?_);rw [List.filter_append];have e1:(hks kvs Q).filter (fun e=>e.1==0)=[]:=List.filter_eq_nil_iff.mpr fun e he=>by
   have:=pos e he;simp;lia
  have e2:(S.map rim).filter (fun e=>e.1==0)=S.map rim:=List.filter_eq_self.mpr fun e he=>by
   obtain ⟨s,_,rfl⟩:=List.mem_map.mp he;rfl
  rw [e1,e2,List.nil_append,List.map_map];refine List.Perm.of_eq ?_
  conv=>rhs;rw [<-List.map_id S]
  rfl
 have lE:(jZ (ends V)).length<=2000:=by rw [pE.length_eq,HW];lia
 have mt:=IV (Q:=Q) (r:=r) hn (by rw [bQ];lia);have sk:=tG (both V);rw [lY] at sk;have hmany:(((jZ (ends V)).filter fun e=>e.1==0).map fun e=>e.2).length=S.length:=hspot.length_eq;have hSp:∀j∈(((jZ (ends V)).filter fun e=>e.1==0).map fun e=>e.2),((0,j):Pt)∈ends V:=fun j hj=>by
  have:=hspot.mem_iff.mp hj;exact s3.mem_iff.mpr (List.mem_append_right _ (List.mem_map.mpr ⟨j,this,rfl⟩))
 have hf1:∀{ρ:List D},ρ.length=13->(∀e:Pt,aF 13 (ρ++[enP e])=.ok (enP e))->gD (jE 13 j7 (bTB (b2 (bV .eq) (b2 getD (aF 13) (bC (.int 0))) (bC (.int 0)))) (b2 getD (aF 13) (bC (.int 1))) false ρ) [] ((jZ (ends V)).map enP)=.ok ((((jZ (ends V)).filter fun e=>e.1==0).map fun e=>e.2).map D.int):=fun {ρ} h1 h2=>by
  rw [eG _ enP (fun e=>e.1==0) (fun e=>D.int e.2)]
  ·rw [List.nil_append,List.map_map];rfl
  ·intro acc e;exact gH (n:=13) (t:=j7) (k:=false) (acc:=acc) (x:=enP e) (ρ:=ρ) (b:=e.1==0) (bs:=[enP e]) (y:=.int e.2) h1 rfl (dC (aM (x:=.int e.1) (aM (x:=enP e) (h2 e) rfl rfl) rfl rfl)) fun _=>⟨aM (x:=enP e) (h2 e) rfl rfl,rfl⟩
 have lsp:(((jZ (ends V)).filter fun e=>e.1==0).map fun e=>e.2).length<=2000:=by
  rw [List.length_map];exact Nat.le_trans (List.length_filter_le ..) lE
 generalize (((jZ (ends V)).filter fun e=>e.1==0).map fun e=>e.2)=sp at hspot hmany hSp hf1 lsp;have spn:sp.Nodup:=hspot.nodup_iff.mpr s1;obtain ⟨ys,py,sh⟩:=R5 (xs:=sp.map D.int) cell (fun x hx=>by
  obtain ⟨a,_,rfl⟩:=List.mem_map.mp hx;rfl) (by rw [List.length_map];lia)
 obtain ⟨sh1,psh,rfl⟩:=HR D.int unI (fun _=>rfl) py;have hrow:=aBh sh1 none (some 8);have srow:=aBi sh1 none (some 8);generalize cutD sh1 none (some 8)=row at hrow srow;have rown:row.Nodup:=srow.nodup (psh.nodup_iff.mpr spn);have rowm:∀j∈row,((0,j):Pt)∈ends V:=fun j hj=>hSp j (psh.mem_iff.mp (srow.subset hj))
 have lrow:row.length<=2000:=Nat.le_trans srow.length_le (by rw [psh.length_eq];lia);have lenI:∀xs:List Int,fM [.lst (xs.map D.int)]=.ok (.int xs.length):=fun xs=>by rw [m_,List.length_map]
 refine call_v ?_;refine aP (ρ':=[.scr (ns.map D.int),.int cell,.uDf,.uDf,.uDf,.uDf,.uDf,.uDf,.uDf,.uDf,.uDf,.uDf,.uDf]) (bL (i:=1) (aN (xs:=[.scr (ns.map D.int),.int 1]) (aD rfl (aD rfl rfl)) c1)) ?_;refine aP (ρ':=[.scr (ns.map D.int),.int cell,.dct kvs,.uDf,.uDf,.uDf,.uDf,.uDf,.uDf,.uDf,.uDf,.uDf,.uDf]) (bL (i:=2) (aN (xs:=[.int a0,.int cell]) (aD (aN (xs:=[.scr (ns.map D.int),.int 0]) (aD rfl (aD rfl rfl)) c0) (aD rfl rfl)) k4')) ?_;refine aP (ρ':=[.scr (ns.map D.int),.int cell,.dct kvs,bO Q V r,.uDf,.uDf,.uDf,.uDf,.uDf,.uDf,.uDf,.uDf,.uDf]) (bL (i:=3) (aN (xs:=[.dct kvs,.lst (cs.map D.int),.int a0]) (aD rfl (aD (ZV (x:=.scr (ns.map D.int)) (l:=some 2) (h:=some 66) rfl rfl rfl hs) (aD (aN (xs:=[.scr (ns.map D.int),.int 0]) (aD rfl (aD rfl rfl)) c0) rfl))) gw)) ?_;refine aP (ρ':=[.scr (ns.map D.int),.int cell,.dct kvs,bO Q V r,.dct ((both V).map kvD),.uDf,.uDf,.uDf,.uDf,.uDf,.uDf,.uDf,.uDf]) (bL (i:=4) (aN (xs:=[bO Q V r]) (aD rfl rfl) mt)) ?_;refine aP (ρ':=[.scr (ns.map D.int),.int cell,.dct kvs,bO Q V r,.dct ((both V).map kvD),.lst (sp.map D.int),.uDf,.uDf,.uDf,.uDf,.uDf,.uDf,.uDf]) (bL (i:=5) (iK (fZ (d:=.lst ((jZ (ends V)).map enP)) (aN (xs:=[.dct ((both V).map kvD)]) (aD rfl rfl) sk) rfl) (by rw [List.length_map,bQ];lia) (hf1 rfl fun _=>rfl))) ?_;refine aP (ρ':=[.scr (ns.map D.int),.int cell,.dct kvs,bO Q V r,.dct ((both V).map kvD),.lst (sp.map D.int),.int S.length,.uDf,.uDf,.uDf,.uDf,.uDf,.uDf]) (bL (i:=6) (aN (xs:=[.lst (sp.map D.int)]) (aD rfl rfl) (by rw [lenI,hmany]))) ?_;refine aP (ρ':=[.scr (ns.map D.int),.int cell,.dct kvs,bO Q V r,.dct ((both V).map kvD),.lst (sp.map D.int),.int S.length,.lst (row.map D.int),.uDf,.uDf,.uDf,.uDf,.uDf]) (bL (i:=7) (ZV (x:=.lst (sh1.map D.int)) (l:=none) (h:=some 8) (aN (xs:=[.lst (sp.map D.int),.int cell]) (aD rfl (aD rfl rfl)) sh) rfl rfl hrow)) ?_;generalize hm:(both V).map kvD=M
 -- neighbours
 have rg:jD (aC (bC (.int 1)) (aC (aO fM (aC (aF 7) (aV))) (aV))) V1 [.scr (ns.map D.int),.int cell,.dct kvs,bO Q V r,.dct M,.lst (sp.map D.int),.int S.length,.lst (row.map D.int),.uDf,.uDf,.uDf,.uDf,.uDf]=.ok ((List.range ((row.length:Int)-1).toNat).map fun (k:Nat)=>D.int (1+(k:Int)),true):=by
  have hc:(aC (bC (.int 1)) (aC (aO fM (aC (aF 7) (aV))) (aV))) [.scr (ns.map D.int),.int cell,.dct kvs,bO Q V r,.dct M,.lst (sp.map D.int),.int S.length,.lst (row.map D.int),.uDf,.uDf,.uDf,.uDf,.uDf]=.ok [.int 1,.int row.length]:=aD rfl (aD (aN (xs:=[.lst (row.map D.int)]) (aD rfl rfl) (lenI row)) rfl);refine (aBj hc).trans ?_;show (if iB 1&&iB (row.length:Int) then Res.ok ((List.range ((row.length:Int)-1).toNat).map fun (k:Nat)=>D.int (1+(k:Int)),true) else .bad)=_;rw [if_pos];rw [show iB 1=true from rfl,Bool.true_and];simp only [iB,Bool.and_eq_true,decide_eq_true_eq];lia
 obtain ⟨P1,q1,l1,e1⟩:=tH (jE 13 j7 lD (dM (aC (b2 getD (aF 7) (b2 (aW .sub) (aF 13) (bC (.int 1)))) (aC (b2 getD (aF 7) (aF 13)) (aV)))) false [.scr (ns.map D.int),.int cell,.dct kvs,bO Q V r,.dct M,.lst (sp.map D.int),.int S.length,.lst (row.map D.int),.uDf,.uDf,.uDf,.uDf,.uDf]) enP (Two V) ((List.range ((row.length:Int)-1).toNat).map fun (k:Nat)=>D.int (1+(k:Int))) [] (fun x hx acc=>by
  obtain ⟨k,hk,rfl⟩:=List.mem_map.mp hx;have hk:=List.mem_range.mp hk;obtain ⟨h1,g1⟩:=ints_get row (1+(k:Int)-1) (by lia) (by lia);obtain ⟨h2,g2⟩:=ints_get row (1+(k:Int)) (by lia) (by lia);refine ⟨[(row[(1+(k:Int)-1).toNat],row[(1+(k:Int)).toNat])],fun y hy=>?_,Nat.le_refl _,?_⟩
  ·have:y=(row[(1+(k:Int)-1).toNat],row[(1+(k:Int)).toNat]):=by simpa using hy
   subst this;refine ⟨rowm _ (List.getElem_mem _),rowm _ (List.getElem_mem _),fun z=>?_⟩;exact List.pairwise_iff_getElem.mp rown (1+(k:Int)-1).toNat (1+(k:Int)).toNat h1 h2 (by lia) z
  ·exact gH (n:=13) (t:=j7) (c:=lD) (k:=false) (acc:=acc) (x:=.int (1+(k:Int))) (ρ:=[.scr (ns.map D.int),.int cell,.dct kvs,bO Q V r,.dct M,.lst (sp.map D.int),.int S.length,.lst (row.map D.int),.uDf,.uDf,.uDf,.uDf,.uDf]) (b:=true) (bs:=[.int (1+(k:Int))]) (y:=enP (row[(1+(k:Int)-1).toNat],row[(1+(k:Int)).toNat])) rfl rfl rfl fun _=>⟨cI (xs:=[.int row[(1+(k:Int)-1).toNat],.int row[(1+(k:Int)).toNat]]) (aD (aM (x:=.lst (row.map D.int)) (y:=.int (1+(k:Int)-1)) rfl (aM (x:=.int (1+(k:Int))) rfl rfl (Q4 _ _)) g1) (aD (aM (x:=.lst (row.map D.int)) (y:=.int (1+(k:Int))) rfl rfl g2) rfl)) wJ,rfl⟩)
 rw [List.nil_append] at e1;rw [List.length_map,List.length_range] at l1;refine aP (ρ':=[.scr (ns.map D.int),.int cell,.dct kvs,bO Q V r,.dct M,.lst (sp.map D.int),.int S.length,.lst (row.map D.int),.lst (P1.map enP),.uDf,.uDf,.uDf,.uDf]) (bL (i:=8) (iK rg (by rw [List.length_map,List.length_range,bQ];lia) e1)) ?_
 -- those that are tied at the rim
 obtain ⟨P2,q2,l2,e2⟩:=tH (jE 13 j7 (bTB (b2 (bV .eq) (b2 getD (b2 getD (aF 4) (dM (aC (bC (.int 0)) (aC (aF 13) (aV))))) (bC (.int 0))) (bC (.int 0)))) (dM (aC (aF 13) (aC (b2 getD (b2 getD (aF 4) (dM (aC (bC (.int 0)) (aC (aF 13) (aV))))) (bC (.int 1))) (aV)))) false [.scr (ns.map D.int),.int cell,.dct kvs,bO Q V r,.dct M,.lst (sp.map D.int),.int S.length,.lst (row.map D.int),.lst (P1.map enP),.uDf,.uDf,.uDf,.uDf]) enP (Two V) (row.map D.int) [] (fun x hx acc=>by
  obtain ⟨k,hk,rfl⟩:=List.mem_map.mp hx;have hk:=rowm k hk;obtain ⟨f,hf⟩:=sY hk;have gm:getD (.dct M) (enP (0,k))=.ok (enP f):=by
   rw [<-hm];exact T3 (look_both hn hf)
  have gg:∀{ρ:List D},aF 4 ρ=.ok (.dct M)->aF 13 ρ=.ok (.int k)->b2 getD (aF 4) (dM (aC (bC (.int 0)) (aC (aF 13) (aV)))) ρ=.ok (enP f):=fun h1 h2=>aM (x:=.dct M) (y:=enP (0,k)) h1 (cI (xs:=[.int 0,.int k]) (aD rfl (aD h2 rfl)) wJ) gm
  have st:=gH (n:=13) (t:=j7) (c:=bTB (b2 (bV .eq) (b2 getD (b2 getD (aF 4) (dM (aC (bC (.int 0)) (aC (aF 13) (aV))))) (bC (.int 0))) (bC (.int 0)))) (f:=dM (aC (aF 13) (aC (b2 getD (b2 getD (aF 4) (dM (aC (bC (.int 0)) (aC (aF 13) (aV))))) (bC (.int 1))) (aV)))) (k:=false) (acc:=acc) (x:=.int k) (ρ:=[.scr (ns.map D.int),.int cell,.dct kvs,bO Q V r,.dct M,.lst (sp.map D.int),.int S.length,.lst (row.map D.int),.lst (P1.map enP),.uDf,.uDf,.uDf,.uDf]) (b:=f.1==0) (bs:=[.int k]) (y:=enP (k,f.2)) rfl rfl (dC (aM (x:=.int f.1) (aM (x:=enP f) (gg rfl rfl) rfl rfl) rfl rfl)) fun _=>⟨cI (xs:=[.int k,.int f.2]) (aD rfl (aD (aM (x:=enP f) (gg rfl rfl) rfl rfl) rfl)) wJ,rfl⟩
  by_cases z:f.1=0
  ·refine ⟨[(k,f.2)],fun y hy=>?_,Nat.le_refl _,?_⟩
   ·have:y=(k,f.2):=by simpa using hy
    subst this;have ef:f=(0,f.2):=Prod.ext z rfl;refine ⟨hk,by rw [<-ef];exact hf.mem.2,fun q=>?_⟩;have q:k=f.2:=q;exact pI hn hf (by rw [q];exact ef.symm)
   ·rw [st,if_pos (by simpa using z)];rfl
  ·refine ⟨[],fun _ h=>(by cases h),Nat.zero_le _,?_⟩;rw [st,if_neg (by simpa using z),List.map_nil,List.append_nil])
 rw [List.nil_append] at e2;rw [List.length_map] at l2;have hadd:aW .add (.lst (P1.map enP)) (.lst (P2.map enP))=.ok (.lst ((P1++P2).map enP)):=by
  show (if decide ((P1.map enP).length+(P2.map enP).length<=lim)&&D.a_ (P1.map enP)&&D.a_ (P2.map enP) then Res.ok (D.lst (P1.map enP++P2.map enP)) else .bad)=_;rw [jM,jM,decide_eq_true (by rw [List.length_map,List.length_map,bQ];lia),List.map_append];rfl
 refine aP (ρ':=[.scr (ns.map D.int),.int cell,.dct kvs,bO Q V r,.dct M,.lst (sp.map D.int),.int S.length,.lst (row.map D.int),.lst ((P1++P2).map enP),.uDf,.uDf,.uDf,.uDf]) (bL (i:=8) (aM (x:=.lst (P1.map enP)) (y:=.lst (P2.map enP)) rfl (iK (fZ (d:=.lst (row.map D.int)) rfl rfl) (by rw [List.length_map,bQ];lia) e2) hadd)) ?_;obtain ⟨y9,y10,y11,y12,lp⟩:=I_ (kvs:=kvs) (r:=r) (cell:=cell) (many:=S.length) (x0:=.scr (ns.map D.int)) (x2:=.dct kvs) (x4:=.dct M) (x5:=.lst (sp.map D.int)) (x7:=.lst (row.map D.int)) (x8:=.lst ((P1++P2).map enP)) N noRim (P1++P2) .uDf .uDf .uDf .uDf fun p hp=>by
  rcases List.mem_append.mp hp with h|h
  ·exact q1 p h
  ·exact q2 p h
 refine aP (Q3 (i:=8) (d:=.lst ((P1++P2).map enP)) rfl rfl lp) ?_;have three:∀{f g:FE} {ρ:List D} {u v:Int},aF 3 ρ=.ok (bO Q V r)->f ρ=.ok (.int u)->g ρ=.ok (.int v)->aC (aF 3) (aC f (aC g aV)) ρ=.ok [bO Q V r,.int u,.int v]:=fun h1 h2 h3=>aD h1 (aD h2 (aD h3 rfl))
 have nM:((0,(S.length:Int)):Pt)∉ends V:=noRim _ (.inr (Int.le_refl _));have nN:((0,-1):Pt)∉ends V:=noRim _ (.inl (by decide));refine aP (ρ':=[.scr (ns.map D.int),.int cell,.dct kvs,bO Q V r,.dct M,.lst (sp.map D.int),.int S.length,.lst (row.map D.int),.lst ((P1++P2).map enP),y9,y10,y11,y12]) (oK (aBr (nt (aN (three (u:=0) (v:=S.length) rfl rfl rfl) (TF hn nM))) (nt (aN (three (u:=S.length) (v:=S.length+1) rfl rfl (aM (x:=.int S.length) rfl rfl (fJ _ _))) (sZ nM)))) rfl) ?_;exact iV (d:=.bl true) (HS (aN (three (u:=S.length) (v:=S.length) rfl rfl rfl) (sZ nM)) (aN (three (u:=-1) (v:=-2) rfl (X4 (x:=.int 1) rfl rfl) (X4 (x:=.int 2) rfl rfl)) (sZ nN))) rfl
end Lk06
end
section
open PySem PySem.W PyProof.Rows
def PySem.W.Fast.tw4646523692091003613 : Unit:=()
def PySem.W.Fast.tw8732797420734026804 : Unit:=()
def PySem.W.Fast.tw6758738293471654614 : Unit:=()
def PySem.W.Fast.tw6606924821800944409 : Unit:=()
def PySem.W.Fast.tw6459069272235735018 : Unit:=()
def PySem.W.Fast.tw14403504004823855313 : Unit:=()
def PySem.W.Fast.tw7820669091025017023 : Unit:=()
def PySem.W.Fast.tw2488219863759221115 : Unit:=()
def PySem.W.Fast.tw7234595285348694746 : Unit:=()
def PySem.W.Fast.tw7099272258705608533 : Unit:=()
def PySem.W.Fast.tw13040277503466137818 : Unit:=()
def PySem.W.Fast.tw16403687215272034884 : Unit:=()
def PySem.W.Fast.tw3486030152293682886 : Unit:=()
def PySem.W.Fast.tw7026789187345205084 : Unit:=()
def PySem.W.Fast.tw13930074231339447333 : Unit:=()
def PySem.W.Fast.tw5452078279524291116 : Unit:=()
def PySem.W.Fast.tw16446186416424464248 : Unit:=()
def PySem.W.Fast.tw16208159896734222632 : Unit:=()
def PySem.W.Fast.tw5746383405426148970 : Unit:=()
def PySem.W.Fast.tw5394742462256818035 : Unit:=()
def PySem.W.Fast.tw11528926021149826932 : Unit:=()
def PySem.W.Fast.tw688397951278526976 : Unit:=()
def PySem.W.Fast.tw13202345689063698112 : Unit:=()
def PySem.W.Fast.tw12375059512375947089 : Unit:=()
def PySem.W.Fast.tw17038190895259499614 : Unit:=()
def PySem.W.Fast.tw8811449618164985034 : Unit:=()
def PySem.W.Fast.tw7092229710724039311 : Unit:=()
def PySem.W.Fast.tw1219728105116253459 : Unit:=()
def PySem.W.Fast.tw8569105368198207791 : Unit:=()
def PySem.W.Fast.tw18119387512225694486 : Unit:=()
def PySem.W.Fast.tw14023851342249566506 : Unit:=()
def PySem.W.Fast.tw13985406941378761924 : Unit:=()
def PySem.W.Fast.tw5187752247840862333 : Unit:=()
def PySem.W.Fast.tw6914905105790503198 : Unit:=()
def PySem.W.Fast.tw12916394992703844801 : Unit:=()
def PySem.W.Fast.tw13686013092606180730 : Unit:=()
def PySem.W.Fast.tw15983110700710720427 : Unit:=()
def PySem.W.Fast.tw1353344804976875254 : Unit:=()
def PySem.W.Fast.tw8465964525911899498 : Unit:=()
def PySem.W.Fast.tw8106237860936496621 : Unit:=()
def PySem.W.Fast.tw1137221374308778566 : Unit:=()
def PySem.W.Fast.tw8613926761161565661 : Unit:=()
def PySem.W.Fast.tw16130812747954565389 : Unit:=()
set_option maxRecDepth 100000 in
set_option maxHeartbeats 0 in
theorem PySem.Challenge.cw_hookmill_k06_hooked_holds : PySem.Challenge.rw_hookmill_k06_hooked.Holds := by
 w_on;o_law;k_head;(case hw=>w_witness2)
 k_fill
 refine Lk06.walk (l:=PySem.Challenge.rw_hookmill_k06_hooked) Lk06.main rfl rfl (fun w h Y=>PySem.W.kIn_of Y) ?F
 case F=>
  intro w mg fa h KX G hmg
  refine' Lk06.aDl KX G hmg ?a0 ?l0 ?c0 ?k0 ?a1 ?l1 ?c1 ?k1 ?a2 ?l2 ?c2 ?k2 ?a3 ?l3 ?c3 ?k3 ?a4 ?l4 ?c4 ?k4 ?a5 ?l5 ?c5 ?k5 ?a6 ?l6 ?c6 ?k6 ?a7 ?l7 ?c7 ?k7 ?a8 ?l8 ?c8 ?k8 ?a9 ?l9 ?c9 ?k9 ?a10 ?l10 ?c10 ?k10 ?a11 ?l11 ?c11 ?k11 ?a12 ?l12 ?c12 ?k12 ?a13 ?l13 ?c13 ?k13 ?a14 ?l14 ?c14 ?k14 ?a15 ?l15 ?c15 ?k15 ?a16 ?l16 ?c16 ?k16 ?z_len ?z_min ?z_max ?z_list ?z_tuple ?z_sorted ?z_range ?z_isinstance ?z_int ?z_bool ?z_str ?z_dict ?z_all ?z_enumerate ?z_sum ?z_zip ?z_abs ?z_reversed ?g_MillError ?g_NoEnd ?g_BadKind ?g_BadRow ?g_Lacking ?g_NoName ?g_NoNet ?g_NoPair ?g_NoRule ?g_NoTerm ?g_NoValue ?g_Spent ?g_Stuck ?g_Twice ?g_TwoRules ?g_Uneven ?g_Unfit ?xe__law_none ?xm__law_none ?y1__law_none ?y2__law_none ?y3__law_none ?y4__law_none ?w1__law_none ?w2__law_none ?w3__law_none ?w4__law_none ?w5__law_none ?w6__law_none ?w7__law_none ?w8__law_none ?z_ValueError
  (case a0=>k_is)
  (case l0=>k_is)
  (case c0=>k_is)
  (case k0=>k_is)
  (case a1=>k_is)
  (case l1=>k_is)
  (case c1=>k_is)
  (case k1=>k_is)
  (case a2=>k_is)
  (case l2=>k_is)
  (case c2=>k_is)
  (case k2=>k_is)
  (case a3=>k_is)
  (case l3=>k_is)
  (case c3=>k_is)
  (case k3=>k_is)
  (case a4=>k_is)
  (case l4=>k_is)
  (case c4=>k_is)
  (case k4=>k_is)
  (case a5=>k_is)
  (case l5=>k_is)
  (case c5=>k_is)
  (case k5=>k_is)
  (case a6=>k_is)
  (case l6=>k_is)
  (case c6=>k_is)
  (case k6=>k_is)
  (case a7=>k_is)
  (case l7=>k_is)
  (case c7=>k_is)
  (case k7=>k_is)
  (case a8=>k_is)
  (case l8=>k_is)
  (case c8=>k_is)
  (case k8=>k_is)
  (case a9=>k_is)
  (case l9=>k_is)
  (case c9=>k_is)
  (case k9=>k_is)
  (case a10=>k_is)
  (case l10=>k_is)
  (case c10=>k_is)
  (case k10=>k_is)
  (case a11=>k_is)
  (case l11=>k_is)
  (case c11=>k_is)
  (case k11=>k_is)
  (case a12=>k_is)
  (case l12=>k_is)
  (case c12=>k_is)
  (case k12=>k_is)
  (case a13=>k_is)
  (case l13=>k_is)
  (case c13=>k_is)
  (case k13=>k_is)
  (case a14=>k_is)
  (case l14=>k_is)
  (case c14=>k_is)
  (case k14=>k_is)
  (case a15=>k_is)
  (case l15=>k_is)
  (case c15=>k_is)
  (case k15=>k_is)
  (case a16=>k_is)
  (case l16=>k_is)
  (case c16=>k_is)
  (case k16=>k_is)
  (case z_len=>k_is)
  (case z_min=>k_is)
  (case z_max=>k_is)
  (case z_list=>k_is)
  (case z_tuple=>k_is)
  (case z_sorted=>k_is)
  (case z_range=>k_is)
  (case z_isinstance=>k_is)
  (case z_int=>k_is)
  (case z_bool=>k_is)
  (case z_str=>k_is)
  (case z_dict=>k_is)
  (case z_all=>k_is)
  (case z_enumerate=>k_is)
  (case z_sum=>k_is)
  (case z_zip=>k_is)
  (case z_abs=>k_is)
  (case z_reversed=>k_is)
  (case g_MillError=>k_is)
  (case g_NoEnd=>k_is)
  (case g_BadKind=>k_is)
  (case g_BadRow=>k_is)
  (case g_Lacking=>k_is)
  (case g_NoName=>k_is)
  (case g_NoNet=>k_is)
  (case g_NoPair=>k_is)
  (case g_NoRule=>k_is)
  (case g_NoTerm=>k_is)
  (case g_NoValue=>k_is)
  (case g_Spent=>k_is)
  (case g_Stuck=>k_is)
  (case g_Twice=>k_is)
  (case g_TwoRules=>k_is)
  (case g_Uneven=>k_is)
  (case g_Unfit=>k_is)
  (case xe__law_none=>k_exc)
  (case xm__law_none=>kts_exm)
  (case y1__law_none=>kit_is)
  (case y2__law_none=>kit_is)
  (case y3__law_none=>kit_is)
  (case y4__law_none=>kit_is)
  (case w1__law_none=>k_is)
  (case w2__law_none=>k_is)
  (case w3__law_none=>k_is)
  (case w4__law_none=>k_is)
  (case w5__law_none=>k_is)
  (case w6__law_none=>k_is)
  (case w7__law_none=>k_is)
  (case w8__law_none=>k_is)
  (case z_ValueError=>k_is)
end
