import PyProof.Rows.All
import Wide.All
import OpenK.AllK
import Wide.FinOn
import PyProof.EqAt
import PyProof.EqKinds
import PyProof.TupleCall
import Lean
import PyProof.Rows.SortRuns
import PySem.Syntax
import PyProof.NeKinds
import PyProof.WalkInts
import KE.KDictList
import PyProof.CompUse
import PyProof.StrWalks
import PyProof.EnumMake
import PyProof.EnumFor
import PyProof.StrCalls2
import PyProof.StrBlock2
import PyProof.StrBlockI
import PyProof.SliceStr2
import PyProof.ConsumeWalk
import PyProof.StrLawsJoin
import KE.KTryMore
import KE.KTryDeep
import OpenK.KOwn
import PyProof.ExcClass3
import KE.KIsAll
import PyProof.ExcArgsOwn
import PyProof.NsDelKeeps
import PyProof.ListRange
import PyProof.DictWalks
import KE.KEqDict
import PyProof.Rows.TupAdd
import PyProof.DictIter
import PyProof.AttrMissHeap
import PyProof.ZipIter
import PyProof.TupleIter
import PyProof.WalksMore
import PyProof.FactsAll.zip
import KE.KDictOf
import PyProof.Conv_int
import PyProof.Conv_int_bool
import PyProof.StrBlockL
import PyProof.MakeMany
import PyProof.MeetsStr2
import PyProof.CallRoads3
import PyProof.Rows.TupIn
import KE.KRevIter
import PyProof.Draws
import PySem.Challenge.RW_hookmill_k65_unwoven_back
set_option Elab.async false
set_option maxRecDepth 100000
set_option maxHeartbeats 4000000
noncomputable section
set_option linter.all false
set_option autoImplicit true
set_option genSizeOfSpec false
set_option genInjectivity true
abbrev nDb(x:PySem.Str):Prop:= (x==("__debug__" : PySem.Str))=false
abbrev nCd(x:PySem.Str):Prop:= (x==("__classdict__" : PySem.Str))=false
namespace L2
open PySem PySem.Spec PyProof.Rows
noncomputable abbrev Key:=Sum Int Str
noncomputable def DN:Key->Value->Bool
 |.inl k,v=>Value.isInt k v
 |.inr x,v=>Value.isStrOf x v
noncomputable def aJa(w:World):Key->Int
 |.inl k=>hashInt k
 |.inr x=>hashStr w x
theorem cR:∀{k:Key}{v:Value},DN k v=true->(∃i t,k=Sum.inl i/\v=Value.int i t)\/(∃x t,k=Sum.inr x/\v=Value.str x t)
 |.inl i,v,h=>by
  obtain⟨t,e⟩:=Value.isInt_shape (k:=i) (v:=v) h;exact .inl ⟨i,t,rfl,e⟩
 |.inr x,v,h=>by
  obtain⟨t,e⟩:=Value.isStrOf_shape (x:=x) (v:=v) h;exact .inr ⟨x,t,rfl,e⟩
theorem QS(i:Int)(t:Tok):DN (.inl i) (.int i t)=true:=by simp[DN,Value.isInt]
theorem QT(x:Str)(t:Tok):DN (.inr x) (.str x t)=true:=by simp[DN,Value.isStrOf]
theorem aEe(a b:Int):decide ((Sum.inl a:Key)=Sum.inl b)=(a==b):=by
 by_cases e:a=b
 ·subst e;simp
 ·have h:¬(Sum.inl a:Key)=Sum.inl b:=λq=>e (Sum.inl.inj q)
  rw[decide_eq_false h];exact(beq_eq_false_iff_ne.mpr e).symm
theorem aEf(a b:Str):decide ((Sum.inr a:Key)=Sum.inr b)=decide (a=b):=by
 by_cases e:a=b
 ·subst e;simp
 ·have h:¬(Sum.inr a:Key)=Sum.inr b:=λq=>e (Sum.inr.inj q)
  rw[decide_eq_false h,decide_eq_false e]
theorem aEg(a:Int)(b:Str):decide ((Sum.inl a:Key)=Sum.inr b)=false:=decide_eq_false (λq=>nomatch q)
theorem aEh(a:Str)(b:Int):decide ((Sum.inr a:Key)=Sum.inl b)=false:=decide_eq_false (λq=>nomatch q)
def bY(prog:Program)(w:World):PySem.KeyKind prog w Key where
 is:=DN
 hash:=aJa w
 inj:=λv a b ha hb=>by
  rcases cR ha with ⟨i,t,rfl,rfl⟩|⟨x,t,rfl,rfl⟩
  ·rcases cR hb with ⟨j,u,rfl,e⟩|⟨y,u,rfl,e⟩
   ·injection e with e1 _;rw[e1]
   ·exact nomatch e
  ·rcases cR hb with ⟨j,u,rfl,e⟩|⟨y,u,rfl,e⟩
   ·exact nomatch e
   ·injection e with e1 _;rw[e1]
 byValue:=λk v h=>by
  rcases cR h with ⟨i,t,rfl,rfl⟩|⟨x,t,rfl,rfl⟩<;>rfl
 pyHash:=λhv h=>by
  rcases cR hv with ⟨i,t,rfl,rfl⟩|⟨x,t,rfl,rfl⟩
  ·exact wpAny_pyHash_int h
  ·exact wpAny_pyHash_str h
 eqBool:=λhu hv h=>by
  rcases cR hu with ⟨i,t,rfl,rfl⟩|⟨x,t,rfl,rfl⟩
  ·rcases cR hv with ⟨j,u,rfl,rfl⟩|⟨y,u,rfl,rfl⟩
   ·rw[aEe] at h;exact wpAny_eqBool_int h
   ·rw[aEg] at h;exact SeqAt.EqAt.int_str i t y u _ _ _ _ h
  ·rcases cR hv with ⟨j,u,rfl,rfl⟩|⟨y,u,rfl,rfl⟩
   ·rw[aEh] at h;exact SeqAt.EqAt.str_int x t j u _ _ _ _ h
   ·rw[aEf] at h;exact wpAny_eqBool_str h
 «strs»:=λk x t v h=>by
  rcases cR h with ⟨i,u,rfl,e⟩|⟨y,u,rfl,e⟩
  ·exact nomatch e
  ·injection e with e1 _
   subst e1;cases v<;>rfl
theorem DP(prog:Program)(w:World)(i:Int)(t:Tok):(bY prog w).is (.inl i) (.int i t)=true:=QS i t
theorem DQ(prog:Program)(w:World)(x:Str)(t:Tok):(bY prog w).is (.inr x) (.str x t)=true:=QT x t
inductive V where
 |non|bl (b:Bool)|int (i:Int)|str (x:Str)|byt (b:Array UInt8)|flt (b:UInt64)|ref (a:Addr)|ty (n:String)
 deriving DecidableEq
def RelV:V->Value->Prop
 |.non,u=>u=Value.none
 |.bl b,u=>u=Value.bool b
 |.int i,u=>∃t,u=Value.int i t
 |.str x,u=>∃t,u=Value.str x t
 |.byt b,u=>∃t,u=Value.bytes b t
 |.flt b,u=>∃t,u=Value.float b t
 |.ref a,u=>u=Value.ref a
 |.ty n,u=>u=Value.type n
abbrev Vals:List V->List Value->Prop:=Paired RelV
theorem Vals.length(r:Vals xs us):xs.length=us.length:=Paired.length r
theorem Vals.get:∀{xs:List V}{us:List Value}{i:Nat}{x:V},Vals xs us->xs[i]?=some x->∃u,us[i]?=some u/\RelV x u
 |_,_,_,_,.nil,e=>by simp at e
 |_,_,0,_,.cons r _,e=>by simp at e;subst e;exact⟨_,rfl,r⟩
 |_,_,i+1,x,.cons _ t,e=>by
  obtain⟨u,h1,h2⟩:=Vals.get (i:=i) (x:=x) t (by simpa using e);exact⟨u,by simpa using h1,h2⟩
theorem Vals.append:∀{xs ys:List V}{us ws:List Value},Vals xs us->Vals ys ws->Vals (xs++ys) (us++ws)
 |_,_,_,_,.nil,s=>s
 |_,_,_,_,.cons r t,s=>.cons r (Vals.append t s)
theorem Vals.take:∀{xs:List V}{us:List Value}(n:Nat),Vals xs us->Vals (xs.take n) (us.take n)
 |_,_,0,_=>.nil
 |_,_,_+1,.nil=>.nil
 |_,_,n+1,.cons r t=>.cons r (Vals.take n t)
theorem Vals.drop:∀{xs:List V}{us:List Value}(n:Nat),Vals xs us->Vals (xs.drop n) (us.drop n)
 |_,_,0,r=>r
 |_,_,_+1,.nil=>.nil
 |_,_,n+1,.cons _ t=>Vals.drop n t
def QK:Option V->Option Value->Prop
 |some v,some u=>RelV v u
 |none,none=>True
 |_,_=>False
def KV{κ:Type}:List (κ×V)->List (κ×Value)->Prop:=Paired λ(p:κ×V)(q:κ×Value)=>p.1=q.1/\RelV p.2 q.2
noncomputable def kV:Key->V
 |.inl i=>.int i
 |.inr x=>.str x
inductive HO where
 |lst (xs:List V)
 |tup (xs:List V)
 |dK (kvs:List (Key×V))|dT (kvs:List (List Key×V))
 |set (S:Int->Bool) (n:Nat)
 |ins (C dx:Addr) (fs:List (Str×V))
 |own (x:Addr)
 |xd (fs:List (Str×V))
 |met (f x:Addr)
 |rng (lo hi:Int)
 |frz (o:Obj) (u:HO)
 |tbl (ps:Array Value)
 |ext (φ:Heap->Prop)
noncomputable abbrev Hp:=Addr->Option HO
noncomputable def upd(H:Hp)(a:Addr)(o:HO):Hp:=λb=>if b=a then some o else H b
theorem aO:upd H a o a=some o:=by unfold upd;rw[if_pos rfl]
theorem bL(h:b≠a):upd H a o b=H b:=by unfold upd;rw[if_neg h]
theorem DR:upd (upd H a o) a u=upd H a u:=by
 funext b;unfold upd;split<;>rfl
theorem aB1{H:Hp}(h:H a=some o)(h':H b=some u)(d:o≠u):a≠b:=by
 intro e;subst e;rw[h] at h';exact d (Option.some.inj h')
theorem dN{H:Hp}(h:H a=some o)(h':H b=none):a≠b:=by
 intro e;subst e;rw[h] at h';cases h'
def jH(h:Heap)(a:Addr)(its:Array Value):Prop:=∃o,h.get? a=some o/\o.cls=.type "tuple"/\∃n,(o.data,o.dict)=(Data.seq its n,none)
theorem jH.tup{h:Heap}{a:Addr}{its:Array Value}(t:jH h a its):IsTup h a its:=let ⟨o,e,c,n,d⟩:=t;⟨o,e,c,n,congrArg (·.1) d⟩
theorem jH.bare(t:jH h a its):∃o,h.get? a=some o/\o.dict=none:=let ⟨o,e,_,_,d⟩:=t;⟨o,e,congrArg (·.2) d⟩
theorem jH.new(h:Heap)(items:Array Value):jH (h.push {cls:=.type "tuple",data:=.seq items}) h.objs.size items:=⟨_,Heap.get?_push_size _ rfl,rfl,_,rfl⟩
section
variable (P:Program) (w:World)
def jG(H:Hp)(h:Heap)(a:Addr):HO->Prop
 |.lst xs=>xs.length<=sizeLine/\∃(its:List Value)(n:Nat),Vals xs its/\h.get? a=some {cls:=.type "list",data:=.seq its.toArray n}
 |.tup xs=>xs.length<=sizeLine/\∃its:List Value,Vals xs its/\jH h a its.toArray
 |.dK kvs=>kvs.length<=sizeLine/\(a==sysModules)=false/\∃vs,KV kvs vs/\h.DictOf (bY P w) a vs
 |.dT kvs=>kvs.length<=sizeLine/\(a==sysModules)=false/\∃xs:List (List Key×Addr×Value),
   Paired (λ(p:List Key×V)(q:List Key×Addr×Value)=>p.1=q.1/\H q.2.1=some (.tup (p.1.map kV))/\RelV p.2 q.2.2) kvs xs/\
   ∃o es ep,h.get? a=some o/\o.ExactDict/\o.data=.dict es ep/\es.toList=xs.map (entryOfKey (tupleKind (bY P w)))/\(xs.map (·.1)).Nodup
 |.set S n=>h.SetOf (intKind P w) a S n
 |.ins C dx fs=>H dx=some (.own a)/\fs.length<=1000/\dx≠a/\h.get? a=some (PySem.W.instObj C dx)/\
   ∃mA,h.Ns1 dx mA/\(∀f,QK (fs.lookup f) (mA f))/\PySem.Within mA (fs.map (·.1))
 |.own _=>∃o,h.get? a=some o
 |.xd fs=>∃mA,h.Ns1 a mA/\∀f,QK (fs.lookup f) (mA f)
 |.rng lo hi=>∃t u v,h.get? a=some {cls:=.type "range",data:=.fields #[.int lo t,.int hi u,.int 1 v]}
 |.frz o u=>h.get? a=some o/\jG H h a u
 |.tbl ps=>h.get? a=some {cls:=.none,data:=.fields ps}
 |.met f x=>h.get? a=some (PySem.W.methodObj (.ref f) (.ref x))
 |.ext φ=>φ h/\(∃o,h.get? a=some o)/\∀h1 h2:Heap,φ h1->(∀o,h1.get? a=some o->h2.get? a=some o)->φ h2
def HOk(H:Hp)(h:Heap):Prop:=∀a o,H a=some o->jG P w H h a o
end
section
variable {P:Program} {w:World} {H H':Hp} {h h':Heap} {a:Addr} {o:HO}
theorem jG.lt(x:jG P w H h a o):a<h.objs.size:=by
 cases o with
 |lst xs=>obtain⟨_,_,_,_,e⟩:=x;exact Heap.lt_size e
 |tup xs=>obtain⟨_,_,_,p⟩:=x;exact p.tup.lt
 |dK kvs=>obtain⟨_,_,_,_,o,_,_,e,_⟩:=x;exact Heap.lt_size e
 |dT kvs=>obtain⟨_,_,_,_,o,_,_,e,_⟩:=x;exact Heap.lt_size e
 |set S n=>obtain⟨o,_,_,_,e,_⟩:=x;exact Heap.lt_size e
 |ins C dx fs=>obtain⟨_,_,_,e,_⟩:=x;exact Heap.lt_size e
 |own y=>obtain⟨_,e⟩:=x;exact Heap.lt_size e
 |xd fs=>obtain⟨_,⟨_,_,_,e,_⟩,_⟩:=x;exact Heap.lt_size e
 |rng lo hi=>obtain⟨_,_,_,e⟩:=x;exact Heap.lt_size e
 |frz ob u=>obtain⟨e,_⟩:=x;exact Heap.lt_size e
 |tbl ps=>exact Heap.lt_size (show h.get? a=some _ from x)
 |met f y=>exact Heap.lt_size (show h.get? a=some _ from x)
 |ext φ=>obtain⟨_,⟨_,e⟩,_⟩:=x;exact Heap.lt_size e
theorem Paired.aHj:∀{l₁:List α}{l₂:List β},Paired F l₁ l₂->(∀a b,F a b->G a b)->Paired G l₁ l₂
 |_,_,.nil,_=>.nil
 |_,_,.cons r t,f=>.cons (f _ _ r) (Paired.aHj t f)
theorem jG.stay(x:jG P w H h a o)(k:∀b u,(b=a\/H b=some (.own a))->h.get? b=some u->h'.get? b=some u)
 (ho:∀b,H b=some (.own a)->H' b=some (.own a))(ht:∀b xs,H b=some (.tup xs)->H' b=some (.tup xs)):jG P w H' h' a o:=by
 induction o with
 |lst xs=>obtain⟨z,its,n,r,e⟩:=x;exact⟨z,its,n,r,k _ _ (.inl rfl) e⟩
 |tup xs=>obtain⟨z,its,r,ob,e,c⟩:=x;exact⟨z,its,r,ob,k _ _ (.inl rfl) e,c⟩
 |dK kvs=>obtain⟨z,y,vs,r,ob,es,ep,e,c⟩:=x;exact⟨z,y,vs,r,ob,es,ep,k _ _ (.inl rfl) e,c⟩
 |dT kvs=>
  obtain⟨z,y,xs,r,ob,es,ep,e,c⟩:=x;exact⟨z,y,xs,Paired.aHj r λp q z=>⟨z.1,ht _ _ z.2.1,z.2.2⟩,ob,es,ep,k _ _ (.inl rfl) e,c⟩
 |set S n=>obtain⟨ob,es,ep,t,e,c⟩:=x;exact⟨ob,es,ep,t,k _ _ (.inl rfl) e,c⟩
 |ins C dx fs=>
  obtain⟨d,z,ne,e,mA,⟨od,es,ep,e2,c⟩,r⟩:=x;exact⟨ho _ d,z,ne,k _ _ (.inl rfl) e,mA,⟨od,es,ep,k _ _ (.inr d) e2,c⟩,r⟩
 |own y=>obtain⟨ob,e⟩:=x;exact⟨ob,k _ _ (.inl rfl) e⟩
 |xd fs=>obtain⟨mA,⟨od,es,ep,e,c⟩,r⟩:=x;exact⟨mA,⟨od,es,ep,k _ _ (.inl rfl) e,c⟩,r⟩
 |rng lo hi=>obtain⟨t,u,v,e⟩:=x;exact⟨t,u,v,k _ _ (.inl rfl) e⟩
 |frz ob u ih=>obtain⟨e,q⟩:=x;exact⟨k _ _ (.inl rfl) e,ih q⟩
 |tbl ps=>
  have e:h.get? a=some {cls:=.none,data:=.fields ps}:=x;show h'.get? a=some {cls:=.none,data:=.fields ps};exact k a _ (.inl rfl) e
 |met f y=>
  have e:h.get? a=some (PySem.W.methodObj (.ref f) (.ref y)):=x;show h'.get? a=some (PySem.W.methodObj (.ref f) (.ref y));exact k a _ (.inl rfl) e
 |ext φ=>obtain⟨p,⟨o,e⟩,st⟩:=x;exact⟨st _ _ p λo q=>k _ _ (.inl rfl) q,⟨o,k _ _ (.inl rfl) e⟩,st⟩
theorem HOk.lt(x:HOk P w H h)(e:H a=some o):a<h.objs.size:=(x a o e).lt
theorem HOk.fresh(x:HOk P w H h)(e:h.objs.size<=a):H a=none:=by
 cases q:H a with
 |none=>rfl
 |some u=>exact absurd (Nat.lt_of_lt_of_le (x.lt q) e) (Nat.lt_irrefl _)
theorem HOk.kept(x:HOk P w H h)(k:∀b u,h.get? b=some u->h'.get? b=some u):HOk P w H h':=λa o e=>
 (x a o e).stay (λb u _ q=>k b u q) (λ_ q=>q) λ_ _ q=>q
theorem HOk.laid(x:HOk P w H h)(k:∀b u,h.get? b=some u->h'.get? b=some u)(hp:h.objs.size<=a)(new:jG P w (upd H a o) h' a o):HOk P w (upd H a o) h':=λb u e=>by
 have hn:=x.fresh hp;by_cases hb:b=a
 ·subst hb;rw[aO] at e;cases e;exact new
 ·rw[bL hb] at e;exact(x b u e).stay (λc v _ q=>k c v q) (λc q=>by rw[bL (dN q hn)];exact q) λc xs q=>by rw[bL (dN q hn)];exact q
end
def Rd(H:Hp)(a:Addr)(u:HO):Prop:=H a=some u\/∃o,H a=some (.frz o u)
theorem Rd.ok(r:Rd H a u)(x:HOk P w H h):jG P w H h a u:=by
 rcases r with r|⟨o,r⟩
 ·exact x a u r
 ·obtain⟨_,q⟩:=x a _ r;exact q
def Mut:Option HO->Prop
 |some (.lst _)=>True
 |some (.dK _)=>True
 |some (.dT _)=>True
 |some (.set _ _)=>True
 |some (.ins _ _ _)=>True
 |some (.ext _)=>True
 |_=>False
section
variable {P:Program} {w:World} {H:Hp} {h h':Heap} {x e:Addr} {o':HO}
theorem HOk.write(ok:HOk P w H h)(mu:Mut (H x))(he:e=x\/H e=some (.own x))(k:∀b u,b≠e->h.get? b=some u->h'.get? b=some u)(heo:∃u,h'.get? e=some u)
 (new:jG P w (upd H x o') h' x o'):HOk P w (upd H x o') h':=λb u q=>by
 have nown:∀c y,H c=some (.own y)->c≠x:=λc y r z=>by subst z;rw[r] at mu;exact mu
 have ntup:∀c xs,H c=some (.tup xs)->c≠x:=λc xs r z=>by subst z;rw[r] at mu;exact mu
 by_cases hb:b=x
 ·subst hb;rw[aO] at q;cases q;exact new
 ·rw[bL hb] at q;by_cases hbe:b=e
  ·have q':H b=some (.own x):=by
    rcases he with z|z
    ·exact absurd (hbe.trans z) hb
    ·rw[hbe];exact z
   rw[q] at q';cases q';obtain⟨v,hv⟩:=heo;exact⟨v,by rw[hbe];exact hv⟩
  ·refine(ok b u q).stay (λc v hc r=>k c v ?_ r) (λc r=>by rw[bL (nown c b r)];exact r) λc xs r=>by rw[bL (ntup c xs r)];exact r
   rcases hc with rfl|hc
   ·exact hbe
   ·rintro rfl;rcases he with z|z
    ·exact nown c b hc z
    ·rw[hc] at z;cases z;exact hb rfl
end
structure Un(fs ex:List Addr)(H H':Hp)(h h':Heap):Prop where
 keep:∀b o,h.get? b=some o->H b=none->b∉fs->b∉ex->h'.get? b=some o
 slot:∀b o,h.get? b=some o->H b=none->b∈fs->b∉ex->∃sl,h'.get? b=some {o with slots:=sl}
 free:∀b o,h.get? b=some o->H b=none->b∉ex->H' b=none
 there:∀b o,h.get? b=some o->b∉ex->∃o',h'.get? b=some o'
 tups:∀b xs,H b=some (.tup xs)->H' b=some (.tup xs)
 frzs:∀b o u,H b=some (.frz o u)->H' b=some (.frz o u)
 tbls:∀b ps,H b=some (.tbl ps)->∃more,H' b=some (.tbl (ps++more))
section
variable {fs ex:List Addr} {H H1:Hp} {h h1 h':Heap} {a x e:Addr} {o:HO}
theorem Un.any(u:Un fs ex H H1 h h1)(q:h.get? b=some ob)(n:H b=none)(hx:b∉ex):∃sl,h1.get? b=some {ob with slots:=sl}:=by
 by_cases hb:b∈fs
 ·exact u.slot b ob q n hb hx
 ·exact⟨ob.slots,u.keep b ob q n hb hx⟩
theorem Un.kept(k:∀b u,h.get? b=some u->h'.get? b=some u):Un fs ex H H h h':=
 ⟨λb ob q _ _ _=>k b ob q,λb ob q _ _ _=>⟨ob.slots,k b ob q⟩,λ_ _ _ n _=>n,λb ob q _=>⟨ob,k b ob q⟩,λ_ _ q=>q,λ_ _ _ q=>q,λ_ ps q=>⟨#[],by rw[q];simp⟩⟩
theorem Un.refl:Un fs ex H H h h:=Un.kept λ_ _ q=>q
theorem Un.laid(k:∀b u,h.get? b=some u->h'.get? b=some u)(hp:h.objs.size<=a)(hn:H a=none):Un fs ex H (upd H a o) h h' where
 keep:=λb u q _ _ _=>k b u q
 slot:=λb u q _ _ _=>⟨u.slots,k b u q⟩
 free:=λb u q n _=>by rw[bL (Nat.ne_of_lt (Nat.lt_of_lt_of_le (Heap.lt_size q) hp))];exact n
 there:=λb u q _=>⟨u,k b u q⟩
 tups:=λb xs q=>by rw[bL (dN q hn)];exact q
 frzs:=λb u xs q=>by rw[bL (dN q hn)];exact q
 tbls:=λb ps q=>⟨#[],by rw[bL (dN q hn),q];simp⟩
theorem Un.write(mu:Mut (H x))(he:e=x\/H e=some (.own x))(k:∀b u,b≠e->h.get? b=some u->h'.get? b=some u)(heo:∃u,h'.get? e=some u):Un fs ex H (upd H x o) h h':=by
 have hx:∀b,H b=none->b≠x:=λb n z=>by subst z;rw[n] at mu;exact mu
 have hb:∀b,H b=none->b≠e:=λb n z=>by
  subst z;rcases he with r|r
  ·exact hx b n r
  ·rw[n] at r;cases r
 have hm:∀b u,H b=some u->¬Mut (some u)->b≠x:=λb u q nm z=>by subst z;rw[q] at mu;exact nm mu
 refine⟨λb u q n _ _=>k b u (hb b n) q,λb u q n _ _=>⟨u.slots,k b u (hb b n) q⟩,λb u q n _=>by rw[bL (hx b n)];exact n,λb u q _=>?_,
  λb xs q=>by rw[bL (hm b _ q λz=>z)];exact q,λb u xs q=>by rw[bL (hm b _ q λz=>z)];exact q,λb ps q=>⟨#[],by rw[bL (hm b _ q λz=>z),q];simp⟩⟩
 by_cases hbe:b=e
 ·subst hbe;exact heo
 ·exact⟨u,k b u hbe q⟩
end
noncomputable def trk(h:Heap)(H:Hp):List Addr:=(List.range h.objs.size).filter λa=>(H a).isSome
def XJ(h:Heap)(H:Hp):Heap:=PySem.W.hideAll h (trk h H)
theorem QV(h:Heap)(H:Hp):(XJ h H).objs.size=h.objs.size:=PySem.W.hideAll_size _ _
theorem XM(e:h.get? b=some o)(n:H b=none):(XJ h H).get? b=some o:=
 PySem.W.hideAll_get _ e λhm=>by
  have q:(H b).isSome=true:=(List.mem_filter.mp hm).2;rw[n] at q;simp at q
theorem aB2(e:(XJ h H).get? b=some o):h.get? b=some o/\H b=none:=by
 have e':h.get? b=some o:=PySem.W.of_hideAll (trk h H) e;refine⟨e',?_⟩;cases q:H b with
 |none=>rfl
 |some x=>
  have hm:b∈trk h H:=List.mem_filter.mpr ⟨List.mem_range.mpr (Heap.lt_size e'),by simp[q]⟩;have z:(XJ h H).get? b=none:=PySem.W.hideAll_none (trk h H) hm;rw[z] at e;cases e
structure Mod(K:PySem.W.Frag)(mg:Str->Option Value)(base:Heap):Prop where
 kin:K.In base
 glob:base.Ns mainGlobals mg
 blt:∃mb,base.Ns builtinsNs mb/\∀x:Str,x ≠ "__name__"->mb x=bootBuiltins x
 nolimit:base.NoLimit
/-- the context: a def's body (or a comprehension's block) running. base: fixed through the whole law;s₀,H₀: the entry;outer: the frames whose slots others may change (a def's callers);stack: all frames that run;
   ex: iterators that were made ahead of the entry and are walked here (a comprehension's);fn: the names whose cells were made at the entry (a def: all;a comprehension's block: its own);calm: not within an except suite;pn: pins that every state bears;xe: what is wanted of an exception that leaves the code -/
structure Cx where
 prog:Program
 w:World
 K:PySem.W.Frag
 mg:Str->Option Value
 base:Heap
 A:Around
 N:List Str
 s₀:Shared
 H₀:Hp
 env:Env
 outer:List Env
 stack:List Env
 ex:List Addr
 fn:Str->Bool
 calm:Bool
 pn:List (Addr×Obj)
 xe:Value->Shared->Prop
noncomputable def frs(l:List Env):List Addr:=l.filterMap (·.frame)
abbrev Cx.fs(X:Cx):List Addr:=frs X.outer
def Vis(sc:Scope)(x:Str):Prop:=sc.names.lookup x=some .local\/sc.names.lookup x=some .cell\/sc.names.lookup x=some .free
def Loc(sc:Scope)(x:Str):Prop:=sc.names.lookup x=some .local\/sc.names.lookup x=some .cell
def Look(env:Env)(h:Heap)(m:Str->Option Value)(x:Str)(u:Value):Prop:=
 (env.kindOf x=some .local/\m x=some u)\/((env.kindOf x=some .cell\/env.kindOf x=some .free)/\∃c,env.cells.lookup x=some c/\h.IsCell c (some u))
structure Cx.Ok(X:Cx):Prop where
 mod:Mod X.K X.mg X.base
 kind:X.env.scope.kind=.function
 glob:X.env.globals=mainGlobals
 blt:X.env.builtins=builtinsNs
 above:X.s₀.heap.objs.size<=X.env.locals
 inj:∀x y c,X.env.cells.lookup x=some c->X.env.cells.lookup y=some c->x=y
 has:∀x,(X.env.kindOf x=some .cell\/X.env.kindOf x=some .free)->∃c,X.env.cells.lookup x=some c
 cab:∀x c,X.fn x=true->X.env.cells.lookup x=some c->X.s₀.heap.objs.size<=c
 hd:X.calm=true->X.A.handled=none
 frames:X.A.frames=some X.stack
 stk:X.stack=X.outer\/(X.stack=X.env::X.outer/\X.env.frame=some X.env.locals)
 exf:∀b∈X.ex,b≠X.env.locals/\∀x c,X.env.cells.lookup x=some c->c≠b
 bs:∀b o,X.base.get? b=some o->X.s₀.heap.get? b=some o/\X.H₀ b=none
 bsz:X.base.objs.size<=X.s₀.heap.objs.size
 noex:∀b o,X.base.get? b=some o->b∉X.ex
 exfs:∀b∈X.ex,b∉X.fs
 QW:X.s₀.heap.FunFrames X.base X.outer
 frf:∀b∈X.fs,X.H₀ b=none
structure Inv(X:Cx)(pins:List (Addr×Obj))(σ:List (Option V))(H:Hp)(s:Shared):Prop where
 ok:X.Ok
 os:s.os=X.s₀.os
 bare:AllBare s.gens
 base:Un X.fs X.ex X.H₀ H X.s₀.heap s.heap
 loc:∃m,s.heap.Ns X.env.locals m/\∀(i:Nat)(x:Str)(v:V),X.N[i]?=some x->σ[i]?=some (some v)->Vis X.env.scope x->∃u,RelV v u/\Look X.env s.heap m x u
 cell:∀x c,X.env.cells.lookup x=some c->∃v,s.heap.IsCell c v
 free:H X.env.locals=none
 freeC:∀x c,X.env.cells.lookup x=some c->H c=none
 pin:∀p∈X.pn++pins,s.heap.get? p.1=some p.2/\H p.1=none/\p.1≠X.env.locals/\p.1∉X.fs/\∀v,p.2.data≠.cell v
 hok:HOk X.prog X.w H s.heap
 len:σ.length=X.N.length
section
variable {X:Cx} {pins:List (Addr×Obj)} {σ:List (Option V)} {H H':Hp} {s:Shared} {h':Heap}
theorem Cx.Ok.aJb(ok:X.Ok)(e:X.base.get? b=some o):b∉X.fs:=λhb=>by
 have:=(ok.QW.mem hb).1;rw[e] at this;cases this
theorem Inv.bs(I:Inv X pins σ H s):∀b o,X.base.get? b=some o->s.heap.get? b=some o/\H b=none:=λb o e=>
 ⟨I.base.keep b o (I.ok.bs b o e).1 (I.ok.bs b o e).2 (I.ok.aJb e) (I.ok.noex b o e),I.base.free b o (I.ok.bs b o e).1 (I.ok.bs b o e).2 (I.ok.noex b o e)⟩
theorem Inv.bk(I:Inv X pins σ H s):∀b o,X.base.get? b=some o->s.heap.get? b=some o:=λb o e=>(I.bs b o e).1
theorem Inv.mod(I:Inv X pins σ H s):Mod X.K X.mg X.base:=I.ok.mod
theorem Inv.kIn(I:Inv X pins σ H s):X.K.In s.heap:=I.ok.mod.kin.keeps I.bk
theorem Inv.lt(I:Inv X pins σ H s):X.env.locals<s.heap.objs.size:=let ⟨_,hn,_⟩:=I.loc;hn.lt
theorem Inv.sz(I:Inv X pins σ H s):X.s₀.heap.objs.size<=s.heap.objs.size:=Nat.le_trans I.ok.above (Nat.le_of_lt I.lt)
theorem Inv.aIz(I:Inv X pins σ H s)(h:s.heap.objs.size<=a):a∉X.fs:=λhb=>by
 obtain⟨_,o,ho,_⟩:=I.ok.QW.mem hb;exact absurd (Nat.lt_of_lt_of_le (Heap.lt_size ho) (Nat.le_trans I.sz h)) (Nat.lt_irrefl _)
theorem Inv.cne(I:Inv X pins σ H s):∀x c,X.env.cells.lookup x=some c->c≠X.env.locals:=λx c e z=>by
 obtain⟨v,o,ho,hd⟩:=I.cell x c e;obtain⟨m,⟨o',es,ep,ho',hd',_⟩,_⟩:=I.loc;rw[z,ho'] at ho;cases ho;rw[hd'] at hd;cases hd
theorem Inv.QW(I:Inv X pins σ H s):s.heap.FunFrames X.base X.outer:=by
 have all:∀(l:List Env),(∀b∈frs l,b∈X.fs)->X.s₀.heap.FunFrames X.base l->s.heap.FunFrames X.base l:=by
  intro l;induction l with
  |nil=>intro _ _;trivial
  |cons env r ih=>
   intro hs hl;obtain⟨hk,⟨L,o,hf,hn,ho,hd⟩,hr⟩:=hl;have hL:L∈X.fs:=hs L (by unfold frs;rw[List.filterMap_cons,hf];exact List.mem_cons_self);obtain⟨sl,e⟩:=I.base.slot L o ho (I.ok.frf L hL) hL λz=>I.ok.exfs L z hL
   exact⟨hk,⟨L,_,hf,hn,e,hd⟩,ih (λb hb=>hs b (by unfold frs;rw[List.filterMap_cons,hf];exact List.mem_cons_of_mem _ hb)) hr⟩
 exact all X.outer (λ_ hb=>hb) I.ok.QW
theorem Inv.stack(I:Inv X pins σ H s):s.heap.FunFrames X.base X.stack:=by
 rcases I.ok.stk with e|⟨e,hf⟩
 ·rw[e];exact I.QW
 ·rw[e];obtain⟨m,hn,_⟩:=I.loc;refine .cons (by rw[I.ok.kind];decide) hf hn ?_ I.QW;exact Heap.get?_none_of_le (Nat.le_trans I.ok.bsz I.ok.above)
theorem Inv.JK(I:Inv X pins σ H s):∀b∈frs X.stack,b∈X.env.locals::X.fs:=λb hb=>by
 rcases I.ok.stk with e|⟨e,hf⟩
 ·rw[e] at hb;exact List.mem_cons_of_mem _ hb
 ·rw[e] at hb;unfold frs at hb;rw[List.filterMap_cons,hf] at hb;exact hb
theorem Inv.QX(I:Inv X pins σ H s):∀b∈frs X.stack,H b=none:=λb hb=>by
 rcases List.mem_cons.mp (I.JK b hb) with e|hb
 ·rw[e];exact I.free
 ·obtain⟨_,o,ho,_⟩:=I.ok.QW.mem hb;exact I.base.free b o ho (I.ok.frf b hb) λz=>I.ok.exfs b z hb
theorem Inv.step{ch:List Addr}(I:Inv X pins σ H s)
 (hch:∀b∈ch,(b∈X.ex\/X.s₀.heap.objs.size<=b)/\b≠X.env.locals/\(∀x c,X.env.cells.lookup x=some c->c≠b)/\∀p∈X.pn++pins,p.1≠b)
 (keep:∀b o,b≠X.env.locals->b∉X.fs->b∉ch->s.heap.get? b=some o->H b=none->h'.get? b=some o)
 (slot:∀b o,b≠X.env.locals->b∈X.fs->b∉ch->s.heap.get? b=some o->H b=none->∃sl,h'.get? b=some {o with slots:=sl})(free:∀b o,b∉ch->s.heap.get? b=some o->H b=none->H' b=none)
 (there:∀b o,b∉ch->s.heap.get? b=some o->∃o',h'.get? b=some o')
 (tups:∀b xs,H b=some (.tup xs)->H' b=some (.tup xs))(frzs:∀b o u,H b=some (.frz o u)->H' b=some (.frz o u))(tbls:∀b ps,H b=some (.tbl ps)->∃more,H' b=some (.tbl (ps++more)))
 (ns:∀m,s.heap.Ns X.env.locals m->h'.Ns X.env.locals m)(hok:HOk X.prog X.w H' h')(hg:AllBare g') :
  Inv X pins σ H' {s with heap:=h',gens:=g',drawn:=d',toks:=t'}:=by
 have neL:∀b o,X.s₀.heap.get? b=some o->b≠X.env.locals:=λb o e=>Nat.ne_of_lt (Nat.lt_of_lt_of_le (Heap.lt_size e) I.ok.above)
 have neC:∀b o,X.s₀.heap.get? b=some o->b∉X.ex->b∉ch:=λb o e hx hb=>by
  rcases(hch b hb).1 with z|z
  ·exact hx z
  ·exact absurd (Nat.lt_of_lt_of_le (Heap.lt_size e) z) (Nat.lt_irrefl _)
 have cellK:∀x c,X.env.cells.lookup x=some c->∀v,s.heap.IsCell c v->h'.IsCell c v:=λx c e v ⟨o,ho,hd⟩=>by
  have nch:c∉ch:=λz=>(hch c z).2.2.1 x c e rfl
  by_cases hc:c∈X.fs
  ·obtain⟨sl,q⟩:=slot c o (I.cne x c e) hc nch ho (I.freeC x c e);exact⟨_,q,hd⟩
  ·exact⟨o,keep c o (I.cne x c e) hc nch ho (I.freeC x c e),hd⟩
 refine⟨I.ok,I.os,hg,⟨λb o e n hb hx=>?_,λb o e n hb hx=>?_,λb o e n hx=>?_,λb o e hx=>?_,λb xs e=>tups b xs (I.base.tups b xs e),λb o xs e=>frzs b o xs (I.base.frzs b o xs e),λb ps e=>?_⟩,?_,λx c e=>?_,?_,λx c e=>?_,λp hp=>?_,hok,I.len⟩
 ·exact keep b o (neL b o e) hb (neC b o e hx) (I.base.keep b o e n hb hx) (I.base.free b o e n hx)
 ·obtain⟨sl,e1⟩:=I.base.slot b o e n hb hx;obtain⟨sl',e2⟩:=slot b _ (neL b o e) hb (neC b o e hx) e1 (I.base.free b o e n hx);exact⟨sl',e2⟩
 ·obtain⟨o',e1⟩:=I.base.there b o e hx;exact free b o' (neC b o e hx) e1 (I.base.free b o e n hx)
 ·obtain⟨o',e1⟩:=I.base.there b o e hx;exact there b o' (neC b o e hx) e1
 ·obtain⟨m1,e1⟩:=I.base.tbls b ps e;obtain⟨m2,e2⟩:=tbls b _ e1;exact⟨m1++m2,by rw[e2,Array.append_assoc]⟩
 ·obtain⟨m,hn,hl⟩:=I.loc;refine⟨m,ns m hn,λi x v e1 e2 e3=>?_⟩;obtain⟨u,r,l⟩:=hl i x v e1 e2 e3;refine⟨u,r,?_⟩;rcases l with l|⟨k,c,e,z⟩
  ·exact .inl l
  ·exact .inr ⟨k,c,e,cellK x c e _ z⟩
 ·obtain⟨v,z⟩:=I.cell x c e;exact⟨v,cellK x c e v z⟩
 ·obtain⟨m,⟨o,_,_,ho,_⟩,_⟩:=I.loc;exact free _ o (λz=>(hch _ z).2.1 rfl) ho I.free
 ·obtain⟨v,o,ho,hd⟩:=I.cell x c e;exact free c o (λz=>(hch c z).2.2.1 x c e rfl) ho (I.freeC x c e)
 ·obtain⟨e,n,ne,nf,d⟩:=I.pin p hp;have nch:p.1∉ch:=λz=>(hch p.1 z).2.2.2 p hp rfl
  exact⟨keep p.1 p.2 ne nf nch e n,free p.1 p.2 nch e n,ne,nf,d⟩
theorem Inv.un(I:Inv X pins σ H s)(u:Un X.fs [] H H' s.heap h')(hok:HOk X.prog X.w H' h'):Inv X pins σ H' {s with heap:=h',toks:=t'}:=by
 obtain⟨m,⟨o,es,ep,ho,r⟩,_⟩:=id I.loc;obtain⟨sl,hL⟩:=u.any ho I.free (by simp);exact I.step (g':=s.gens) (d':=s.drawn) (ch:=[]) (λ_ z=>nomatch z) (λb o _ hb _ e n=>u.keep b o e n hb (by simp)) (λb o _ hb _ e n=>u.slot b o e n hb (by simp)) (λb o _ e n=>u.free b o e n (by simp)) (λb o _ e=>u.there b o e (by simp)) u.tups u.frzs u.tbls (λm' hm=>by
  obtain⟨o',es',ep',ho',r'⟩:=hm;rw[ho] at ho';cases ho';exact⟨_,es',ep',hL,r'⟩) hok I.bare
theorem Inv.call(I:Inv X pins σ H s)(u:Un (frs X.stack) ch H H' s.heap h')(hok:HOk X.prog X.w H' h')(hg:AllBare g')
 (hch:∀b∈ch,(b∈X.ex\/X.s₀.heap.objs.size<=b)/\b≠X.env.locals/\(∀x c,X.env.cells.lookup x=some c->c≠b)/\∀p∈X.pn++pins,p.1≠b) :
  Inv X pins σ H' {s with heap:=h',gens:=g',drawn:=d',toks:=t'}:=by
 obtain⟨m,⟨o,es,ep,ho,r⟩,_⟩:=id I.loc;obtain⟨sl,hL⟩:=u.any ho I.free λz=>(hch _ z).2.1 rfl
 exact I.step (ch:=ch) hch (λb o hL hb hc e n=>u.keep b o e n (λz=>(List.mem_cons.mp (I.JK b z)).elim hL hb) hc) (λb o _ _ hc e n=>u.any e n hc) (λb o hc e n=>u.free b o e n hc) (λb o hc e=>u.there b o e hc) u.tups u.frzs u.tbls (λm' hm=>by
  obtain⟨o',es',ep',ho',r'⟩:=hm;rw[ho] at ho';cases ho';exact⟨_,es',ep',hL,r'⟩) hok hg
theorem Inv.turned(I:Inv X pins σ H s)(k:∀b o,b≠it->s.heap.get? b=some o->h'.get? b=some o)(hn:H it=none)(hL:it≠X.env.locals)
 (h1:it∈X.ex\/X.s₀.heap.objs.size<=it)(h2:∀x c,X.env.cells.lookup x=some c->c≠it)(h3:∀p∈X.pn++pins,p.1≠it):Inv X pins σ H {s with heap:=h',toks:=t'}:=by
 have nit:∀b u,H b=some u->b≠it:=λb u e z=>by rw[z,hn] at e;cases e
 refine I.step (g':=s.gens) (d':=s.drawn) (ch:=[it]) (λb hb=>?_) (λb o _ _ hc e _=>k b o (λz=>hc (by simp[z])) e) (λb o _ _ hc e _=>⟨o.slots,k b o (λz=>hc (by simp[z])) e⟩) (λ_ _ _ _ n=>n)
  (λb o hc e=>⟨o,k b o (λz=>hc (by simp[z])) e⟩) (λ_ _ e=>e) (λ_ _ _ e=>e) (λb ps e=>⟨#[],by rw[e];simp⟩) (λm hm=>?_) (λb u e=>?_) I.bare
 ·have e:b=it:=by simpa using hb
  subst e;exact⟨h1,hL,h2,h3⟩
 ·obtain⟨o,es,ep,ho,r⟩:=hm;exact⟨o,es,ep,k _ o (Ne.symm hL) ho,r⟩
 ·refine(I.hok b u e).stay (λc v hc q=>k c v ?_ q) (λ_ q=>q) λ_ _ q=>q
  rcases hc with z|z
  ·rw[z];exact nit b u e
  ·exact nit c _ z
theorem Inv.tok(I:Inv X pins σ H s)(t:Nat):Inv X pins σ H {s with toks:=t}:=I.un (h':=s.heap) (t':=t) Un.refl I.hok
theorem Inv.kept(I:Inv X pins σ H s)(k:∀b u,s.heap.get? b=some u->h'.get? b=some u):Inv X pins σ H {s with heap:=h',toks:=t'}:=I.un (Un.kept k) (I.hok.kept k)
theorem Inv.laid(I:Inv X pins σ H s)(k:∀b u,s.heap.get? b=some u->h'.get? b=some u)(hp:s.heap.objs.size<=a)(new:jG X.prog X.w (upd H a o) h' a o) :
  Inv X pins σ (upd H a o) {s with heap:=h',toks:=t'}:=I.un (Un.laid k hp (I.hok.fresh hp)) (I.hok.laid k hp new)
theorem Inv.write(I:Inv X pins σ H s)(mu:Mut (H x))(he:e=x\/H e=some (.own x))(k:∀b u,b≠e->s.heap.get? b=some u->h'.get? b=some u)(heo:∃u,h'.get? e=some u)
 (new:jG X.prog X.w (upd H x o) h' x o):Inv X pins σ (upd H x o) {s with heap:=h',toks:=t'}:=I.un (Un.write mu he k heo) (I.hok.write mu he k heo new)
theorem Inv.weak(I:Inv X pins σ H s)(hl:σ'.length=σ.length)(w:∀(i:Nat) v,σ'[i]?=some (some v)->σ[i]?=some (some v)):Inv X pins σ' H s:=
 ⟨I.ok,I.os,I.bare,I.base,let ⟨m,hn,hl'⟩:=I.loc;⟨m,hn,λi x v e1 e2 e3=>hl' i x v e1 (w i v e2) e3⟩,I.cell,I.free,I.freeC,I.pin,I.hok,hl.trans I.len⟩
theorem Inv.DW(I:Inv X pins σ H s)(h:∀p∈pins',s.heap.get? p.1=some p.2/\H p.1=none/\p.1≠X.env.locals/\p.1∉X.fs/\∀v,p.2.data≠.cell v):Inv X pins' σ H s:=
 ⟨I.ok,I.os,I.bare,I.base,I.loc,I.cell,I.free,I.freeC,λp hp=>(List.mem_append.mp hp).elim (λz=>I.pin p (List.mem_append_left _ z)) (h p),I.hok,I.len⟩
theorem JL{N:List Str}(hN:N.Nodup){i j:Nat}(a:N[i]?=some x)(b:N[j]?=some x):i=j:=by
 obtain⟨h1,e1⟩:=List.getElem?_eq_some_iff.mp a;obtain⟨h2,e2⟩:=List.getElem?_eq_some_iff.mp b;exact(List.getElem_inj hN).mp (e1.trans e2.symm)
theorem QZ(I:Inv X pins σ H s)(hN:X.N.Nodup)(hi:X.N[i]?=some x)(hx:Loc X.env.scope x)(r:RelV v u)
 (h:∀s',Inv X pins (σ.set i (some v)) H s'->(∃a,Heap.SameBut a s.heap s'.heap/\(a=X.env.locals\/X.env.cells.lookup x=some a))->Q () s')(hf:X.fn x=true\/X.env.scope.names.lookup x=some .local:=by first|exact .inl rfl|exact .inr rfl|assumption):wpAny M A (storeName X.env x u) Q E s:=by
 obtain⟨m,hn,hl⟩:=id I.loc;have hcls:(X.env.scope.kind==.class||(X.env.scope.kind==.module&&X.env.locals !=X.env.globals))=false:=by rw[I.ok.kind];rfl
 have hiσ:i<σ.length:=by rw[I.len];exact(List.getElem?_eq_some_iff.mp hi).1
 have cne:=I.cne;have tracked:∀{a:Addr}{h':Heap},(∃o,s.heap.get? a=some o/\H a=none)->Heap.SameBut a s.heap h'->HOk X.prog X.w H h':=λ{a h'} ha hs b ob e=>by
  obtain⟨_,_,hfree⟩:=ha;refine(I.hok b ob e).stay (λc w' hc q=>(hs.2 c ?_).trans q) (λ_ q=>q) λ_ _ q=>q
  rintro rfl;rcases hc with rfl|hc
  ·rw[hfree] at e;cases e
  ·rw[hfree] at hc;cases hc
 rcases hx with hk|hk
 ·refine wpAny_storeName_local hk hn (λh' hn' hs=>?_) hcls;obtain⟨oL,_,_,hoL,_⟩:=id hn;refine h _ ⟨I.ok,I.os,I.bare,⟨λb o e n hb hx=>?_,λb o e n hb hx=>?_,I.base.free,λb o e hx=>?_,I.base.tups,I.base.frzs,I.base.tbls⟩,⟨_,hn',λj y v' e1 e2 e3=>?_⟩,λy c e=>?_,I.free,I.freeC,λp hp=>?_,tracked ⟨oL,hoL,I.free⟩ hs,by simpa using I.len⟩ ⟨_,hs,.inl rfl⟩
  ·exact(hs.2 b (Nat.ne_of_lt (Nat.lt_of_lt_of_le (Heap.lt_size e) I.ok.above))).trans (I.base.keep b o e n hb hx)
  ·obtain⟨sl,e1⟩:=I.base.slot b o e n hb hx;exact⟨sl,(hs.2 b (Nat.ne_of_lt (Nat.lt_of_lt_of_le (Heap.lt_size e) I.ok.above))).trans e1⟩
  ·obtain⟨o',e1⟩:=I.base.there b o e hx;exact⟨o',(hs.2 b (Nat.ne_of_lt (Nat.lt_of_lt_of_le (Heap.lt_size e) I.ok.above))).trans e1⟩
  ·by_cases hj:j=i
   ·subst hj;rw[hi] at e1;cases e1;rw[List.getElem?_set_self hiσ] at e2;cases e2;exact⟨u,r,.inl ⟨hk,by simp⟩⟩
   ·rw[List.getElem?_set_ne (Ne.symm hj)] at e2;obtain⟨u',r',q⟩:=hl j y v' e1 e2 e3;refine⟨u',r',?_⟩;rcases q with ⟨k,e⟩|⟨k,c,e,z⟩
    ·refine .inl ⟨k,?_⟩;have:y≠x:=λe=>hj (JL hN e1 (e▸hi))
     simp[this,e]
    ·exact .inr ⟨k,c,e,z.sameBut hs (cne y c e)⟩
  ·obtain⟨w',z⟩:=I.cell y c e;exact⟨w',z.sameBut hs (cne y c e)⟩
  ·obtain⟨e,n,ne,nf,d⟩:=I.pin p hp;exact⟨(hs.2 p.1 ne).trans e,n,ne,nf,d⟩
 ·have hfn:X.fn x=true:=by
   rcases hf with z|z
   ·exact z
   ·rw[z] at hk;cases hk
  obtain⟨c,hc⟩:=I.ok.has x (.inl hk);obtain⟨w',z⟩:=I.cell x c hc;refine wpAny_storeName_cell I.ok.kind hk hc z (λh' hc' hs=>?_);obtain⟨oc,hoc,hocd⟩:=id z;refine h {s with heap:=h'} ⟨I.ok,I.os,I.bare,⟨λb o e n hb hx=>?_,λb o e n hb hx=>?_,I.base.free,λb o e hx=>?_,I.base.tups,I.base.frzs,I.base.tbls⟩,⟨m,hn.sameBut hs (Ne.symm (cne x c hc)),λj y v' e1 e2 e3=>?_⟩,λy c' e=>?_,I.free,I.freeC,λp hp=>?_,tracked ⟨oc,hoc,I.freeC x c hc⟩ hs,by simpa using I.len⟩ ⟨c,hs,.inr hc⟩
  ·exact(hs.2 b (Nat.ne_of_lt (Nat.lt_of_lt_of_le (Heap.lt_size e) (I.ok.cab x c hfn hc)))).trans (I.base.keep b o e n hb hx)
  ·obtain⟨sl,e1⟩:=I.base.slot b o e n hb hx;exact⟨sl,(hs.2 b (Nat.ne_of_lt (Nat.lt_of_lt_of_le (Heap.lt_size e) (I.ok.cab x c hfn hc)))).trans e1⟩
  ·obtain⟨o',e1⟩:=I.base.there b o e hx;exact⟨o',(hs.2 b (Nat.ne_of_lt (Nat.lt_of_lt_of_le (Heap.lt_size e) (I.ok.cab x c hfn hc)))).trans e1⟩
  ·by_cases hj:j=i
   ·subst hj;rw[hi] at e1;cases e1;rw[List.getElem?_set_self hiσ] at e2;cases e2;exact⟨u,r,.inr ⟨.inl hk,c,hc,hc'⟩⟩
   ·rw[List.getElem?_set_ne (Ne.symm hj)] at e2;obtain⟨u',r',q⟩:=hl j y v' e1 e2 e3;refine⟨u',r',?_⟩;rcases q with q|⟨k,c',e,z'⟩
    ·exact .inl q
    ·refine .inr ⟨k,c',e,z'.sameBut hs ?_⟩;rintro rfl;exact hj (JL hN e1 (I.ok.inj _ _ _ e hc▸hi))
  ·by_cases hcc:c'=c
   ·subst hcc;exact⟨_,hc'⟩
   ·obtain⟨w2,z2⟩:=I.cell y c' e;exact⟨w2,z2.sameBut hs hcc⟩
  ·obtain⟨e,n,ne,nf,d⟩:=I.pin p hp;refine⟨(hs.2 p.1 ?_).trans e,n,ne,nf,d⟩;intro q;rw[q,hoc] at e;have q':oc=p.2:=Option.some.inj e;exact d w' (by rw[<-q'];exact hocd)
theorem JM(I:Inv X pins σ H s)(hN:X.N.Nodup)(hi:X.N[i]?=some x)(hx:Loc X.env.scope x)(r:RelV v u)
 (h:∀s',Inv X pins (σ.set i (some v)) H s'->Q () s')(hf:X.fn x=true\/X.env.scope.names.lookup x=some .local:=by first|exact .inl rfl|exact .inr rfl|assumption):wpAny M A (storeName X.env x u) Q E s:=
 QZ I hN hi hx r (λs' I' _=>h s' I') hf
end
abbrev XK:=Value->Option Addr->Hp->Prop
noncomputable abbrev St:=List (Option V)
abbrev VK:=V->Hp->Prop
abbrev TE:=St->Hp->VK->Prop
abbrev TT:=St->Hp->(Bool->Hp->Prop)->Prop
abbrev TA:=St->Hp->(List V->Hp->Prop)->Prop
structure Ends where
 nx:St->Hp->Prop
 rt:VK
 bk:St->Hp->Prop:=λ_ _=>False
 ct:St->Hp->Prop:=λ_ _=>False
abbrev TS:=Ends->St->Hp->Prop
def EP(X:Cx)(pins:List (Addr×Obj))(σ:St)(Q:VK)(u:Value)(s':Shared):Prop:=∃v H',Inv X pins σ H' s'/\RelV v u/\Q v H'
def TP(X:Cx)(pins:List (Addr×Obj))(σ:St)(Q:Bool->Hp->Prop)(b:Bool)(s':Shared):Prop:=∃H',Inv X pins σ H' s'/\Q b H'
def AP(X:Cx)(pins:List (Addr×Obj))(σ:St)(Q:List V->Hp->Prop)(us:List Value)(s':Shared):Prop:=∃vs H',Inv X pins σ H' s'/\Vals vs us/\Q vs H'
def SP(X:Cx)(pins:List (Addr×Obj))(D:Ends)(f:Flow)(s':Shared):Prop:=
 match f with
 |.next=>∃σ' H',Inv X pins σ' H' s'/\D.nx σ' H'
 |.brk=>∃σ' H',Inv X pins σ' H' s'/\D.bk σ' H'
 |.cont=>∃σ' H',Inv X pins σ' H' s'/\D.ct σ' H'
 |.ret u=>∃v σ' H',Inv X pins σ' H' s'/\RelV v u/\D.rt v H'
def PE(X:Cx)(e:Expr)(t:TE):Prop:=
 ∀(pins:List (Addr×Obj))(s:Shared)(σ:St)(H:Hp)(Q:VK),Inv X pins σ H s->t σ H Q->wpAny (model X.prog X.w) X.A (eval e X.env) (EP X pins σ Q) X.xe s
def PT(X:Cx)(e:Expr)(t:TT):Prop:=
 ∀(pins:List (Addr×Obj))(s:Shared)(σ:St)(H:Hp)(Q:Bool->Hp->Prop),Inv X pins σ H s->t σ H Q->wpAny (model X.prog X.w) X.A (isTrue e X.env (eval e X.env)) (TP X pins σ Q) X.xe s
def PW(X:Cx)(e:Expr)(t:TT):Prop:=
 ∀(whole:Sem Value)(pins:List (Addr×Obj))(s:Shared)(σ:St)(H:Hp)(Q:Bool->Hp->Prop),Inv X pins σ H s->t σ H Q->wpAny (model X.prog X.w) X.A (isTrue e X.env whole) (TP X pins σ Q) X.xe s
theorem PW.pt(h:PW X e t):PT X e t:=h _
def PA(X:Cx)(es:List Expr)(t:TA):Prop:=
 ∀(pos:Pos)(pins:List (Addr×Obj))(s:Shared)(σ:St)(H:Hp)(Q:List V->Hp->Prop),Inv X pins σ H s->t σ H Q->wpAny (model X.prog X.w) X.A (spliced (backTo pos (starEach es X.env))) (AP X pins σ Q) X.xe s
def PS(X:Cx)(st:Stmt)(t:TS):Prop:=
 ∀(pins:List (Addr×Obj))(s:Shared)(σ:St)(H:Hp)(D:Ends),Inv X pins σ H s->t D σ H->wpAny (model X.prog X.w) X.A (exec st X.env) (SP X pins D) X.xe s
def PSs(X:Cx)(st:List Stmt)(t:TS):Prop:=
 ∀(pins:List (Addr×Obj))(s:Shared)(σ:St)(H:Hp)(D:Ends),Inv X pins σ H s->t D σ H->wpAny (model X.prog X.w) X.A (execs st X.env) (SP X pins D) X.xe s
theorem thn(h:wpAny M A t Q E s)(hQ:∀a s,Q a s->Q' a s):wpAny M A t Q' E s:=wpAny_mono h hQ λ_ _ x=>x
section
variable {X:Cx}
noncomputable def aJ0(i:Nat):TE:=λσ H Q=>∃v,σ[i]?=some (some v)/\Q v H
noncomputable def tC(v:V):TE:=λ_ H Q=>Q v H
theorem kW(hN:X.N[i]?=some x)(hv:Vis X.env.scope x)(hd:nDb x:=by decide)(hcd:nCd x:=by decide):PE X (.Name x pos) (aJ0 i):=by
 intro pins s σ H Q I h;obtain⟨v,e,h⟩:=h;obtain⟨m,hn,hl⟩:=I.loc;obtain⟨u,r,l⟩:=hl i x v hN e hv;have fin:EP X pins σ Q u s:=⟨v,H,I,r,h⟩
 rcases l with ⟨hk,hm⟩|⟨hk,c,hc,hcell⟩
 ·exact wpAny_Name (wpAny_loadName_local I.ok.kind hk hn hm fin) hd
 ·rcases hk with hk|hk
  ·exact wpAny_Name (wpAny_loadName_cell I.ok.kind hk hc hcell fin) hd
  ·exact wpAny_Name (wpAny_loadName_free I.ok.kind hk hc hcell fin hcd) hd
theorem aEi{i j pos}:PE X (.Constant (.int i) j pos) (tC (.int i)):=λ_ _ _ H _ I h=>wpAny_Constant_int ⟨.int i,H,I.tok _,⟨_,rfl⟩,h⟩
theorem aHk{b j pos}:PE X (.Constant (.bool b) j pos) (tC (.bl b)):=λ_ _ _ H _ I h=>Constant_bool ⟨.bl b,H,I,rfl,h⟩
theorem aEj{x j pos}:PE X (.Constant (.str x) j pos) (tC (.str x)):=λ_ _ _ H _ I h=>Calls.Constant_str ⟨.str x,H,I.tok _,⟨_,rfl⟩,h⟩
def Gl(X:Cx)(x:Str):Prop:=X.env.kindOf x=some .globalImplicit
theorem aB3(I:Inv X pins σ H s)(hg:Gl X x)(hm:X.mg x=some u)(h:Q u s)
 (hd:nDb x:=by decide):wpAny (model X.prog X.w) X.A (eval (.Name x pos) X.env) Q E s:=
 Calls.Name_function_global I.ok.kind hg (Calls.loadGlobal_global (by rw[I.ok.glob];exact I.mod.glob.keeps I.bk) hm h) hd
theorem jQ(I:Inv X pins σ H s)(hg:Gl X x)(hm:X.mg x=none)(hv:bootBuiltins x=some u)(h:Q u s)
 (hn:x ≠ "__name__":=by decide)(hd:nDb x:=by decide):wpAny (model X.prog X.w) X.A (eval (.Name x pos) X.env) Q E s:=by
 obtain⟨mb,h1,h2⟩:=I.mod.blt;exact Calls.Name_function_global I.ok.kind hg (Calls.loadGlobal_builtin (by rw[I.ok.glob];exact I.mod.glob.keeps I.bk) hm (by rw[I.ok.blt];exact h1.keeps I.bk) ((h2 x hn).trans hv) h) hd
theorem aB4(hg:Gl X x)(hm:X.mg x=none)(hv:bootBuiltins x=some u)(r:RelV v u)(hn:x ≠ "__name__":=by decide)(hd:nDb x:=by decide):PE X (.Name x pos) (tC v):=
 λ_ _ _ H _ I h=>jQ I hg hm hv ⟨v,H,I,r,h⟩ hn hd
variable {a b:Expr} {ta tb:TE} {pos:Pos}
variable {tA tB':TT} {rest:List Expr}
noncomputable def aJc(t u:TT):TT:=λσ H Q=>t σ H λc H1=>if c=true then u σ H1 Q else Q false H1
noncomputable def tOr(t u:TT):TT:=λσ H Q=>t σ H λc H1=>if c=true then Q true H1 else u σ H1 Q
noncomputable def aJd(t:TT):TT:=λσ H Q=>t σ H λc H1=>Q (!c) H1
theorem aB5(ha:PT X a tA):PW X (.BoolOp .And [a] pos) tA:=by
 intro wh pins s σ H Q I h;refine isTrue_and (thn (ha pins s σ H Q I h) λc s1 e=>?_);cases c with
 |true=>exact isTrue_and_nil e
 |false=>exact e
theorem aEk(ha:PT X a tA):PW X (.BoolOp .Or [a] pos) tA:=by
 intro wh pins s σ H Q I h;refine isTrue_or (thn (ha pins s σ H Q I h) λc s1 e=>?_);cases c with
 |false=>exact isTrue_or_nil e
 |true=>exact e
theorem aEm(ha:PT X a tA)(hb:PW X (.BoolOp .And (b::rest) pos) tB'):PW X (.BoolOp .And (a::b::rest) pos) (aJc tA tB'):=by
 intro wh pins s σ H Q I h;refine isTrue_and (thn (ha pins s σ H _ I h) λc s1 ⟨H1,I1,q1⟩=>?_);cases c with
 |true=>exact hb wh pins s1 σ H1 Q I1 q1
 |false=>exact⟨H1,I1,q1⟩
theorem aHl(ha:PT X a tA)(hb:PW X (.BoolOp .Or (b::rest) pos) tB'):PW X (.BoolOp .Or (a::b::rest) pos) (tOr tA tB'):=by
 intro wh pins s σ H Q I h;refine isTrue_or (thn (ha pins s σ H _ I h) λc s1 ⟨H1,I1,q1⟩=>?_);cases c with
 |true=>exact⟨H1,I1,q1⟩
 |false=>exact hb wh pins s1 σ H1 Q I1 q1
theorem aEn(ha:PT X a tA):PT X (.UnaryOp .Not a pos) (aJd tA):=by
 intro pins s σ H Q I h;exact isTrue_not (ha pins s σ H (λc H1=>Q (!c) H1) I h)
noncomputable def aHm(ta tb:TE):TE:=λσ H Q=>ta σ H λx H1=>∃c,x=.bl c/\if c=true then tb σ H1 Q else Q (.bl false) H1
theorem aEo{op}(h:PE X a t):PE X (.BoolOp op [a] pos) t:=λpins s σ H Q I hw=>BoolOp_one (h pins s σ H Q I hw)
theorem aEp(ha:PE X a ta)(hb:PE X (.BoolOp .And (b::rest) pos) tb):PE X (.BoolOp .And (a::b::rest) pos) (aHm ta tb):=by
 intro pins s σ H Q I h;refine BoolOp_and (thn (ha pins s σ H _ I h) λv s1 ⟨x,H1,I1,r1,q1⟩=>?_);obtain⟨c,rfl,q1⟩:=q1;cases r1;refine wpAny_truthy_bool ?_;cases c with
 |true=>exact hb pins s1 σ H1 Q I1 q1
 |false=>exact⟨.bl false,H1,I1,rfl,q1⟩
end
def SqL(K:PySem.W.Frag)(H:Hp)(a:Addr)(xs:List V):Prop:=
 Rd H a (.lst xs)\/
  ∃(o:Obj)(its:Array Value)(n:Nat),K.lookup a=some o/\o.cls=.type "list"/\o.dict=none/\o.data=.seq its n/\its.size<=sizeLine/\Vals xs its.toList
def SqT(K:PySem.W.Frag)(H:Hp)(a:Addr)(xs:List V):Prop:=
 Rd H a (.tup xs)\/
  ∃(o:Obj)(its:Array Value)(n:Nat),K.lookup a=some o/\o.cls=.type "tuple"/\o.data=.seq its n/\its.size<=sizeLine/\Vals xs its.toList
noncomputable def aJe:Value->Option V
 |.none=>some .non
 |.bool b=>some (.bl b)
 |.int i _=>some (.int i)
 |.str x _=>some (.str x)
 |.bytes b _=>some (.byt b)
 |.float b _=>some (.flt b)
 |.ref a=>some (.ref a)
 |.type n=>some (.ty n)
 |_=>none
theorem RelV.abs(r:RelV x u):aJe u=some x:=by
 cases x with
 |non=>cases r;rfl
 |bl _=>cases r;rfl
 |int _=>obtain⟨t,rfl⟩:=r;rfl
 |str _=>obtain⟨t,rfl⟩:=r;rfl
 |byt _=>obtain⟨t,rfl⟩:=r;rfl
 |flt _=>obtain⟨t,rfl⟩:=r;rfl
 |ref _=>cases r;rfl
 |ty _=>cases r;rfl
theorem RelV.inj(r:RelV x u)(q:RelV y u):x=y:=Option.some.inj (r.abs.symm.trans q.abs)
theorem Vals.inj:∀{xs ys:List V}{us:List Value},Vals xs us->Vals ys us->xs=ys
 |_,_,_,.nil,.nil=>rfl
 |_,_,_,.cons r t,.cons r' t'=>by rw[r.inj r',Vals.inj t t']
section
variable {X:Cx} {pins:List (Addr×Obj)} {σ:St} {H:Hp} {s:Shared} {a:Addr} {xs ys:List V}
theorem SqL.of{K:PySem.W.Frag}(h:H a=some (.lst xs)):SqL K H a xs:=.inl (.inl h)
theorem SqT.of{K:PySem.W.Frag}(h:H a=some (.tup xs)):SqT K H a xs:=.inl (.inl h)
theorem Inv.list(I:Inv X pins σ H s)(h:SqL X.K H a xs):∃its:List Value,Vals xs its/\PlainL s.heap a its.toArray/\xs.length<=sizeLine:=by
 rcases h with h|⟨o,its,n,hk,hc,hd,hs,hz,r⟩
 ·obtain⟨z,its,n,r,e⟩:=h.ok I.hok;exact⟨its,r,⟨_,n,e,rfl,rfl,rfl⟩,z⟩
 ·refine⟨its.toList,r,⟨o,n,I.kIn a o hk,hc,hd,by simpa using hs⟩,?_⟩;have e:=r.length;simp only[Array.length_toList] at e;lia
theorem Inv.tuple(I:Inv X pins σ H s)(h:SqT X.K H a xs):∃its:List Value,Vals xs its/\IsTup s.heap a its.toArray/\xs.length<=sizeLine:=by
 rcases h with h|⟨o,its,n,hk,hc,hs,hz,r⟩
 ·obtain⟨z,its,r,p⟩:=h.ok I.hok;exact⟨its,r,p.tup,z⟩
 ·refine⟨its.toList,r,⟨o,I.kIn a o hk,hc,n,by simpa using hs⟩,?_⟩;have e:=r.length;simp only[Array.length_toList] at e;lia
theorem Inv.XN(I:Inv X pins σ H s)(h:SqL X.K H a xs)(h':SqL X.K H a ys):xs=ys:=by
 obtain⟨its,r,⟨o,n,e,_,_,d⟩,_⟩:=I.list h;obtain⟨its',r',⟨o',n',e',_,_,d'⟩,_⟩:=I.list h';rw[e] at e';cases e';rw[d] at d';injection d' with d1 _
 have:its=its':=by simpa using congrArg Array.toList d1
 subst this;exact r.inj r'
theorem Inv.Q0(I:Inv X pins σ H s)(h:SqT X.K H a xs)(h':SqT X.K H a ys):xs=ys:=by
 obtain⟨its,r,⟨o,e,_,n,d⟩,_⟩:=I.tuple h;obtain⟨its',r',⟨o',e',_,n',d'⟩,_⟩:=I.tuple h';rw[e] at e';cases e';rw[d] at d';injection d' with d1 _
 have:its=its':=by simpa using congrArg Array.toList d1
 subst this;exact r.inj r'
end
noncomputable abbrev Cx.wish(X:Cx)(E:Value->Shared->Prop):Cx:={X with xe:=E}
noncomputable abbrev Cx.nox(X:Cx):Cx:=X.wish λ_ _=>False
theorem Cx.Ok.wish{X:Cx}(ok:X.Ok)(E:Value->Shared->Prop):(X.wish E).Ok:=
 ⟨ok.mod,ok.kind,ok.glob,ok.blt,ok.above,ok.inj,ok.has,ok.cab,ok.hd,ok.frames,ok.stk,ok.exf,ok.bs,ok.bsz,ok.noex,ok.exfs,ok.QW,ok.frf⟩
theorem Cx.Ok.qR{X:Cx}(ok:(X.wish E).Ok):X.Ok:=
 ⟨ok.mod,ok.kind,ok.glob,ok.blt,ok.above,ok.inj,ok.has,ok.cab,ok.hd,ok.frames,ok.stk,ok.exf,ok.bs,ok.bsz,ok.noex,ok.exfs,ok.QW,ok.frf⟩
section
variable {X:Cx} {pins:List (Addr×Obj)} {σ:St} {H:Hp} {s:Shared} {E:Value->Shared->Prop}
theorem Inv.wish(I:Inv X pins σ H s)(E:Value->Shared->Prop):Inv (X.wish E) pins σ H s:=⟨I.ok.wish E,I.os,I.bare,I.base,I.loc,I.cell,I.free,I.freeC,I.pin,I.hok,I.len⟩
theorem Inv.qR(I:Inv (X.wish E) pins σ H s):Inv X pins σ H s:=⟨I.ok.qR,I.os,I.bare,I.base,I.loc,I.cell,I.free,I.freeC,I.pin,I.hok,I.len⟩
theorem SP.qR(h:SP (X.wish E) pins D f s'):SP X pins D f s':=by
 cases f with
 |next=>obtain⟨σ',H',I,q⟩:=h;exact⟨σ',H',I.qR,q⟩
 |brk=>obtain⟨σ',H',I,q⟩:=h;exact⟨σ',H',I.qR,q⟩
 |cont=>obtain⟨σ',H',I,q⟩:=h;exact⟨σ',H',I.qR,q⟩
 |ret u=>obtain⟨v,σ',H',I,r,q⟩:=h;exact⟨v,σ',H',I.qR,r,q⟩
theorem PSs.nox{st:List Stmt}{t:TS}(h:PSs X.nox st t):PSs X st t:=λpins s σ H D I hw=>
 wpAny_mono (h pins s σ H D (I.wish _) hw) (λ_ _ q=>q.qR) λ_ _ z=>False.elim z
end
section
variable {X:Cx} {st:Stmt} {rest:List Stmt} {t u:TS} {e:Expr} {te:TE} {pos:Pos}
noncomputable def aHn:TS:=λD σ H=>D.nx σ H
noncomputable def aJ1(t u:TS):TS:=λD σ H=>t {D with nx:=u D} σ H
theorem aB6:PSs X [] aHn:=λ_ _ σ H _ I h=>wpAny_execs_nil ⟨σ,H,I,h⟩
theorem XQ(h1:PS X st t)(h2:PSs X rest u):PSs X (st::rest) (aJ1 t u):=by
 intro pins s σ H D I h;refine wpAny_execs_cons (thn (h1 pins s σ H {D with nx:=u D} I h) λf s1 q=>?_);cases f with
 |next=>
  obtain⟨σ',H',I',q⟩:=q;exact h2 pins s1 σ' H' D I' q
 |ret v=>exact q
 |brk=>exact q
 |cont=>exact q
theorem aB7(h1:PS X st t):PSs X [st] t:=by
 intro pins s σ H D I h;refine wpAny_execs_cons (thn (h1 pins s σ H D I h) λf s1 q=>?_);cases f with
 |next=>exact wpAny_execs_nil q
 |ret v=>exact q
 |brk=>exact q
 |cont=>exact q
theorem Inv.quiet(I:Inv X pins σ H s):interactive X.env=false:=by simp[interactive,I.ok.kind]
noncomputable def aHo(te:TE):TS:=λD σ H=>te σ H λ_ H1=>D.nx σ H1
theorem vV(he:PE X e te)(hs:swapsWith e none pos.line X.env=pure false:=by rfl):PS X (.Expr e pos) (aHo te):=by
 intro pins s σ H D I h;exact wpAny_Expr_any (thn (he pins s σ H _ I h) λv s1 ⟨x,H1,I1,r1,q1⟩=>⟨σ,H1,I1,q1⟩) I.quiet hs
noncomputable def aJf(te:TE):TS:=λD σ H=>te σ H D.rt
theorem aA8(he:PE X e te):PS X (.Return (some e) pos) (aJf te):=by
 intro pins s σ H D I h;exact wpAny_Return_some (thn (he pins s σ H _ I h) λv s1 ⟨x,H1,I1,r1,q1⟩=>⟨x,σ,H1,I1,r1,q1⟩)
noncomputable def aJg(c:TT)(t u:TS):TS:=λD σ H=>c σ H λb H1=>if b=true then t D σ H1 else u D σ H1
theorem aEq(hc:PT X c tc)(ha:PSs X a t)(hb:PSs X b u):PS X (.If c a b pos) (aJg tc t u):=by
 intro pins s σ H D I h;refine wpAny_If (thn (hc pins s σ H _ I h) λd s1 ⟨H1,I1,q1⟩=>?_);cases d with
 |true=>exact ha pins s1 σ H1 D I1 q1
 |false=>exact hb pins s1 σ H1 D I1 q1
end
abbrev TG:=V->St->Hp->(St->Hp->Prop)->Prop
abbrev TGs:=List V->St->Hp->(St->Hp->Prop)->Prop
def PG(X:Cx)(target:Expr)(t:TG):Prop:=
 ∀(pins:List (Addr×Obj))(s:Shared)(σ:St)(H:Hp)(v:V)(u:Value)(Q:St->Hp->Prop),Inv X pins σ H s->RelV v u->t v σ H Q->
  wpAny (model X.prog X.w) X.A (assign target X.env u) (λ_ s'=>∃σ' H',Inv X pins σ' H' s'/\Q σ' H') X.xe s
def PGs(X:Cx)(ts:List Expr)(t:TGs):Prop:=
 ∀(pins:List (Addr×Obj))(s:Shared)(σ:St)(H:Hp)(vs:List V)(us:List Value)(Q:St->Hp->Prop),Inv X pins σ H s->Vals vs us->t vs σ H Q->
  wpAny (model X.prog X.w) X.A (assignInOrder ((assignEach ts X.env).map (·.2)) us) (λ_ s'=>∃σ' H',Inv X pins σ' H' s'/\Q σ' H') X.xe s
section
variable {X:Cx} {pos:Pos}
noncomputable def rB(i:Nat):TG:=λv σ H Q=>Q (σ.set i (some v)) H
theorem bI(hN:X.N.Nodup)(hi:X.N[i]?=some x)(hx:Loc X.env.scope x)(hf:X.fn x=true\/X.env.scope.names.lookup x=some .local:=by first|exact .inl rfl|exact .inr rfl|assumption):PG X (.Name x pos) (rB i):=by
 intro pins s σ H v u Q I r h;exact wpAny_assign_Name (JM I hN hi hx r (λs' I'=>⟨_,H,I',h⟩) hf)
noncomputable def aJ2:TGs:=λvs σ H Q=>vs=[]/\Q σ H
noncomputable def aEr(t:TG)(u:TGs):TGs:=λvs σ H Q=>∃v r,vs=v::r/\t v σ H λσ' H'=>u r σ' H' Q
theorem o8:PGs X [] aJ2:=by
 intro pins s σ H vs us Q I r h;obtain⟨e,h⟩:=h;subst e;cases r;exact assignInOrder_nil ⟨σ,H,I,h⟩
theorem dC(h1:PG X e t)(h2:PGs X es u)
 (hs:(assignEach (e::es) X.env).map (·.2)=assign e X.env::(assignEach es X.env).map (·.2):=by rfl):PGs X (e::es) (aEr t u):=by
 intro pins s σ H vs us Q I r h;obtain⟨v,vr,e1,h⟩:=h;subst e1;cases r with
 |cons r rr=>
  rw[hs];refine assignInOrder_cons (thn (h1 pins s σ H _ _ _ I r h) λ_ s1 ⟨σ1,H1,I1,q1⟩=>?_);exact h2 pins s1 σ1 H1 _ _ Q I1 rr q1
noncomputable def aHp(K:PySem.W.Frag)(n:Nat)(t:TGs):TG:=λv σ H Q=>∃a xs,v=.ref a/\SqT K H a xs/\xs.length=n/\t xs σ H Q
theorem u5(hc:X.calm=true)(h:PGs X es t)
 (hn:(assignEach es X.env).length=n:=by rfl)(hst:(assignEach es X.env).findIdx? (·.1)=none:=by rfl):PG X (.Tuple es k pos) (aHp X.K n t):=by
 intro pins s σ H v u Q I r hw;obtain⟨a,xs,e1,hq,hl,hw⟩:=hw;subst e1;cases r;obtain⟨its,rv,ht,hz⟩:=I.tuple hq;refine assign_Tuple_tuple (I.ok.hd hc) ht (by simp[hn,<-hl,rv.length]) hst λh' hx=>?_
 have I1:Inv X pins σ H {s with heap:=h'}:=I.kept (t':=s.toks) λb o e=>hx b o (Nat.ne_of_lt (Heap.lt_size e)) e
 exact h pins _ σ H xs _ Q I1 (by simpa using rv) hw
noncomputable def aE1(te:TE)(g:TG):TS:=λD σ H=>te σ H λx H1=>g x σ H1 D.nx
theorem Q3(hN:X.N.Nodup)(hi:X.N[i]?=some x)(hx:Loc X.env.scope x)(he:PE X e te)(hs:swapsWith e (some (.Name x pos')) pos.line X.env=pure false:=by rfl)(hf:X.fn x=true\/X.env.scope.names.lookup x=some .local:=by first|exact .inl rfl|exact .inr rfl|assumption) :
  PS X (.Assign [.Name x pos'] e pos) (aE1 te (rB i)):=by
 intro pins s σ H D I h;refine wpAny_Assign_Name (thn (he pins s σ H _ I h) λv s1 ⟨y,H1,I1,r1,q1⟩=>?_) hs;exact JM I1 hN hi hx r1 (λs2 I2=>⟨_,H1,I2,q1⟩) hf
end
section
variable {X:Cx} {pos:Pos}
def aEs(c:TT)(tb:TS):TS:=λD σ H=>∃W:Nat->St->Hp->Prop,(∃m,W m σ H)/\∀m σ H,W m σ H->
 c σ H λb H1=>if b=true then ∃N:St->Hp->Prop,(∀σ' H',N σ' H'->∃m',m'<m/\W m' σ' H')/\tb {D with nx:=N,ct:=N,bk:=D.nx} σ H1 else D.nx σ H1
theorem XR(hp:PassesOwn (model X.prog X.w) X.A X.env X.xe)(hc:PT X c tc)(hb:PSs X body tb):PS X (.While c body [] pos) (aEs tc tb):=by
 intro pins s σ H D I h;obtain⟨W,⟨m0,w0⟩,turn⟩:=h;refine wpAny_While (codeAny_whileLoop (λn s'=>∃σ' H',Inv X pins σ' H' s'/\W n σ' H') ?_ m0 ⟨σ,H,I,w0⟩);rintro n s1 ⟨σ1,H1,I1,w1⟩;refine wpAny_passesOwn hp (thn (hc pins s1 σ1 H1 _ I1 (turn n σ1 H1 w1)) λb s2 ⟨H2,I2,q2⟩=>?_);cases b with
 |true=>
  obtain⟨N,hN,q2⟩:=q2;rw[if_pos rfl];refine wpAny_passesOwn hp (thn (hb pins s2 σ1 H2 _ I2 q2) λf s3 q3=>?_);cases f with
  |next=>
   obtain⟨σ3,H3,I3,n3⟩:=q3;obtain⟨m',hm,w3⟩:=hN σ3 H3 n3;exact⟨m',hm,σ3,H3,I3,w3⟩
  |cont=>
   obtain⟨σ3,H3,I3,n3⟩:=q3;obtain⟨m',hm,w3⟩:=hN σ3 H3 n3;exact⟨m',hm,σ3,H3,I3,w3⟩
  |brk=>exact q3
  |ret v=>exact q3
 |false=>
  rw[if_neg Bool.false_ne_true];exact wpAny_execs_nil ⟨σ1,H2,I2,q2⟩
end
structure It where
 go:Nat->Hp->Prop
 yld:Nat->Hp->V->Hp->Prop
 stop:Nat->Hp->Prop
def QL(X:Cx)(pins:List (Addr×Obj))(H:Hp)(b:Addr):Prop:=
 H b=none/\b≠X.env.locals/\b∉X.fs/\(b∈X.ex\/X.s₀.heap.objs.size<=b)/\(∀x c,X.env.cells.lookup x=some c->c≠b)/\∀p∈X.pn++pins,p.1≠b
theorem Inv.aA9(I:Inv X pins σ H s)(hb:s.heap.objs.size<=b)(hn:H' b=none):QL X pins H' b:=by
 refine⟨hn,Nat.ne_of_gt (Nat.lt_of_lt_of_le I.lt hb),I.aIz hb,.inr (Nat.le_trans I.sz hb),λx c e z=>?_,λp hp z=>?_⟩
 ·obtain⟨v,q⟩:=I.cell x c e;exact absurd (Nat.lt_of_lt_of_le q.lt (by rw[z];exact hb)) (Nat.lt_irrefl _)
 ·exact absurd (Nat.lt_of_lt_of_le (Heap.lt_size (I.pin p hp).1) (by rw[z];exact hb)) (Nat.lt_irrefl _)
structure Turn(P:Program)(w:World)(K:PySem.W.Frag)(tg:Expr)(J:It)(fp:List Addr)(it:Addr)(tn:Nat->Heap->Prop):Prop where
 mem:it∈fp
 obj:∀i h,tn i h->∀b∈fp,∃o,h.get? b=some o/\∀v,o.data≠.cell v
 keep:∀i h h',tn i h->(∀b∈fp,∀o,h.get? b=some o->h'.get? b=some o)->tn i h'
 item:∀(X:Cx),X.prog=P->X.w=w->X.K=K->X.calm=true->∀(i:Nat)(pins:List (Addr×Obj))(s:Shared)(σ:St)(H:Hp)(E:Value->Shared->Prop),Inv X pins σ H s->(∀b∈fp,QL X pins H b)->tn i s.heap->J.go i H->
  wpAny (model P w) X.A (pyNext (.ref it)) (λr s1=>∃u,r=some u/\
   wpAny (model P w) X.A (letOwnedTupleGo tg (.ref it) u) (λ_ s2=>∃x H',Inv X pins σ H' s2/\RelV x u/\J.yld i H x H'/\tn (i+1) s2.heap/\∀b∈fp,H' b=none) E s1) E s
 done:∀(X:Cx),X.prog=P->X.w=w->X.K=K->X.calm=true->∀(i:Nat)(pins:List (Addr×Obj))(s:Shared)(σ:St)(H:Hp)(E:Value->Shared->Prop),Inv X pins σ H s->(∀b∈fp,QL X pins H b)->tn i s.heap->J.stop i H->
  wpAny (model P w) X.A (pyNext (.ref it)) (λr s1=>r=none/\Inv X pins σ H s1) E s
 self:∀(A:Around)(i:Nat)(s:Shared)(Q:Value->Shared->Prop)(E:Value->Shared->Prop),tn i s.heap->Q (.ref it) s->wpAny (model P w) A (pyIter (.ref it)) Q E s
abbrev TI:=St->Hp->(It->Hp->Prop)->Prop
def PIE(X:Cx)(pins:List (Addr×Obj))(σ:St)(tg:Expr)(R:It->Hp->Prop)(itv:Value)(s2:Shared):Prop:=
 ∃(it:Addr)(fp:List Addr)(tn:Nat->Heap->Prop)(J:It)(H':Hp),itv=.ref it/\Inv X pins σ H' s2/\Turn X.prog X.w X.K tg J fp it tn/\tn 0 s2.heap/\(∀b∈fp,QL X pins H' b)/\R J H'
def PI(X:Cx)(tg iter:Expr)(wi:TI):Prop:=
 ∀(pins:List (Addr×Obj))(s:Shared)(σ:St)(H:Hp)(R:It->Hp->Prop),Inv X pins σ H s->wi σ H R->
  wpAny (model X.prog X.w) X.A (eval iter X.env) (λv s1=>wpAny (model X.prog X.w) X.A (pyIter v) (PIE X pins σ tg R) X.xe s1) X.xe s
theorem MT(ho:s.heap.get? it=some o)(hc:o.cls=.type n)(hd:o.data=.fields vs)
 (hn:["enumerate","zip","dict_itemiterator","dict_reverseitemiterator","odict_iterator","itertools.zip_longest","itertools.pairwise"].contains n=false)(hQ:Q () s):wpAny M A (letOwnedTupleGo tg (.ref it) u) Q E s:= by
  unfold letOwnedTupleGo;cases tg<;>first
    |exact wpAny_pure hQ
    | (cases u<;>first
        |exact wpAny_pure hQ
        | (refine wpAny_bind (wpAny_load ho ?_)
           rw[hc,hd];show wpAny M A (if (["enumerate","zip","dict_itemiterator","dict_reverseitemiterator","odict_iterator","itertools.zip_longest","itertools.pairwise"].contains n&&vs[0]?==some (rawInt _))=true then _ else _) Q E s;rw[if_neg (by intro h;rw[hn,Bool.false_and] at h;cases h)];exact wpAny_pure hQ))
noncomputable def Itl(K:PySem.W.Frag)(a:Addr):It:=
 ⟨λi H=>∃xs x,SqL K H a xs/\xs[i]?=some x,λi H x H'=>H'=H/\∀xs,SqL K H a xs->xs[i]?=some x,λi H=>∃xs,SqL K H a xs/\xs.length<=i⟩
noncomputable def Itt(K:PySem.W.Frag)(a:Addr):It:=
 ⟨λi H=>∃xs x,SqT K H a xs/\xs[i]?=some x,λi H x H'=>H'=H/\∀xs,SqT K H a xs->xs[i]?=some x,λi H=>∃xs,SqT K H a xs/\xs.length<=i⟩
noncomputable def Itr(lo:Int)(n:Nat):It:=⟨λi _=>i<n,λi H x H'=>H'=H/\x=.int (lo+i),λi _=>n<=i⟩
theorem Q4{K:PySem.W.Frag}(a it:Addr):Turn P w K tg (Itl K a) [it] it (λi h=>h.IsListIter it a i) where
 mem:=by simp
 obj:=λi h st b hb=>by
  have e:b=it:=by simpa using hb
  subst e;obtain⟨o,e,c,d⟩:=st;exact⟨o,e,λv z=>by rw[d] at z;cases z⟩
 keep:=λi h h' st k=>st.at λo e=>k it (by simp) o e
 item:=by
  intro X hP hw hK hc i pins s σ H E I hf st hg;subst hP hw hK;obtain⟨xs,x,hq,hx⟩:=hg;obtain⟨its,rv,p,hz⟩:=I.list hq;obtain⟨u,hu,ru⟩:=rv.get hx;obtain⟨f0,f1,f2,f3,f4,f5⟩:=hf it (by simp);refine wpAny_pyNext_list_item st p.isList (x:=u) (by simpa using hu) λh' st' sb=>?_
  have I1:Inv X pins σ H {s with heap:=h'}:=I.turned (t':=s.toks) (λb o hb e=>(sb.2 b hb).trans e) f0 f1 f3 f4 f5;obtain⟨o,e,c,d⟩:=id st';exact⟨u,rfl,MT (s:={s with heap:=h'}) e c d (by decide) ⟨x,H,I1,ru,⟨rfl,λys hy=>by rw[I.XN hy hq];exact hx⟩,st',λb hb=>(hf b hb).1⟩⟩
 done:=by
  intro X hP hw hK hc i pins s σ H E I hf st hg;subst hP hw hK;obtain⟨xs,hq,hx⟩:=hg;obtain⟨its,rv,p,hz⟩:=I.list hq;obtain⟨f0,f1,f2,f3,f4,f5⟩:=hf it (by simp);have hl:=rv.length;exact wpAny_pyNext_list_end (I.ok.hd hc) st p.isList (by simp;lia) λh' eb=>⟨rfl,I.turned (t':=s.toks) (λb o hb e=>eb b o hb e) f0 f1 f3 f4 f5⟩
 self:=λ_ _ _ _ _ st h=>wpAny_pyIter_listiter st h
theorem M3{K:PySem.W.Frag}(a it:Addr):Turn P w K tg (Itt K a) [it] it (λi h=>h.IsTupleIter it a i) where
 mem:=by simp
 obj:=λi h st b hb=>by
  have e:b=it:=by simpa using hb
  subst e;obtain⟨o,e,c,d⟩:=st;exact⟨o,e,λv z=>by rw[d] at z;cases z⟩
 keep:=λi h h' st k=>st.at λo e=>k it (by simp) o e
 item:=by
  intro X hP hw hK hc i pins s σ H E I hf st hg;subst hP hw hK;obtain⟨xs,x,hq,hx⟩:=hg;obtain⟨its,rv,p,hz⟩:=I.tuple hq;obtain⟨u,hu,ru⟩:=rv.get hx;obtain⟨f0,f1,f2,f3,f4,f5⟩:=hf it (by simp);refine wpAny_pyNext_tuple_item st (show s.heap.IsTuple a its.toArray from p) (x:=u) (by simpa using hu) λh' st' sb=>?_
  have I1:Inv X pins σ H {s with heap:=h'}:=I.turned (t':=s.toks) (λb o hb e=>(sb.2 b hb).trans e) f0 f1 f3 f4 f5;obtain⟨o,e,c,d⟩:=id st';exact⟨u,rfl,MT (s:={s with heap:=h'}) e c d (by decide) ⟨x,H,I1,ru,⟨rfl,λys hy=>by rw[I.Q0 hy hq];exact hx⟩,st',λb hb=>(hf b hb).1⟩⟩
 done:=by
  intro X hP hw hK hc i pins s σ H E I hf st hg;subst hP hw hK;obtain⟨xs,hq,hx⟩:=hg;obtain⟨its,rv,p,hz⟩:=I.tuple hq;obtain⟨f0,f1,f2,f3,f4,f5⟩:=hf it (by simp);have hl:=rv.length;exact wpAny_pyNext_tuple_end (I.ok.hd hc) st (show s.heap.IsTuple a its.toArray from p) (by simp;lia) λh' eb=>⟨rfl,I.turned (t':=s.toks) (λb o hb e=>eb b o hb e) f0 f1 f3 f4 f5⟩
 self:=λ_ _ _ _ _ st h=>wpAny_pyIter_tupleiter st h
theorem M4{K:PySem.W.Frag}(it:Addr)(lo:Int)(n:Nat):Turn P w K tg (Itr lo n) [it] it (λi h=>IsRangeIter h it (lo+(i:Nat)*1) ((n:Int)-(i:Nat)) 1) where
 mem:=by simp
 obj:=λi h st b hb=>by
  have e:b=it:=by simpa using hb
  subst e;exact⟨_,st,λv z=>by
   have z':Data.fields _=Data.cell v:=z;cases z'⟩
 keep:=λi h h' st k=>k it (by simp) _ st
 item:=by
  intro X hP hw hK hc i pins s σ H E I hf st hg;subst hP hw hK;obtain⟨f0,f1,f2,f3,f4,f5⟩:=hf it (by simp);have W:=Walks.range (prog:=X.prog) (w:=X.w) (I.ok.hd hc) it lo 1 n;refine W.item i s _ _ hg st λv h' tk hv st' kk=>?_
  obtain⟨t,rfl⟩:=hv;have I1:Inv X pins σ H {s with heap:=h',toks:=tk}:=I.turned (λb o hb e=>kk b o (by simpa using hb) e) f0 f1 f3 f4 f5;refine⟨_,rfl,MT (s:={s with heap:=h',toks:=tk}) (n:= "range_iterator") st' rfl rfl (by decide) ⟨.int (lo+i),H,I1,⟨t,?_⟩,⟨rfl,rfl⟩,st',λb hb=>(hf b hb).1⟩⟩;rw[Int.mul_one]
 done:=by
  intro X hP hw hK hc i pins s σ H E I hf st hg;subst hP hw hK;obtain⟨f0,f1,f2,f3,f4,f5⟩:=hf it (by simp);exact wpAny_pyNext_range_end (I.ok.hd hc) st (by have:n<=i:=hg;lia) λh' eb=>⟨rfl,I.turned (t':=s.toks) (λb o hb e=>eb b o hb e) f0 f1 f3 f4 f5⟩
 self:=λ_ _ _ _ _ st h=>wpAny_pyIter_rangeiter st h
section
variable {X:Cx} {tg:Expr}
theorem JN{R:It->Hp->Prop}{E:Value->Shared->Prop}{lo hi:Int}{t u v:Tok}{tk:Nat}(I:Inv X pins σ H s)(h1:-(2 ^ 62)<=lo)(h2:lo<2 ^ 62)(h3:-(2 ^ 62)<=hi)(h4:hi<2 ^ 62)
 (q:R (Itr lo (hi-lo).toNat) H):wpAny (model X.prog X.w) X.A (pyIter (.ref s.heap.objs.size)) (PIE X pins σ tg R) E {s with heap:=s.heap.push {cls:=.type "range",data:=.fields #[.int lo t,.int hi u,.int 1 v]},toks:=tk}:=by
 refine wpAny_pyIter_range (IsRange.new ..) (small_one h1 h2 h3 h4) ?_;have I1:Inv X pins σ H {s with heap:=s.heap.push {cls:=.type "range",data:=.fields #[.int lo t,.int hi u,.int 1 v]},toks:=tk}:=I.kept λb o e=>Heap.get?_push_of_some _ e
 refine⟨(s.heap.push {cls:=.type "range",data:=.fields #[.int lo t,.int hi u,.int 1 v]}).objs.size,[(s.heap.push {cls:=.type "range",data:=.fields #[.int lo t,.int hi u,.int 1 v]}).objs.size],_,_,H,rfl,
  I1.kept (t':=tk) λb o e=>Heap.get?_push_of_some _ e,M4 _ lo (hi-lo).toNat,?_,λb hb=>?_,q⟩
 ·have e1:lo+((0:Nat):Int)*1=lo:=by simp
  have e2:(((hi-lo).toNat:Nat):Int)-((0:Nat):Int)=Builtin.Range.rangeSize lo hi 1:=by rw[rangeSize_one];split<;>lia
  show IsRangeIter _ _ (lo+((0:Nat):Int)*1) ((((hi-lo).toNat:Nat):Int)-((0:Nat):Int)) 1;rw[e1,e2];exact Heap.get?_push_size _ rfl
 ·have e:b=(s.heap.push {cls:=.type "range",data:=.fields #[.int lo t,.int hi u,.int 1 v]}).objs.size:=by simpa using hb
  subst e;exact I1.aA9 (Nat.le_refl _) (I1.hok.fresh (Nat.le_refl _))
def aHq(ta:TA):TI:=λσ H R=>ta σ H λvs H1=>∃j:Int,vs=[.int j]/\-(2 ^ 62)<=j/\j<2 ^ 62/\R (Itr 0 j.toNat) H1
def aHr(ta:TA):TI:=λσ H R=>ta σ H λvs H1=>∃i j:Int,vs=[.int i,.int j]/\(-(2 ^ 62)<=i/\i<2 ^ 62/\-(2 ^ 62)<=j/\j<2 ^ 62)/\R (Itr i (j-i).toNat) H1
theorem Q5{ta:TA}{p pos:Pos}(hg:Gl X "range")(hm:X.mg "range"=none)(ha:PA X [a] ta)(hs:starEach [a] X.env=[(false,eval a X.env)]:=by rfl):PI X tg (.Call (.Name "range" p) [a] [] pos) (aHq ta):=by
 intro pins s σ H R I h;refine Call_ (jQ I hg hm boot_range (PyProof.Rows.callWith_type1 (thn (ha pos pins s σ H _ I h) λus s1 ⟨vs,H1,I1,r1,q1⟩=>?_) hs rfl));obtain⟨j,e,q1,q2,q⟩:=q1;subst e;cases r1 with
 |cons r rr=>
  cases rr;obtain⟨t,rfl⟩:=r;exact call_range_1 (JN I1 (by lia) (by lia) q1 q2 (by simpa using q))
theorem Q6(hg:Gl X "range")(hm:X.mg "range"=none)(ha:PA X [a,b] ta)(hs:starEach [a,b] X.env=[(false,eval a X.env),(false,eval b X.env)]:=by rfl)(hs2:starEach [b] X.env=[(false,eval b X.env)]:=by rfl) :
  PI X tg (.Call (.Name "range" p) [a,b] [] pos) (aHr ta):=by
 intro pins s σ H R I h;refine Call_ (jQ I hg hm boot_range (PyProof.Rows.callWith_type1 (thn (ha pos pins s σ H _ I h) λus s1 ⟨vs,H1,I1,r1,q1⟩=>?_) (by rw[hs,hs2]) (by rw[hs2];rfl)));obtain⟨i,j,e,⟨q1,q2,q3,q4⟩,q⟩:=q1;subst e;cases r1 with
 |cons r rr=>
  cases rr with
  |cons r' rr=>
   cases rr;obtain⟨t,rfl⟩:=r;obtain⟨t',rfl⟩:=r';exact call_range_2 (JN I1 q1 q2 q3 q4 q)
def aJh(wi:TI)(g:TG)(tb:TS):TS:=λD σ H=>wi σ H λJ H1=>∃W:Nat->Nat->St->Hp->Prop,(∃m,W 0 m σ H1)/\∀i m σ H,W i m σ H->
 (J.stop i H/\D.nx σ H)\/(J.go i H/\∃N:St->Hp->Prop,(∀σ' H',N σ' H'->∃m',m'<m/\W (i+1) m' σ' H')/\∀x H',J.yld i H x H'->g x σ H' λσ2 H2=>tb {D with nx:=N,ct:=N,bk:=D.nx} σ2 H2)
noncomputable def rW(fp:List Addr)(h:Heap):List (Addr×Obj):=fp.filterMap λb=>(h.get? b).map λo=>(b,o)
theorem mF(hb:b∈fp)(e:h.get? b=some o):(b,o)∈rW fp h:=List.mem_filterMap.mpr ⟨b,hb,by rw[e];rfl⟩
theorem Q7(hp:p∈rW fp h):p.1∈fp/\h.get? p.1=some p.2:=by
 obtain⟨b,hb,e⟩:=List.mem_filterMap.mp hp;cases q:h.get? b with
 |none=>rw[q] at e;cases e
 |some o=>
  rw[q] at e;have e':(b,o)=p:=Option.some.inj e;subst e';exact⟨hb,q⟩
theorem Inv.pinned(I:Inv X pins σ H s)(hf:∀b∈fp,QL X pins H b)(ho:∀b∈fp,∃o,s.heap.get? b=some o/\∀v,o.data≠.cell v):Inv X (pins++rW fp s.heap) σ H s:=
 I.DW λp hp=>(List.mem_append.mp hp).elim (λz=>I.pin p (List.mem_append_right _ z)) λz=>by
  obtain⟨hb,e⟩:=Q7 z;obtain⟨f0,f1,f2,_⟩:=hf p.1 hb;obtain⟨o,e',d⟩:=ho p.1 hb;rw[e] at e';cases e';exact⟨e,f0,f1,f2,d⟩
theorem Inv.nT(I:Inv X (pins++pl) σ H s):Inv X pins σ H s:=I.DW λp hp=>I.pin p (List.mem_append_right _ (List.mem_append_left _ hp))
theorem aAa(hp:PassesOwn (model X.prog X.w) X.A X.env X.xe)(hc:X.calm=true)(hi:PI X tg iter wi)(hg:PG X tg g)(hb:PSs X body tb)
 (hs:∀x,foldedSetIterable iter X.env x=pure x:=by intro _;rfl):PS X (.For tg iter body [] pos) (aJh wi g tb):=by
 intro pins s σ H D I h;refine wpAny_For (thn (hi pins s σ H _ I h) λv s1 h1=>thn h1 λitv s2 h2=>?_) hs;obtain⟨it,fp,tn,J,H2,e,I2,T,st2,f2,W,⟨m0,w0⟩,turn⟩:=h2;subst e
 -- what stays true of the iterator's objects through the loop
 have stat:∀{H':Hp},(∀b∈fp,H' b=none)->∀b∈fp,QL X pins H' b:=λhn b hb=>⟨hn b hb,(f2 b hb).2⟩
 refine codeAny_forLoop_any (λn s'=>∃i σ' H',Inv X pins σ' H' s'/\tn i s'.heap/\(∀b∈fp,H' b=none)/\W i n σ' H') ?_ m0 ⟨0,σ,H2,I2,st2,λb hb=>(f2 b hb).1,w0⟩;rintro n s3 ⟨i,σ3,H3,I3,st3,fr3,w3⟩;rcases turn i n σ3 H3 w3 with ⟨stop,qn⟩|⟨go,N,hN,step⟩
 ·refine wpAny_passesOwn hp (thn (T.done X rfl rfl rfl hc i pins s3 σ3 H3 X.xe I3 (stat fr3) st3 stop) λr s4 ⟨hr,I4⟩=>?_);subst hr;exact wpAny_execs_nil ⟨σ3,H3,I4,qn⟩
 ·refine wpAny_passesOwn hp (thn (T.item X rfl rfl rfl hc i pins s3 σ3 H3 X.xe I3 (stat fr3) st3 go) λr s4 ⟨u,hr,h4⟩=>?_);subst hr;refine wpAny_passesOwn hp (thn h4 λ_ s5 ⟨x,H5,I5,r5,y5,st5,fr5⟩=>?_);have I5':=I5.pinned (stat fr5) (T.obj _ _ st5);refine wpAny_passesOwn hp (thn (hg _ s5 σ3 H5 x u _ I5' r5 (step x H5 y5)) λ_ s6 ⟨σ6,H6,I6,q6⟩=>?_);refine wpAny_passesOwn hp (thn (hb _ s6 σ6 H6 _ I6 q6) λf s7 q7=>?_);have again:∀{σ7:St}{H7:Hp},Inv X (pins++rW fp s5.heap) σ7 H7 s7->N σ7 H7->∃m,m<n/\∃i σ' H',Inv X pins σ' H' s7/\tn i s7.heap/\(∀b∈fp,H' b=none)/\W i m σ' H':=λ{σ7 H7} I7 n7=>by
   obtain⟨m',hm,w7⟩:=hN σ7 H7 n7;refine⟨m',hm,i+1,σ7,H7,I7.nT,T.keep _ _ _ st5 λb hb o e=>(I7.pin (b,o) (List.mem_append_right _ (List.mem_append_right _ (mF hb e)))).1,λb hb=>?_,w7⟩;obtain⟨o,e,d⟩:=T.obj _ _ st5 b hb;exact(I7.pin (b,o) (List.mem_append_right _ (List.mem_append_right _ (mF hb e)))).2.1
  cases f with
  |next=>obtain⟨σ7,H7,I7,n7⟩:=q7;exact again I7 n7
  |cont=>obtain⟨σ7,H7,I7,n7⟩:=q7;exact again I7 n7
  |brk=>obtain⟨σ7,H7,I7,q7⟩:=q7;exact⟨σ7,H7,I7.nT,q7⟩
  |ret v=>obtain⟨x7,σ7,H7,I7,r7,q7⟩:=q7;exact⟨x7,σ7,H7,I7.nT,r7,q7⟩
end
abbrev R2:=V->V->Hp->VK->Prop
def OpR(X:Cx)(f:Value->Value->Sem Value)(r:R2):Prop:=
 ∀(pins:List (Addr×Obj))(s:Shared)(σ:St)(H:Hp)(x y:V)(v u:Value)(Q:VK),Inv X pins σ H s->RelV x v->RelV y u->r x y H Q->
  wpAny (model X.prog X.w) X.A (f v u) (EP X pins σ Q) X.xe s
def UnR(X:Cx)(f:Value->Sem Value)(r:V->Hp->VK->Prop):Prop:=
 ∀(pins:List (Addr×Obj))(s:Shared)(σ:St)(H:Hp)(x:V)(v:Value)(Q:VK),Inv X pins σ H s->RelV x v->r x H Q->
  wpAny (model X.prog X.w) X.A (f v) (EP X pins σ Q) X.xe s
def mX(X:Cx)(f:Value)(r:List V->Hp->VK->Prop):Prop:=
 ∀(pins:List (Addr×Obj))(s:Shared)(σ:St)(H:Hp)(xs:List V)(us:List Value)(Q:VK),Inv X pins σ H s->Vals xs us->r xs H Q->
  wpAny (model X.prog X.w) X.A (call f us) (EP X pins σ Q) X.xe s
def aJi(X:Cx)(r:V->Hp->(Bool->Hp->Prop)->Prop):Prop:=
 ∀(pins:List (Addr×Obj))(s:Shared)(σ:St)(H:Hp)(x:V)(v:Value)(Q:Bool->Hp->Prop),Inv X pins σ H s->RelV x v->r x H Q->
  wpAny (model X.prog X.w) X.A (truthy v) (TP X pins σ Q) X.xe s
noncomputable def tOp(r:R2)(ta tb:TE):TE:=λσ H Q=>ta σ H λx H1=>tb σ H1 λy H2=>r x y H2 Q
noncomputable def tUn(r:V->Hp->VK->Prop)(ta:TE):TE:=λσ H Q=>ta σ H λx H1=>r x H1 Q
noncomputable def rI(C:Int->Int->Prop)(g:Int->Int->V):R2:=λx y H Q=>∃i j,x=.int i/\y=.int j/\C i j/\Q (g i j) H
noncomputable def rI0(g:Int->Int->V):R2:=λx y H Q=>∃i j,x=.int i/\y=.int j/\Q (g i j) H
def rU(g:Int->V):V->Hp->VK->Prop:=λx H Q=>∃i,x=.int i/\Q (g i) H
section
variable {X:Cx} {a b:Expr} {ta tb:TE} {pos:Pos}
theorem aHs(ha:PE X a ta)(hb:PE X b tb){R:V->V->Hp->Prop}(I:Inv X pins σ H s)
 (h:ta σ H λx H1=>tb σ H1 λy H2=>R x y H2){Q:Value->Shared->Prop}{f:Value->Value->Sem Value}
 (hf:∀v u s2 x y H2,Inv X pins σ H2 s2->RelV x v->RelV y u->R x y H2->wpAny (model X.prog X.w) X.A (f v u) Q X.xe s2) :
  wpAny (model X.prog X.w) X.A (eval a X.env) (λv s₁=>wpAny (model X.prog X.w) X.A (eval b X.env) (λu s₂=>wpAny (model X.prog X.w) X.A (f v u) Q X.xe s₂) X.xe s₁) X.xe s:=by
 refine thn (ha pins s σ H _ I h) λv s1 ⟨x,H1,I1,r1,q1⟩=>?_
 refine thn (hb pins s1 σ H1 _ I1 q1) λu s2 ⟨y,H2,I2,r2,q2⟩=>?_
 exact hf v u s2 x y H2 I2 r1 r2 q2
theorem aHt(ho:OpR X (binaryOp op) r)(ha:PE X a ta)(hb:PE X b tb):PE X (.BinOp a op b pos) (tOp r ta tb):=by
 intro pins s σ H Q I h;exact wpAny_BinOp (aHs ha hb I h λv u s2 x y H2 I2 rx ry q=>ho pins s2 σ H2 x y v u Q I2 rx ry q)
theorem aHu(ho:UnR X (unaryOp op) r)(ha:PE X a ta):PE X (.UnaryOp op a pos) (tUn r ta):=by
 intro pins s σ H Q I h;exact UnaryOp_ (thn (ha pins s σ H _ I h) λv s1 ⟨x,H1,I1,r1,q1⟩=>ho pins s1 σ H1 x v Q I1 r1 q1)
theorem opI{g:Int->Int->Int}
 (rule:∀(i j:Int) (t u:Tok) (s:Shared) (Q:Value->Shared->Prop) (E:Value->Shared->Prop),C i j->Q (.int (g i j) s.toks) {s with toks:=s.toks+1}->wpAny (model X.prog X.w) X.A (f (.int i t) (.int j u)) Q E s) :
  OpR X f (rI C λi j=>.int (g i j)):=by
 intro pins s σ H x y v u Q I rx ry h;obtain⟨i,j,rfl,rfl,hc,q⟩:=h;obtain⟨t,rfl⟩:=rx;obtain⟨t',rfl⟩:=ry;exact rule i j t t' s _ _ hc ⟨.int (g i j),H,I.tok _,⟨_,rfl⟩,q⟩
theorem aJ3{g:Int->Int->Int}
 (rule:∀(i j:Int) (t u:Tok) (s:Shared) (Q:Value->Shared->Prop) (E:Value->Shared->Prop),Q (.int (g i j) s.toks) {s with toks:=s.toks+1}->wpAny (model X.prog X.w) X.A (f (.int i t) (.int j u)) Q E s) :
  OpR X f (rI0 λi j=>.int (g i j)):=by
 intro pins s σ H x y v u Q I rx ry h;obtain⟨i,j,rfl,rfl,q⟩:=h;obtain⟨t,rfl⟩:=rx;obtain⟨t',rfl⟩:=ry;exact rule i j t t' s _ _ ⟨.int (g i j),H,I.tok _,⟨_,rfl⟩,q⟩
def aJj(i j:Int):Prop:=0<j/\j<1073741824
def aJk(i j:Int):Prop:=0<=j/\j<=1000000/\i.natAbs<2 ^ 64
def aHv(i j:Int):Prop:=(-(2 ^ 64)<i/\i<2 ^ 64)\/(-(2 ^ 64)<j/\j<2 ^ 64)
theorem aHv.ok(h:aHv i j):IntMulOk i j:=by
 rcases h with ⟨h1,h2⟩|⟨h1,h2⟩
 ·exact .of_left (intBits_le_64 h1 h2)
 ·exact .of_right (intBits_le_64 h1 h2)
theorem aEt:OpR X (binaryOp .Add) (rI0 λi j=>.int (i+j)):=aJ3 λ_ _ _ _ _ _ _ q=>add_int q
theorem aEu:OpR X (binaryOp .Sub) (rI0 λi j=>.int (i-j)):=aJ3 λ_ _ _ _ _ _ _ q=>sub_int q
theorem aEv:OpR X (binaryOp .Mult) (rI aHv λi j=>.int (i*j)):=opI λ_ _ _ _ _ _ _ hc q=>mul_int q hc.ok
theorem aB8:OpR X (binaryOp .FloorDiv) (rI aJj λi j=>.int (i / j)):=opI λi j _ _ _ _ _ hc q=>by
 have h1:(0:Int)<j:=hc.1;have h2:j<1073741824:=hc.2;exact floordiv_int (by lia) (by rw[Int.fdiv_eq_ediv_of_nonneg i (by lia)];exact q) (.inl (PyProof.noPylong_small (by lia)))
theorem aEw:OpR X (binaryOp .Mod) (rI (λ_ j=>0<j) λi j=>.int (i % j)):=opI λi j _ _ _ _ _ hc q=>by
 have h1:(0:Int)<j:=hc;exact mod_int' (by lia) (by rw[Int.fmod_eq_emod_of_nonneg i (by lia)];exact q)
theorem aEx:OpR X (binaryOp .Pow) (rI aJk λi j=>.int (i ^ j.toNat)):=opI λ_ _ _ _ _ _ _ hc q=>pow_int_small hc.1 hc.2.1 hc.2.2 q
theorem unI{g:Int->Int}
 (rule:∀(i:Int) (t:Tok) (s:Shared) (Q:Value->Shared->Prop) (E:Value->Shared->Prop),Q (.int (g i) s.toks) {s with toks:=s.toks+1}->wpAny (model X.prog X.w) X.A (f (.int i t)) Q E s) :
  UnR X f (rU λi=>.int (g i)):=by
 intro pins s σ H x v Q I rx h;obtain⟨i,rfl,q⟩:=h;obtain⟨t,rfl⟩:=rx;exact rule i t s _ _ ⟨.int (g i),H,I.tok _,⟨_,rfl⟩,q⟩
theorem aEy:UnR X (unaryOp .USub) (rU λi=>.int (-i)):=unI λ_ _ _ _ _ q=>neg_int q
end
section
variable {X:Cx} {a b c:Expr} {ta tb:TE} {pos:Pos}
theorem aEz(I:Inv X pins σ H s)(q:Q (.bl k) H)(e:k=k'):EP X pins σ Q (.bool k') s:=by
 subst e;exact⟨.bl k,H,I,rfl,q⟩
theorem Q8:OpR X (compareOp .In) (λx y H Q=>∃i j,x=.str i/\y=.str j/\Q (.bl (!(Builtin.Str.occurrences j i 0 j.length 1).isEmpty)) H):=by
 intro pins s σ H x y v u Q I rx ry h;obtain⟨i,j,rfl,rfl,q⟩:=h;obtain⟨t,rfl⟩:=rx;obtain⟨t',rfl⟩:=ry;exact in_str (aEz I q rfl)
theorem cT(b:Expr)(h:op≠.In:=by decide)(h2:op≠.NotIn:=by decide):behindInMarks op b=false:=by
 have e1:(op==CmpOp.In)=false:=by cases op<;>first|rfl|exact absurd rfl h
 have e2:(op==CmpOp.NotIn)=false:=by cases op<;>first|rfl|exact absurd rfl h2
 cases b<;>simp[behindInMarks,e1,e2]
theorem aB9(ho:OpR X (compareOp op) r)(ha:PE X a ta)(hb:PE X b tb)(hm:behindInMarks op b=false):PE X (.Compare a [op] [b] pos) (tOp r ta tb):=by
 intro pins s σ H Q I h;exact wpAny_Compare1 (aHs ha hb I h λv u s2 x y H2 I2 rx ry q=>ho pins s2 σ H2 x y v u Q I2 rx ry q) hm
noncomputable def aHw(t:TE):TT:=λσ H Q=>t σ H λx H'=>∃k,x=.bl k/\Q k H'
theorem Q9(ho:OpR X (compareOp op) r)(ha:PE X a ta)(hb:PE X b tb)(hm:behindInMarks op b=false):PT X (.Compare a [op] [b] pos) (aHw (tOp r ta tb)):=by
 intro pins s σ H Q I h;refine wpAny_isTrue_Compare1 (thn (ha pins s σ H _ I h) λv s1 ⟨x,H1,I1,r1,q1⟩=>thn (hb pins s1 σ H1 _ I1 q1) λu s2 ⟨y,H2,I2,r2,q2⟩=>
  thn (ho pins s2 σ H2 x y v u _ I2 r1 r2 q2) λc s3 ⟨z,H3,I3,r3,k,e,q3⟩=>?_) hm
 subst e;cases r3;exact wpAny_truthy_bool ⟨H3,I3,q3⟩
def aHx(K:PySem.W.Frag)(x:V)(H:Hp)(k:Bool):Prop:=
 match x with
 |.non=>k=false
 |.bl b=>k=b
 |.int i=>k=(i !=0)
 |.str y=>y.length<=sizeLine/\k=((y.length:Int)!=0)
 |.byt y=>y.size<=sizeLine/\k=((y.size:Int)!=0)
 |.ref p=>(∃xs,SqL K H p xs/\k=!xs.isEmpty)\/(∃xs,SqT K H p xs/\k=!xs.isEmpty)\/∃kvs,H p=some (.dK kvs)/\k=!kvs.isEmpty
 |_=>False
theorem M5(r:KV kvs vs):(!vs.isEmpty)=!kvs.isEmpty:=by
 cases r<;>rfl
theorem u9(r:Vals xs its):(!its.toArray.isEmpty)=!xs.isEmpty:=by
 cases r<;>simp
theorem u_:(sizeLine:Nat)<2 ^ 63:=by rw[sizeLine_eq];decide
theorem aF0:aJi X (λx H Q=>∃k,aHx X.K x H k/\Q k H):=by
 intro pins s σ H x v Q I rx h;obtain⟨k,e,q⟩:=h;have hl:=u_;have hs:sizeLine=16777216:=sizeLine_eq;cases x with
 |non=>
  cases rx;have e':k=false:=e;subst e';exact truthy_none ⟨H,I,q⟩
 |bl b=>
  cases rx;have e':k=b:=e;subst e';exact wpAny_truthy_bool ⟨H,I,q⟩
 |int i=>
  obtain⟨t,rfl⟩:=rx;have e':k=(i !=0):=e;subst e';exact PySem.P.truthy_int ⟨H,I,q⟩
 |str y=>
  obtain⟨t,rfl⟩:=rx;obtain⟨hy,e'⟩:y.length<=sizeLine/\k=((y.length:Int)!=0):=e;subst e';exact PySem.P.truthy_str (by lia) ⟨H,I.tok _,q⟩
 |byt y=>
  obtain⟨t,rfl⟩:=rx;obtain⟨hy,e'⟩:y.size<=sizeLine/\k=((y.size:Int)!=0):=e;subst e';exact PySem.W.truthy_bytes (by lia) ⟨H,I.tok _,q⟩
 |ref p=>
  cases rx;have e':(∃xs,SqL X.K H p xs/\k=!xs.isEmpty)\/(∃xs,SqT X.K H p xs/\k=!xs.isEmpty)\/∃kvs,H p=some (.dK kvs)/\k=!kvs.isEmpty:=e;rcases e' with ⟨xs,hx,e'⟩|⟨xs,hx,e'⟩|⟨kvs,hx,e'⟩
  ·subst e';obtain⟨its,r,pl,hz⟩:=I.list hx;have hlen:=r.length;exact wpAny_truthy_list pl.isList (by simp only[List.size_toArray];lia) ⟨H,I.tok _,by rw[u9 r];exact q⟩
  ·subst e';obtain⟨its,r,pl,hz⟩:=I.tuple hx;have hlen:=r.length;exact truthy_tuple pl (by simp only[List.size_toArray];lia) ⟨H,I.tok _,by rw[u9 r];exact q⟩
  ·subst e';obtain⟨hz,hS,vs,r,m⟩:kvs.length<=sizeLine/\(p==sysModules)=false/\∃vs,KV kvs vs/\s.heap.DictOf (bY X.prog X.w) p vs:=I.hok p _ hx;have hlen:kvs.length=vs.length:=Paired.length r;exact wpAny_truthy_dict hS m (by lia) ⟨H,I.tok _,by rw[M5 r];exact q⟩
 |_=>exact(show False from e).elim
theorem XS(ha:PE X a ta)(he:∀whole,isTrue a X.env whole=(do let v <- whole;standAt a.pos;holding [v] (truthy v))) :
  PT X a (λσ H Q=>ta σ H λx H'=>∃k,aHx X.K x H' k/\Q k H'):=by
 intro pins s σ H Q I h;exact isTrue_plain (thn (ha pins s σ H _ I h) λv s1 ⟨x,H1,I1,r1,q1⟩=>aF0 pins s1 σ H1 x v Q I1 r1 q1) (he _)
theorem M6:OpR X (binaryOp .Add) (λx y H Q=>∃i j,x=.str i/\y=.str j/\i.length+j.length<=sizeLine/\Q (.str (i++j)) H):=by
 intro pins s σ H x y v u Q I rx ry h;obtain⟨i,j,rfl,rfl,hz,q⟩:=h;obtain⟨t,rfl⟩:=rx;obtain⟨t',rfl⟩:=ry;exact add_str (λt' tk=>⟨.str (i++j),H,I.tok _,⟨_,rfl⟩,q⟩) hz
theorem vals1(r:Vals [x] us):∃u,us=[u]/\RelV x u:=by
 cases r with
 |cons r1 r2=>cases r2;exact⟨_,rfl,r1⟩
end
theorem QK.some_of(r:QK (some v) o):∃u,o=some u/\RelV v u:=by
 cases o with
 |none=>exact(show False from r).elim
 |some u=>exact⟨u,rfl,r⟩
structure rH(k:Nat)(A:Around):Prop where
 hd:A.handled=none
 dp:A.depth+3*k+5<recursionLimit
 un:A.units+16*k+200<cLine
theorem rH.mono(r:rH k A)(h:j<=k):rH j A:=⟨r.hd,by have:=r.dp;lia,by have:=r.un;lia⟩
theorem rH.deeper(r:rH (k+1) A)(env:Env):rH k (A.deeper env):=
 ⟨r.hd,by have:=r.dp;show A.depth+1+3*k+5<_;lia,by have:=r.un;show A.units+3+16*k+200<_;lia⟩
theorem rH.depth(r:rH k A):A.depth<recursionLimit:=by have:=r.dp;lia
theorem rH.units(r:rH k A):A.units+64<cLine:=by have:=r.un;lia
noncomputable def aJl:TA:=λ_ H Q=>Q [] H
noncomputable def aHy(ta:TE)(tr:TA):TA:=λσ H Q=>ta σ H λx H1=>tr σ H1 λxs H2=>Q (x::xs) H2
section
variable {X:Cx} {e:Expr} {es:List Expr} {te:TE} {t:TA} {pos:Pos}
theorem mY:PA X [] aJl:=λ_ _ _ _ H Q I h=>Calls.spliced_nil ⟨[],H,I,.nil,h⟩
theorem gY(ha:PE X e te)(hr:PA X es t)(hs:starEach (e::es) X.env=(false,eval e X.env)::starEach es X.env:=by rfl):PA X (e::es) (aHy te t):=by
 intro pos pins s σ H Q I h;rw[hs];show wpAny _ _ (spliced ((false,eval e X.env)::backTo pos (starEach es X.env))) _ _ s;refine Calls.spliced_cons (thn (ha pins s σ H _ I h) λu s1 ⟨x,H1,I1,r1,q1⟩=>?_);exact thn (hr pos pins s1 σ H1 _ I1 q1) λus s2 ⟨xs,H2,I2,r2,q2⟩=>⟨x::xs,H2,I2,.cons r1 r2,q2⟩
def aJm(t:TA):TE:=λσ H Q=>t σ H λxs H1=>xs.length<=sizeLine/\∀p,H1 p=none->Q (.ref p) (upd H1 p (.tup xs))
def aJn(t:TA):TE:=λσ H Q=>t σ H λxs H1=>xs.length<=sizeLine/\∀p,H1 p=none->Q (.ref p) (upd H1 p (.lst xs))
theorem aF1{x1}(h:PA X es t):PE X (.Tuple es x1 pos) (aJm t):=by
 intro pins s σ H Q I hq;refine wpAny_Tuple_spliced (thn (h pos pins s σ H _ I hq) λus s1 ⟨xs,H1,I1,r,z,q⟩=>⟨by rw[<-r.length];exact z,?_⟩);have hf:H1 s1.heap.objs.size=none:=I1.hok.fresh (Nat.le_refl _);refine⟨.ref s1.heap.objs.size,upd H1 s1.heap.objs.size (.tup xs),I1.laid (t':=s1.toks) (λb u e=>Heap.get?_push_of_some _ e) (Nat.le_refl _) ?_,rfl,q _ hf⟩;exact⟨z,us,r,⟨_,Heap.get?_push_size _ rfl,rfl,_,rfl⟩⟩
theorem Q_(h:PA X es t):PE X (.List es pos) (aJn t):=by
 intro pins s σ H Q I hq;refine wpAny_List_spliced (thn (h pos pins s σ H _ I hq) λus s1 ⟨xs,H1,I1,r,z,q⟩=>⟨by rw[<-r.length];exact z,?_⟩);have hf:H1 s1.heap.objs.size=none:=I1.hok.fresh (Nat.le_refl _);refine⟨.ref s1.heap.objs.size,upd H1 s1.heap.objs.size (.lst xs),I1.laid (t':=s1.toks) (λb u e=>Heap.get?_push_of_some _ e) (Nat.le_refl _) ?_,rfl,q _ hf⟩;exact⟨z,us,0,r,Heap.get?_push_size _ rfl⟩
end
abbrev Sp:=List V->Hp->VK->XK->Prop
abbrev CXT:=List Env->Hp->Shared->XK->Value->Shared->Prop
structure aHb(P:Program)(w:World)(K:PySem.W.Frag)(mg:Str->Option Value)(base:Heap)(A:Around)(outer:List Env)(s:Shared)(H:Hp):Prop where
 frames:A.frames=some outer
 mod:Mod K mg base
 bs:∀b o,base.get? b=some o->s.heap.get? b=some o/\H b=none
 bsz:base.objs.size<=s.heap.objs.size
 QW:s.heap.FunFrames base outer
 frf:∀b∈frs outer,H b=none
 hok:HOk P w H s.heap
 bare:AllBare s.gens
def CE(outer:List Env)(P:Program)(w:World)(H:Hp)(s:Shared)(Q:VK)(u:Value)(s':Shared):Prop:=
 ∃v H',s'.os=s.os/\AllBare s'.gens/\Un (frs outer) [] H H' s.heap s'.heap/\HOk P w H' s'.heap/\RelV v u/\Q v H'
def CR(CX:CXT)(outer:List Env)(P:Program)(w:World)(H:Hp)(s:Shared)(Q:VK)(E:XK)(r:Result)(s':Shared):Prop:=
 match r with
 |.ok (.ret u)=>CE outer P w H s Q u s'
 |.ok _=>False
 |.error e=>CX outer H s E e s'
structure DX(P:Program)(w:World)(K:PySem.W.Frag)(mg:Str->Option Value)(base:Heap)(CX:CXT)(k:Nat)(f:Addr)(fd:FuncData)(ps:List Str)(sp:Sp):Prop where
 len:∀vs H Q E,sp vs H Q E->vs.length=ps.length
 run:∀(A:Around)(outer:List Env)(s:Shared)(H:Hp)(args:Args)(us:List Value)(vs:List V)(Q:VK)(E:XK),rH k A->aHb P w K mg base A outer s H->BindsTo s fd args (ps.zip us)->Vals vs us->sp vs H Q E->
  codeAny (model P w) A (.call (.ref f) args) (CR CX outer P w H s Q E) s
section
variable {X:Cx} {pins:List (Addr×Obj)} {σ:St} {H:Hp} {s s':Shared}
theorem Inv.env0(I:Inv X pins σ H s):aHb X.prog X.w X.K X.mg X.base X.A X.stack s H:=
 ⟨I.ok.frames,I.ok.mod,I.bs,Nat.le_trans I.ok.bsz I.sz,I.stack,I.QX,I.hok,I.bare⟩
theorem Inv.after(I:Inv X pins σ H s)(h:CE X.stack X.prog X.w H s Q u s'):EP X pins σ Q u s':=by
 obtain⟨v,H',os,bare,un,hok,r,q⟩:=h;obtain⟨hh,g,d,t,os'⟩:=s';obtain rfl:os'=s.os:=os;exact⟨v,H',I.call (h':=hh) (g':=g) (d':=d) (t':=t) (ch:=[]) un hok bare (λb z=>absurd z (by simp)),r,q⟩
end
noncomputable def aHz(sp:Sp)(dvs:List V)(E:XK)(t:TA):TE:=λσ H Q=>t σ H λvs H1=>sp (vs++dvs) H1 Q E
def Binds(K:PySem.W.Frag)(fd:FuncData)(ps:List Str)(ds:List Value):Prop:=
 ∀(s:Shared)(us:List Value),K.In s.heap->(us++ds).length=ps.length->BindsTo s fd ⟨us,[]⟩ (ps.zip (us++ds))
theorem Binds.all{K:PySem.W.Frag}(h:∀us:List Value,us.length=ps.length->bindArgs fd ⟨us,[]⟩=pure (ps.zip us)):Binds K fd ps []:=λs us _ hl=>by
 rw[List.append_nil] at hl ⊢;exact .of_eq (h us hl)
def RB(CX:CXT)(X:Cx)(E:XK):Prop:=∀(pins:List (Addr×Obj))(σ:St)(H:Hp)(s:Shared)(e:Value)(s':Shared),Inv X pins σ H s->CX X.stack H s E e s'->X.xe e s'
section
variable {X:Cx} {CX:CXT} {k:Nat} {f:Addr} {fd:FuncData} {ps:List Str} {sp:Sp} {dvs:List V} {ds:List Value} {E:XK} {x:Str} {p pos:Pos} {e:Expr} {es:List Expr} {t:TA}
theorem aF2(F:DX X.prog X.w X.K X.mg X.base CX k f fd ps sp)(hr:rH k X.A)(hb:Binds X.K fd ps ds)(hd:Vals dvs ds)(hx:RB CX X E)
 (I:Inv X pins σ H s)(r:Vals vs us)(h:sp (vs++dvs) H Q E):wpAny (model X.prog X.w) X.A (call (.ref f) us) (EP X pins σ Q) X.xe s:=by
 have r2:Vals (vs++dvs) (us++ds):=r.append hd;have hl:(us++ds).length=ps.length:=by rw[<-r2.length];exact F.len _ _ _ _ h
 refine wpAny_call (codeAny_mono (F.run X.A X.stack s H ⟨us,[]⟩ (us++ds) (vs++dvs) Q E hr I.env0 (hb s us I.kIn hl) r2 h) λr s' hq=>?_);cases r with
 |error e=>exact hx pins σ H s e s' I hq
 |ok fl=>
  cases fl with
  |ret u=>exact I.after hq
  |next=>exact False.elim hq
  |brk=>exact False.elim hq
  |cont=>exact False.elim hq
theorem RC(F:DX X.prog X.w X.K X.mg X.base CX k f fd ps sp)(hr:rH k X.A)(hg:Gl X x)(hm:X.mg x=some (.ref f))(hk:PySem.W.keepIn X.K (.ref f)=true)(hb:Binds X.K fd ps ds)(hd:Vals dvs ds)(hx:RB CX X E)
 (ha:PA X (e::es) t)(hdb:nDb x:=by decide)(he:starEach (e::es) X.env=(false,eval e X.env)::starEach es X.env:=by rfl)(hpl:(backTo pos (starEach es X.env)).any (·.1)=false:=by rfl) :
  PE X (.Call (.Name x p) (e::es) [] pos) (aHz sp dvs E t):=by
 intro pins s σ H Q I h;refine wpAny_Call_Name_kw (aB3 I hg hm ?_ hdb);refine PySem.W.callWith_K (h₀:=X.base) I.ok.mod.kin hk (thn (ha pos pins s σ H _ I h) λus s1 ⟨vs,H1,I1,r,q⟩=>⟨I1.kIn,?_⟩) he hpl;exact aF2 F hr hb hd hx I1 r q
end
structure cF(N P:List Str)(sc:Scope):Prop where
 kind:sc.kind=.function
 co:sc.isCoroutine=false
 gen:sc.isGenerator=false
 nd:N.Nodup
 pre:N.take P.length=P
 par:∀x∈P,sc.names.lookup x=some .local\/sc.names.lookup x=some .cell
 nofree:∀y∈sc.names,y.2≠.free
theorem yN{kindOf:Str->Option NameKind}:∀{binds:List (Str×Value)}{m:Str->Option Value},(∀v,(x,v)∉binds)->bindL kindOf binds m x=m x
 |[],_,_=>rfl
 | (n,v)::r,m,h=>by
  unfold bindL;rw[yN λw hw=>h w (List.mem_cons_of_mem _ hw)];split
  ·have:x≠n:=by rintro rfl;exact h v List.mem_cons_self
   simp[this]
  ·rfl
theorem yO{kindOf:Str->Option NameKind}:∀{binds:List (Str×Value)}{m:Str->Option Value},(∀v,(x,v)∉binds)->bindC kindOf binds m x=m x
 |[],_,_=>rfl
 | (n,v)::r,m,h=>by
  unfold bindC;rw[yO λw hw=>h w (List.mem_cons_of_mem _ hw)];split
  ·rfl
  ·have:x≠n:=by rintro rfl;exact h v List.mem_cons_self
   simp[this]
theorem yP{kindOf:Str->Option NameKind}:∀{P:List Str}{vs:List Value}{i:Nat}{m:Str->Option Value},P.Nodup->P[i]?=some x->vs[i]?=some v->kindOf x=some .local->
  bindL kindOf (P.zip vs) m x=some v
 |[],_,_,_,_,h,_,_=>by simp at h
 |_::_,[],_,_,_,_,h,_=>by simp at h
 |p::P,w::vs,0,m,nd,h1,h2,hk=>by
  simp at h1 h2;subst h1;subst h2;show bindL kindOf ((p,w)::P.zip vs) m p=_;unfold bindL;rw[yN λv hv=>(List.nodup_cons.mp nd).1 (List.of_mem_zip hv).1,if_pos hk];simp
 |p::P,w::vs,i+1,m,nd,h1,h2,hk=>by
  show bindL kindOf ((p,w)::P.zip vs) m x=_;unfold bindL;exact yP (i:=i) (List.nodup_cons.mp nd).2 (by simpa using h1) (by simpa using h2) hk
theorem yQ{kindOf:Str->Option NameKind}:∀{P:List Str}{vs:List Value}{i:Nat}{m:Str->Option Value},P.Nodup->P[i]?=some x->vs[i]?=some v->kindOf x≠some .local->
  bindC kindOf (P.zip vs) m x=some v
 |[],_,_,_,_,h,_,_=>by simp at h
 |_::_,[],_,_,_,_,h,_=>by simp at h
 |p::P,w::vs,0,m,nd,h1,h2,hk=>by
  simp at h1 h2;subst h1;subst h2;show bindC kindOf ((p,w)::P.zip vs) m p=_;unfold bindC;rw[yO λv hv=>(List.nodup_cons.mp nd).1 (List.of_mem_zip hv).1,if_neg hk];simp
 |p::P,w::vs,i+1,m,nd,h1,h2,hk=>by
  show bindC kindOf ((p,w)::P.zip vs) m x=_;unfold bindC;exact yQ (i:=i) (List.nodup_cons.mp nd).2 (by simpa using h1) (by simpa using h2) hk
noncomputable def start(N:List Str)(vs:List V):St:=vs.map some++List.replicate (N.length-vs.length) none
noncomputable def XX(CX:CXT)(P:Program)(w:World)(K:PySem.W.Frag)(mg:Str->Option Value)(base:Heap)(N:List Str)(qual:Str)(scope:Scope)(f:Addr)(cd:Value)(A:Around)(outer:List Env)(s:Shared)(H:Hp)(E:XK):Cx where
 prog:=P
 w:=w
 K:=K
 mg:=mg
 base:=base
 A:=A.deeper (envOfC qual scope s.heap.objs.size f cd)
 N:=N
 s₀:=s
 H₀:=H
 env:=envOfC qual scope s.heap.objs.size f cd
 outer:=outer
 stack:=envOfC qual scope s.heap.objs.size f cd::outer
 ex:=[]
 calm:=true
 fn:=λ_=>true
 pn:=[]
 xe:=λe s'=>wpAny (model P w) (A.deeper (envOfC qual scope s.heap.objs.size f cd)) (leaving (envOfC qual scope s.heap.objs.size f cd) e) (λ_ s''=>CX outer H s E e s'') (λe' s''=>CX outer H s E e' s'') s'
theorem JP{sc:Scope}(h:sc.names.lookup x=some .cell):∃c,(cellsFrom n sc.names []).lookup x=some c:=by
 have q:=PySem.W.cellsFrom_some sc.names n [] (.inl h);exact Option.isSome_iff_exists.mp q
theorem RD{CX:CXT}{P:Program}{w:World}{K:PySem.W.Frag}{mg:Str->Option Value}{base:Heap}{N ps:List Str}{qual:Str}{scope:Scope}{f:Addr}{cd:Value}{A:Around}{outer:List Env}{s s1:Shared}{H:Hp}{E:XK}{us:List Value}{vs:List V}
 (S:cF N ps scope)(hd:A.handled=none)(e0:aHb P w K mg base A outer s H)(hl:vs.length=ps.length)(r:Vals vs us)
 (x:InCallC s s.heap.objs.size (bindL (envOfC qual scope s.heap.objs.size f cd).kindOf (ps.zip us) λ_=>none) (cellsFrom (s.heap.objs.size+1) scope.names []) (bindC (envOfC qual scope s.heap.objs.size f cd).kindOf (ps.zip us) λ_=>none) s1) :
  Inv (XX CX P w K mg base N qual scope f cd A outer s H E) [] (start N vs) H s1:=by
 have hpl:ps.length<=N.length:=by have:=congrArg List.length S.pre;rw[List.length_take] at this;lia
 obtain⟨h1,tk,rfl,hk⟩:=x.done;have noA:∀b:Addr,b∉(XX CX P w K mg base N qual scope f cd A outer s H E).ex:=λb z=>absurd (show b∈([]:List Addr) from z) (by simp)
 refine⟨⟨e0.mod,S.kind,rfl,rfl,Nat.le_refl _,λy z c h1 h2=>?_,λy hy=>?_,λy c _ h=>?_,λ_=>hd,Around.frames_deeper e0.frames,.inr ⟨rfl,rfl⟩,λb z=>absurd z (noA b),e0.bs,e0.bsz,λb _ _=>noA b,λb z=>absurd z (noA b),e0.QW,e0.frf⟩,
  rfl,e0.bare,Un.kept hk,⟨_,x.toInCall.ns,λi y v h1 h2 h3=>?_⟩,λy c h=>⟨_,x.cell y c h⟩,e0.hok.fresh (Nat.le_refl _),λy c h=>?_,λp hp=>absurd (show p∈([]:List (Addr×Obj)) from hp) (by simp),e0.hok.kept hk,?_⟩
 ·exact name_of_addr x.apart (PySem.mem_of_lookup h1) (PySem.mem_of_lookup h2)
 ·have hy:scope.names.lookup y=some .cell\/scope.names.lookup y=some .free:=hy;rcases hy with hy|hy
  ·exact JP hy
  ·exact absurd rfl (S.nofree _ (PySem.mem_of_lookup hy))
 ·exact Nat.le_of_lt (x.above y c (PySem.mem_of_lookup h))
 ·have hi:i<vs.length:=by
   unfold start at h2;by_cases hi:i<vs.length
   ·exact hi
   ·rw[List.getElem?_append_right (by simpa using hi)] at h2;rw[List.getElem?_replicate] at h2;split at h2<;>cases h2
  have ha:vs[i]?=some v:=by
   unfold start at h2;rw[List.getElem?_append_left (by simpa using hi),List.getElem?_map] at h2;cases e:vs[i]? with
   |none=>rw[e] at h2;cases h2
   |some a=>rw[e] at h2;cases h2;rfl
  obtain⟨u,hu,rv⟩:=r.get ha;have hp:ps[i]?=some y:=by
   rw[<-S.pre,List.getElem?_take_of_lt (by lia)];exact h1
  have ndP:ps.Nodup:=by rw[<-S.pre];exact S.nd.sublist (List.take_sublist _ _)
  refine⟨u,rv,?_⟩;rcases S.par y (List.mem_of_getElem? hp) with k|k
  ·exact .inl ⟨k,yP ndP hp hu k⟩
  ·obtain⟨c,e⟩:=JP (n:=s.heap.objs.size+1) k;refine .inr ⟨.inl k,c,e,?_⟩;have q:=x.cell y c e;rw[yQ ndP hp hu (by show scope.names.lookup y≠_;rw[k];decide)] at q;exact q
 ·exact e0.hok.fresh (Nat.le_of_lt (x.above y c (PySem.mem_of_lookup h)))
 ·unfold start;show _=N.length;rw[List.length_append,List.length_map,List.length_replicate];lia
theorem aF3{w:World}{K:PySem.W.Frag}{mg:Str->Option Value}{base:Heap}{k:Nat}{f:Addr}{name qual:Str}{params:Arguments}{body:List Stmt}{scope:Scope}{dV kV doc pm cdv ct oc:Value}{an od:Option Addr}
 {osl:Array (Option Value)}{N ps:List Str}{sp:Sp}(lk:K.lookup f=some ⟨oc,od,.func (PySem.W.fnOf name qual params body scope dV kV doc pm an cdv ct),osl⟩)(hcd:PySem.W.codeIn K cdv qual=true)(S:cF N ps scope)
 (len:∀vs H Q E,sp vs H Q E->vs.length=ps.length)
 (hbody:∀(A:Around) (outer:List Env) (s:Shared) (H:Hp) (vs:List V) (Q:VK) (E:XK),rH k (A.deeper (envOfC qual scope s.heap.objs.size f cdv))->sp vs H Q E->
   ∃t,PSs (XX CX P w K mg base N qual scope f cdv A outer s H E) body t/\t {nx:=λ_ H'=>Q .non H',rt:=Q} (start N vs) H) :
  DX P w K mg base CX (k+1) f (PySem.W.fnOf name qual params body scope dV kV doc pm an cdv ct) ps sp:=by
 refine⟨len,λA outer s H args us vs Q E hr e0 hb r hsp=>?_⟩;have hl:=len _ _ _ _ hsp;have KX:K.In s.heap:=e0.mod.kin.keeps λb o e=>(e0.bs b o e).1
 have lim:s.heap.NoLimit:=e0.mod.nolimit.keeps λb o e=>(e0.bs b o e).1
 have hkind:∀y∈ps.zip us,scope.names.lookup y.1=some .local\/(scope.names.lookup y.1=some .cell/\((cellsFrom (s.heap.objs.size+1) scope.names []).lookup y.1).isSome=true):=λ⟨n,v⟩ hy=>by
  rcases S.par n (List.of_mem_zip hy).1 with q|q
  ·exact .inl q
  ·exact .inr ⟨q,PySem.W.cellsFrom_some _ _ _ (.inl q)⟩
 refine codeAny_call_function hr.depth (KX _ _ lk) rfl S.co S.gen rfl (PySem.W.codeRec_of KX hcd) (hb _ _ _ _ ?_);refine wpAny_newFunctionEnv_cells S.kind hkind λenv he s1 x=>?_
 subst he;refine⟨lim.keeps x.toInCall.keep,codeAny_func ?_⟩;obtain⟨t,ht,hq⟩:=hbody A outer s H vs Q E (hr.deeper _) hsp;have I:Inv (XX CX P w K mg base N qual scope f cdv A outer s H E) [] (start N vs) H s1:=RD S hr.hd e0 hl r x;refine wpAny_mono (ht [] s1 (start N vs) H _ I hq) (λfl s' hs=>?_) λe s' hs=>hs
 have fin:∀{σ':St}{H':Hp}{v:V}{u:Value},Inv (XX CX P w K mg base N qual scope f cdv A outer s H E) [] σ' H' s'->RelV v u->Q v H'->CE outer P w H s Q u s':=
  λ{σ' H' v u} J rv q=>⟨v,H',J.os,J.bare,J.base,J.hok,rv,q⟩
 cases fl with
 |ret u=>
  obtain⟨v,σ',H',J,rv,q⟩:=hs;exact fin J rv q
 |next=>
  obtain⟨σ',H',J,q⟩:=hs;exact fin (v:=V.non) (u:=Value.none) J rfl q
 |brk=>
  obtain⟨_,_,_,q⟩:=hs;exact False.elim q
 |cont=>
  obtain⟨_,_,_,q⟩:=hs;exact False.elim q
section
variable {X:Cx} {x:Str} {p pos:Pos} {e:Expr} {es:List Expr} {t:TA} {id T:String} {r:List V->Hp->VK->Prop}
noncomputable def tCB(r:List V->Hp->VK->Prop)(t:TA):TE:=λσ H Q=>t σ H λvs H1=>r vs H1 Q
theorem vW(hc:mX X (.builtin id) r)(hg:Gl X x)(hm:X.mg x=none)(hv:bootBuiltins x=some (.builtin id))(ha:PA X (e::es) t)(hn:x ≠ "__name__":=by decide)(hdb:nDb x:=by decide)
 (he:starEach (e::es) X.env=(false,eval e X.env)::starEach es X.env:=by rfl)(hpl:(backTo pos (starEach es X.env)).any (·.1)=false:=by rfl):PE X (.Call (.Name x p) (e::es) [] pos) (tCB r t):=by
 intro pins s σ H Q I h;refine wpAny_Call_Name_kw (jQ I hg hm hv ?_ hn hdb);exact PyProof.Rows.callWith_builtin1 (thn (ha pos pins s σ H _ I h) λus s1 ⟨vs,H1,I1,r1,q1⟩=>hc pins s1 σ H1 vs us Q I1 r1 q1) he hpl
theorem yR(hc:mX X (.type T) r)(hg:Gl X x)(hm:X.mg x=none)(hv:bootBuiltins x=some (.type T))(ha:PA X (e::es) t)(hn:x ≠ "__name__":=by decide)(hdb:nDb x:=by decide)
 (he:starEach (e::es) X.env=(false,eval e X.env)::starEach es X.env:=by rfl)(hpl:(backTo pos (starEach es X.env)).any (·.1)=false:=by rfl):PE X (.Call (.Name x p) (e::es) [] pos) (tCB r t):=by
 intro pins s σ H Q I h;refine wpAny_Call_Name_kw (jQ I hg hm hv ?_ hn hdb);exact PyProof.Rows.callWith_type1 (thn (ha pos pins s σ H _ I h) λus s1 ⟨vs,H1,I1,r1,q1⟩=>hc pins s1 σ H1 vs us Q I1 r1 q1) he hpl
end
end L2
namespace HT
open PySem PyProof.Rows
section
variable {prog:Program} {w:World} {A:Around} {E:Value->Shared->Prop} {s:Shared}
theorem aBa(ht:IsTup s.heap t vs.toArray)(hb:IsTup s.heap b ws.toArray)(hv:vs≠[])
 (h1:ws=[]->Q (.ref t) s)(h2:ws≠[]->Q (.ref s.heap.objs.size) {s with heap:=s.heap.push {cls:=.type "tuple",data:=.seq (vs++ws).toArray}})
 (hsz:vs.length+ws.length<=sizeLine):wpAny (model prog w) A (binaryOp .Add (.ref t) (.ref b)) Q E s:=by
 obtain⟨⟨cls,dd,data,sl⟩,ho,hc,n,hd⟩:=id ht;obtain⟨⟨cls2,dd2,data2,sl2⟩,ho2,hc2,n2,hd2⟩:=id hb;simp only at hc hd hc2 hd2;subst hc hd hc2 hd2;have e:vs.toArray++ws.toArray=(vs++ws).toArray:=by simp
 by_cases hw:ws=[]
 ·exact concat_meets ⟨_,ho,rfl⟩ ⟨_,ho2,rfl⟩ noFill_tuple_add seq_tuple_add PySem.F.slot_tuple_add PySem.F.entry_tuple_add (PySem.F.args_tuple_add_2 _ _)
   (tuple_addW1 t b vs.toArray ws.toArray n n2 dd dd2 sl sl2 (by simpa using hv) (by simp[hw])) ⟨ho,ho2,h1 hw⟩
 ·refine concat_meets ⟨_,ho,rfl⟩ ⟨_,ho2,rfl⟩ noFill_tuple_add seq_tuple_add PySem.F.slot_tuple_add PySem.F.entry_tuple_add (PySem.F.args_tuple_add_2 _ _)
   (tuple_addW2 t b vs.toArray ws.toArray n n2 dd dd2 sl sl2 (by simpa using hv) (by simpa using hw) (by rw[List.size_toArray,List.size_toArray];exact hsz)) ⟨ho,ho2,?_⟩
  rw[e];exact h2 hw
noncomputable def sIx(n d:Nat):Option Int->Nat
 |none=>d
 |some v=>if v<0 then (v+(n:Int)).toNat else min v.toNat n
theorem aF4(n d:Nat)(hd:d<=n)(o:Option Int):sIx n d o<=n:=by
 cases o with
 |none=>exact hd
 |some v=>
  show(if v<0 then (v+(n:Int)).toNat else min v.toNat n)<=n;by_cases hv:v<0
  ·rw[if_pos hv];lia
  ·rw[if_neg hv];exact Nat.min_le_right _ _
theorem RG(v:Int)(n d:Nat):(if v<0 then max (v+(n:Int)) 0 else min v (n:Int))=((sIx n d (some v):Nat):Int):=by
 show(if v<0 then max (v+(n:Int)) 0 else min v (n:Int))=(((if v<0 then (v+(n:Int)).toNat else min v.toNat n):Nat):Int);by_cases hv:v<0
 ·simp only[if_pos hv];lia
 ·simp only[if_neg hv];lia
theorem M7(lo hi:Option Int)(n:Nat):Builtin.Slice.sliceAdjust lo hi 1 (n:Int)=(((sIx n 0 lo:Nat):Int),((sIx n n hi:Nat):Int)):=by
 have h1:¬((1:Int)<0):=by lia
 unfold Builtin.Slice.sliceAdjust;simp only[h1,if_false];refine Prod.ext ?_ ?_
 ·cases lo with
  |none=>rfl
  |some v=>exact RG v n 0
 ·cases hi with
  |none=>rfl
  |some v=>exact RG v n n
theorem M8(i j:Nat):Builtin.Slice.slicePlaces (i:Int) (j:Int) 1=j-i:=by
 unfold Builtin.Slice.slicePlaces;have h1:(1:Int) > 0:=by lia
 simp only[h1,if_true,Int.ediv_one];split<;>lia
theorem vA(p:IsPart v o)(h:Q o s):wpAny (model prog w) A (Builtin.Slice.slicePartIndex v) Q E s:=by
 cases p with
 |none=>exact slicePart_none h
 |int i t=>exact slicePart_int h
theorem rC{lo hi:Option Int}{n:Nat}{Q:Int×Int×Nat->Shared->Prop}(hs:s.heap.IsSliceOf sl vl vu .none)(pl:IsPart vl lo)(pu:IsPart vu hi)
 (h:Q (((sIx n 0 lo:Nat):Int),1,sIx n n hi-sIx n 0 lo) s):wpAny (model prog w) A (Builtin.Slice.sliceApplied (.ref sl) (pure (n:Int))) Q E s:=by
 obtain⟨os,hos,hcs,hds⟩:=id hs;unfold Builtin.Slice.sliceApplied Builtin.Slice.sliceFields;refine wpAny_bind (wpAny_bind (wpAny_field hos hds (x:=vl) rfl (wpAny_bind (wpAny_field hos hds (x:=vu) rfl (wpAny_bind (wpAny_field hos hds (x:=.none) rfl (wpAny_pure ?_)))))));refine wpAny_bind (slicePart_none ?_);show wpAny _ _ (if ((1:Int)==0)=true then _ else _) _ _ s;rw[if_neg (by decide)];refine wpAny_bind (vA pl (wpAny_bind (vA pu (wpAny_bind (wpAny_pure ?_)))));show wpAny _ _ (match Builtin.Slice.sliceAdjust lo hi 1 (n:Int) with|(lo,hi)=>pure (lo,(1:Int),Builtin.Slice.slicePlaces lo hi 1)) _ _ s;rw[M7 lo hi n];show wpAny _ _ (pure (((sIx n 0 lo:Nat):Int),(1:Int),Builtin.Slice.slicePlaces ((sIx n 0 lo:Nat):Int) ((sIx n n hi:Nat):Int) 1)) _ _ s;rw[M8];exact wpAny_pure h
theorem X3(xs:Array Value)(i k:Nat):((List.range k).filterMap λ(m:Nat)=>xs[((i:Int)+(m:Int)*1).toNat]?).toArray=((xs.toList.drop i).take k).toArray:=by
 have e:(λ(m:Nat)=>xs[((i:Int)+(m:Int)*1).toNat]?)=λm=>xs[i+m]?:=by
  funext m
  have:((i:Int)+(m:Int)*1).toNat=i+m:=by lia
  rw[this]
 rw[e];have:=pick_run xs i k;rw[List.filterMap_map] at this;have e2:((λx=>xs[x]?) ∘ λx=>i+x)=λm=>xs[i+m]?:=rfl
 rw[e2] at this;rw[this]
theorem o9{vl vu:Value}{lo hi:Option Int}{Q:Value->Shared->Prop}(ht:IsTup s.heap t items)(hs:s.heap.IsSliceOf sl vl vu .none)(pl:IsPart vl lo)(pu:IsPart vu hi)
 (hw:¬(sIx items.size 0 lo=0/\sIx items.size items.size hi=items.size))
 (h:Q (.ref s.heap.objs.size) {s with heap:=s.heap.push {cls:=.type "tuple",data:=.seq ((items.toList.drop (sIx items.size 0 lo)).take (sIx items.size items.size hi-sIx items.size 0 lo)).toArray}})
 (hsz:items.size<=sizeLine):wpAny (model prog w) A (getItem (.ref t) (.ref sl)) Q E s:=by
 have htake:sizeOk (.seq ((items.toList.drop (sIx items.size 0 lo)).take (sIx items.size items.size hi-sIx items.size 0 lo)).toArray):=by
  show((items.toList.drop (sIx items.size 0 lo)).take (sIx items.size items.size hi-sIx items.size 0 lo)).toArray.size<=sizeLine;rw[List.size_toArray,List.length_take,List.length_drop,Array.length_toList];lia
 have hj:sIx items.size items.size hi<=items.size:=aF4 _ _ (Nat.le_refl _) hi;obtain⟨os,hos,hcs,hds⟩:=id hs;have hTs:s.TypeIs (.ref sl) "slice":=⟨os,hos,hcs⟩
 unfold getItem
 try with_reducible refine wpAny_holding ?_
 first|refine wpAny_bind (wpAny_pure ?_)|skip
 refine wpAny_bind (wpAny_sequenceKey ht.typeIs (by decide) ?_);refine wpAny_bind (wpAny_callSpecial?_slot (name:=Str.ofString "__getitem__") ht.typeIs PyProof.Rows.slot_tuple_getitem
  (wpAny_call_entry PyProof.Rows.slot_tuple_getitem ht.typeIs entry_tuple_getitem ?_ (args_tuple_getitem _ _)))
 show wpAny _ _ (Builtin.Tuple.tupleItemsOf (.ref t) >>= _) _ _ s;refine wpAny_bind (tupleItemsOf_ ht ?_);refine wpAny_bind (wpAny_typeOf hTs ?_);rw[if_pos (by decide)];refine wpAny_bind (rC hs pl pu ?_);have hno:¬((((sIx items.size 0 lo:Nat):Int)==0&&(1:Int)==1&&(sIx items.size items.size hi-sIx items.size 0 lo)==items.size)=true):=by
  intro q;rw[Bool.and_eq_true,Bool.and_eq_true] at q;have q1:((sIx items.size 0 lo:Nat):Int)=0:=eq_of_beq q.1.1;have q2:sIx items.size items.size hi-sIx items.size 0 lo=items.size:=eq_of_beq q.2;exact hw ⟨by lia,by lia⟩
 show wpAny _ _ (if (((sIx items.size 0 lo:Nat):Int)==0&&(1:Int)==1&&(sIx items.size items.size hi-sIx items.size 0 lo)==items.size)=true then _ else _) _ _ s;rw[if_neg hno,X3]
 first
  |exact wpAny_bind (m:=Builtin.Tuple.tupleExact _) (wpAny_newObj_type (wpAny_pure ⟨_,rfl,wpAny_pure h⟩) htake)
  |exact wpAny_bind (m:=Builtin.Tuple.tupleExact _) (wpAny_newObj_type (wpAny_bind (wpAny_pure (wpAny_pure ⟨_,rfl,wpAny_pure h⟩))) htake)
  |exact wpAny_bind (wpAny_bind (m:=Builtin.Tuple.tupleExact _) (wpAny_newObj_type (wpAny_pure (wpAny_pure ⟨_,rfl,wpAny_pure h⟩)) htake))
  |exact wpAny_bind (wpAny_bind (m:=Builtin.Tuple.tupleExact _) (wpAny_newObj_type (wpAny_pure ⟨_,rfl,wpAny_pure h⟩) htake))
end
end HT
namespace L2
open PySem PySem.Spec PyProof.Rows
abbrev TO:=St->Hp->(Option Int->Hp->Prop)->Prop
def PO(X:Cx)(e:Option Expr)(t:TO):Prop:=
 ∀(pins:List (Addr×Obj))(s:Shared)(σ:St)(H:Hp)(Q:Option Int->Hp->Prop),Inv X pins σ H s->t σ H Q->
  wpAny (model X.prog X.w) X.A (evalPart e X.env) (λu s'=>∃o H',Inv X pins σ H' s'/\IsPart u o/\Q o H') X.xe s
noncomputable def aBb:TO:=λ_ H Q=>Q none H
noncomputable def aI0(t:TE):TO:=λσ H Q=>t σ H λx H1=>∃i,x=.int i/\Q (some i) H1
section
variable {X:Cx} {e:Expr} {te:TE} {lo hi:Option Expr} {tl th:TO} {pos p2:Pos}
theorem aBc:PO X none aBb:=by
 intro pins s σ H Q I h;rw[evalPart_none];exact wpAny_pure ⟨none,H,I,.none,h⟩
theorem RJ(h:PE X e te):PO X (some e) (aI0 te):=by
 intro pins s σ H Q I hw;rw[evalPart_some];refine thn (h pins s σ H _ I hw) λu s1 ⟨x,H1,I1,r1,q1⟩=>?_
 obtain⟨i,rfl,q⟩:=q1;obtain⟨t,rfl⟩:=r1;exact⟨some i,H1,I1,.int i t,q⟩
def SlR(X:Cx)(r:V->Option Int->Option Int->Hp->VK->Prop):Prop:=
 ∀(pins:List (Addr×Obj))(s:Shared)(σ:St)(H:Hp)(x:V)(v vl vu:Value)(lo hi:Option Int)(sl:Addr)(Q:VK),Inv X pins σ H s->RelV x v->s.heap.IsSliceOf sl vl vu .none->IsPart vl lo->IsPart vu hi->r x lo hi H Q->
  ∃T id,typeLookup (.type T) "__getitem__"=pure (some (.builtin id))/\s.TypeIs v T/\wpAny (model X.prog X.w) X.A (getItem v (.ref sl)) (EP X pins σ Q) X.xe s
noncomputable def tSl(r:V->Option Int->Option Int->Hp->VK->Prop)(te:TE)(tl th:TO):TE:=λσ H Q=>te σ H λx H1=>tl σ H1 λl H2=>th σ H2 λu H3=>r x l u H3 Q
theorem X4(hr:SlR X r)(he:PE X e te)(hl:PO X lo tl)(hu:PO X hi th):PE X (.Subscript e (.Slice lo hi none p2) pos) (tSl r te tl th):=by
 intro pins s σ H Q I h;refine Subscript_ (thn (he pins s σ H _ I h) λv s1 ⟨x,H1,I1,r1,q1⟩=>?_);refine wpAny_Slice (thn (hl pins s1 σ H1 _ I1 q1) λvl s2 ⟨l,H2,I2,pl,q2⟩=>thn (hu pins s2 σ H2 _ I2 q2) λvu s3 ⟨u,H3,I3,pu,q3⟩=>?_);rw[evalPart_none];refine wpAny_pure ?_;have I4:Inv X pins σ H3 {s3 with heap:=s3.heap.push {cls:=.type "slice",data:=.fields #[vl,vu,.none]}}:=I3.kept (t':=s3.toks) λb ob q=>Heap.get?_push_of_some _ q
 obtain⟨T,id,hT,ht,hg⟩:=hr pins {s3 with heap:=s3.heap.push {cls:=.type "slice",data:=.fields #[vl,vu,.none]}} σ H3 x v vl vu l u s3.heap.objs.size Q I4 r1 (Heap.IsSliceOf.new ..) pl pu q3;show wpAny (model X.prog X.w) X.A (subscriptTail e (.Slice lo hi none p2) v (.ref s3.heap.objs.size)) (EP X pins σ Q) X.xe {s3 with heap:=s3.heap.push {cls:=.type "slice",data:=.fields #[vl,vu,.none]}};exact tail_any (ops:=[.ref s3.heap.objs.size,v]) ht hT hg (by with_unfolding_all rfl)
noncomputable def RK(xs:List V)(lo hi:Option Int):List V:=(xs.drop (HT.sIx xs.length 0 lo)).take (HT.sIx xs.length xs.length hi-HT.sIx xs.length 0 lo)
theorem rY(xs:List V)(lo hi:Option Int):(RK xs lo hi).length<=xs.length:=by
 unfold RK;rw[List.length_take,List.length_drop];lia
def aJo(K:PySem.W.Frag):V->Option Int->Option Int->Hp->VK->Prop:=λx lo hi H Q=>∃a xs,x=.ref a/\SqT K H a xs/\
 ¬(HT.sIx xs.length 0 lo=0/\HT.sIx xs.length xs.length hi=xs.length)/\∀p,H p=none->Q (.ref p) (upd H p (.tup (RK xs lo hi)))
theorem aF5:SlR X (aJo X.K):=by
 intro pins s σ H x v vl vu lo hi sl Q I rx hs pl pu h;obtain⟨a,xs,rfl,hx,hw,q⟩:=h;cases rx;obtain⟨its,r,ht,hz⟩:=I.tuple hx;have hlen:its.toArray.size=xs.length:=by rw[List.size_toArray];exact r.length.symm
 refine⟨"tuple",_,PyProof.Rows.slot_tuple_getitem.lookup,ht.typeIs,?_⟩;refine HT.o9 ht hs pl pu (by rw[hlen];exact hw) ?_ (by rw[hlen];exact hz);rw[hlen];refine⟨.ref s.heap.objs.size,_,I.laid (t':=s.toks) (o:=.tup (RK xs lo hi)) (λb ob q=>Heap.get?_push_of_some _ q) (Nat.le_refl _) ?_,rfl,q _ (I.hok.fresh (Nat.le_refl _))⟩;exact⟨Nat.le_trans (rY xs lo hi) hz,_,(r.drop (HT.sIx xs.length 0 lo)).take (HT.sIx xs.length xs.length hi-HT.sIx xs.length 0 lo),jH.new _ _⟩
def aI1(K:PySem.W.Frag):R2:=λx y H Q=>∃a b xs ys,x=.ref a/\y=.ref b/\SqT K H a xs/\SqT K H b ys/\xs≠[]/\xs.length+ys.length<=sizeLine/\
 (ys=[]->Q (.ref a) H)/\(ys≠[]->∀p,H p=none->Q (.ref p) (upd H p (.tup (xs++ys))))
theorem Vals.rZ(r:Vals xs us):us=[]↔xs=[]:=by
 cases r with
 |nil=>simp
 |cons _ _=>simp
theorem aBd:OpR X (binaryOp .Add) (aI1 X.K):=by
 intro pins s σ H x y v u Q I rx ry h;obtain⟨a,b,xs,ys,rfl,rfl,ha,hb,hx,hz,q1,q2⟩:=h;cases rx;cases ry;obtain⟨its,r1,p1,_⟩:=I.tuple ha;obtain⟨its2,r2,p2,_⟩:=I.tuple hb;refine HT.aBa p1 p2 (λz=>hx (r1.rZ.mp z)) (λz=>⟨.ref a,H,I,rfl,q1 (r2.rZ.mp z)⟩) (λz=>?_) (by rw[<-r1.length,<-r2.length];exact hz);refine⟨.ref s.heap.objs.size,_,I.laid (t':=s.toks) (o:=.tup (xs++ys)) (λb ob q=>Heap.get?_push_of_some _ q) (Nat.le_refl _) ?_,rfl,q2 (λw=>z (r2.rZ.mpr w)) _ (I.hok.fresh (Nat.le_refl _))⟩;exact⟨by rw[List.length_append];exact hz,_,r1.append r2,jH.new _ _⟩
end
noncomputable def ixN(n:Nat)(i:Int):Option Nat:=if 0<=i then (if i<n then some i.toNat else none) else if -(n:Int)<=i then some (i+n).toNat else none
def atI{α:Type}(xs:List α)(i:Int):Option α:=(ixN xs.length i).bind λj=>xs[j]?
theorem aBe(h:ixN n i=some j):seqIndex? i n=some j/\j<n/\-(n:Int)<=i/\i<n:=by
 unfold ixN at h;by_cases h0:0<=i
 ·rw[if_pos h0] at h;by_cases h1:i<n
  ·rw[if_pos h1] at h;have e:i.toNat=j:=Option.some.inj h;exact⟨by rw[seqIndex_of h0 h1,e],by lia,by lia,h1⟩
  ·rw[if_neg h1] at h;cases h
 ·rw[if_neg h0] at h;by_cases h1:-(n:Int)<=i
  ·rw[if_pos h1] at h;have e:(i+n).toNat=j:=Option.some.inj h;exact⟨by rw[seqIndex_neg (by lia) h1,e],by lia,h1,by lia⟩
  ·rw[if_neg h1] at h;cases h
theorem DY(h:atI xs i=some v):∃j,seqIndex? i xs.length=some j/\xs[j]?=some v/\j<xs.length/\-(xs.length:Int)<=i/\i<xs.length:=by
 unfold atI at h;cases e:ixN xs.length i with
 |none=>rw[e] at h;cases h
 |some j=>
  rw[e] at h;obtain⟨h1,h2,h3,h4⟩:=aBe e;exact⟨j,h1,h,h2,h3,h4⟩
def vX(b:Expr):Prop:=∀o i,subscripted b false o i=operate [o,i] (getItem o i)
def IxR(X:Cx)(r:R2):Prop:=
 ∀(value slice:Expr)(pins:List (Addr×Obj))(s:Shared)(σ:St)(H:Hp)(x y:V)(v u:Value)(Q:VK),Inv X pins σ H s->RelV x v->RelV y u->r x y H Q->
  subscripted slice false v u=operate [v,u] (getItem v u)->wpAny (model X.prog X.w) X.A (subscriptTail value slice v u) (EP X pins σ Q) X.xe s
def MtR(X:Cx)(id:String)(r:V->List V->Hp->VK->Prop):Prop:=
 ∀(pins:List (Addr×Obj))(s:Shared)(σ:St)(H:Hp)(x:V)(xs:List V)(v:Value)(us:List Value)(Q:VK),Inv X pins σ H s->RelV x v->Vals xs us->r x xs H Q->
  wpAny (model X.prog X.w) X.A (call (.builtin id) (v::us)) (EP X pins σ Q) X.xe s
section
variable {X:Cx} {a b:Expr} {ta tb:TE} {pos:Pos}
theorem aF6(hr:IxR X r)(ha:PE X a ta)(hb:PE X b tb)(hs:vX b):PE X (.Subscript a b pos) (tOp r ta tb):=by
 intro pins s σ H Q I h;exact Subscript_ (aHs ha hb I h λv u s2 x y H2 I2 rx ry q=>hr a b pins s2 σ H2 x y v u Q I2 rx ry q (hs _ _))
def aJp(K:PySem.W.Frag):R2:=λx y H Q=>∃p xs i v,x=.ref p/\y=.int i/\SqL K H p xs/\atI xs i=some v/\Q v H
def aJq(K:PySem.W.Frag):R2:=λx y H Q=>∃p xs i v,x=.ref p/\y=.int i/\SqT K H p xs/\atI xs i=some v/\Q v H
def aJr:R2:=λx y H Q=>∃z i c,x=.str z/\y=.int i/\z.length<=sizeLine/\atI z.cps.toList i=some c/\Q (.str ⟨#[c]⟩) H
theorem D_:IxR X (aJp X.K):=by
 intro value slice pins s σ H x y v u Q I rx ry h hs;obtain⟨p,xs,i,z,rfl,rfl,hq,he,q⟩:=h;cases rx;obtain⟨t,rfl⟩:=ry;obtain⟨its,r,pl,hz⟩:=I.list hq;obtain⟨j,h1,h2,h3,h4,h5⟩:=DY he;obtain⟨w,ew,rw'⟩:=r.get h2;have hl:=r.length;have hn:=u_;have fin:EP X pins σ Q w s:=⟨z,H,I,rw',q⟩
 by_cases h0:0<=i
 ·have hj:i.toNat=j:=by
   rw[seqIndex_of h0 h5] at h1;exact Option.some.inj h1
  exact item_listR pl.isList h0 (by lia) (by rw[hj];simpa using ew) fin hs
 ·have hj:(i+(its.toArray.size:Int)).toNat=j:=by
   rw[seqIndex_neg (by lia) h4] at h1;rw[List.size_toArray,<-hl];exact Option.some.inj h1
  exact subscriptTail_builtinR (x:=w) pl.isList.typeIs slot_list_getitem.lookup
   (wpAny_getItem_list_neg (Q:=λr s'=>r=w/\EP X pins σ Q r s') pl.isList (by lia) (by rw[List.size_toArray]<;>lia) (by lia) (by rw[hj];simpa using ew) ⟨rfl,fin⟩) hs
theorem aF7:IxR X (aJq X.K):=by
 intro value slice pins s σ H x y v u Q I rx ry h hs;obtain⟨p,xs,i,z,rfl,rfl,hq,he,q⟩:=h;cases rx;obtain⟨t,rfl⟩:=ry;obtain⟨its,r,pl,hz⟩:=I.tuple hq;obtain⟨j,h1,h2,h3,h4,h5⟩:=DY he;obtain⟨w,ew,rw'⟩:=r.get h2;have hl:=r.length;have hn:=u_;have fin:EP X pins σ Q w s:=⟨z,H,I,rw',q⟩
 exact subscriptTail_builtinR (x:=w) pl.typeIs slot_tuple_getitem.lookup
  (getItem_tuple (j:=j) (Q:=λr s'=>r=w/\EP X pins σ Q r s') pl (by lia) (by lia) (by rw[List.size_toArray,<-hl];exact h1) (by simpa using ew) ⟨rfl,fin⟩) hs
theorem aF8:IxR X aJr:=by
 intro value slice pins s σ H x y v u Q I rx ry h hs;obtain⟨z,i,c,rfl,rfl,hz,he,q⟩:=h;obtain⟨t,rfl⟩:=rx;obtain⟨t',rfl⟩:=ry;obtain⟨j,h1,h2,h3,h4,h5⟩:=DY he;have hl:z.cps.toList.length=z.length:=by simp[Str.length]
 rw[hl] at h1 h4 h5;have hn:=u_;exact tail_any (typeIs_str s z t) slot_str_getitem.lookup (getItem_str (c:=c) (by
  have e1:decide (i < -(2 ^ 63:Int))=false:=decide_eq_false (by lia);have e2:decide (i >= 2 ^ 63)=false:=decide_eq_false (by lia);rw[e1,e2,Bool.or_false]) (by rw[h1];simpa using h2) ⟨.str ⟨#[c]⟩,H,I.tok _,⟨_,rfl⟩,q⟩) hs
theorem yS(lo hi:Option Int)(n:Nat):(sliceBounds lo hi none n).1=((HT.sIx n 0 lo:Nat):Int)/\(sliceBounds lo hi none n).2.1=((HT.sIx n n hi:Nat):Int)/\(sliceBounds lo hi none n).2.2=1:=by
 refine⟨?_,?_,rfl⟩
 ·cases lo with
  |none=>simp[sliceBounds,HT.sIx]
  |some i=>
   simp only[sliceBounds,HT.sIx,Option.getD_none,show(1:Int) > 0 by decide,if_true];by_cases h:i<0
   ·simp only[h,if_true]<;>lia
   ·simp only[h,if_false]<;>lia
 ·cases hi with
  |none=>simp[sliceBounds,HT.sIx]
  |some i=>
   simp only[sliceBounds,HT.sIx,Option.getD_none,show(1:Int) > 0 by decide,if_true];by_cases h:i<0
   ·simp only[h,if_true]<;>lia
   ·simp only[h,if_false]<;>lia
theorem vY(its:List Value)(lo hi:Option Int):slicePick its.toArray lo hi none=((its.drop (HT.sIx its.length 0 lo)).take (HT.sIx its.length its.length hi-HT.sIx its.length 0 lo)).toArray:=by
 obtain⟨h1,h2,h3⟩:=yS lo hi its.toArray.size;unfold slicePick;rw[h1,h2,h3];simp only[sliceRange_one,pick_run,List.size_toArray]<;>rfl
def aJs(K:PySem.W.Frag):V->Option Int->Option Int->Hp->VK->Prop:=λx lo hi H Q=>∃a xs,x=.ref a/\SqL K H a xs/\∀p,H p=none->Q (.ref p) (upd H p (.lst (RK xs lo hi)))
theorem RL:SlR X (aJs X.K):=by
 intro pins s σ H x v vl vu lo hi sl Q I rx hs pl pu h;obtain⟨a,xs,rfl,hx,q⟩:=h;cases rx;obtain⟨its,r,ht,hz⟩:=I.list hx;have hlen:=r.length;refine⟨"list",_,slot_list_getitem.lookup,ht.isList.typeIs,?_⟩;refine wpAny_getItem_list_slice ht.isList hs pl pu .none (by simp) ?_ (by rw[List.size_toArray]<;>lia);rw[vY,<-hlen];refine⟨.ref s.heap.objs.size,_,I.laid (t':=s.toks) (o:=.lst (RK xs lo hi)) (λb ob q=>Heap.get?_push_of_some _ q) (Nat.le_refl _) ?_,rfl,q _ (I.hok.fresh (Nat.le_refl _))⟩;exact⟨Nat.le_trans (rY xs lo hi) hz,_,0,(r.drop (HT.sIx xs.length 0 lo)).take (HT.sIx xs.length xs.length hi-HT.sIx xs.length 0 lo),Heap.get?_push_size _ rfl⟩
theorem jJ:mX X (.builtin "len") (λxs H Q=>∃p ys,xs=[.ref p]/\(SqL X.K H p ys\/SqT X.K H p ys)/\Q (.int ys.length) H):=by
 intro pins s σ H xs us Q I r h;obtain⟨p,ys,rfl,hq,q⟩:=h;obtain⟨u,rfl,rx⟩:=vals1 r;cases rx;have hn:=u_;rcases hq with hq|hq
 ·obtain⟨its,r',pl,hz⟩:=I.list hq;have hlen:=r'.length;exact Calls.call_len_list pl.isList (by simp only[List.size_toArray]<;>lia) ⟨.int ys.length,H,I.tok _,⟨s.toks+1,by rw[List.size_toArray,hlen]⟩,q⟩
 ·obtain⟨its,r',pl,hz⟩:=I.tuple hq;have hlen:=r'.length;exact len_tuple pl (by simp only[List.size_toArray]<;>lia) ⟨.int ys.length,H,I.tok _,⟨s.toks+1,by rw[List.size_toArray,hlen]⟩,q⟩
theorem yU:mX X (.builtin "len") (λxs H Q=>∃z,xs=[.str z]/\z.length<=sizeLine/\Q (.int z.length) H):=by
 intro pins s σ H xs us Q I r h;obtain⟨z,rfl,hz,q⟩:=h;obtain⟨u,rfl,t,rfl⟩:=vals1 r;have hn:=u_;exact len_str (by lia) ⟨.int z.length,H,I.tok _,⟨_,rfl⟩,q⟩
theorem nU:mX X (.type "tuple") (λxs H Q=>∃p ys,xs=[.ref p]/\((SqL X.K H p ys/\∀l,H l=none->Q (.ref l) (upd H l (.tup ys)))\/(SqT X.K H p ys/\Q (.ref p) H))):=by
 intro pins s σ H xs us Q I r h;obtain⟨p,ys,rfl,h⟩:=h;obtain⟨u,rfl,rx⟩:=vals1 r;cases rx;rcases h with ⟨hq,q⟩|⟨hq,q⟩
 ·obtain⟨its,r',pl,hz⟩:=I.list hq;have hlen:=r'.length;refine call_tuple_list pl.isList (λh' kp=>?_) (by simp only[List.size_toArray]<;>lia);have I1:Inv X pins σ H {s with heap:=h'}:=I.kept (t':=s.toks) kp;have I2:Inv X pins σ (upd H h'.objs.size (.tup ys)) {s with heap:=h'.push {cls:=.type "tuple",data:=.seq its.toArray}}:=
   I1.laid (t':=s.toks) (λb o e=>Heap.get?_push_of_some _ e) (Nat.le_refl _) (show jG X.prog X.w _ _ _ (.tup ys) from ⟨hz,its,r',jH.new _ _⟩)
  exact⟨.ref h'.objs.size,_,I2,rfl,q _ (I1.hok.fresh (Nat.le_refl _))⟩
 ·obtain⟨its,r',pl,hz⟩:=I.tuple hq;exact call_tuple_same pl ⟨.ref p,H,I,rfl,q⟩
def tyV(K:PySem.W.Frag)(T:String)(x:V)(H:Hp):Prop:=match x with
 |.str _=>T="str"
 |.int _=>T="int"
 |.ref p=>(T="list"/\∃xs,SqL K H p xs)\/(T="tuple"/\((∃o,K.lookup p=some o/\o.cls=.type "tuple"/\o.dict=none)\/∃xs,H p=some (.tup xs)))\/
   (T="dict"/\((∃kvs,H p=some (.dK kvs))\/∃kvs,H p=some (.dT kvs)))\/(T="set"/\∃S n,H p=some (.set S n))
 |_=>False
theorem aAb(I:Inv X pins σ H s)(r:RelV x v)(ty:tyV X.K T x H) :
  s.TypeIs v T/\∀a,v=.ref a->∃ob,s.heap.get? a=some ob/\ob.dict=none:=by
 cases x with
 |str z=>
  obtain⟨t,rfl⟩:=r;cases (show T="str" from ty);exact⟨typeIs_str s z t,λ_ e=>nomatch e⟩
 |int i=>
  obtain⟨t,rfl⟩:=r;cases (show T="int" from ty);exact⟨typeIs_int s i t,λ_ e=>nomatch e⟩
 |ref p=>
  cases r;rcases ty with ⟨rfl,xs,hq⟩|⟨rfl,⟨o,hk,hc,hd⟩|⟨xs,hk⟩⟩|⟨rfl,hk⟩|⟨rfl,S,n,hk⟩
  ·obtain⟨its,_,pl,_⟩:=I.list hq;refine⟨pl.isList.typeIs,λa e=>?_⟩;cases e;obtain⟨o,n,e,c,hd,_⟩:=pl;exact⟨o,e,hd⟩
  ·refine⟨⟨o,I.kIn p o hk,hc⟩,λa e=>?_⟩;cases e;exact⟨o,I.kIn _ o hk,hd⟩
  ·obtain⟨_,its,_,pl⟩:=I.hok p _ hk;refine⟨(jH.tup pl).typeIs,λa e=>?_⟩;cases e;exact jH.bare pl
  ·have z:∃o,s.heap.get? p=some o/\o.ExactDict:=by
    rcases hk with ⟨kvs,hk⟩|⟨kvs,hk⟩
    ·obtain⟨_,_,_,_,o,_,_,e,ex,_⟩:=I.hok p _ hk;exact⟨o,e,ex⟩
    ·obtain⟨_,_,_,_,o,_,_,e,ex,_⟩:=I.hok p _ hk;exact⟨o,e,ex⟩
   obtain⟨o,e,ex⟩:=z;refine⟨⟨o,e,ex.1⟩,λa e2=>?_⟩;cases e2;exact⟨o,e,ex.2.1⟩
  ·obtain⟨o,_,_,_,e,ex,_⟩:=I.hok p _ hk;refine⟨⟨o,e,ex.1⟩,λa e2=>?_⟩;cases e2;exact⟨o,e,ex.2.1⟩
 |_=>exact False.elim ty
noncomputable def aJt(K:PySem.W.Frag)(T:String)(r:V->List V->Hp->VK->Prop)(to:TE):TE:=λσ H Q=>to σ H λx H1=>tyV K T x H1/\r x [] H1 Q
noncomputable def tBM(K:PySem.W.Frag)(T:String)(r:V->List V->Hp->VK->Prop)(to:TE)(t:TA):TE:=λσ H Q=>to σ H λx H1=>tyV K T x H1/\t σ H1 λxs H2=>r x xs H2 Q
variable {o e:Expr} {es:List Expr} {to:TE} {t:TA} {name:Str} {apos cpos:Pos} {T id:String} {r:V->List V->Hp->VK->Prop}
theorem aF9(pa:PlainAttrs T)(slot:Slot T name id)(hty:typeOf (.builtin id)=pure (.type "method_descriptor"))(hm:MtR X id r)(ho:PE X o to)
 (hbase:attributeBase o name X.env (eval o X.env)=eval o X.env:=by rfl)(hline:(apos.endLine==cpos.line)=true:=by rfl):PE X (.Call (.Attribute o name apos) [] [] cpos) (aJt X.K T r to):=by
 intro pins s σ H Q I h;refine wpAny_Call_method0_late hbase hline (thn (ho pins s σ H _ I h) λv s1 ⟨x,H1,I1,r1,ty,q1⟩=>?_);obtain⟨h1,h2⟩:=aAb I1 r1 ty;exact⟨T,id,pa,slot,hty,h1,h2,Calls.callWith_builtin rfl (PySem.evalArgs_none (hm pins s1 σ H1 x [] v [] Q I1 r1 .nil q1))⟩
theorem M9(pa:PlainAttrs T)(slot:Slot T name id)(hty:typeOf (.builtin id)=pure (.type "method_descriptor"))(hm:MtR X id r)(ho:PE X o to)(ha:PA X (e::es) t)
 (hbase:attributeBase o name X.env (eval o X.env)=eval o X.env:=by rfl)
 (hfew:((backTo cpos (starEach (e::es) X.env)).all (λx=>!x.1)&&(backToKw cpos (keywordEach [] X.env)).all (λx=>x.1.isSome)
  &&decide ((e::es).length+([]:List Keyword).length+(if ([]:List Keyword).isEmpty then 0 else 1)<30))=true:=by rfl)
 (hline:(apos.endLine==cpos.line)=true:=by rfl)(hs:starEach (e::es) X.env=(false,eval e X.env)::starEach es X.env:=by rfl)(hplain:(backTo cpos (starEach es X.env)).any (·.1)=false:=by rfl) :
  PE X (.Call (.Attribute o name apos) (e::es) [] cpos) (tBM X.K T r to t):=by
 intro pins s σ H Q I h;refine wpAny_Call_method_late hbase hfew hline rfl (thn (ho pins s σ H _ I h) λv s1 ⟨x,H1,I1,r1,ty,q1⟩=>?_);obtain⟨h1,h2⟩:=aAb I1 r1 ty;refine⟨T,id,pa,slot,hty,h1,h2,?_⟩;have hA:=ha cpos pins s1 σ H1 _ I1 q1;rw[hs] at hA ⊢;refine Calls.callWith_builtin (by show(false||(backTo cpos (starEach es X.env)).any (·.1))=false;rw[hplain]<;>rfl) (Calls.evalArgs_plain ?_);exact thn hA λus s2 ⟨vs,H2,I2,r2,q2⟩=>hm pins s2 σ H2 x vs v us Q I2 r1 r2 q2
end
def MtM(X:Cx)(id:String)(r:V->List V->Hp->VK->Prop):Prop:=
 ∀(pins:List (Addr×Obj))(s:Shared)(σ:St)(H:Hp)(x:V)(xs:List V)(v:Value)(us:List Value)(Q:VK),Inv X pins σ H s->RelV x v->Vals xs us->r x xs H Q->
  wpAny (model X.prog X.w) X.A (call (.builtin id) (v::us)) (EP X pins σ Q) X.xe s
theorem Vals.one:∀{x:V}{us:List Value},Vals [x] us->∃u,us=[u]/\RelV x u
 |_,_,.cons r .nil=>⟨_,rfl,r⟩
theorem Vals.zero:∀{us:List Value},Vals [] us->us=[]
 |_,.nil=>rfl
theorem Vals.dropLast(h:Vals xs us):Vals xs.dropLast us.dropLast:=by
 induction h with
 |nil=>exact .nil
 |cons r t ih=>
  cases t with
  |nil=>exact .nil
  |cons q t'=>exact .cons r ih
theorem Vals.eraseIdx:∀{xs:List V}{us:List Value}(i:Nat),Vals xs us->Vals (xs.eraseIdx i) (us.eraseIdx i)
 |_,_,_,.nil=>.nil
 |_,_,0,.cons _ t=>t
 |_,_,i+1,.cons r t=>.cons r (Vals.eraseIdx i t)
theorem Vals.reverse(h:Vals xs us):Vals xs.reverse us.reverse:=by
 induction h with
 |nil=>exact .nil
 |cons r t ih=>rw[List.reverse_cons,List.reverse_cons];exact Vals.append ih (.cons r .nil)
theorem M_(l:List α):l.eraseIdx (l.length-1)=l.dropLast:=by
 induction l with
 |nil=>rfl
 |cons a r ih=>
  cases r with
  |nil=>rfl
  |cons b r=>
   have e:(a::b::r).length-1=((b::r).length-1)+1:=by
    have h1:(a::b::r).length=r.length+2:=rfl;have h2:(b::r).length=r.length+1:=rfl;lia
   rw[e,List.eraseIdx_cons_succ,ih]
   all_goals rfl
theorem yV:∀(l:List α)(i:Nat),(l.eraseIdx i).length<=l.length
 |[],_=>Nat.le_refl _
 |_::_,0=>Nat.le_succ _
 |_::r,i+1=>Nat.succ_le_succ (yV r i)
section
variable {X:Cx} {pins:List (Addr×Obj)} {σ:St} {H:Hp} {s:Shared} {l:Addr} {xs ys:List V}
theorem Inv.aHc{its its':List Value}(I:Inv X pins σ H s)(hH:H l=some (.lst xs))
 (e:s.heap.get? l=some {cls:=.type "list",data:=.seq its.toArray n})(hf:f its.toArray=its'.toArray)(hv:Vals ys its')(hz:ys.length<=sizeLine) :
  Inv X pins σ (upd H l (.lst ys)) {s with heap:=s.heap.update l (Obj.mapSeq f),toks:=t'}:=by
 have q:=PySem.IsL.update e f;rw[hf] at q;refine I.write (x:=l) (e:=l) (by rw[hH];exact trivial) (.inl rfl) (λb' u hb hu=>(Heap.get?_update_other s.heap (Obj.mapSeq f) (Ne.symm hb)).trans hu) ⟨_,q⟩ ?_;exact⟨hz,its',_,hv,q⟩
theorem Inv.aJu(I:Inv X pins σ H s)(hv:Vals ys its)(hz:ys.length<=sizeLine) :
  Inv X pins σ (upd H s.heap.objs.size (.lst ys)) {s with heap:=s.heap.push {cls:=.type "list",data:=.seq its.toArray},toks:=t'}:=
 I.laid (λ_ _ q=>Heap.get?_push_of_some _ q) (Nat.le_refl _) ⟨hz,its,0,hv,Heap.get?_push_size _ rfl⟩
theorem Inv.fresh(I:Inv X pins σ H s):H s.heap.objs.size=none:=I.hok.fresh (Nat.le_refl _)
theorem Inv.aFa(I:Inv X pins σ H s)(hH:H l=some (.lst xs)):xs.length<=sizeLine/\∃(its:List Value)(n:Nat),Vals xs its/\xs.length=its.length/\s.heap.get? l=some {cls:=.type "list",data:=.seq its.toArray n}:=by
 obtain⟨z,its,n,r,e⟩:=I.hok l _ hH;exact⟨z,its,n,r,r.length,e⟩
theorem X5(h:n<=sizeLine):Builtin.List.listTooLong n=false:=by
 unfold Builtin.List.listTooLong;exact decide_eq_false (by lia)
end
section
variable {X:Cx}
def aBf:V->List V->Hp->VK->Prop:=λx vs H Q=>∃l xs y,x=.ref l/\vs=[y]/\H l=some (.lst xs)/\xs.length<sizeLine/\Q .non (upd H l (.lst (xs++[y])))
theorem sE:MtM X "list.append" aBf:=by
 intro pins s σ H x vs v us Q I rx rv h;obtain⟨l,xs,y,rfl,rfl,hH,hz,q⟩:=h;cases rx;obtain⟨u,rfl,ru⟩:=rv.one;obtain⟨z,its,n,r,hl,e⟩:=I.aFa hH;refine call_meets F.slot_list_append ⟨_,e,rfl⟩ F.entry_list_append (F.args_list_append_2 _ _) (PySem.list_append l its.toArray n u (by rw[List.size_toArray];lia)) ⟨e,?_⟩;refine⟨.non,_,I.aHc (its':=its++[u]) hH e (by simp) (r.append (.cons ru .nil)) ?_,rfl,q⟩;rw[List.length_append,List.length_singleton];lia
def aBg:V->List V->Hp->VK->Prop:=λx vs H Q=>∃l b xs zs,x=.ref l/\vs=[.ref b]/\H l=some (.lst xs)/\H b=some (.lst zs)/\xs.length+zs.length<=sizeLine/\Q .non (upd H l (.lst (xs++zs)))
theorem RM:MtM X "list.extend" aBg:=by
 intro pins s σ H x vs v us Q I rx rv h;obtain⟨l,b,xs,zs,rfl,rfl,hH,hB,hz,q⟩:=h;cases rx;obtain⟨u,rfl,ru⟩:=rv.one;cases ru;obtain⟨z,its,n,r,hl,e⟩:=I.aFa hH;obtain⟨z2,its2,n2,r2,hl2,e2⟩:=I.aFa hB;have hsz:its.toArray.size+its2.toArray.size<=sizeLine:=by rw[List.size_toArray,List.size_toArray];lia
 have hlong:¬(!its.toArray.isEmpty&&Builtin.List.listTooLong (its.toArray.size+its2.toArray.size))=true:=by
  rw[X5 hsz,Bool.and_false];exact Bool.false_ne_true
 refine call_meets F.slot_list_extend ⟨_,e,rfl⟩ F.entry_list_extend (F.args_list_extend_2 _ _)
  (AutoSeq1.list_extend_list_list_0 l its.toArray n b its2.toArray n2 hlong (by rw[List.size_toArray];lia) (by lia)) ⟨e,e2,?_⟩
 refine⟨.non,_,I.aHc (its':=its++its2) hH e (by simp) (r.append r2) ?_,rfl,q⟩;rw[List.length_append];lia
def aJv:V->List V->Hp->VK->Prop:=λx vs H Q=>∃l xs y,x=.ref l/\vs=[]/\H l=some (.lst xs)/\xs[xs.length-1]?=some y/\Q y (upd H l (.lst xs.dropLast))
theorem aFb:MtM X "list.pop" aJv:=by
 intro pins s σ H x vs v us Q I rx rv h;obtain⟨l,xs,y,rfl,rfl,hH,hy,q⟩:=h;cases rx;have hus:=rv.zero;subst hus;obtain⟨z,its,n,r,hl,e⟩:=I.aFa hH;obtain⟨u,hu,ru⟩:=r.get hy;have hy':its.toArray[its.toArray.size-1]?=some u:=by
  show its.toArray[its.length-1]?=some u;rw[<-Array.getElem?_toList,<-hl];exact hu
 refine call_meets F.slot_list_pop ⟨_,e,rfl⟩ F.entry_list_pop (F.args_list_pop_1 _) (MeetsSeq.list_pop_last l its.toArray n u hy' (by rw[List.size_toArray];lia)) ⟨e,?_⟩;refine⟨y,_,I.aHc (its':=its.dropLast) hH e ?_ r.dropLast ?_,ru,q⟩
 ·show its.toArray.eraseIdxIfInBounds (its.toArray.size-1)=its.dropLast.toArray;rw[List.size_toArray,List.eraseIdxIfInBounds_toArray,M_]
 ·rw[List.length_dropLast];lia
def aFc:V->List V->Hp->VK->Prop:=λx vs H Q=>∃l xs i k y,x=.ref l/\vs=[.int i]/\H l=some (.lst xs)/\-(2 ^ 63)<=i/\i<2 ^ 63/\seqIndex? i xs.length=some k/\xs[k]?=some y/\Q y (upd H l (.lst (xs.eraseIdx k)))
theorem JQ:MtM X "list.pop" aFc:=by
 intro pins s σ H x vs v us Q I rx rv h;obtain⟨l,xs,i,k,y,rfl,rfl,hH,h1,h2,hk,hy,q⟩:=h;cases rx;obtain⟨u,rfl,ru⟩:=rv.one;obtain⟨t,rfl⟩:=ru;obtain⟨z,its,n,r,hl,e⟩:=I.aFa hH;obtain⟨w,hw,rw'⟩:=r.get hy;refine call_meets F.slot_list_pop ⟨_,e,rfl⟩ F.entry_list_pop (F.args_list_pop_2 _ _)
  (MeetsSeq.list_pop_at l its.toArray n i t k w (fitsIndex_both h1 h2) (by rw[List.size_toArray,<-hl];exact hk) (by rw[<-Array.getElem?_toList];exact hw) (by rw[List.size_toArray];lia)) ⟨e,?_⟩
 refine⟨y,_,I.aHc (its':=its.eraseIdx k) hH e ?_ (r.eraseIdx k) ?_,rw',q⟩
 ·show its.toArray.eraseIdxIfInBounds k=(its.eraseIdx k).toArray;rw[List.eraseIdxIfInBounds_toArray]
 ·have:=yV xs k;lia
end
section
variable {κ:Type} [DecidableEq κ]
noncomputable def vB(kvs:List (κ×V))(k:κ):Option V:=(kvs.find? λkv=>decide (kv.1=k)).map (·.2)
noncomputable def putK(kvs:List (κ×V))(k:κ)(v:V):List (κ×V):=
 if (kvs.any λkv=>decide (kv.1=k))=true then kvs.map (λkv=>if kv.1=k then (kv.1,v) else kv) else kvs++[(k,v)]
theorem nW{k:κ}(e:p.1=k):vB (p::r) k=some p.2:=by simp[vB,List.find?_cons,e]
theorem nY{k:κ}(e:¬p.1=k):vB (p::r) k=vB r k:=by simp[vB,List.find?_cons,e]
theorem nZ(k:κ):∀kvs:List (κ×V),(kvs.any λkv=>decide (kv.1=k))=(vB kvs k).isSome
 |[]=>rfl
 |p::r=>by
  rw[List.any_cons];by_cases e:p.1=k
  ·simp only[nW e,decide_eq_true e,Bool.true_or,Option.isSome_some]
  ·rw[nY e,decide_eq_false e,Bool.false_or];exact nZ k r
theorem m8(kvs:List (κ×V))(k:κ)(v:V):(putK kvs k v).length<=kvs.length+1:=by
 unfold putK;split
 ·rw[List.length_map];lia
 ·rw[List.length_append,List.length_cons,List.length_nil];lia
theorem X6{k:κ}(v:V)(h:vB kvs k=none):putK kvs k v=kvs++[(k,v)]:=by
 unfold putK;rw[nZ,h];exact if_neg (by decide)
theorem QK.lJ(r:QK o u):o.isSome=u.isSome:=by
 cases o with
 |none=>cases u with
  |none=>rfl
  |some _=>exact(show False from r).elim
 |some _=>cases u with
  |none=>exact(show False from r).elim
  |some _=>rfl
theorem QK.getD(r:QK o u)(rd:RelV d d'):RelV (o.getD d) (u.getD d'):=by
 cases o with
 |none=>cases u with
  |none=>exact rd
  |some _=>exact(show False from r).elim
 |some _=>cases u with
  |none=>exact(show False from r).elim
  |some _=>exact r
theorem KV.val(r:KV kvs vs)(k:κ):QK (vB kvs k) (valueAt vs k):=by
 unfold KV at r;induction r with
 |nil=>exact True.intro
 |@cons p q ps qs h t ih=>
  obtain⟨h1,h2⟩:=h;by_cases e:p.1=k
  ·have e':q.1=k:=h1.symm.trans e;have b:valueAt (q::qs) k=some q.2:=by simp[valueAt,List.find?_cons,e']
   rw[nW e,b];exact h2
  ·have e':¬q.1=k:=λz=>e (h1.trans z)
   have b:valueAt (q::qs) k=valueAt qs k:=by simp[valueAt,List.find?_cons,e']
   rw[nY e,b];exact ih
theorem KV.any(r:KV kvs vs)(k:κ):(kvs.any λkv=>decide (kv.1=k))=vs.any λkv=>decide (kv.1=k):=by
 unfold KV at r;induction r with
 |nil=>rfl
 |cons h t ih=>rw[List.any_cons,List.any_cons,ih,h.1]
theorem KV.repl(r:KV kvs vs)(k:κ)(ry:RelV y u) :
  KV (kvs.map λkv=>if kv.1=k then (kv.1,y) else kv) (vs.map λkv=>if kv.1=k then (kv.1,u) else kv):=by
 unfold KV at r ⊢;induction r with
 |nil=>exact .nil
 |@cons p q ps qs h t ih=>
  rw[List.map_cons,List.map_cons];refine .cons ?_ ih;obtain⟨h1,h2⟩:=h;by_cases e:p.1=k
  ·rw[if_pos e,if_pos (h1.symm.trans e)];exact⟨h1,ry⟩
  ·rw[if_neg e,if_neg (λz=>e (h1.trans z))];exact⟨h1,h2⟩
theorem KV.put(r:KV kvs vs)(k:κ)(ry:RelV y u):KV (putK kvs k y) (stored vs k u):=by
 unfold putK stored;rw[r.any k];by_cases e:(vs.any λkv=>decide (kv.1=k))=true
 ·rw[if_pos e,if_pos e];exact r.repl k ry
 ·rw[if_neg e,if_neg e];exact Paired.snoc r ⟨rfl,ry⟩
theorem KV.length(r:KV kvs vs):kvs.length=vs.length:=Paired.length r
end
theorem rD(r:RelV (kV k) u):(bY P w).is k u=true:=by
 cases k with
 |inl i=>obtain⟨t,e⟩:=(show ∃t,u=Value.int i t from r);subst e;exact DP P w i t
 |inr x=>obtain⟨t,e⟩:=(show ∃t,u=Value.str x t from r);subst e;exact DQ P w x t
theorem yW:∀{ks:List Key}{us:List Value},Vals (ks.map kV) us->ItemsAre (bY P w) ks us
 |[],_,r=>by rw[List.map_nil] at r;cases r;exact .nil
 |k::ks,_,r=>by
  rw[List.map_cons] at r;cases r with
  |cons h t=>exact .cons (rD h) (yW t)
abbrev KT(H:Hp):List (List Key×V)->List (List Key×Addr×Value)->Prop:=Paired λp q=>p.1=q.1/\H q.2.1=some (.tup (p.1.map kV))/\RelV p.2 q.2.2
theorem KT.val(r:KT H kvs xs)(k:List Key):QK (vB kvs k) ((atKey xs k).map (·.2)):=by
 induction r with
 |nil=>exact True.intro
 |@cons p q ps qs h t ih=>
  obtain⟨h1,_,h2⟩:=h;by_cases e:p.1=k
  ·have e':q.1=k:=h1.symm.trans e;have b:atKey (q::qs) k=some q.2:=by simp[atKey,List.find?_cons,e']
   rw[nW e,b];exact h2
  ·have e':¬q.1=k:=λz=>e (h1.trans z)
   have b:atKey (q::qs) k=atKey qs k:=by simp[atKey,List.find?_cons,e']
   rw[nY e,b];exact ih
theorem KT.repl(r:KT H kvs xs)(k:List Key)(ry:RelV y u) :
  KT H (kvs.map λkv=>if kv.1=k then (kv.1,y) else kv) (xs.map (putAt k u)):=by
 induction r with
 |nil=>exact .nil
 |@cons p q ps qs h t ih=>
  rw[List.map_cons,List.map_cons];refine .cons ?_ ih;obtain⟨h1,h2,h3⟩:=h;unfold putAt;by_cases e:p.1=k
  ·rw[if_pos e,if_pos (h1.symm.trans e)];exact⟨h1,h2,ry⟩
  ·rw[if_neg e,if_neg (λz=>e (h1.trans z))];exact⟨h1,h2,h3⟩
theorem KT.put(r:KT H kvs xs)(k:List Key)(hb:H b=some (.tup (k.map kV)))(ry:RelV y u) :
  KT H (putK kvs k y) (storedH xs k b u):=by
 have e:(kvs.any λkv=>decide (kv.1=k))=(atKey xs k).isSome:=by
  rw[nZ,(r.val k).lJ,Option.isSome_map]
 unfold putK storedH;rw[e];by_cases q:(atKey xs k).isSome=true
 ·rw[if_pos q,if_pos q];exact r.repl k ry
 ·rw[if_neg q,if_neg q];exact Paired.snoc r ⟨rfl,hb,ry⟩
theorem KT.keeps(r:KT H kvs xs)(ht:∀b ys,H b=some (.tup ys)->H' b=some (.tup ys)):KT H' kvs xs:=
 Paired.aHj r λ_ _ z=>⟨z.1,ht _ _ z.2.1,z.2.2⟩
section
variable {P:Program} {w:World} {H:Hp} {h:Heap} {a:Addr}
theorem aFd(ok:HOk P w H h)(e:Rd H a u):jG P w H h a u:=e.ok ok
theorem EY(ok:HOk P w H h)(e:Rd H a (.dK kvs)):kvs.length<=sizeLine/\(a==sysModules)=false/\∃vs,KV kvs vs/\h.DictOf (bY P w) a vs:=
 show jG P w H h a (.dK kvs) from aFd ok e
theorem NB(ok:HOk P w H h)(e:H a=some (.dK kvs)):kvs.length<=sizeLine/\(a==sysModules)=false/\∃vs,KV kvs vs/\h.DictOf (bY P w) a vs:=EY ok (.inl e)
theorem sG(ok:HOk P w H h)(e:H a=some (.tup (ks.map kV))):(tupleKind (bY P w)).is h ks a:=by
 obtain⟨_,its,r,o,h1,h2,n,h3⟩:=(show jG P w H h a (.tup (ks.map kV)) from ok a _ e)
 exact⟨o,its.toArray,n,h1,h2,congrArg (·.1) h3,by simpa using yW r⟩
theorem E_(ok:HOk P w H h)(e:Rd H a (.dT kvs)):kvs.length<=sizeLine/\(a==sysModules)=false/\
  ∃xs,KT H kvs xs/\h.DictOfH (tupleKind (bY P w)) a xs:=by
 obtain⟨z,y,xs,r,o,es,ep,h1,h2,h3,h4,h5⟩:=(show jG P w H h a (.dT kvs) from aFd ok e)
 refine⟨z,y,xs,r,o,es,ep,h1,h2,h3,h4,λx hx=>?_,h5⟩;have all:∀{l:List (List Key×V)}{m:List (List Key×Addr×Value)},KT H l m->∀x∈m,(tupleKind (bY P w)).is h x.1 x.2.1:=by
  intro l m q;induction q with
  |nil=>intro x hx;exact nomatch hx
  |@cons p q ps qs hq t ih=>
   intro x hx;rcases List.mem_cons.mp hx with e|hx
   ·subst e;exact sG ok (by rw[<-hq.1];exact hq.2.1)
   ·exact ih x hx
 exact all r x hx
theorem aBh(ok:HOk P w H h)(e:H a=some (.dT kvs)):kvs.length<=sizeLine/\(a==sysModules)=false/\
  ∃xs,KT H kvs xs/\h.DictOfH (tupleKind (bY P w)) a xs:=E_ ok (.inl e)
end
def NK(H:Hp)(a:Addr)(y:V)(r:Option V):Prop:=
 (∃kvs k,Rd H a (.dK kvs)/\y=kV k/\r=vB kvs k)\/∃kvs k b,Rd H a (.dT kvs)/\y=.ref b/\H b=some (.tup (k.map kV))/\r=vB kvs k
def aAc(H:Hp)(a:Addr)(y v:V)(H':Hp):Prop:=
 (∃kvs k,H a=some (.dK kvs)/\y=kV k/\kvs.length<sizeLine/\H'=upd H a (.dK (putK kvs k v)))\/
 ∃kvs k b,H a=some (.dT kvs)/\y=.ref b/\H b=some (.tup (k.map kV))/\kvs.length<sizeLine/\H'=upd H a (.dT (putK kvs k v))
theorem NK.k{k:Key}(e:H a=some (.dK kvs)):NK H a (kV k) (vB kvs k):=.inl ⟨kvs,k,.inl e,rfl,rfl⟩
theorem NK.t{k:List Key}(e:H a=some (.dT kvs))(eb:H b=some (.tup (k.map kV))):NK H a (.ref b) (vB kvs k):=.inr ⟨kvs,k,b,.inl e,rfl,eb,rfl⟩
theorem aAc.k{k:Key}{v:V}(e:H a=some (.dK kvs))(hl:kvs.length<sizeLine):aAc H a (kV k) v (upd H a (.dK (putK kvs k v))):=.inl ⟨kvs,k,e,rfl,hl,rfl⟩
theorem aAc.t{H:Hp}{a b:Addr}{kvs:List (List Key×V)}{k:List Key}{v:V}(e:H a=some (.dT kvs))(eb:H b=some (.tup (k.map kV)))(hl:kvs.length<sizeLine) :
  aAc H a (.ref b) v (upd H a (.dT (putK kvs k v))):=.inr ⟨kvs,k,b,e,rfl,eb,hl,rfl⟩
section
variable {X:Cx} {pins:List (Addr×Obj)} {σ:St} {H:Hp} {s:Shared} {a:Addr} {y v:V} {u r:Value} {o:Option V} {A:Around} {E:Value->Shared->Prop}
theorem Inv.big(I:Inv X pins σ H s):sysModules<s.heap.objs.size:=by
 have h:mainGlobals<s.heap.objs.size:=(I.mod.glob.keeps I.bk).lt;exact Nat.lt_trans (by decide) h
theorem RN(hu:A.units+1<cLine)(I:Inv X pins σ H s)(g:NK H a y (some v))(ry:RelV y u)(h:∀w' s',Inv X pins σ H s'->RelV v w'->Q w' s') :
  wpAny (model X.prog X.w) A (getItem (.ref a) u) Q E s:=by
 rcases g with ⟨kvs,k,e,ey,l⟩|⟨kvs,k,b,e,ey,eb,l⟩
 ·subst ey;obtain⟨z,hd,vs,rel,dd⟩:=EY I.hok e;obtain⟨w',hw,rw'⟩:=QK.some_of (v:=v) (o:=valueAt vs k) (by rw[l];exact rel.val k);exact wpAny_getItem_of (rD ry) dd.mapOf hw (h w' _ (I.tok _) rw')
 ·subst ey;cases (show u=Value.ref b from ry);obtain⟨z,hd,xs,rel,dd⟩:=E_ I.hok e;obtain⟨w',hw,rw'⟩:=QK.some_of (v:=v) (o:=(atKey xs k).map (·.2)) (by rw[l];exact rel.val k);obtain⟨p,hp,hp2⟩:=Option.map_eq_some_iff.mp hw;refine wpAny_getItem_heap (tupleKind_room_in1 hu) (sG I.hok eb) dd hp ?_;rw[hp2];exact h w' _ (I.tok _) rw'
theorem aJw(hu:A.units+1<cLine)(I:Inv X pins σ H s)(g:NK H a y o)(ry:RelV y u)(h:∀s',Inv X pins σ H s'->Q (.bool o.isSome) s') :
  wpAny (model X.prog X.w) A (compareOp .In u (.ref a)) Q E s:=by
 rcases g with ⟨kvs,k,e,ey,l⟩|⟨kvs,k,b,e,ey,eb,l⟩
 ·subst ey;obtain⟨z,hd,vs,rel,dd⟩:=EY I.hok e;refine wpAny_in_of (rD ry) hd dd.mapOf ?_;rw[<-(rel.val k).lJ,<-l];exact h _ (I.tok _)
 ·subst ey;cases (show u=Value.ref b from ry);obtain⟨z,hd,xs,rel,dd⟩:=E_ I.hok e;refine wpAny_in_heap (tupleKind_room_in1 hu) (sG I.hok eb) hd dd ?_;have q:=(rel.val k).lJ;rw[Option.isSome_map] at q;rw[<-q,<-l];exact h _ (I.tok _)
theorem aBi(hu:A.units+1<cLine)(I:Inv X pins σ H s)(g:NK H a y o)(ry:RelV y u)(h:∀s',Inv X pins σ H s'->Q (.bool (!o.isSome)) s') :
  wpAny (model X.prog X.w) A (compareOp .NotIn u (.ref a)) Q E s:=by
 rcases g with ⟨kvs,k,e,ey,l⟩|⟨kvs,k,b,e,ey,eb,l⟩
 ·subst ey;obtain⟨z,hd,vs,rel,dd⟩:=EY I.hok e;refine wpAny_notIn_of (rD ry) hd dd.mapOf ?_;rw[<-(rel.val k).lJ,<-l];exact h _ (I.tok _)
 ·subst ey;cases (show u=Value.ref b from ry);obtain⟨z,hd,xs,rel,dd⟩:=E_ I.hok e;refine wpAny_notIn_heap (tupleKind_room_in1 hu) (sG I.hok eb) hd dd ?_;have q:=(rel.val k).lJ;rw[Option.isSome_map] at q;rw[<-q,<-l];exact h _ (I.tok _)
theorem FJ(I:Inv X pins σ H s)(mu:Mut (H a))(hs:Heap.SameBut a s.heap h')(he:∃q,h'.get? a=some q)(new:jG X.prog X.w (upd H a ob) h' a ob) :
  Inv X pins σ (upd H a ob) {s with heap:=h',toks:=t'}:=
 I.write (x:=a) (e:=a) mu (.inl rfl) (λb q hb z=>(hs.2 b hb).trans z) he new
theorem yX(z:kvs.length<=sizeLine)(hd:(a==sysModules)=false)(rel:KV kvs vs)(dd:h'.DictOf (bY P w) a vs) :
  jG P w H' h' a (.dK kvs):=⟨z,hd,vs,rel,dd⟩
theorem RP(hu:A.units+1<cLine)(I:Inv X pins σ H s)(g:aAc H a y v H')(ry:RelV y u)(rv:RelV v r)(h:∀s',Inv X pins σ H' s'->Q () s') :
  wpAny (model X.prog X.w) A (setItem (.ref a) u r) Q E s:=by
 rcases g with ⟨kvs,k,e,ey,l,eH⟩|⟨kvs,k,b,e,ey,eb,l,eH⟩
 ·subst ey eH;obtain⟨z,hd,vs,rel,dd⟩:=NB I.hok e;have hz:vs.length<=sizeLine:=by rw[<-rel.length];exact z
  have hl:(putK kvs k v).length<=sizeLine:=by have:=m8 kvs k v;lia
  refine wpAny_setItem_pairs (hsz:=hz) (rD ry) dd λh' dd' hs=>h _ ?_
  have he:∃q,h'.get? a=some q:=let ⟨q,_,_,hq,_⟩:=dd';⟨q,hq⟩
  exact FJ I (by rw[e];exact True.intro) hs he (yX hl hd (rel.put k rv) dd')
 ·subst ey eH;cases (show u=Value.ref b from ry);obtain⟨z,hd,xs,rel,dd⟩:=aBh I.hok e;have hz:xs.length<=sizeLine:=by rw[<-Paired.length rel];exact z
  have hl:(putK kvs k v).length<=sizeLine:=by have:=m8 kvs k v;lia
  refine wpAny_setItem_heap (hsz:=hz) (tupleKind_room_in1 hu) (sG I.hok eb) dd λh' dd' hs=>h _ ?_
  obtain⟨q,es,ep,hq,h2,h3,h4,_,h5⟩:=dd';refine FJ I (by rw[e];exact True.intro) hs ⟨q,hq⟩ ⟨hl,hd,_,(rel.put k eb rv).keeps λc ys ec=>?_,q,es,ep,hq,h2,h3,h4,h5⟩;rw[bL (aB1 ec e (λz=>nomatch z))];exact ec
end
theorem FN(I:Inv X pins σ H s)(g:NK H a y o):s.TypeIs (.ref a) "dict":=by
 rcases g with ⟨kvs,k,e,_,_⟩|⟨kvs,k,b,e,_,_,_⟩
 ·obtain⟨_,_,vs,_,dd⟩:=EY I.hok e;exact dd.typeIs
 ·obtain⟨_,_,xs,_,dd⟩:=E_ I.hok e;exact dd.typeIs
theorem JR(h:Heap)(hb:sysModules<h.objs.size):jG P w H (h.push {cls:=.type "dict",data:=.dict #[]}) h.objs.size (.dK []):=
 ⟨Nat.zero_le _,beq_eq_false_iff_ne.mpr (Ne.symm (Nat.ne_of_lt hb)),[],.nil,Heap.DictOf.new h⟩
def aFe:TE:=λ_ H Q=>∀p,H p=none->Q (.ref p) (upd H p (.dK []))
section
variable {X:Cx} {pos:Pos}
theorem X7:PE X (.Dict [] [] pos) aFe:=λpins s σ H Q I h=>
 wpAny_Dict_empty ⟨.ref s.heap.objs.size,_,I.laid (a:=s.heap.objs.size) (o:=.dK []) (t':=s.toks) (λ_ _ q=>Heap.get?_push_of_some _ q) (Nat.le_refl _) (JR s.heap I.big),rfl,h _ (I.hok.fresh (Nat.le_refl _))⟩
end
def RQ:List (TE×TE)->St->Hp->(List (V×V)->Hp->Prop)->Prop
 |[],_,H,Q=>Q [] H
 | (tk,tv)::r,σ,H,Q=>tk σ H λx H1=>tv σ H1 λy H2=>RQ r σ H2 λps H3=>Q ((x,y)::ps) H3
abbrev VV:List (V×V)->List (Value×Value)->Prop:=Paired λp q=>RelV p.1 q.1/\RelV p.2 q.2
def PPs(X:Cx)(pos:Pos)(keys:List (Option Expr))(values:List Expr)(trs:List (TE×TE)):Prop:=
 ∀(pins:List (Addr×Obj))(s:Shared)(σ:St)(H:Hp)(Q:List (V×V)->Hp->Prop),Inv X pins σ H s->RQ trs σ H Q->
  wpAny (model X.prog X.w) X.A (evalPairs (pairTrees keys values X.env pos)) (λvs s'=>∃ps H',Inv X pins σ H' s'/\VV ps vs/\Q ps H') X.xe s
theorem aBj:PPs X pos [] [] []:=λpins s σ H Q I h=>pairTrees_nil_walk ⟨[],H,I,.nil,h⟩
theorem JS(hk:PE X k tk)(hv:PE X v tv)(hr:PPs X pos ks vs trs) :
  PPs X pos (some k::ks) (v::vs) ((tk,tv)::trs):=λpins s σ H Q I h=>
 pairTrees_cons_walk (thn (hk pins s σ H _ I h) λu s1 ⟨x,H1,I1,rx,q1⟩=>thn (hv pins s1 σ H1 _ I1 q1) λw2 s2 ⟨y,H2,I2,ry,q2⟩=>
  thn (hr pins s2 σ H2 _ I2 q2) λws s3 ⟨ps,H3,I3,rel,q3⟩=>⟨(x,y)::ps,H3,I3,.cons ⟨rx,ry⟩ rel,q3⟩)
def cN(kvs more:List (Key×V)):List (Key×V):=more.foldl (λacc kv=>putK acc kv.1 kv.2) kvs
theorem KV.merge:∀{more:List (Key×V)}{rs:List (Key×Value)}{kvs:List (Key×V)}{vs:List (Key×Value)},KV more rs->KV kvs vs->KV (cN kvs more) (merged vs rs):=by
 intro more rs kvs vs r;unfold KV at r;induction r generalizing kvs vs with
 |nil=>intro q;exact q
 |@cons p q ps qs h t ih=>
  intro r0;have e:KV (putK kvs p.1 p.2) (stored vs q.1 q.2):=by
   have:=r0.put p.1 h.2;rw[<-h.1];exact this
  exact ih e
theorem fG:∀(more kvs:List (Key×V)),(cN kvs more).length<=kvs.length+more.length
 |[],kvs=>by show kvs.length<=kvs.length+0;lia
 |p::r,kvs=>by
  have h1:=fG r (putK kvs p.1 p.2);have h2:=m8 kvs p.1 p.2;show(cN (putK kvs p.1 p.2) r).length<=_;rw[List.length_cons];lia
theorem vC:∀{kvs:List (Key×V)}{ws:List (Value×Value)},VV (kvs.map λkv=>(kV kv.1,kv.2)) ws->∃rs,Carries (bY P w) ws rs/\KV kvs rs
 |[],_,r=>by rw[List.map_nil] at r;cases r;exact⟨[],True.intro,.nil⟩
 |p::kvs,_,r=>by
  rw[List.map_cons] at r;cases r with
  |@cons a b as bs h t=>
   obtain⟨rs,c,q⟩:=vC (P:=P) (w:=w) t;obtain⟨b1,b2⟩:=b;exact⟨(p.1,b2)::rs,⟨rD h.1,rfl,c⟩,.cons ⟨rfl,h.2⟩ q⟩
def aI2(trs:List (TE×TE)):TE:=λσ H Q=>∀p,H p=none->RQ trs σ (upd H p (.dK [])) λps H2=>H2 p=some (.dK [])/\∃kvs:List (Key×V),ps=kvs.map (λkv=>(kV kv.1,kv.2))/\kvs.length<=15/\Q (.ref p) (upd H2 p (.dK (cN [] kvs)))
theorem aBk(h:PPs X pos keys values trs)(hall:keys.all (·.isSome)=true)(hl:keys.length=values.length)(h0:keys≠[])
 (h15:keys.length<=15):PE X (.Dict keys values pos) (aI2 trs):=by
 intro pins s σ H Q I q;have hn:=I.hok.fresh (Nat.le_refl s.heap.objs.size);have I1:=I.laid (a:=s.heap.objs.size) (o:=.dK []) (h':=s.heap.push {cls:=.type "dict",data:=.dict #[]}) (t':=s.toks) (λ_ _ q=>Heap.get?_push_of_some _ q) (Nat.le_refl _) (JR s.heap I.big);refine wpAny_Dict_walk (knd:=bY X.prog X.w) hall hl h0 h15 (thn (h pins _ σ _ _ I1 (q _ hn)) λws s2 ⟨ps,H2,I2,rel,e,kvs,ep,lk,q2⟩=>?_);subst ep;obtain⟨rs,c,rk⟩:=vC (P:=X.prog) (w:=X.w) rel;obtain⟨z,hd,vs0,r0,dd⟩:=NB I2.hok e;cases r0;refine⟨rs,c,dd,λh' dd' hs=>⟨.ref s.heap.objs.size,_,?_,rfl,q2⟩⟩;have hz:(cN [] kvs).length<=sizeLine:=by
  have h1:=fG kvs [];rw[List.length_nil] at h1;rw[sizeLine_eq];lia
 have he:∃q,h'.get? s.heap.objs.size=some q:=let ⟨q,_,_,hq,_⟩:=dd';⟨q,hq⟩
 exact FJ I2 (by rw[e];exact True.intro) hs he (yX hz hd (rk.merge .nil) dd')
section
variable {X:Cx} {pins:List (Addr×Obj)} {σ:St} {H:Hp} {s:Shared} {a:Addr} {y d:V} {u r:Value} {o:Option V} {A:Around} {E:Value->Shared->Prop}
theorem aFf(hu:A.units+1<cLine)(I:Inv X pins σ H s)(g:NK H a y o)(ry:RelV y u)(h:∀w' s',Inv X pins σ H s'->RelV (o.getD .non) w'->Q w' s') :
  wpAny (model X.prog X.w) A (call (.builtin "dict.get") [.ref a,u]) Q E s:=by
 rcases g with ⟨kvs,k,e,ey,l⟩|⟨kvs,k,b,e,ey,eb,l⟩
 ·subst ey;obtain⟨z,hd,vs,rel,dd⟩:=EY I.hok e;refine call_meetsIn PySem.F.slot_dict_get dd.typeIs PySem.F.entry_dict_get (PySem.F.args_dict_get_2 _ _) (meets_dict_get (bY X.prog X.w) a (rD ry) hd) ⟨_,dd.mapOf,h _ _ (I.tok _) ?_⟩;rw[l];exact(rel.val k).getD rfl
 ·subst ey;cases (show u=Value.ref b from ry);obtain⟨z,hd,xs,rel,dd⟩:=E_ I.hok e;refine call_meetsIn PySem.F.slot_dict_get dd.typeIs PySem.F.entry_dict_get (PySem.F.args_dict_get_2 _ _) (meetsH_dict_get (tupleKind (bY X.prog X.w)) a b hd) ⟨tupleKind_room_in1 hu,k,xs,sG I.hok eb,dd,h _ _ (I.tok _) ?_⟩;rw[l];exact(rel.val k).getD rfl
theorem aFg(hu:A.units+1<cLine)(I:Inv X pins σ H s)(g:NK H a y o)(ry:RelV y u)(rd:RelV d r)(h:∀w' s',Inv X pins σ H s'->RelV (o.getD d) w'->Q w' s') :
  wpAny (model X.prog X.w) A (call (.builtin "dict.get") [.ref a,u,r]) Q E s:=by
 rcases g with ⟨kvs,k,e,ey,l⟩|⟨kvs,k,b,e,ey,eb,l⟩
 ·subst ey;obtain⟨z,hd,vs,rel,dd⟩:=EY I.hok e;refine call_meetsIn PySem.F.slot_dict_get dd.typeIs PySem.F.entry_dict_get (PySem.F.args_dict_get_3 _ _ _) (meets_dict_get_default (bY X.prog X.w) a (rD ry) hd r) ⟨_,dd.mapOf,h _ _ (I.tok _) ?_⟩;rw[l];exact(rel.val k).getD rd
 ·subst ey;cases (show u=Value.ref b from ry);obtain⟨z,hd,xs,rel,dd⟩:=E_ I.hok e;refine call_meetsIn PySem.F.slot_dict_get dd.typeIs PySem.F.entry_dict_get (PySem.F.args_dict_get_3 _ _ _) (meetsH_dict_get_default (tupleKind (bY X.prog X.w)) a b hd r) ⟨tupleKind_room_in1 hu,k,xs,sG I.hok eb,dd,h _ _ (I.tok _) ?_⟩;rw[l];exact(rel.val k).getD rd
end
end L2
namespace Att
open PySem PySem.W PySem.Calls PyProof.Rows
theorem sI:∀(ns:List Int)(vs:List Value),WellAll P h vs (ns.map WData.int)->IntsAre vs ns:=by
 intro ns;induction ns with
 |nil=>
  intro vs w;rw[List.map_nil] at w;cases w;exact .nil
 |cons n ns ih=>
  intro vs w;rw[List.map_cons] at w;cases w with
  |cons a b=>
   cases a;exact .cons _ _ (ih _ b)
theorem RT{l:OpenLaw}(hn:l.most=some n)
 (hpre:l.row.toRowW.claim.pre args=true)(hwl:WellAll P h vals args) :
  ∃a vs ns,vals=[Value.ref a]/\args=[WData.list (ns.map WData.int)]/\h.get? a=some {cls:=.type "list",data:=.seq vs.toArray}/\IntsAre vs ns/\ns.length<=n:=by
 have hsh:WShape.hasAll [] args [.list .int]=true:=(pre_splitW hpre).1;have hc:l.pre.holds [] {args:=args}=true:=(pre_splitW hpre).2;obtain⟨d,r,rfl,h1,h2⟩:=hasAllW_cons hsh;obtain rfl:=hasAllW_nil h2;obtain⟨xs,rfl,h3⟩:=hasW_list h1;obtain⟨ns,rfl⟩:=items_int h3;have hlen:ns.length<=n:=by
  unfold OpenLaw.pre at hc;have h4:(WTm.not (.lt (.lit (.int (n:Int))) (.len (.arg 0)))).holds [] {args:=[.list (ns.map .int)]}=true:=by
   have h4:=(holds_andW hc).1;rw[hn] at h4;exact h4
  have h5:=condW_of h4 (w_not (w_lt w_lit (w_len_list (w_arg rfl))));rw[List.length_map] at h5;refine Nat.le_of_not_lt λq=>?_
  have q':(n:Int)<((ns.length:Nat):Int):=by lia
  first
   | (rw[decide_eq_true q'] at h5;exact absurd h5 (by decide))
   | (simp at h5;lia)
 cases hwl with
 |cons w1 w2=>
  cases w2;cases w1 with
  |list ho hall=>exact⟨_,_,ns,rfl,rfl,ho,sI ns _ hall,hlen⟩
theorem RV(l:OpenLaw)(args:List WData):l.row.toRowW.claim.post args (.bool true) args=true:=
 postW_of (r:=l.row.toRowW) (X:=(true==true))
  (show WShape.has [] (.bool true) .bool=true by first|rfl|decide|simp[WShape.has,WShape.arms,WShape.armsAll])
  (show(WTm.eq .res (.lit (.bool true))).value [] {args:=args,res:=some (.bool true),after:=args}=some (.bool (true==true)) from w_eq_bool (w_res rfl) w_lit) rfl
theorem FP{l:OpenLaw}{n:Nat}{q:Program}{loose:List Str}{XP:(Str->Option Value)->Heap->Prop}{YP:World->Heap->Prop}{d:DefRec}
 (hn:l.most=some n)(hdf:d.params.defaults=[])
 (call:∀(w:World) (s₀ s₁:Shared) (mg mb:Str->Option Value) (fa:Addr) (o:Obj) (pm cd doc:Value) (a:Addr) (vs:List Value) (ns:List Int),
   Ground q loose [] XP w s₀ mg mb s₁.heap->YP w s₁.heap->
   s₁.heap.get? fa=some o->o.data=.func (docDef d.name d.params d.body d.scope pm cd doc)->s₁.heap.CodeRec cd d.name->mg d.name=some (.ref fa)->
   s₁.heap.get? a=some {cls:=.type "list",data:=.seq vs.toArray}->IntsAre vs ns->ns.length<=n->s₁.gens=#[]->
   codeAny (model l.prog w) callerA (.call (.ref fa) ⟨[.ref a],[]⟩) (λr s'=>r=.ok (.ret (.bool true))/\OldK s₁.heap s'.heap/\s'.os=s₁.os/\AllBare s'.gens) s₁) :
  WalkO q loose XP YP l.row.toRowW d [] (λf vs=>PySem.call f vs):=by
 intro w s₀ s₁ mg mb G Y fa o pm cd doc dV kV ho hd hcd hD hmg hg args vals as hpre hlay hrd hwl hlo;obtain rfl:dV=.none:=Dflts.none hD hdf;obtain rfl:kV=.none:=Dflts.noKw hD;obtain⟨a,vs,ns,rfl,rfl,hobj,hints,hlen⟩:=RT hn hpre hwl;refine enter_call (codeAny_mono (call w s₀ s₁ mg mb fa o pm cd doc a vs ns G Y ho (fd_plain hd) hcd hmg hobj hints hlen hg) λr s' hq=>?_);obtain⟨rfl,h2,h3,h4⟩:=hq;exact⟨.inl ⟨.bool true,.bool true,[],rfl,λ_=>rfl,.bool true,RV l _,λ_=>⟨List.Pairwise.nil,λ_ hm=>(nomatch hm)⟩⟩,h2,h3,h4⟩
end Att
namespace L2
open PySem PySem.Spec PyProof.Rows
theorem yZ:∀{vs:List Value}{ns:List Int},IntsAre vs ns->Vals (ns.map V.int) vs
 |_,_,.nil=>.nil
 |_,_,.cons n t h=>.cons ⟨t,rfl⟩ (yZ h)
def Only(H:Hp):Prop:=∀b,H b=none\/∃o xs,H b=some (.frz o (.lst xs))
theorem X8{w:World}{K:PySem.W.Frag}{mg mb:Str->Option Value}{CX:CXT}{k:Nat}{fa a:Addr}{fd:FuncData}{x:Str}{sp:Sp}{s₁:Shared}{vs:List Value}{ns:List Int}
 (KX:K.In s₁.heap)(hns:s₁.heap.Ns mainGlobals mg)(hb:s₁.heap.Ns builtinsNs mb)(hbb:∀x:Str,x ≠ "__name__"->mb x=bootBuiltins x)(hlim:s₁.heap.NoLimit)(hg:s₁.gens=#[])
 (ha:s₁.heap.get? a=some {cls:=.type "list",data:=.seq vs.toArray})(hi:IntsAre vs ns)(hl:ns.length<=sizeLine)(hr:rH k callerA)
 (F:∀base:Heap,K.In base->base.Ns mainGlobals mg->DX P w K mg base CX k fa fd [x] sp)(hbind:∀(s:Shared) (u:Value),BindsTo s fd ⟨[u],[]⟩ [(x,u)])
 (hsp:∀H:Hp,Only H->SqL K H a (ns.map V.int)->sp [.ref a] H (λv _=>v=.bl true) λ_ _ _=>False)
 (hCX:∀H e s',CX [] H s₁ (λ_ _ _=>False) e s'->False) :
  codeAny (model P w) callerA (.call (.ref fa) ⟨[.ref a],[]⟩) (λr s'=>r=.ok (.ret (.bool true))/\OldK s₁.heap s'.heap/\s'.os=s₁.os/\AllBare s'.gens) s₁:=by
 have rv:=yZ hi;have lenV:=hi.length
 -- from an abstract heap in which nothing but the script may be tracked
 have core:∀H:Hp,Only H->SqL K H a (ns.map V.int)->HOk P w H s₁.heap->(∀b,H b≠none->b=a)->(H a≠none->K.lookup a=none)->
   codeAny (model P w) callerA (.call (.ref fa) ⟨[.ref a],[]⟩) (λr s'=>r=.ok (.ret (.bool true))/\OldK s₁.heap s'.heap/\s'.os=s₁.os/\AllBare s'.gens) s₁:=by
  intro H hO hS hok hA hK;have base_of:∀{b:Addr}{o:Obj},s₁.heap.get? b=some o->H b=none->(XJ s₁.heap H).get? b=some o:=λe n=>XM e n
  have noA:∀{b:Addr}{o:Obj}{es:Array DictEntry}{ep:Nat},s₁.heap.get? b=some o->o.data=.dict es ep->H b=none:=λ{b o es ep} e d=>by
   cases q:H b with
   |none=>rfl
   |some u=>
    have e':b=a:=hA b (by rw[q];simp);subst e';rw[ha] at e;cases e;have d':Data.seq vs.toArray _=Data.dict es ep:=d;cases d'
  have nsK:∀{b:Addr}{m:Str->Option Value},s₁.heap.Ns b m->(XJ s₁.heap H).Ns b m:=λ{b m} ⟨o,es,ep,e,d,r⟩=>⟨o,es,ep,base_of e (noA e d),d,r⟩
  have hKb:K.In (XJ s₁.heap H):=λb o e=>base_of (KX b o e) (by
   cases q:H b with
   |none=>rfl
   |some u=>
    have e':b=a:=hA b (by rw[q];simp);subst e';rw[hK (by rw[q];simp)] at e;cases e)
  have hM:Mod K mg (XJ s₁.heap H):=⟨hKb,nsK hns,⟨mb,nsK hb,hbb⟩,let ⟨mc,h1,h2⟩:=hlim;⟨mc,nsK h1,h2⟩⟩
  have e0:aHb P w K mg (XJ s₁.heap H) callerA [] s₁ H:=⟨rfl,hM,λb o e=>aB2 e,Nat.le_of_eq (QV _ _),trivial,λb hb=>absurd (show b∈([]:List Addr) from hb) (by simp),hok,.of_eq hg⟩
  refine codeAny_mono ((F _ hKb (nsK hns)).run callerA [] s₁ H ⟨[.ref a],[]⟩ [.ref a] [.ref a] _ _ hr e0 (hbind s₁ (.ref a)) (.cons rfl .nil) (hsp H hO hS)) λr s' h=>?_
  cases r with
  |error e=>exact(hCX H e s' h).elim
  |ok fl=>
   cases fl with
   |next=>exact False.elim h
   |brk=>exact False.elim h
   |cont=>exact False.elim h
   |ret u=>
    obtain⟨v,H',os,bare,un,hok',r',q⟩:=h;have q':v=.bl true:=q;subst q';obtain rfl:u=Value.bool true:=r';refine⟨rfl,OldK.of_keep λb o e=>?_,os,bare⟩;cases q:H b with
    |none=>exact un.keep b o e q (by intro z;exact absurd (show b∈([]:List Addr) from z) (by simp)) (by simp)
    |some u=>
     rcases hO b with z|⟨ob,xs,z⟩
     ·rw[q] at z;cases z
     ·have z2:=un.frzs b ob _ z;obtain⟨e1,_⟩:=hok b _ z;obtain⟨e2,_⟩:=hok' b _ z2;rw[e] at e1;cases e1;exact e2
 cases hk:K.lookup a with
 |some o=>
  -- the script is one of the module's own objects
  have e:=KX a o hk;rw[ha] at e;cases e;refine core (λ_=>none) (λ_=>.inl rfl) (.inr ⟨_,vs.toArray,_,hk,rfl,rfl,rfl,by rw[List.size_toArray,lenV];exact hl,by simpa using rv⟩) (λb u z=>by have z':(none:Option HO)=some u:=z;cases z') (λb z=>absurd rfl z) λz=>absurd rfl z
 |none=>
  refine core (λb=>if b=a then some (.frz {cls:=.type "list",data:=.seq vs.toArray} (.lst (ns.map V.int))) else none) (λb=>?_) (.inl (.inr ⟨{cls:=.type "list",data:=.seq vs.toArray},if_pos rfl⟩)) (λb u z=>?_) (λb z=>?_) λ_=>hk
  ·by_cases hb:b=a
   ·exact .inr ⟨_,_,if_pos hb⟩
   ·exact .inl (if_neg hb)
  ·by_cases hb:b=a
   ·have z':=(if_pos hb).symm.trans z;cases z';subst hb;exact⟨ha,by rw[List.length_map];exact hl,vs,_,rv,ha⟩
   ·have z':=(if_neg hb).symm.trans z;cases z'
  ·by_cases hb:b=a
   ·exact hb
   ·exact absurd (if_neg hb) z
theorem aBl{l:PySem.W.OpenLaw}{n k:Nat}{q:Program}{loose:List Str}{XP:(Str->Option Value)->Heap->Prop}{YP:World->Heap->Prop}{d:DefRec}{K:Params->PySem.W.Frag}{CX:World->CXT}{sp:World->Sp}{x:Str}
 (hn:l.most=some n)(hn2:n<=sizeLine)(hdf:d.params.defaults=[])(hr:rH k callerA)
 (hY:∀(w:World) (h:Heap),YP w h->(K w.params).In h)
 (F:∀(w:World) (mg:Str->Option Value) (fa:Addr) (h:Heap),(K w.params).In h->h.Ns mainGlobals mg->mg d.name=some (.ref fa)->
   ∃fd:FuncData,(∀(s:Shared) (u:Value),BindsTo s fd ⟨[u],[]⟩ [(x,u)])/\
    ∀base:Heap,(K w.params).In base->base.Ns mainGlobals mg->DX l.prog w (K w.params) mg base (CX w) k fa fd [x] (sp w))
 (hsp:∀(w:World) (H:Hp) (a:Addr) (ns:List Int),ns.length<=n->Only H->SqL (K w.params) H a (ns.map V.int)->sp w [.ref a] H (λv _=>v=.bl true) λ_ _ _=>False)
 (hCX:∀(w:World) (H:Hp) (s:Shared) (e:Value) (s':Shared),CX w [] H s (λ_ _ _=>False) e s'->False) :
  PySem.W.WalkO q loose XP YP l.row.toRowW d [] (λf vs=>PySem.call f vs):=by
 refine Att.FP hn hdf λw s₀ s₁ mg mb fa o pm cd doc a vs ns G Y ho hd hcd hmg hobj hints hlen hg=>?_
 have KX:=hY w _ Y;obtain⟨fd,hb,hF⟩:=F w mg fa _ KX G.T.g hmg;exact X8 KX G.T.g G.T.b G.T.builtins G.T.nolimit hg hobj hints (Nat.le_trans hlen hn2) hr hF hb (λH hO hS=>hsp w H a ns hlen hO hS) λH e s'=>hCX w H s₁ e s'
noncomputable def jZ(s:Stmt):Arguments:=match s with
 |.FunctionDef _ a _ _ _ _ _ _ _ _=>a
 |_=>{posonlyargs:=[],args:=[],vararg:=none,kwonlyargs:=[],kw_defaults:=[],kwarg:=none,defaults:=[]}
noncomputable def fU(s:Stmt):List Stmt:=match s with
 |.FunctionDef _ _ b _ _ _ _ _ _ _=>b
 |_=>[]
noncomputable def aQ(s:Stmt):Scope:=match s with
 |.FunctionDef _ _ _ _ _ _ sc _ _ _=>sc
 |_=>{kind:=.function,names:=[],isGenerator:=false,isCoroutine:=false}
noncomputable abbrev CX0:CXT:=λ_ _ _ _ _ _=>False
noncomputable abbrev E0:XK:=λ_ _ _=>False
theorem aFh:RB CX0 X E0:=λ_ _ _ _ _ _ _ h=>h.elim
structure Fun(K:PySem.W.Frag)(x qual:Str)(st:Stmt)(f:Addr)(fd:FuncData):Prop where
 ex:∃(oc:Value)(od:Option Addr)(kV doc pm:Value)(an:Option Addr)(cdv ct:Value)(osl:Array (Option Value)),
  fd=PySem.W.fnOf x qual (jZ st) (fU st) (aQ st) .none kV doc pm an cdv ct/\K.lookup f=some ⟨oc,od,.func fd,osl⟩/\PySem.W.codeIn K cdv qual=true
 kp:PySem.W.keepIn K (.ref f)=true
section
variable {P:Program} {w:World} {K:PySem.W.Frag} {mg:Str->Option Value} {base:Heap}
theorem Fun.ok{st:Stmt}{f:Addr}{fd:FuncData}{N ps:List Str}{k:Nat}{sp:Sp}(F:Fun K x qual st f fd)(S:cF N ps (aQ st))(len:∀vs H Q E,sp vs H Q E->vs.length=ps.length)
 (hbody:∀(cdv:Value) (A:Around) (outer:List Env) (s:Shared) (H:Hp) (vs:List V) (Q:VK) (E:XK),rH k (A.deeper (envOfC qual (aQ st) s.heap.objs.size f cdv))->sp vs H Q E->
   ∃t,PSs (XX CX0 P w K mg base N qual (aQ st) f cdv A outer s H E).nox (fU st) t/\t {nx:=λ_ H'=>Q .non H',rt:=Q} (start N vs) H):DX P w K mg base CX0 (k+1) f fd ps sp:=by
 obtain⟨oc,od,kV,doc,pm,an,cdv,ct,osl,rfl,lk,hcd⟩:=F.ex;refine aF3 lk hcd S len λA outer s H vs Q E hr hsp=>?_
 obtain⟨t,h,q⟩:=hbody cdv A outer s H vs Q E hr hsp;exact⟨t,h.nox,q⟩
theorem Fun.binds{st:Stmt}(F:Fun K x qual st f fd)
 (h:∀(kV doc pm:Value) (an:Option Addr) (cdv ct:Value) (us:List Value),us.length=ps.length->bindArgs (PySem.W.fnOf x qual (jZ st) (fU st) (aQ st) .none kV doc pm an cdv ct) ⟨us,[]⟩=pure (ps.zip us)):Binds K fd ps []:=by
 obtain⟨oc,od,kV,doc,pm,an,cdv,ct,osl,rfl,lk,hcd⟩:=F.ex;exact .all (h kV doc pm an cdv ct)
theorem aAd{st:Stmt}{f:Addr}{oc:Value}{od an:Option Addr}{osl:Array (Option Value)}{kV doc pm cdv ct:Value}(l:K.lookup f=some ⟨oc,od,.func (PySem.W.fnOf x qual (jZ st) (fU st) (aQ st) .none kV doc pm an cdv ct),osl⟩)
 (c:PySem.W.codeIn K cdv qual=true)(k:PySem.W.keepIn K (.ref f)=true):Fun K x qual st f (PySem.W.fnOf x qual (jZ st) (fU st) (aQ st) .none kV doc pm an cdv ct):=⟨⟨oc,od,kV,doc,pm,an,cdv,ct,osl,rfl,l,c⟩,k⟩
end
def cL(H H':Hp):Prop:=∀b o,H b=some o->H' b=some o
theorem cL.refl(H:Hp):cL H H:=λ_ _ h=>h
theorem cL.trans(a:cL H H1)(b:cL H1 H2):cL H H2:=λc o h=>b c o (a c o h)
theorem cL.free(e:cL H H')(h:H' l=Option.none):H l=Option.none:=by
 cases q:H l with
 |none=>rfl
 |some o=>
  rw[e l o q] at h;cases h
section
variable {κ:Type} [DecidableEq κ]
theorem X_{k:κ}(h:vB kvs k=none):¬k∈kvs.map (·.1):=by
 intro m;obtain⟨p,hp,e⟩:=List.mem_map.mp m;have q:(kvs.any λkv=>decide (kv.1=k))=true:=List.any_eq_true.mpr ⟨p,hp,decide_eq_true e⟩;rw[nZ,h] at q;exact absurd q (by simp)
theorem RW:∀{l:List κ}{k:κ},l.Nodup->¬k∈l->(l++[k]).Nodup
 |[],k,_,_=>by simp
 |a::r,k,h,hk=>by
  obtain⟨h1,h2⟩:=List.nodup_cons.mp h;show(a::(r++[k])).Nodup;refine List.nodup_cons.mpr ⟨λm=>?_,RW h2 λm=>hk (List.mem_cons.mpr (Or.inr m))⟩;rcases List.mem_append.mp m with q|q
  ·exact h1 q
  ·exact hk (List.mem_cons.mpr (Or.inl (List.mem_singleton.mp q).symm))
theorem aBm{k:κ}(v:V)(hn:(kvs.map (·.1)).Nodup)(h:vB kvs k=none):((putK kvs k v).map (·.1)).Nodup:=by
 rw[X6 v h,List.map_append];exact RW hn (X_ h)
end
end L2
namespace TS
open PySem PyProof.Rows
noncomputable def RX:Bool->Keyed->Array Keyed->Nat->Nat->Nat->StateT SortSt Sem (Option Nat):=sortPriv% PySem.Builtin.gallop
noncomputable def vZ:Nat->StateT SortSt Sem Unit:=sortPriv% PySem.Builtin.setMinGallop
noncomputable def YB:Array Keyed->Array Keyed->StateT SortSt Sem (Array Keyed):=sortPriv% PySem.Builtin.mergeLo
noncomputable def YC:Array Keyed->Array Keyed->StateT SortSt Sem (Array Keyed):=sortPriv% PySem.Builtin.mergeHi
noncomputable def FQ(left:Bool)(key:Keyed)(arr:Array Keyed)(base i:Nat):StateT SortSt Sem (Option Bool):=
 elem' arr (base+i) >>= λx=>if left=true then lt' x key else lt' key x >>= λr=>pure (Option.map (λb=>!b) r)
theorem iM{st:SortSt}{Q:Unit->SortSt->Prop}
 (h:Q () (SortSt.mk' (kindOf st) (arrOf st) (pendingOf st) g (failedOf st))):wpS (model prog w) A E s (vZ g) Q st:=wpS_modify h
section
variable {prog:Program} {w:World} {A:Around} {E:Value->Shared->Prop} {s:Shared}
theorem NP{st:SortSt}{Q:Option Nat->SortSt->Prop}(p:Nat->Bool)
 (hp:∀i (R:Option Bool->SortSt->Prop),i<n->R (some (p i)) st->wpS (model prog w) A E s (FQ left key arr base i) R st)
 (hm:∀i j,i<=j->j<n->p j=true->p i=true)(hh:hint<n)
 (h:∀k,k<=n->(∀i,i<k->p i=true)->(∀i,k<=i->i<n->p i=false)->Q (some k) st) :
  wpS (model prog w) A E s (RX left key arr base n hint) Q st:=by
 with_unfolding_all refine wpS_bind (hp _ _ hh ?_)
 dsimp only;cases hr:p hint with
 |true=>
  simp only[if_true];refine wpS_bind (wpS_mono (wpS_forRange
   (I:=λx c st'=>st'=st/\∃l o,c=(none,l,o)/\l<o/\x+1<=o/\hint+l<n/\p (hint+l)=true)
   (Q:=λc st'=>st'=st/\∃l o,c=(none,l,o)/\l<o/\hint+l<n/\p (hint+l)=true/\(n-hint<=o\/(hint+o<n/\p (hint+o)=false))) ?step ?fin ?init) ?post)
  case init=>exact⟨rfl,0,1,rfl,by lia,by lia,hh,hr⟩
  case fin=>
   rintro c st' ⟨rfl,l,o,rfl,a1,a2,a3,a4⟩;exact⟨rfl,l,o,rfl,a1,a3,a4,.inl (by lia)⟩
  case step=>
   rintro x c st' _ hx ⟨rfl,l,o,rfl,a1,a2,a3,a4⟩;dsimp only;by_cases hge:o >= n-hint
   ·rw[if_pos hge];exact wpS_pure ⟨rfl,l,o,rfl,a1,a3,a4,.inl hge⟩
   ·rw[if_neg hge];refine wpS_bind (hp _ _ (by lia) ?_);dsimp only;cases hb:p (hint+o) with
    |true=>
     simp only[Bool.not_true,Bool.false_eq_true,if_false];exact wpS_pure ⟨rfl,_,_,rfl,by lia,by lia,by lia,hb⟩
    |false=>
     simp only[Bool.not_false,if_true];exact wpS_pure ⟨rfl,_,_,rfl,a1,a3,a4,.inr ⟨by lia,hb⟩⟩
  case post=>
   rintro c st₀ ⟨rfl,l,o,rfl,a1,a3,a4,a5⟩;dsimp only;have H1:∀i,i<hint+l+1->p i=true:=λi hi=>hm i (hint+l) (by lia) a3 a4
   have H2:∀i,hint+min o (n-hint)<=i->i<n->p i=false:=by
    intro i i1 i2;rcases a5 with a5|⟨a5,a6⟩
    ·lia
    ·cases hq:p i with
     |false=>rfl
     |true=>rw[hm (hint+o) i (by lia) i2 hq] at a6;cases a6
   refine wpS_bind (wpS_mono (wpS_forRange
    (I:=λx c st'=>st'=st₀/\∃l r,c=(none,l,r)/\l<=r/\r<=n/\r-l<=n-x/\(∀i,i<l->p i=true)/\(∀i,r<=i->i<n->p i=false))
    (Q:=λc st'=>st'=st₀/\∃l r,c=(none,l,r)/\l=r/\r<=n/\(∀i,i<l->p i=true)/\(∀i,r<=i->i<n->p i=false)) ?step2 ?fin2 ?init2) ?post2)
   case init2=>exact⟨rfl,_,_,rfl,by lia,by lia,by lia,H1,H2⟩
   case fin2=>
    rintro c st' ⟨rfl,l,r,rfl,a1,a2,a3,a4,a5⟩;exact⟨rfl,l,r,rfl,by lia,a2,a4,a5⟩
   case step2=>
    rintro x c st' _ hx ⟨rfl,l,r,rfl,a1,a2,a3,a4,a5⟩;dsimp only;by_cases hge:l >= r
    ·rw[if_pos hge];exact wpS_pure ⟨rfl,l,r,rfl,by lia,a2,a4,a5⟩
    ·rw[if_neg hge];refine wpS_bind (hp _ _ (by lia) ?_);dsimp only;cases hb:p (l+(r-l) / 2) with
     |true=>
      simp only[if_true];exact wpS_pure ⟨rfl,_,_,rfl,by lia,a2,by lia,λi hi=>hm i _ (by lia) (by lia) hb,a5⟩
     |false=>
      simp only[Bool.false_eq_true,if_false];refine wpS_pure ⟨rfl,_,_,rfl,by lia,by lia,by lia,a4,λi i1 i2=>?_⟩;cases hq:p i with
      |false=>rfl
      |true=>rw[hm _ i i1 i2 hq] at hb;cases hb
   case post2=>
    rintro c st' ⟨rfl,l,r,rfl,rfl,a2,a4,a5⟩;exact wpS_pure (h l a2 a4 a5)
 |false=>
  simp only[Bool.false_eq_true,if_false];refine wpS_bind (wpS_mono (wpS_forRange
   (I:=λx c st'=>st'=st/\∃l o,c=(none,l,o)/\l<o/\x+1<=o/\l<=hint/\p (hint-l)=false)
   (Q:=λc st'=>st'=st/\∃l o,c=(none,l,o)/\l<o/\l<=hint/\p (hint-l)=false/\(hint+1<=o\/(o<=hint/\p (hint-o)=true))) ?step ?fin ?init) ?post)
  case init=>exact⟨rfl,0,1,rfl,by lia,by lia,by lia,hr⟩
  case fin=>
   rintro c st' ⟨rfl,l,o,rfl,a1,a2,a3,a4⟩;exact⟨rfl,l,o,rfl,a1,a3,a4,.inl (by lia)⟩
  case step=>
   rintro x c st' _ hx ⟨rfl,l,o,rfl,a1,a2,a3,a4⟩;dsimp only;by_cases hge:o >= hint+1
   ·rw[if_pos hge];exact wpS_pure ⟨rfl,l,o,rfl,a1,a3,a4,.inl hge⟩
   ·rw[if_neg hge];refine wpS_bind (hp _ _ (by lia) ?_);dsimp only;cases hb:p (hint-o) with
    |false=>
     simp only[Bool.false_eq_true,if_false];exact wpS_pure ⟨rfl,_,_,rfl,by lia,by lia,by lia,hb⟩
    |true=>
     simp only[if_true];exact wpS_pure ⟨rfl,_,_,rfl,a1,a3,a4,.inr ⟨by lia,hb⟩⟩
  case post=>
   rintro c st₀ ⟨rfl,l,o,rfl,a1,a3,a4,a5⟩;dsimp only;have H1:∀i,i<hint+1-min o (hint+1)->p i=true:=by
    intro i hi;rcases a5 with a5|⟨a5,a6⟩
    ·lia
    ·exact hm i (hint-o) (by lia) (by lia) a6
   have H2:∀i,hint-l<=i->i<n->p i=false:=by
    intro i i1 i2;cases hq:p i with
    |false=>rfl
    |true=>rw[hm (hint-l) i (by lia) i2 hq] at a4;cases a4
   refine wpS_bind (wpS_mono (wpS_forRange
    (I:=λx c st'=>st'=st₀/\∃l r,c=(none,l,r)/\l<=r/\r<=n/\r-l<=n-x/\(∀i,i<l->p i=true)/\(∀i,r<=i->i<n->p i=false))
    (Q:=λc st'=>st'=st₀/\∃l r,c=(none,l,r)/\l=r/\r<=n/\(∀i,i<l->p i=true)/\(∀i,r<=i->i<n->p i=false)) ?step2 ?fin2 ?init2) ?post2)
   case init2=>exact⟨rfl,_,_,rfl,by lia,by lia,by lia,H1,H2⟩
   case fin2=>
    rintro c st' ⟨rfl,l,r,rfl,a1,a2,a3,a4,a5⟩;exact⟨rfl,l,r,rfl,by lia,a2,a4,a5⟩
   case step2=>
    rintro x c st' _ hx ⟨rfl,l,r,rfl,a1,a2,a3,a4,a5⟩;dsimp only;by_cases hge:l >= r
    ·rw[if_pos hge];exact wpS_pure ⟨rfl,l,r,rfl,by lia,a2,a4,a5⟩
    ·rw[if_neg hge];refine wpS_bind (hp _ _ (by lia) ?_);dsimp only;cases hb:p (l+(r-l) / 2) with
     |true=>
      simp only[if_true];exact wpS_pure ⟨rfl,_,_,rfl,by lia,a2,by lia,λi hi=>hm i _ (by lia) (by lia) hb,a5⟩
     |false=>
      simp only[Bool.false_eq_true,if_false];refine wpS_pure ⟨rfl,_,_,rfl,by lia,by lia,by lia,a4,λi i1 i2=>?_⟩;cases hq:p i with
      |false=>rfl
      |true=>rw[hm _ i i1 i2 hq] at hb;cases hb
   case post2=>
    rintro c st' ⟨rfl,l,r,rfl,rfl,a2,a4,a5⟩;exact wpS_pure (h l a2 a4 a5)
end
structure Ord(U:Keyed->Prop)(blt:Keyed->Keyed->Bool):Prop where
 irr:∀x,U x->blt x x=false
 tr:∀x y z,U x->U y->U z->blt x y=true->blt y z=true->blt x z=true
 ntr:∀x y z,U x->U y->U z->blt x z=true->blt x y=true\/blt y z=true
noncomputable abbrev dk:Keyed:=(.none,.none)
def gt(a:Array Keyed)(i:Nat):Keyed:=a.getD i dk
theorem lK(h:i<a.size):a[i]?=some (gt a i):=by
 unfold gt;simp[Array.getD,h]
def n6(U:Keyed->Prop)(a:Array Keyed):Prop:=∀i,i<a.size->U (gt a i)
def Srt(blt:Keyed->Keyed->Bool)(a:Array Keyed)(lo hi:Nat):Prop:=∀i j,lo<=i->i<=j->j<hi->blt (gt a j) (gt a i)=false
def NQ(prog:Program)(w:World)(A:Around)(E:Value->Shared->Prop)(s:Shared)(kd:SortKind)(U:Keyed->Prop)(blt:Keyed->Keyed->Bool):Prop:=
 ∀(x y:Keyed)(st:SortSt)(Q:Option Bool->SortSt->Prop),U x->U y->kindOf st=kd->Q (some (blt x y)) st->wpS (model prog w) A E s (lt' x y) Q st
section
variable {prog:Program} {w:World} {A:Around} {E:Value->Shared->Prop} {s:Shared} {kd:SortKind} {U:Keyed->Prop} {blt:Keyed->Keyed->Bool}
theorem aU{arr:Array Keyed}{i:Nat}{st:SortSt}{Q:Keyed->SortSt->Prop}(hi:i<arr.size)(h:Q (gt arr i) st):wpS (model prog w) A E s (elem' arr i) Q st:=by
 rw[elem'_eq,lK hi];exact wpS_pure h
def gp(blt:Keyed->Keyed->Bool)(left:Bool)(key:Keyed)(arr:Array Keyed)(base i:Nat):Bool:=if left then blt (gt arr (base+i)) key else !blt key (gt arr (base+i))
theorem NT(hL:NQ prog w A E s kd U blt){left:Bool}{key:Keyed}{arr:Array Keyed}{base i:Nat}{st:SortSt}{R:Option Bool->SortSt->Prop}(hk:kindOf st=kd)(hi:base+i<arr.size)(hU:n6 U arr)(hK:U key)
 (h:R (some (gp blt left key arr base i)) st):wpS (model prog w) A E s (FQ left key arr base i) R st:=by
 unfold FQ;refine wpS_bind (aU hi ?_);unfold gp at h;cases left with
 |true=>
  simp only[if_true] at h ⊢;exact hL _ _ _ _ (hU _ hi) hK hk h
 |false=>
  simp only[Bool.false_eq_true,if_false] at h ⊢;refine wpS_bind (hL _ _ _ _ hK (hU _ hi) hk (wpS_pure ?_));exact h
theorem aBn(O:Ord U blt)(hn:base+n<=arr.size)(hU:n6 U arr)(hK:U key)(hs:Srt blt arr base (base+n)) :
  ∀i j,i<=j->j<n->gp blt left key arr base j=true->gp blt left key arr base i=true:=by
 intro i j hij hj h;have h0:=hs (base+i) (base+j) (by lia) (by lia) (by lia);have ui:=hU (base+i) (by lia);have uj:=hU (base+j) (by lia);unfold gp at h ⊢;cases left with
 |true=>
  simp only[if_true] at h ⊢;rcases O.ntr _ (gt arr (base+i)) _ uj ui hK h with q|q
  ·rw[h0] at q;cases q
  ·exact q
 |false=>
  simp only[Bool.false_eq_true,if_false] at h ⊢;cases q:blt key (gt arr (base+i)) with
  |false=>rfl
  |true=>
   rcases O.ntr _ (gt arr (base+j)) _ hK uj ui q with z|z
   ·rw[z] at h;cases h
   ·rw[h0] at z;cases z
theorem fH(O:Ord U blt)(hL:NQ prog w A E s kd U blt){left:Bool}{key:Keyed}{arr:Array Keyed}{base n hint:Nat}{st:SortSt}{Q:Option Nat->SortSt->Prop}(hk:kindOf st=kd)(hn:base+n<=arr.size)(hU:n6 U arr)(hK:U key)
 (hs:Srt blt arr base (base+n))(hh:hint<n)
 (h:∀k,k<=n->(∀i,i<k->gp blt left key arr base i=true)->(∀i,k<=i->i<n->gp blt left key arr base i=false)->Q (some k) st):wpS (model prog w) A E s (RX left key arr base n hint) Q st:=
 NP (gp blt left key arr base) (λi R hi r=>NT hL hk (by lia) hU hK r) (aBn O hn hU hK hs) hh h
end
section
variable (blt:Keyed->Keyed->Bool)
noncomputable abbrev le(x y:Keyed):Bool:=!blt y x
def mrg(xs ys:List Keyed):List Keyed:=xs.merge ys (le blt)
variable {blt}
theorem lL(h:i<a.size):a.toList.drop i=gt a i::a.toList.drop (i+1):=by
 rw[List.drop_eq_getElem_cons (by simpa using h)]
 congr 1
 unfold gt;simp[Array.getD,h]
theorem v4{a:Array Keyed}{i:Nat}(h:a.size<=i):a.toList.drop i=[]:=List.drop_of_length_le (by simpa using h)
theorem lM(xs:List Keyed):mrg blt xs []=xs:=List.merge_right xs
theorem m9(ys:List Keyed):mrg blt [] ys=ys:=List.nil_merge ys
theorem gB(x y:Keyed)(xs ys:List Keyed):mrg blt (x::xs) (y::ys)=if blt y x then y::mrg blt (x::xs) ys else x::mrg blt xs (y::ys):=by
 unfold mrg;rw[List.cons_merge_cons];cases h:blt y x<;>simp[le,h]
def J(blt:Keyed->Keyed->Bool)(a b:Array Keyed)(out:Array Keyed)(ia ib:Nat):Prop:=
 out.toList++mrg blt (a.toList.drop ia) (b.toList.drop ib)=mrg blt a.toList b.toList
variable {a b out:Array Keyed} {ia ib:Nat}
theorem J.pb(h:J blt a b out ia ib)(ha:ia<a.size)(hb:ib<b.size)(q:blt (gt b ib) (gt a ia)=true):J blt a b (out.push (gt b ib)) ia (ib+1):=by
 unfold J at h ⊢;rw[<-h,lL ha,lL hb,gB,if_pos q,<-lL ha];simp
theorem J.pa(h:J blt a b out ia ib)(ha:ia<a.size)(hb:ib<b.size)(q:blt (gt b ib) (gt a ia)=false):J blt a b (out.push (gt a ia)) (ia+1) ib:=by
 unfold J at h ⊢;rw[<-h,lL ha,lL hb,gB,if_neg (by simp[q]),<-lL hb];simp
theorem JT(h:i+k<a.size)(out:Array Keyed):out++a.extract i (i+(k+1))=(out++a.extract i (i+k)).push (gt a (i+k)):=by
 apply Array.toList_inj.mp;simp only[Array.toList_append,Array.toList_extract,List.extract_eq_take_drop,Array.toList_push];rw[show i+(k+1)-i=k+1 by lia,show i+k-i=k by lia,List.take_add_one,List.append_assoc]
 congr 2
 rw[List.getElem?_drop];have:a.toList[i+k]?=some (gt a (i+k)):=by rw[Array.getElem?_toList];exact lK h
 rw[this];rfl
theorem JV(a:Array Keyed)(i:Nat)(out:Array Keyed):out++a.extract i (i+0)=out:=by
 apply Array.toList_inj.mp;simp
theorem J.ga(h:J blt a b out ia ib)(hb:ib<b.size):∀k,ia+k<=a.size->(∀i,i<k->blt (gt b ib) (gt a (ia+i))=false)->J blt a b (out++a.extract ia (ia+k)) (ia+k) ib
 |0,_,_=>by rw[JV];exact h
 |k+1,hk,q=>by
  have ih:=J.ga h hb k (by lia) λi hi=>q i (by lia)
  rw[JT (by lia)];exact J.pa ih (by lia) hb (q k (by lia))
theorem J.gb(h:J blt a b out ia ib)(ha:ia<a.size):∀k,ib+k<=b.size->(∀i,i<k->blt (gt b (ib+i)) (gt a ia)=true)->J blt a b (out++b.extract ib (ib+k)) ia (ib+k)
 |0,_,_=>by rw[JV];exact h
 |k+1,hk,q=>by
  have ih:=J.gb h ha k (by lia) λi hi=>q i (by lia)
  rw[JT (by lia)];exact J.pb ih ha (by lia) (q k (by lia))
theorem mG(a:Array Keyed)(i:Nat):(a.extract i a.size).toList=a.toList.drop i:=by
 simp[Array.toList_extract,List.extract_eq_take_drop,List.take_of_length_le]
theorem J.m_(h:J blt a b out ia ib)(hb:ib=b.size):(out++a.extract ia a.size++b.extract ib b.size).toList=mrg blt a.toList b.toList:=by
 rw[<-h,Array.toList_append,Array.toList_append,mG,mG,v4 (Nat.le_of_eq hb.symm),lM];simp
theorem J.nA(h:J blt a b out ia ib)(ha:ia=a.size):(out++a.extract ia a.size++b.extract ib b.size).toList=mrg blt a.toList b.toList:=by
 rw[<-h,Array.toList_append,Array.toList_append,mG,mG,v4 (Nat.le_of_eq ha.symm),m9];simp
theorem v5(x:Keyed):∀ys:List Keyed,(∀y∈ys,blt y x=true)->mrg blt [x] ys=ys++[x]
 |[],_=>lM _
 |y::ys,h=>by
  rw[gB,if_pos (h y (List.mem_cons_self ..)),v5 x ys λz hz=>h z (List.mem_cons_of_mem _ hz)];rfl
theorem aAe(h:x∈a.toList):∃i,i<a.size/\x=gt a i:=by
 obtain⟨i,hi,e⟩:=List.getElem_of_mem h;refine⟨i,by simpa using hi,?_⟩;unfold gt;rw[<-e];have hi':i<a.size:=by simpa using hi
 simp[Array.getD,hi']
theorem J.last(h:J blt a b out ia ib)(ha:ia+1=a.size)(q:∀i,i<b.size->blt (gt b i) (gt a ia)=true):(out++b.extract ib b.size++a.extract ia a.size).toList=mrg blt a.toList b.toList:=by
 rw[<-h,Array.toList_append,Array.toList_append,mG,mG,lL (by lia:ia<a.size),v4 (a:=a) (i:=ia+1) (by lia),v5,List.append_assoc];intro y hy;obtain⟨i,hi,e⟩:=aAe (List.mem_of_mem_drop hy);rw[e];exact q i hi
end
structure Sim(st st':SortSt):Prop where
 kd:kindOf st'=kindOf st
 ar:arrOf st'=arrOf st
 pd:pendingOf st'=pendingOf st
 fl:failedOf st'=failedOf st
section
variable {prog:Program} {w:World} {A:Around} {E:Value->Shared->Prop} {s:Shared} {kd:SortKind} {U:Keyed->Prop} {blt:Keyed->Keyed->Bool}
theorem FW(O:Ord U blt)(hL:NQ prog w A E s kd U blt){a b:Array Keyed}{st:SortSt}{Q:Array Keyed->SortSt->Prop}(hk:kindOf st=kd)(hUa:n6 U a)(hUb:n6 U b)(hsa:Srt blt a 0 a.size)(hsb:Srt blt b 0 b.size)
 (ha:0<a.size)(hb:0<b.size)(hf:blt (gt b 0) (gt a 0)=true)(hl:∀i,i<b.size->blt (gt b i) (gt a (a.size-1))=true)
 (h:∀r st',Sim st st'->r.toList=mrg blt a.toList b.toList->Q r st'):wpS (model prog w) A E s (YB a b) Q st:=by
 have lastAt:∀{j:Nat},j+1=a.size->∀i,i<b.size->blt (gt b i) (gt a j)=true:=λ{j} hj i hi=>by
  have:=hl i hi;rwa [show a.size-1=j by lia] at this
 with_unfolding_all refine wpS_bind (wpS_lift (wpAny_rule ⟨rfl,?_⟩))
 dsimp only;refine wpS_bind (aU hb ?_)
 try dsimp only
 have J0:J blt a b #[gt b 0] 0 1:=J.pb (out:=#[]) (by unfold J;simp) ha hb hf;have sim0:Sim st st:=⟨rfl,rfl,rfl,rfl⟩
 by_cases e1:1=b.size
 ·rw[if_pos (by simpa using e1)];exact wpS_pure (h _ _ sim0 (J0.m_ e1))
 rw[if_neg (by simpa using e1)];by_cases e2:0+1=a.size
 ·rw[if_pos (by simpa using e2)];exact wpS_pure (h _ _ sim0 (J0.last e2 (lastAt e2)))
 rw[if_neg (by simpa using e2)];refine wpS_bind (wpS_get ?_);refine wpS_bind (wpS_mono (wpS_forRange
  (I:=λx c st'=>Sim st st'/\∃out ia ib mg,c=(none,out,ia,ib,mg)/\J blt a b out ia ib/\ia+1<a.size/\ib<b.size/\x<=ia+ib)
  (Q:=λc st'=>Sim st st'/\∃r,c.1=some r/\r.toList=mrg blt a.toList b.toList) ?step ?fin ?init) ?post)
 case init=>exact⟨sim0,_,_,_,_,rfl,J0,by lia,by lia,by lia⟩
 case fin=>
  rintro c st' ⟨_,out,ia,ib,mg,rfl,_,h1,h2,h3⟩;lia
 case post=>
  rintro⟨c1,c2⟩ st' ⟨sim,r,e,hr⟩;dsimp only at e;subst e;exact wpS_pure (h r st' sim hr)
 case step=>
  rintro x₀ c st1 _ hx0 ⟨sim,out,ia,ib,mg,rfl,j1,h1,h2,h3⟩;dsimp only;refine wpS_bind (wpS_mono (wpS_forRange
   (I:=λx c st'=>Sim st st'/\∃out ia ib ac bc,c=(none,out,ia,ib,ac,bc)/\J blt a b out ia ib/\ia+1<a.size/\ib<b.size/\x₀<=ia+ib/\x<=ia+ib)
   (Q:=λc st'=>Sim st st'/\((∃r,c.1=some r/\r.toList=mrg blt a.toList b.toList)\/∃out ia ib ac bc,c=(none,out,ia,ib,ac,bc)/\J blt a b out ia ib/\ia+1<a.size/\ib<b.size/\x₀+1<=ia+ib)) ?step2 ?fin2 ?init2) ?post2)
  case init2=>exact⟨sim,_,_,_,_,_,rfl,j1,h1,h2,h3,by lia⟩
  case fin2=>
   rintro c st' ⟨_,out,ia,ib,ac,bc,rfl,_,h1,h2,_,h3⟩;lia
  case step2=>
   rintro x c st2 _ hx ⟨sim,out,ia,ib,ac,bc,rfl,j2,h1,h2,h3,h4⟩;dsimp only;refine wpS_bind (aU h2 (wpS_bind (aU (by lia) (wpS_bind (hL _ _ _ _ (hUb _ h2) (hUa _ (by lia)) (sim.1.trans hk) ?_)))));dsimp only;cases q:blt (gt b ib) (gt a ia) with
   |true=>
    simp only[if_true];refine wpS_bind (aU h2 ?_);have j3:=J.pb j2 (by lia) h2 q;by_cases e3:ib+1=b.size
    ·rw[if_pos (by simpa using e3)];exact wpS_pure ⟨sim,.inl ⟨_,rfl,j3.m_ e3⟩⟩
    ·rw[if_neg (by simpa using e3)];split
     ·exact wpS_pure ⟨sim,.inr ⟨_,_,_,_,_,rfl,j3,by lia,by lia,by lia⟩⟩
     ·exact wpS_pure ⟨sim,_,_,_,_,_,rfl,j3,by lia,by lia,by lia,by lia⟩
   |false=>
    simp only[Bool.false_eq_true,if_false];refine wpS_bind (aU (by lia) ?_);have j3:=J.pa j2 (by lia) h2 q;by_cases e3:ia+1+1=a.size
    ·rw[if_pos (by simpa using e3)];exact wpS_pure ⟨sim,.inl ⟨_,rfl,j3.last e3 (lastAt e3)⟩⟩
    ·rw[if_neg (by simpa using e3)];split
     ·exact wpS_pure ⟨sim,.inr ⟨_,_,_,_,_,rfl,j3,by lia,by lia,by lia⟩⟩
     ·exact wpS_pure ⟨sim,_,_,_,_,_,rfl,j3,by lia,by lia,by lia,by lia⟩
  case post2=>
   rintro⟨c1,c2⟩ st2 ⟨sim,⟨r,e,hr⟩|⟨out,ia,ib,ac,bc,e,j2,h1,h2,h3⟩⟩
   ·dsimp only at e;subst e;exact wpS_pure ⟨sim,r,rfl,hr⟩
   ·cases e;dsimp only;refine wpS_bind (wpS_lift (wpAny_rule ⟨rfl,?_⟩));refine wpS_bind (wpS_mono (wpS_forRange
     (I:=λx c st'=>Sim st st'/\∃out ia ib mg ac bc,c=(none,out,ia,ib,mg,ac,bc)/\J blt a b out ia ib/\ia+1<a.size/\ib<b.size/\x₀+1<=ia+ib/\x<=ia+ib)
     (Q:=λc st'=>Sim st st'/\((∃r,c.1=some r/\r.toList=mrg blt a.toList b.toList)\/∃out ia ib mg ac bc,c=(none,out,ia,ib,mg,ac,bc)/\J blt a b out ia ib/\ia+1<a.size/\ib<b.size/\x₀+1<=ia+ib)) ?step3 ?fin3 ?init3) ?post3)
    case init3=>exact⟨sim,_,_,_,_,_,_,rfl,j2,h1,h2,h3,by lia⟩
    case fin3=>
     rintro c st' ⟨_,out,ia,ib,mg,ac,bc,rfl,_,h1,h2,_,h3⟩;lia
    case post3=>
     rintro⟨c1,c2⟩ st3 ⟨sim,⟨r,e,hr⟩|⟨out,ia,ib,mg,ac,bc,e,j3,h1,h2,h3⟩⟩
     ·dsimp only at e;subst e;exact wpS_pure ⟨sim,r,rfl,hr⟩
     ·cases e;dsimp only;refine wpS_bind (iM (wpS_pure ⟨⟨sim.1,sim.2,sim.3,sim.4⟩,_,_,_,_,rfl,j3,h1,h2,by lia⟩))
    case step3=>
     rintro x c st3 _ hx ⟨sim,out,ia,ib,mg,ac,bc,rfl,j3,h1,h2,h3,h4⟩;dsimp only;by_cases hg:mg > 1
     ·rw[if_pos hg];refine wpS_bind (iM ?_);have sim':Sim st (SortSt.mk' (kindOf st3) (arrOf st3) (pendingOf st3) (mg-1) (failedOf st3)):=⟨sim.1,sim.2,sim.3,sim.4⟩
      have hk':kindOf (SortSt.mk' (kindOf st3) (arrOf st3) (pendingOf st3) (mg-1) (failedOf st3))=kd:=sim.1.trans hk;refine wpS_bind (aU (by lia) ?_);refine wpS_bind (fH O hL hk' (by lia) hUa (hUb _ (by lia)) (λi j i1 i2 i3=>hsa i j (by lia) i2 (by lia)) (by lia) λk hk1 y1 y2=>?_)
      try dsimp only
      by_cases kp:k > 0
      ·rw[if_pos kp];have J1:=J.ga j3 (by lia) k (by lia) (λi hi=>by have:=y1 i hi;simpa[gp] using this);by_cases e1:ia+k+1=a.size
       ·rw[if_pos (by simpa using e1)];exact wpS_pure ⟨sim',.inl ⟨_,rfl,J1.last e1 (lastAt (by lia))⟩⟩
       ·rw[if_neg (by simpa using e1)];by_cases e1':ia+k=a.size
        ·rw[if_pos (by simpa using e1')];exact wpS_pure ⟨sim',.inl ⟨_,rfl,J1.nA e1'⟩⟩
        ·rw[if_neg (by simpa using e1')];have hz1:blt (gt b ib) (gt a (ia+k))=true:=(by have:=y2 k (Nat.le_refl _) (by lia);simpa[gp] using this)
         refine wpS_bind (aU (by lia) ?_)
         try dsimp only
         have J2:=J.pb J1 (by lia) (by lia) hz1;by_cases e2:ib+1=b.size
         ·rw[if_pos (by simpa using e2)];exact wpS_pure ⟨sim',.inl ⟨_,rfl,J2.m_ e2⟩⟩
         ·rw[if_neg (by simpa using e2)];refine wpS_bind (aU (by lia) ?_);refine wpS_bind (fH O hL hk' (by lia) hUb (hUa _ (by lia)) (λi j i1 i2 i3=>hsb i j (by lia) i2 (by lia)) (by lia) λk1 hk1 y1 y2=>?_)
          try dsimp only
          by_cases k1p:k1 > 0
          ·rw[if_pos k1p];have J3:=J.gb J2 (by lia) k1 (by lia) (λi hi=>by have:=y1 i hi;simpa[gp] using this);by_cases e3:ib+1+k1=b.size
           ·rw[if_pos (by simpa using e3)];exact wpS_pure ⟨sim',.inl ⟨_,rfl,J3.m_ e3⟩⟩
           ·rw[if_neg (by simpa using e3)];have hz2:blt (gt b (ib+1+k1)) (gt a (ia+k))=false:=(by have:=y2 k1 (Nat.le_refl _) (by lia);simpa[gp] using this)
            refine wpS_bind (aU (by lia) ?_)
            try dsimp only
            have J4:=J.pa J3 (by lia) (by lia) hz2;by_cases e4:(ia+k)+1+1=a.size
            ·rw[if_pos (by simpa using e4)];exact wpS_pure ⟨sim',.inl ⟨_,rfl,J4.last e4 (lastAt (by lia))⟩⟩
            ·rw[if_neg (by simpa using e4)];split
             ·exact wpS_pure ⟨sim',.inr ⟨_,_,_,_,_,_,rfl,J4,by lia,by lia,by lia⟩⟩
             ·exact wpS_pure ⟨sim',_,_,_,_,_,_,rfl,J4,by lia,by lia,by lia,by lia⟩
          ·rw[if_neg k1p];obtain rfl:k1=0:=by lia
           have J3:=J2;have hz2:blt (gt b (ib+1)) (gt a (ia+k))=false:=(by have:=y2 0 (Nat.le_refl _) (by lia);simpa[gp] using this)
           refine wpS_bind (aU (by lia) ?_)
           try dsimp only
           have J4:=J.pa J3 (by lia) (by lia) hz2;by_cases e4:(ia+k)+1+1=a.size
           ·rw[if_pos (by simpa using e4)];exact wpS_pure ⟨sim',.inl ⟨_,rfl,J4.last e4 (lastAt (by lia))⟩⟩
           ·rw[if_neg (by simpa using e4)];split
            ·exact wpS_pure ⟨sim',.inr ⟨_,_,_,_,_,_,rfl,J4,by lia,by lia,by lia⟩⟩
            ·exact wpS_pure ⟨sim',_,_,_,_,_,_,rfl,J4,by lia,by lia,by lia,by lia⟩
      ·rw[if_neg kp];obtain rfl:k=0:=by lia
       have J1:=j3;have hz1:blt (gt b ib) (gt a ia)=true:=(by have:=y2 0 (Nat.le_refl _) (by lia);simpa[gp] using this)
       refine wpS_bind (aU (by lia) ?_)
       try dsimp only
       have J2:=J.pb J1 (by lia) (by lia) hz1;by_cases e2:ib+1=b.size
       ·rw[if_pos (by simpa using e2)];exact wpS_pure ⟨sim',.inl ⟨_,rfl,J2.m_ e2⟩⟩
       ·rw[if_neg (by simpa using e2)];refine wpS_bind (aU (by lia) ?_);refine wpS_bind (fH O hL hk' (by lia) hUb (hUa _ (by lia)) (λi j i1 i2 i3=>hsb i j (by lia) i2 (by lia)) (by lia) λk1 hk1 y1 y2=>?_)
        try dsimp only
        by_cases k1p:k1 > 0
        ·rw[if_pos k1p];have J3:=J.gb J2 (by lia) k1 (by lia) (λi hi=>by have:=y1 i hi;simpa[gp] using this);by_cases e3:ib+1+k1=b.size
         ·rw[if_pos (by simpa using e3)];exact wpS_pure ⟨sim',.inl ⟨_,rfl,J3.m_ e3⟩⟩
         ·rw[if_neg (by simpa using e3)];have hz2:blt (gt b (ib+1+k1)) (gt a ia)=false:=(by have:=y2 k1 (Nat.le_refl _) (by lia);simpa[gp] using this)
          refine wpS_bind (aU (by lia) ?_)
          try dsimp only
          have J4:=J.pa J3 (by lia) (by lia) hz2;by_cases e4:ia+1+1=a.size
          ·rw[if_pos (by simpa using e4)];exact wpS_pure ⟨sim',.inl ⟨_,rfl,J4.last e4 (lastAt (by lia))⟩⟩
          ·rw[if_neg (by simpa using e4)];split
           ·exact wpS_pure ⟨sim',.inr ⟨_,_,_,_,_,_,rfl,J4,by lia,by lia,by lia⟩⟩
           ·exact wpS_pure ⟨sim',_,_,_,_,_,_,rfl,J4,by lia,by lia,by lia,by lia⟩
        ·rw[if_neg k1p];obtain rfl:k1=0:=by lia
         have J3:=J2;have hz2:blt (gt b (ib+1)) (gt a ia)=false:=(by have:=y2 0 (Nat.le_refl _) (by lia);simpa[gp] using this)
         refine wpS_bind (aU (by lia) ?_)
         try dsimp only
         have J4:=J.pa J3 (by lia) (by lia) hz2;by_cases e4:ia+1+1=a.size
         ·rw[if_pos (by simpa using e4)];exact wpS_pure ⟨sim',.inl ⟨_,rfl,J4.last e4 (lastAt (by lia))⟩⟩
         ·rw[if_neg (by simpa using e4)];split
          ·exact wpS_pure ⟨sim',.inr ⟨_,_,_,_,_,_,rfl,J4,by lia,by lia,by lia⟩⟩
          ·exact wpS_pure ⟨sim',_,_,_,_,_,_,rfl,J4,by lia,by lia,by lia,by lia⟩
     ·rw[if_neg hg];refine wpS_bind (iM ?_);have sim':Sim st (SortSt.mk' (kindOf st3) (arrOf st3) (pendingOf st3) mg (failedOf st3)):=⟨sim.1,sim.2,sim.3,sim.4⟩
      have hk':kindOf (SortSt.mk' (kindOf st3) (arrOf st3) (pendingOf st3) mg (failedOf st3))=kd:=sim.1.trans hk;refine wpS_bind (aU (by lia) ?_);refine wpS_bind (fH O hL hk' (by lia) hUa (hUb _ (by lia)) (λi j i1 i2 i3=>hsa i j (by lia) i2 (by lia)) (by lia) λk hk1 y1 y2=>?_)
      try dsimp only
      by_cases kp:k > 0
      ·rw[if_pos kp];have J1:=J.ga j3 (by lia) k (by lia) (λi hi=>by have:=y1 i hi;simpa[gp] using this);by_cases e1:ia+k+1=a.size
       ·rw[if_pos (by simpa using e1)];exact wpS_pure ⟨sim',.inl ⟨_,rfl,J1.last e1 (lastAt (by lia))⟩⟩
       ·rw[if_neg (by simpa using e1)];by_cases e1':ia+k=a.size
        ·rw[if_pos (by simpa using e1')];exact wpS_pure ⟨sim',.inl ⟨_,rfl,J1.nA e1'⟩⟩
        ·rw[if_neg (by simpa using e1')];have hz1:blt (gt b ib) (gt a (ia+k))=true:=(by have:=y2 k (Nat.le_refl _) (by lia);simpa[gp] using this)
         refine wpS_bind (aU (by lia) ?_)
         try dsimp only
         have J2:=J.pb J1 (by lia) (by lia) hz1;by_cases e2:ib+1=b.size
         ·rw[if_pos (by simpa using e2)];exact wpS_pure ⟨sim',.inl ⟨_,rfl,J2.m_ e2⟩⟩
         ·rw[if_neg (by simpa using e2)];refine wpS_bind (aU (by lia) ?_);refine wpS_bind (fH O hL hk' (by lia) hUb (hUa _ (by lia)) (λi j i1 i2 i3=>hsb i j (by lia) i2 (by lia)) (by lia) λk1 hk1 y1 y2=>?_)
          try dsimp only
          by_cases k1p:k1 > 0
          ·rw[if_pos k1p];have J3:=J.gb J2 (by lia) k1 (by lia) (λi hi=>by have:=y1 i hi;simpa[gp] using this);by_cases e3:ib+1+k1=b.size
           ·rw[if_pos (by simpa using e3)];exact wpS_pure ⟨sim',.inl ⟨_,rfl,J3.m_ e3⟩⟩
           ·rw[if_neg (by simpa using e3)];have hz2:blt (gt b (ib+1+k1)) (gt a (ia+k))=false:=(by have:=y2 k1 (Nat.le_refl _) (by lia);simpa[gp] using this)
            refine wpS_bind (aU (by lia) ?_)
            try dsimp only
            have J4:=J.pa J3 (by lia) (by lia) hz2;by_cases e4:(ia+k)+1+1=a.size
            ·rw[if_pos (by simpa using e4)];exact wpS_pure ⟨sim',.inl ⟨_,rfl,J4.last e4 (lastAt (by lia))⟩⟩
            ·rw[if_neg (by simpa using e4)];split
             ·exact wpS_pure ⟨sim',.inr ⟨_,_,_,_,_,_,rfl,J4,by lia,by lia,by lia⟩⟩
             ·exact wpS_pure ⟨sim',_,_,_,_,_,_,rfl,J4,by lia,by lia,by lia,by lia⟩
          ·rw[if_neg k1p];obtain rfl:k1=0:=by lia
           have J3:=J2;have hz2:blt (gt b (ib+1)) (gt a (ia+k))=false:=(by have:=y2 0 (Nat.le_refl _) (by lia);simpa[gp] using this)
           refine wpS_bind (aU (by lia) ?_)
           try dsimp only
           have J4:=J.pa J3 (by lia) (by lia) hz2;by_cases e4:(ia+k)+1+1=a.size
           ·rw[if_pos (by simpa using e4)];exact wpS_pure ⟨sim',.inl ⟨_,rfl,J4.last e4 (lastAt (by lia))⟩⟩
           ·rw[if_neg (by simpa using e4)];split
            ·exact wpS_pure ⟨sim',.inr ⟨_,_,_,_,_,_,rfl,J4,by lia,by lia,by lia⟩⟩
            ·exact wpS_pure ⟨sim',_,_,_,_,_,_,rfl,J4,by lia,by lia,by lia,by lia⟩
      ·rw[if_neg kp];obtain rfl:k=0:=by lia
       have J1:=j3;have hz1:blt (gt b ib) (gt a ia)=true:=(by have:=y2 0 (Nat.le_refl _) (by lia);simpa[gp] using this)
       refine wpS_bind (aU (by lia) ?_)
       try dsimp only
       have J2:=J.pb J1 (by lia) (by lia) hz1;by_cases e2:ib+1=b.size
       ·rw[if_pos (by simpa using e2)];exact wpS_pure ⟨sim',.inl ⟨_,rfl,J2.m_ e2⟩⟩
       ·rw[if_neg (by simpa using e2)];refine wpS_bind (aU (by lia) ?_);refine wpS_bind (fH O hL hk' (by lia) hUb (hUa _ (by lia)) (λi j i1 i2 i3=>hsb i j (by lia) i2 (by lia)) (by lia) λk1 hk1 y1 y2=>?_)
        try dsimp only
        by_cases k1p:k1 > 0
        ·rw[if_pos k1p];have J3:=J.gb J2 (by lia) k1 (by lia) (λi hi=>by have:=y1 i hi;simpa[gp] using this);by_cases e3:ib+1+k1=b.size
         ·rw[if_pos (by simpa using e3)];exact wpS_pure ⟨sim',.inl ⟨_,rfl,J3.m_ e3⟩⟩
         ·rw[if_neg (by simpa using e3)];have hz2:blt (gt b (ib+1+k1)) (gt a ia)=false:=(by have:=y2 k1 (Nat.le_refl _) (by lia);simpa[gp] using this)
          refine wpS_bind (aU (by lia) ?_)
          try dsimp only
          have J4:=J.pa J3 (by lia) (by lia) hz2;by_cases e4:ia+1+1=a.size
          ·rw[if_pos (by simpa using e4)];exact wpS_pure ⟨sim',.inl ⟨_,rfl,J4.last e4 (lastAt (by lia))⟩⟩
          ·rw[if_neg (by simpa using e4)];split
           ·exact wpS_pure ⟨sim',.inr ⟨_,_,_,_,_,_,rfl,J4,by lia,by lia,by lia⟩⟩
           ·exact wpS_pure ⟨sim',_,_,_,_,_,_,rfl,J4,by lia,by lia,by lia,by lia⟩
        ·rw[if_neg k1p];obtain rfl:k1=0:=by lia
         have J3:=J2;have hz2:blt (gt b (ib+1)) (gt a ia)=false:=(by have:=y2 0 (Nat.le_refl _) (by lia);simpa[gp] using this)
         refine wpS_bind (aU (by lia) ?_)
         try dsimp only
         have J4:=J.pa J3 (by lia) (by lia) hz2;by_cases e4:ia+1+1=a.size
         ·rw[if_pos (by simpa using e4)];exact wpS_pure ⟨sim',.inl ⟨_,rfl,J4.last e4 (lastAt (by lia))⟩⟩
         ·rw[if_neg (by simpa using e4)];split
          ·exact wpS_pure ⟨sim',.inr ⟨_,_,_,_,_,_,rfl,J4,by lia,by lia,by lia⟩⟩
          ·exact wpS_pure ⟨sim',_,_,_,_,_,_,rfl,J4,by lia,by lia,by lia,by lia⟩
end
section
variable {blt:Keyed->Keyed->Bool}
theorem FZ(h:n<a.size):a.toList.take (n+1)=a.toList.take n++[gt a n]:=by
 rw[List.take_add_one];have:a.toList[n]?=some (gt a n):=by rw[Array.getElem?_toList];exact lK h
 rw[this];rfl
theorem sJ(h:z∈a.toList.take n):∃i,i<n/\i<a.size/\z=gt a i:= by
  obtain⟨i,hi,e⟩:= List.getElem_of_mem h;rw[List.length_take] at hi;have h2:i<a.size:= by simpa using (show i<a.toList.length by lia)
  refine⟨i,by lia,h2,?_⟩;rw[<-e,List.getElem_take];unfold gt;simp[Array.getD,h2]
theorem sO(x:Keyed):∀(xs zs:List Keyed),(∀z∈zs,blt z x=true)->mrg blt (xs++[x]) zs=mrg blt xs zs++[x]
 |[],zs,h=>by rw[List.nil_append,v5 x zs h,m9]
 |x0::xs,[],_=>by rw[lM,lM]
 |x0::xs,z::zs,h=>by
  rw[List.cons_append,gB,gB];by_cases q:blt z x0=true
  ·rw[if_pos q,if_pos q,<-List.cons_append,sO x (x0::xs) zs λy hy=>h y (List.mem_cons_of_mem _ hy)];rfl
  ·rw[if_neg q,if_neg q,sO x xs (z::zs) h];rfl
 termination_by xs zs=>xs.length+zs.length
theorem y_(y:Keyed):∀zs:List Keyed,(∀z∈zs,blt y z=false)->mrg blt zs [y]=zs++[y]
 |[],_=>m9 _
 |z::zs,h=>by
  rw[gB,if_neg (by simp[h z (List.mem_cons_self ..)]),y_ y zs λu hu=>h u (List.mem_cons_of_mem _ hu)];rfl
theorem sS(y:Keyed):∀(zs ys:List Keyed),(∀z∈zs,blt y z=false)->mrg blt zs (ys++[y])=mrg blt zs ys++[y]
 |zs,[],h=>by rw[List.nil_append,y_ y zs h,lM]
 |[],y0::ys,_=>by rw[m9,m9]
 |z::zs,y0::ys,h=>by
  rw[List.cons_append,gB,gB];by_cases q:blt y0 z=true
  ·rw[if_pos q,if_pos q,sS y (z::zs) ys h];rfl
  ·rw[if_neg q,if_neg q,<-List.cons_append,sS y zs (y0::ys) λu hu=>h u (List.mem_cons_of_mem _ hu)];rfl
 termination_by zs ys=>zs.length+ys.length
def JH(blt:Keyed->Keyed->Bool)(a b:Array Keyed)(out:Array Keyed)(na nb:Nat):Prop:=
 mrg blt (a.toList.take na) (b.toList.take nb)++out.toList.reverse=mrg blt a.toList b.toList
variable {a b out:Array Keyed} {na nb:Nat}
theorem JH.pa(h:JH blt a b out na nb)(ha:0<na)(h1:na<=a.size)(h2:nb<=b.size)(q:∀i,i<nb->blt (gt b i) (gt a (na-1))=true):JH blt a b (out.push (gt a (na-1))) (na-1) nb:=by
 unfold JH at h ⊢;obtain⟨n,rfl⟩:∃n,na=n+1:=⟨na-1,by lia⟩
 rw[FZ (by lia),sO _ _ _ (λz hz=>by obtain⟨i,i1,i2,rfl⟩:=sJ hz;exact q i i1)] at h;rw[<-h];simp
theorem JH.pb(h:JH blt a b out na nb)(hb:0<nb)(h1:na<=a.size)(h2:nb<=b.size)(q:∀i,i<na->blt (gt b (nb-1)) (gt a i)=false):JH blt a b (out.push (gt b (nb-1))) na (nb-1):=by
 unfold JH at h ⊢;obtain⟨n,rfl⟩:∃n,nb=n+1:=⟨nb-1,by lia⟩
 rw[FZ (by lia),sS _ _ _ (λz hz=>by obtain⟨i,i1,i2,rfl⟩:=sJ hz;exact q i i1)] at h;rw[<-h];simp
theorem RZ(h:i<n)(hn:n<=a.size)(out:Array Keyed):out++(a.extract i n).reverse=(out.push (gt a (n-1)))++(a.extract i (n-1)).reverse:=by
 apply Array.toList_inj.mp;simp only[Array.toList_append,Array.toList_reverse,Array.toList_extract,List.extract_eq_take_drop,Array.toList_push];obtain⟨m,rfl⟩:∃m,n=m+1:=⟨n-1,by lia⟩
 rw[show m+1-i=(m-i)+1 by lia,List.take_add_one,List.getElem?_drop,show i+(m-i)=m by lia];have:a.toList[m]?=some (gt a m):=by rw[Array.getElem?_toList];exact lK (by lia)
 rw[this];simp
theorem rJ(out:Array Keyed):out++(a.extract i i).reverse=out:=by
 apply Array.toList_inj.mp;simp
theorem JH.ga:∀{na:Nat}{out:Array Keyed},JH blt a b out na nb->na<=a.size->nb<=b.size->∀at_,at_<=na->(∀i,at_<=i->i<na->∀z,z<nb->blt (gt b z) (gt a i)=true)->JH blt a b (out++(a.extract at_ na).reverse) at_ nb
 |0,out,h,_,_,at_,h0,_=>by
  obtain rfl:at_=0:=by lia
  rw[rJ];exact h
 |n+1,out,h,h1,h2,at_,h0,q=>by
  by_cases e:at_=n+1
  ·subst e;rw[rJ];exact h
  ·rw[RZ (by lia) h1];exact JH.ga (na:=n) (JH.pa h (by lia) h1 h2 (q n (by lia) (by lia))) (by lia) h2 at_ (by lia) λi i1 i2=>q i i1 (by lia)
theorem JH.gb:∀{nb:Nat}{out:Array Keyed},JH blt a b out na nb->na<=a.size->nb<=b.size->∀at_,at_<=nb->(∀i,at_<=i->i<nb->∀z,z<na->blt (gt b i) (gt a z)=false)->JH blt a b (out++(b.extract at_ nb).reverse) na at_
 |0,out,h,_,_,at_,h0,_=>by
  obtain rfl:at_=0:=by lia
  rw[rJ];exact h
 |n+1,out,h,h1,h2,at_,h0,q=>by
  by_cases e:at_=n+1
  ·subst e;rw[rJ];exact h
  ·rw[RZ (by lia) h2];exact JH.gb (nb:=n) (JH.pb h (by lia) h1 h2 (q n (by lia) (by lia))) h1 (by lia) at_ (by lia) λi i1 i2=>q i i1 (by lia)
theorem mH(a:Array Keyed)(n:Nat):(a.extract 0 n).toList=a.toList.take n:=by
 simp[Array.toList_extract,List.extract_eq_take_drop]
theorem JH.nA(h:JH blt a b out na nb)(e:na=0):(a.extract 0 na++b.extract 0 nb++out.reverse).toList=mrg blt a.toList b.toList:=by
 subst e;rw[<-h,Array.toList_append,Array.toList_append,mH,mH,Array.toList_reverse,List.take_zero,m9];rfl
theorem JH.m_(h:JH blt a b out na nb)(e:nb=0):(a.extract 0 na++b.extract 0 nb++out.reverse).toList=mrg blt a.toList b.toList:=by
 subst e;rw[<-h,Array.toList_append,Array.toList_append,mH,mH,Array.toList_reverse,List.take_zero,lM,List.append_nil]
theorem JH.first(h:JH blt a b out na nb)(e:nb=1)(ha:0<a.size)(hb:0<b.size)(hf:blt (gt b 0) (gt a 0)=true)(hn:0<na):(b.extract 0 nb++a.extract 0 na++out.reverse).toList=mrg blt a.toList b.toList:=by
 subst e;rw[<-h,Array.toList_append,Array.toList_append,mH,mH,Array.toList_reverse];have e1:b.toList.take 1=[gt b 0]:=by rw[FZ (a:=b) (n:=0) hb];rfl
 obtain⟨m,rfl⟩:∃m,na=m+1:=⟨na-1,by lia⟩
 have e2:a.toList.take (m+1)=gt a 0::(a.toList.drop 1).take m:=by
  have:=lL (a:=a) (i:=0) ha;rw[List.drop_zero] at this;rw[this];rfl
 rw[e1,e2,gB,if_pos hf,lM];rfl
variable {U:Keyed->Prop}
theorem leA(O:Ord U blt)(hUa:n6 U a)(hUb:n6 U b)(hsa:Srt blt a 0 a.size)(hn:n<=a.size)(hi:i<b.size)(hz:z<n)(q:blt (gt b i) (gt a (n-1))=false):blt (gt b i) (gt a z)=false:=by
 cases e:blt (gt b i) (gt a z) with
 |false=>rfl
 |true=>
  rcases O.ntr _ (gt a (n-1)) _ (hUb i hi) (hUa _ (by lia)) (hUa z (by lia)) e with p|p
  ·rw[q] at p;cases p
  ·rw[hsa z (n-1) (by lia) (by lia) (by lia)] at p;cases p
theorem aI3(O:Ord U blt)(hUa:n6 U a)(hUb:n6 U b)(hsb:Srt blt b 0 b.size)(hn:n<=b.size)(hi:i<a.size)(hz:z<n)(q:blt (gt b (n-1)) (gt a i)=true):blt (gt b z) (gt a i)=true:=by
 rcases O.ntr _ (gt b z) _ (hUb (n-1) (by lia)) (hUb z (by lia)) (hUa i hi) q with p|p
 ·rw[hsb z (n-1) (by lia) (by lia) (by lia)] at p;cases p
 ·exact p
end
section
variable {prog:Program} {w:World} {A:Around} {E:Value->Shared->Prop} {s:Shared} {kd:SortKind} {U:Keyed->Prop} {blt:Keyed->Keyed->Bool}
theorem F_(O:Ord U blt)(hL:NQ prog w A E s kd U blt){st:SortSt}(hk:kindOf st=kd)(hUa:n6 U a)(hUb:n6 U b)(hsa:Srt blt a 0 a.size)(hsb:Srt blt b 0 b.size)
 (ha:0<a.size)(hb:0<b.size)(hf:blt (gt b 0) (gt a 0)=true)(hl:∀i,i<b.size->blt (gt b i) (gt a (a.size-1))=true)
 (h:∀r st',Sim st st'->r.toList=mrg blt a.toList b.toList->Q r st'):wpS (model prog w) A E s (YC a b) Q st:=by
 with_unfolding_all refine wpS_bind (wpS_lift (wpAny_rule ⟨rfl,?_⟩))
 dsimp only;refine wpS_bind (aU (by lia) ?_)
 try dsimp only
 have J0:JH blt a b #[gt a (a.size-1)] (a.size-1) b.size:=JH.pa (out:=#[]) (na:=a.size) (by unfold JH;simp[List.take_of_length_le]) ha (Nat.le_refl _) (Nat.le_refl _) hl;have sim0:Sim st st:=⟨rfl,rfl,rfl,rfl⟩
 by_cases e1:a.size-1=0
 ·rw[if_pos (by simpa using e1)];exact wpS_pure (h _ _ sim0 (J0.nA e1))
 rw[if_neg (by simpa using e1)];by_cases e2:b.size=1
 ·rw[if_pos (by simpa using e2)];exact wpS_pure (h _ _ sim0 (J0.first e2 ha hb hf (by lia)))
 rw[if_neg (by simpa using e2)];refine wpS_bind (wpS_get ?_);refine wpS_bind (wpS_mono (wpS_forRange
  (I:=λx c st'=>Sim st st'/\∃out na nb mg,c=(none,na,nb,out,mg)/\JH blt a b out na nb/\0<na/\1<nb/\na<a.size/\nb<=b.size/\x+na+nb<=a.size+b.size)
  (Q:=λc st'=>Sim st st'/\∃r,c.1=some r/\r.toList=mrg blt a.toList b.toList) ?step ?fin ?init) ?post)
 case init=>exact⟨sim0,_,_,_,_,rfl,J0,by lia,by lia,by lia,by lia,by lia⟩
 case fin=>
  rintro c st' ⟨_,out,na,nb,mg,rfl,_,h1,h2,h3,h4,h5⟩;lia
 case post=>
  rintro⟨c1,c2⟩ st' ⟨sim,r,e,hr⟩;dsimp only at e;subst e;exact wpS_pure (h r st' sim hr)
 case step=>
  rintro x₀ c st1 _ hx0 ⟨sim,out,na,nb,mg,rfl,j1,h1,h2,h3,h4,h5⟩;dsimp only;refine wpS_bind (wpS_mono (wpS_forRange
   (I:=λx c st'=>Sim st st'/\∃out na nb ac bc,c=(none,na,nb,out,ac,bc)/\JH blt a b out na nb/\0<na/\1<nb/\na<a.size/\nb<=b.size/\x₀+na+nb<=a.size+b.size/\x+na+nb<=a.size+b.size)
   (Q:=λc st'=>Sim st st'/\((∃r,c.1=some r/\r.toList=mrg blt a.toList b.toList)\/∃out na nb ac bc,c=(none,na,nb,out,ac,bc)/\JH blt a b out na nb/\0<na/\1<nb/\na<a.size/\nb<=b.size/\x₀+1+na+nb<=a.size+b.size)) ?step2 ?fin2 ?init2) ?post2)
  case init2=>exact⟨sim,_,_,_,_,_,rfl,j1,h1,h2,h3,h4,h5,by lia⟩
  case fin2=>
   rintro c st' ⟨_,out,na,nb,ac,bc,rfl,_,h1,h2,h3,h4,_,h5⟩;lia
  case step2=>
   rintro x c st2 _ hx ⟨sim,out,na,nb,ac,bc,rfl,j2,h1,h2,h3,h4,h5,h6⟩;dsimp only;refine wpS_bind (aU (by lia) (wpS_bind (aU (by lia) (wpS_bind (hL _ _ _ _ (hUb _ (by lia)) (hUa _ (by lia)) (sim.1.trans hk) ?_)))));dsimp only;cases q:blt (gt b (nb-1)) (gt a (na-1)) with
   |true=>
    simp only[if_true];refine wpS_bind (aU (by lia) ?_);have j3:=JH.pa j2 (by lia) (by lia) h4 (λi hi=>aI3 O hUa hUb hsb h4 (by lia) hi q);by_cases e3:na-1=0
    ·rw[if_pos (by simpa using e3)];exact wpS_pure ⟨sim,.inl ⟨_,rfl,j3.nA e3⟩⟩
    ·rw[if_neg (by simpa using e3)];split
     ·exact wpS_pure ⟨sim,.inr ⟨_,_,_,_,_,rfl,j3,by lia,by lia,by lia,by lia,by lia⟩⟩
     ·exact wpS_pure ⟨sim,_,_,_,_,_,rfl,j3,by lia,by lia,by lia,by lia,by lia,by lia⟩
   |false=>
    simp only[Bool.false_eq_true,if_false];refine wpS_bind (aU (by lia) ?_);have j3:=JH.pb j2 (by lia) (by lia) h4 (λi hi=>leA O hUa hUb hsa (by lia) (by lia) hi q);by_cases e3:nb-1=1
    ·rw[if_pos (by simpa using e3)];exact wpS_pure ⟨sim,.inl ⟨_,rfl,j3.first e3 ha hb hf (by lia)⟩⟩
    ·rw[if_neg (by simpa using e3)];split
     ·exact wpS_pure ⟨sim,.inr ⟨_,_,_,_,_,rfl,j3,by lia,by lia,by lia,by lia,by lia⟩⟩
     ·exact wpS_pure ⟨sim,_,_,_,_,_,rfl,j3,by lia,by lia,by lia,by lia,by lia,by lia⟩
  case post2=>
   rintro⟨c1,c2⟩ st2 ⟨sim,⟨r,e,hr⟩|⟨out,na,nb,ac,bc,e,j2,h1,h2,h3,h4,h5⟩⟩
   ·dsimp only at e;subst e;exact wpS_pure ⟨sim,r,rfl,hr⟩
   ·cases e;dsimp only;refine wpS_bind (wpS_lift (wpAny_rule ⟨rfl,?_⟩));refine wpS_bind (wpS_mono (wpS_forRange
     (I:=λx c st'=>Sim st st'/\∃out na nb mg ac bc,c=(none,na,nb,out,mg,ac,bc)/\JH blt a b out na nb/\0<na/\1<nb/\na<a.size/\nb<=b.size/\x₀+1+na+nb<=a.size+b.size/\x+na+nb<=a.size+b.size)
     (Q:=λc st'=>Sim st st'/\((∃r,c.1=some r/\r.toList=mrg blt a.toList b.toList)\/∃out na nb mg ac bc,c=(none,na,nb,out,mg,ac,bc)/\JH blt a b out na nb/\0<na/\1<nb/\na<a.size/\nb<=b.size/\x₀+1+na+nb<=a.size+b.size)) ?step3 ?fin3 ?init3) ?post3)
    case init3=>exact⟨sim,_,_,_,_,_,_,rfl,j2,h1,h2,h3,h4,h5,by lia⟩
    case fin3=>
     rintro c st' ⟨_,out,na,nb,mg,ac,bc,rfl,_,h1,h2,h3,h4,_,h5⟩;lia
    case post3=>
     rintro⟨c1,c2⟩ st3 ⟨sim,⟨r,e,hr⟩|⟨out,na,nb,mg,ac,bc,e,j3,h1,h2,h3,h4,h5⟩⟩
     ·dsimp only at e;subst e;exact wpS_pure ⟨sim,r,rfl,hr⟩
     ·cases e;dsimp only;refine wpS_bind (iM (wpS_pure ⟨⟨sim.1,sim.2,sim.3,sim.4⟩,_,_,_,_,rfl,j3,h1,h2,h3,h4,by lia⟩))
    case step3=>
     rintro x c st3 _ hx ⟨sim,out,na,nb,mg,ac,bc,rfl,j3,h1,h2,h3,h4,h5,h6⟩;dsimp only;by_cases hg:mg > 1
     ·rw[if_pos hg];refine wpS_bind (iM ?_);have sim':Sim st (SortSt.mk' (kindOf st3) (arrOf st3) (pendingOf st3) (mg-1) (failedOf st3)):=⟨sim.1,sim.2,sim.3,sim.4⟩
      have hk':kindOf (SortSt.mk' (kindOf st3) (arrOf st3) (pendingOf st3) (mg-1) (failedOf st3))=kd:=sim.1.trans hk;refine wpS_bind (aU (by lia) ?_);refine wpS_bind (fH O hL hk' (by lia) hUa (hUb _ (by lia)) (λi j i1 i2 i3=>hsa i j (by lia) i2 (by lia)) (by lia) λat_ hk1 y1 y2=>?_)
      try dsimp only
      have y1':∀i,i<at_->blt (gt b (nb-1)) (gt a i)=false:=λi hi=>by have:=y1 i hi;simpa[gp] using this
      have y2':∀i,at_<=i->i<na->blt (gt b (nb-1)) (gt a i)=true:=λi i1 i2=>by have:=y2 i i1 i2;simpa[gp] using this
      by_cases kp:na-at_ > 0
      ·rw[if_pos kp];have J1:=JH.ga j3 (by lia) (by lia) at_ (by lia) (λi i1 i2 z hz=>aI3 O hUa hUb hsb (by lia) (by lia) hz (y2' i i1 i2));by_cases e1:at_=0
       ·rw[if_pos (by simpa using e1)];exact wpS_pure ⟨sim',.inl ⟨_,rfl,J1.nA e1⟩⟩
       ·rw[if_neg (by simpa using e1)];have J2:=JH.pb J1 (by lia) (by lia) (by lia) (λz hz=>y1' z hz);refine wpS_bind (aU (by lia) ?_)
        try dsimp only
        by_cases e2:nb-1=1
        ·rw[if_pos (by simpa using e2)];exact wpS_pure ⟨sim',.inl ⟨_,rfl,J2.first e2 ha hb hf (by lia)⟩⟩
        ·rw[if_neg (by simpa using e2)];refine wpS_bind (aU (by lia) ?_);refine wpS_bind (fH O hL hk' (by lia) hUb (hUa _ (by lia)) (λi j i1 i2 i3=>hsb i j (by lia) i2 (by lia)) (by lia) λk1 hk1 y1 y2=>?_)
         try dsimp only
         have y1':∀i,i<k1->blt (gt b i) (gt a (at_-1))=true:=λi hi=>by have:=y1 i hi;simpa[gp] using this
         have y2':∀i,k1<=i->i<nb-1->blt (gt b i) (gt a (at_-1))=false:=λi i1 i2=>by have:=y2 i i1 i2;simpa[gp] using this
         by_cases k1p:nb-1-k1 > 0
         ·rw[if_pos k1p];have J3:=JH.gb J2 (by lia) (by lia) k1 (by lia) (λi i1 i2 z hz=>leA O hUa hUb hsa (by lia) (by lia) hz (y2' i i1 i2));by_cases e3:k1=1
          ·rw[if_pos (by simpa using e3)];exact wpS_pure ⟨sim',.inl ⟨_,rfl,J3.first e3 ha hb hf (by lia)⟩⟩
          ·rw[if_neg (by simpa using e3)];by_cases e3':k1=0
           ·rw[if_pos (by simpa using e3')];exact wpS_pure ⟨sim',.inl ⟨_,rfl,J3.m_ e3'⟩⟩
           ·rw[if_neg (by simpa using e3')];have J4:=JH.pa J3 (by lia) (by lia) (by lia) (λz hz=>y1' z hz);refine wpS_bind (aU (by lia) ?_)
            try dsimp only
            by_cases e4:at_-1=0
            ·rw[if_pos (by simpa using e4)];exact wpS_pure ⟨sim',.inl ⟨_,rfl,J4.nA e4⟩⟩
            ·rw[if_neg (by simpa using e4)];split
             ·exact wpS_pure ⟨sim',.inr ⟨_,_,_,_,_,_,rfl,J4,by lia,by lia,by lia,by lia,by lia⟩⟩
             ·exact wpS_pure ⟨sim',_,_,_,_,_,_,rfl,J4,by lia,by lia,by lia,by lia,by lia,by lia⟩
         ·rw[if_neg k1p];obtain rfl:k1=nb-1:=by lia
          have J3:=J2;have J4:=JH.pa J3 (by lia) (by lia) (by lia) (λz hz=>y1' z hz);refine wpS_bind (aU (by lia) ?_)
          try dsimp only
          by_cases e4:at_-1=0
          ·rw[if_pos (by simpa using e4)];exact wpS_pure ⟨sim',.inl ⟨_,rfl,J4.nA e4⟩⟩
          ·rw[if_neg (by simpa using e4)];split
           ·exact wpS_pure ⟨sim',.inr ⟨_,_,_,_,_,_,rfl,J4,by lia,by lia,by lia,by lia,by lia⟩⟩
           ·exact wpS_pure ⟨sim',_,_,_,_,_,_,rfl,J4,by lia,by lia,by lia,by lia,by lia,by lia⟩
      ·rw[if_neg kp];obtain rfl:at_=na:=by lia
       have J1:=j3;have J2:=JH.pb J1 (by lia) (by lia) (by lia) (λz hz=>y1' z hz);refine wpS_bind (aU (by lia) ?_)
       try dsimp only
       by_cases e2:nb-1=1
       ·rw[if_pos (by simpa using e2)];exact wpS_pure ⟨sim',.inl ⟨_,rfl,J2.first e2 ha hb hf (by lia)⟩⟩
       ·rw[if_neg (by simpa using e2)];refine wpS_bind (aU (by lia) ?_);refine wpS_bind (fH O hL hk' (by lia) hUb (hUa _ (by lia)) (λi j i1 i2 i3=>hsb i j (by lia) i2 (by lia)) (by lia) λk1 hk1 y1 y2=>?_)
        try dsimp only
        have y1':∀i,i<k1->blt (gt b i) (gt a (at_-1))=true:=λi hi=>by have:=y1 i hi;simpa[gp] using this
        have y2':∀i,k1<=i->i<nb-1->blt (gt b i) (gt a (at_-1))=false:=λi i1 i2=>by have:=y2 i i1 i2;simpa[gp] using this
        by_cases k1p:nb-1-k1 > 0
        ·rw[if_pos k1p];have J3:=JH.gb J2 (by lia) (by lia) k1 (by lia) (λi i1 i2 z hz=>leA O hUa hUb hsa (by lia) (by lia) hz (y2' i i1 i2));by_cases e3:k1=1
         ·rw[if_pos (by simpa using e3)];exact wpS_pure ⟨sim',.inl ⟨_,rfl,J3.first e3 ha hb hf (by lia)⟩⟩
         ·rw[if_neg (by simpa using e3)];by_cases e3':k1=0
          ·rw[if_pos (by simpa using e3')];exact wpS_pure ⟨sim',.inl ⟨_,rfl,J3.m_ e3'⟩⟩
          ·rw[if_neg (by simpa using e3')];have J4:=JH.pa J3 (by lia) (by lia) (by lia) (λz hz=>y1' z hz);refine wpS_bind (aU (by lia) ?_)
           try dsimp only
           by_cases e4:at_-1=0
           ·rw[if_pos (by simpa using e4)];exact wpS_pure ⟨sim',.inl ⟨_,rfl,J4.nA e4⟩⟩
           ·rw[if_neg (by simpa using e4)];split
            ·exact wpS_pure ⟨sim',.inr ⟨_,_,_,_,_,_,rfl,J4,by lia,by lia,by lia,by lia,by lia⟩⟩
            ·exact wpS_pure ⟨sim',_,_,_,_,_,_,rfl,J4,by lia,by lia,by lia,by lia,by lia,by lia⟩
        ·rw[if_neg k1p];obtain rfl:k1=nb-1:=by lia
         have J3:=J2;have J4:=JH.pa J3 (by lia) (by lia) (by lia) (λz hz=>y1' z hz);refine wpS_bind (aU (by lia) ?_)
         try dsimp only
         by_cases e4:at_-1=0
         ·rw[if_pos (by simpa using e4)];exact wpS_pure ⟨sim',.inl ⟨_,rfl,J4.nA e4⟩⟩
         ·rw[if_neg (by simpa using e4)];split
          ·exact wpS_pure ⟨sim',.inr ⟨_,_,_,_,_,_,rfl,J4,by lia,by lia,by lia,by lia,by lia⟩⟩
          ·exact wpS_pure ⟨sim',_,_,_,_,_,_,rfl,J4,by lia,by lia,by lia,by lia,by lia,by lia⟩
     ·rw[if_neg hg];refine wpS_bind (iM ?_);have sim':Sim st (SortSt.mk' (kindOf st3) (arrOf st3) (pendingOf st3) mg (failedOf st3)):=⟨sim.1,sim.2,sim.3,sim.4⟩
      have hk':kindOf (SortSt.mk' (kindOf st3) (arrOf st3) (pendingOf st3) mg (failedOf st3))=kd:=sim.1.trans hk;refine wpS_bind (aU (by lia) ?_);refine wpS_bind (fH O hL hk' (by lia) hUa (hUb _ (by lia)) (λi j i1 i2 i3=>hsa i j (by lia) i2 (by lia)) (by lia) λat_ hk1 y1 y2=>?_)
      try dsimp only
      have y1':∀i,i<at_->blt (gt b (nb-1)) (gt a i)=false:=λi hi=>by have:=y1 i hi;simpa[gp] using this
      have y2':∀i,at_<=i->i<na->blt (gt b (nb-1)) (gt a i)=true:=λi i1 i2=>by have:=y2 i i1 i2;simpa[gp] using this
      by_cases kp:na-at_ > 0
      ·rw[if_pos kp];have J1:=JH.ga j3 (by lia) (by lia) at_ (by lia) (λi i1 i2 z hz=>aI3 O hUa hUb hsb (by lia) (by lia) hz (y2' i i1 i2));by_cases e1:at_=0
       ·rw[if_pos (by simpa using e1)];exact wpS_pure ⟨sim',.inl ⟨_,rfl,J1.nA e1⟩⟩
       ·rw[if_neg (by simpa using e1)];have J2:=JH.pb J1 (by lia) (by lia) (by lia) (λz hz=>y1' z hz);refine wpS_bind (aU (by lia) ?_)
        try dsimp only
        by_cases e2:nb-1=1
        ·rw[if_pos (by simpa using e2)];exact wpS_pure ⟨sim',.inl ⟨_,rfl,J2.first e2 ha hb hf (by lia)⟩⟩
        ·rw[if_neg (by simpa using e2)];refine wpS_bind (aU (by lia) ?_);refine wpS_bind (fH O hL hk' (by lia) hUb (hUa _ (by lia)) (λi j i1 i2 i3=>hsb i j (by lia) i2 (by lia)) (by lia) λk1 hk1 y1 y2=>?_)
         try dsimp only
         have y1':∀i,i<k1->blt (gt b i) (gt a (at_-1))=true:=λi hi=>by have:=y1 i hi;simpa[gp] using this
         have y2':∀i,k1<=i->i<nb-1->blt (gt b i) (gt a (at_-1))=false:=λi i1 i2=>by have:=y2 i i1 i2;simpa[gp] using this
         by_cases k1p:nb-1-k1 > 0
         ·rw[if_pos k1p];have J3:=JH.gb J2 (by lia) (by lia) k1 (by lia) (λi i1 i2 z hz=>leA O hUa hUb hsa (by lia) (by lia) hz (y2' i i1 i2));by_cases e3:k1=1
          ·rw[if_pos (by simpa using e3)];exact wpS_pure ⟨sim',.inl ⟨_,rfl,J3.first e3 ha hb hf (by lia)⟩⟩
          ·rw[if_neg (by simpa using e3)];by_cases e3':k1=0
           ·rw[if_pos (by simpa using e3')];exact wpS_pure ⟨sim',.inl ⟨_,rfl,J3.m_ e3'⟩⟩
           ·rw[if_neg (by simpa using e3')];have J4:=JH.pa J3 (by lia) (by lia) (by lia) (λz hz=>y1' z hz);refine wpS_bind (aU (by lia) ?_)
            try dsimp only
            by_cases e4:at_-1=0
            ·rw[if_pos (by simpa using e4)];exact wpS_pure ⟨sim',.inl ⟨_,rfl,J4.nA e4⟩⟩
            ·rw[if_neg (by simpa using e4)];split
             ·exact wpS_pure ⟨sim',.inr ⟨_,_,_,_,_,_,rfl,J4,by lia,by lia,by lia,by lia,by lia⟩⟩
             ·exact wpS_pure ⟨sim',_,_,_,_,_,_,rfl,J4,by lia,by lia,by lia,by lia,by lia,by lia⟩
         ·rw[if_neg k1p];obtain rfl:k1=nb-1:=by lia
          have J3:=J2;have J4:=JH.pa J3 (by lia) (by lia) (by lia) (λz hz=>y1' z hz);refine wpS_bind (aU (by lia) ?_)
          try dsimp only
          by_cases e4:at_-1=0
          ·rw[if_pos (by simpa using e4)];exact wpS_pure ⟨sim',.inl ⟨_,rfl,J4.nA e4⟩⟩
          ·rw[if_neg (by simpa using e4)];split
           ·exact wpS_pure ⟨sim',.inr ⟨_,_,_,_,_,_,rfl,J4,by lia,by lia,by lia,by lia,by lia⟩⟩
           ·exact wpS_pure ⟨sim',_,_,_,_,_,_,rfl,J4,by lia,by lia,by lia,by lia,by lia,by lia⟩
      ·rw[if_neg kp];obtain rfl:at_=na:=by lia
       have J1:=j3;have J2:=JH.pb J1 (by lia) (by lia) (by lia) (λz hz=>y1' z hz);refine wpS_bind (aU (by lia) ?_)
       try dsimp only
       by_cases e2:nb-1=1
       ·rw[if_pos (by simpa using e2)];exact wpS_pure ⟨sim',.inl ⟨_,rfl,J2.first e2 ha hb hf (by lia)⟩⟩
       ·rw[if_neg (by simpa using e2)];refine wpS_bind (aU (by lia) ?_);refine wpS_bind (fH O hL hk' (by lia) hUb (hUa _ (by lia)) (λi j i1 i2 i3=>hsb i j (by lia) i2 (by lia)) (by lia) λk1 hk1 y1 y2=>?_)
        try dsimp only
        have y1':∀i,i<k1->blt (gt b i) (gt a (at_-1))=true:=λi hi=>by have:=y1 i hi;simpa[gp] using this
        have y2':∀i,k1<=i->i<nb-1->blt (gt b i) (gt a (at_-1))=false:=λi i1 i2=>by have:=y2 i i1 i2;simpa[gp] using this
        by_cases k1p:nb-1-k1 > 0
        ·rw[if_pos k1p];have J3:=JH.gb J2 (by lia) (by lia) k1 (by lia) (λi i1 i2 z hz=>leA O hUa hUb hsa (by lia) (by lia) hz (y2' i i1 i2));by_cases e3:k1=1
         ·rw[if_pos (by simpa using e3)];exact wpS_pure ⟨sim',.inl ⟨_,rfl,J3.first e3 ha hb hf (by lia)⟩⟩
         ·rw[if_neg (by simpa using e3)];by_cases e3':k1=0
          ·rw[if_pos (by simpa using e3')];exact wpS_pure ⟨sim',.inl ⟨_,rfl,J3.m_ e3'⟩⟩
          ·rw[if_neg (by simpa using e3')];have J4:=JH.pa J3 (by lia) (by lia) (by lia) (λz hz=>y1' z hz);refine wpS_bind (aU (by lia) ?_)
           try dsimp only
           by_cases e4:at_-1=0
           ·rw[if_pos (by simpa using e4)];exact wpS_pure ⟨sim',.inl ⟨_,rfl,J4.nA e4⟩⟩
           ·rw[if_neg (by simpa using e4)];split
            ·exact wpS_pure ⟨sim',.inr ⟨_,_,_,_,_,_,rfl,J4,by lia,by lia,by lia,by lia,by lia⟩⟩
            ·exact wpS_pure ⟨sim',_,_,_,_,_,_,rfl,J4,by lia,by lia,by lia,by lia,by lia,by lia⟩
        ·rw[if_neg k1p];obtain rfl:k1=nb-1:=by lia
         have J3:=J2;have J4:=JH.pa J3 (by lia) (by lia) (by lia) (λz hz=>y1' z hz);refine wpS_bind (aU (by lia) ?_)
         try dsimp only
         by_cases e4:at_-1=0
         ·rw[if_pos (by simpa using e4)];exact wpS_pure ⟨sim',.inl ⟨_,rfl,J4.nA e4⟩⟩
         ·rw[if_neg (by simpa using e4)];split
          ·exact wpS_pure ⟨sim',.inr ⟨_,_,_,_,_,_,rfl,J4,by lia,by lia,by lia,by lia,by lia⟩⟩
          ·exact wpS_pure ⟨sim',_,_,_,_,_,_,rfl,J4,by lia,by lia,by lia,by lia,by lia,by lia⟩
end
section
variable {blt:Keyed->Keyed->Bool} {U:Keyed->Prop}
def SL(blt:Keyed->Keyed->Bool)(l:List Keyed):Prop:=l.Pairwise λu v=>blt v u=false
theorem v6(xs ys:List Keyed):(mrg blt xs ys).Perm (xs++ys):=List.merge_perm_append _
theorem GC:z∈mrg blt xs ys↔z∈xs\/z∈ys:=by
 rw[(v6 xs ys).mem_iff,List.mem_append]
theorem Ord.le_trans(O:Ord U blt)(hx:U x)(hy:U y)(hz:U z)(h1:blt y x=false)(h2:blt z y=false):blt z x=false:=by
 cases e:blt z x with
 |false=>rfl
 |true=>
  rcases O.ntr _ y _ hz hy hx e with p|p
  ·rw[h2] at p;cases p
  ·rw[h1] at p;cases p
theorem Ord.aBo(O:Ord U blt)(hx:U x)(hy:U y)(h:blt x y=true):blt y x=false:=by
 cases e:blt y x with
 |false=>rfl
 |true=>
  have:=O.tr _ _ _ hx hy hx h e;rw[O.irr x hx] at this;cases this
theorem R0(O:Ord U blt):∀(xs ys:List Keyed),(∀z∈xs,U z)->(∀z∈ys,U z)->SL blt xs->SL blt ys->SL blt (mrg blt xs ys)
 |[],ys,_,_,_,h=>by rw[m9];exact h
 |x::xs,[],_,_,h,_=>by rw[lM];exact h
 |x::xs,y::ys,ux,uy,sx,sy=>by
  rw[gB];have ux0:=ux x (List.mem_cons_self ..);have uy0:=uy y (List.mem_cons_self ..);have sx':=List.pairwise_cons.mp sx;have sy':=List.pairwise_cons.mp sy;by_cases q:blt y x=true
  ·rw[if_pos q];refine List.pairwise_cons.mpr ⟨λz hz=>?_,R0 O (x::xs) ys ux (λz hz=>uy z (List.mem_cons_of_mem _ hz)) sx sy'.2⟩;rcases GC.mp hz with hz|hz
   ·rcases List.mem_cons.mp hz with rfl|hz
    ·exact O.aBo uy0 ux0 q
    ·exact O.le_trans uy0 ux0 (ux z (List.mem_cons_of_mem _ hz)) (O.aBo uy0 ux0 q) (sx'.1 z hz)
   ·exact sy'.1 z hz
  ·rw[if_neg q];have q':blt y x=false:=by simpa using q
   refine List.pairwise_cons.mpr ⟨λz hz=>?_,R0 O xs (y::ys) (λz hz=>ux z (List.mem_cons_of_mem _ hz)) uy sx'.2 sy⟩;rcases GC.mp hz with hz|hz
   ·exact sx'.1 z hz
   ·rcases List.mem_cons.mp hz with rfl|hz
    ·exact q'
    ·exact O.le_trans ux0 uy0 (uy z (List.mem_cons_of_mem _ hz)) q' (sy'.1 z hz)
 termination_by xs ys=>xs.length+ys.length
noncomputable def str(a:Array Keyed)(lo n:Nat):List Keyed:=(a.toList.drop lo).take n
theorem nC{lo n i:Nat}(hi:i<n)(h:lo+n<=a.size):(str a lo n)[i]?=some (gt a (lo+i)):=by
 unfold str;rw[List.getElem?_take_of_lt hi,List.getElem?_drop,Array.getElem?_toList];exact lK (by lia)
theorem str_len{lo n:Nat}(h:lo+n<=a.size):(str a lo n).length=n:=by
 unfold str;rw[List.length_take,List.length_drop,Array.length_toList];lia
theorem Srt.sl{lo n:Nat}(h:Srt blt a lo (lo+n))(hn:lo+n<=a.size):SL blt (str a lo n):=by
 unfold SL;rw[List.pairwise_iff_getElem];intro i j hi hj hij;rw[str_len hn] at hi hj;have e1:=nC (a:=a) (lo:=lo) hi hn;have e2:=nC (a:=a) (lo:=lo) hj hn;rw[List.getElem?_eq_getElem (by rw[str_len hn];exact hi)] at e1;rw[List.getElem?_eq_getElem (by rw[str_len hn];exact hj)] at e2;rw[Option.some.inj e1,Option.some.inj e2];exact h _ _ (by lia) (by lia) (by lia)
theorem SL.srt{lo n:Nat}(O:Ord U blt)(hU:n6 U a)(h:SL blt (str a lo n))(hn:lo+n<=a.size):Srt blt a lo (lo+n):=by
 intro i j h1 h2 h3;by_cases e:i=j
 ·subst e;exact O.irr _ (hU _ (by lia))
 ·unfold SL at h;rw[List.pairwise_iff_getElem] at h;have q:=h (i-lo) (j-lo) (by rw[str_len hn];lia) (by rw[str_len hn];lia) (by lia);have e1:=nC (a:=a) (lo:=lo) (i:=i-lo) (n:=n) (by lia) hn;have e2:=nC (a:=a) (lo:=lo) (i:=j-lo) (n:=n) (by lia) hn;rw[List.getElem?_eq_getElem (by rw[str_len hn];lia)] at e1 e2;rw[Option.some.inj e1,Option.some.inj e2,show lo+(i-lo)=i by lia,show lo+(j-lo)=j by lia] at q;exact q
theorem sV(a:Array Keyed)(lo m n:Nat):str a lo (m+n)=str a lo m++str a (lo+m) n:=by
 unfold str;rw[List.take_add,List.drop_drop]
theorem v7{lo n:Nat}(h:z∈str a lo n):∃i,lo<=i/\i<lo+n/\i<a.size/\z=gt a i:=by
 obtain⟨i,hi,e⟩:=List.getElem_of_mem h;unfold str at hi;rw[List.length_take,List.length_drop,Array.length_toList] at hi;refine⟨lo+i,by lia,by lia,by lia,?_⟩;have h2:(str a lo n)[i]?=some z:=by rw[<-e];exact List.getElem?_eq_getElem _
 unfold str at h2;rw[List.getElem?_take_of_lt (by lia),List.getElem?_drop,Array.getElem?_toList,lK (by lia)] at h2;exact(Option.some.inj h2).symm
theorem R3(a:Array Keyed)(i j:Nat):(a.extract i j).toList=str a i (j-i):=by
 unfold str;rw[Array.toList_extract,List.extract_eq_take_drop]
noncomputable def put(a:Array Keyed)(off:Nat)(l:List Keyed):Array Keyed:=l.zipIdx.foldl (λa (p,j)=>a.setIfInBounds (off+j) p) a
theorem aAf(off:Nat):∀(l:List Keyed)(k:Nat)(a:Array Keyed),off+k+l.length<=a.size->
  ((l.zipIdx k).foldl (λa (p,j)=>a.setIfInBounds (off+j) p) a).toList=a.toList.take (off+k)++l++a.toList.drop (off+k+l.length)
 |[],k,a,_=>by simp
 |x::l,k,a,h=>by
  rw[List.zipIdx_cons,List.foldl_cons];rw[List.length_cons] at h;rw[aAf off l (k+1) _ (by rw[Array.size_setIfInBounds];lia)];rw[Array.toList_setIfInBounds];have e1:(a.toList.set (off+k) x).take (off+(k+1))=a.toList.take (off+k)++[x]:=by
   rw[show off+(k+1)=(off+k)+1 by lia,List.take_add_one,List.take_set_of_le (Nat.le_refl _),List.getElem?_set_self (by rw[Array.length_toList];lia)];rfl
  have e2:(a.toList.set (off+k) x).drop (off+(k+1)+l.length)=a.toList.drop (off+k+(x::l).length):=by
   rw[List.drop_set_of_lt (by lia),List.length_cons]
   congr 1
   lia
  rw[e1,e2];simp
theorem v8(h:off+l.length<=a.size):(put a off l).toList=a.toList.take off++l++a.toList.drop (off+l.length):=by
 have:=aAf off l 0 a (by lia);rw[Nat.add_zero] at this;exact this
theorem GD:gt a i=a.toList.getD i dk:=by
 unfold gt;by_cases h:i<a.size
 ·simp[Array.getD,h]
 ·simp[Array.getD,h]
structure Stp(lo hi:Nat)(st st':SortSt):Prop where
 kd:kindOf st'=kindOf st
 fl:failedOf st'=failedOf st
 pm:(arrOf st').Perm (arrOf st)
 out:∀j,j<lo\/hi<=j->gt (arrOf st') j=gt (arrOf st) j
theorem Stp.sz{lo hi:Nat}{st st':SortSt}(h:Stp lo hi st st'):(arrOf st').size=(arrOf st).size:=h.pm.size_eq
theorem bJ(hU:n6 U a)(p:b.Perm a):n6 U b:=λi hi=>by
 have:gt b i∈b.toList:=by
  rw[GD,List.getD_eq_getElem?_getD,List.getElem?_eq_getElem (by simpa using hi)];exact List.getElem_mem _
 obtain⟨j,hj,e⟩:=aAe ((Array.perm_iff_toList_perm.mp p).mem_iff.mp this);rw[e];exact hU j hj
theorem Srt.mono{lo hi lo' hi':Nat}(h:Srt blt a lo hi)(h1:lo<=lo')(h2:hi'<=hi):Srt blt a lo' hi':=λi j a1 a2 a3=>h i j (by lia) a2 (by lia)
theorem Srt.out{lo hi:Nat}(h:Srt blt a lo hi)(e:∀j,lo<=j->j<hi->gt b j=gt a j):Srt blt b lo hi:=λi j a1 a2 a3=>by
 rw[e i (by lia) (by lia),e j (by lia) a3];exact h i j a1 a2 a3
theorem NZ(a:Array Keyed)(i m n:Nat):a.toList=a.toList.take i++(str a i m++str a (i+m) n)++a.toList.drop (i+(m+n)):=by
 rw[<-sV];unfold str;rw[List.append_assoc,<-List.drop_drop,List.take_append_drop,List.take_append_drop]
theorem aBp(h:off+l.length<=a.size):str (put a off l) off l.length=l:=by
 unfold str;rw[v8 h,List.append_assoc,List.drop_left' (by rw[List.length_take,Array.length_toList];lia),List.take_left' rfl]
theorem sW(h:off+l.length<=a.size)(hj:j<off\/off+l.length<=j):gt (put a off l) j=gt a j:=by
 rw[GD,GD,v8 h,List.getD_eq_getElem?_getD,List.getD_eq_getElem?_getD]
 congr 1
 have hl:(a.toList.take off).length=off:=by rw[List.length_take,Array.length_toList];lia
 rcases hj with hj|hj
 ·rw[List.append_assoc,List.getElem?_append_left (by lia),List.getElem?_take_of_lt hj]
 ·rw[List.getElem?_append_right (by rw[List.length_append];lia),List.length_append,hl,List.getElem?_drop]
  congr 1
  lia
end
section
variable {prog:Program} {w:World} {A:Around} {E:Value->Shared->Prop} {s:Shared} {kd:SortKind} {U:Keyed->Prop} {blt:Keyed->Keyed->Bool}
theorem aBq{st st':σ}(h:Q ⟨⟩ st'):wpS M A E s (set st':StateT σ Sem PUnit) Q st:=by
 unfold wpS;rw[StateT.run_set];exact wpAny_pure ⟨rfl,h⟩
theorem GF(O:Ord U blt)(hL:NQ prog w A E s kd U blt){i:Nat}{st:SortSt}{Q:Bool->SortSt->Prop}(hk:kindOf st=kd)(hU:n6 U (arrOf st))(hF:failedOf st=none){sa na pw sb nb pw2:Nat}
 (p1:(pendingOf st)[i]?=some (sa,na,pw))(p2:(pendingOf st)[i+1]?=some (sb,nb,pw2))(hsb:sb=sa+na)(hsz:sb+nb<=(arrOf st).size)(hna:0<na)(hnb:0<nb)
 (s1:Srt blt (arrOf st) sa (sa+na))(s2:Srt blt (arrOf st) sb (sb+nb))
 (h:∀st',Stp sa (sb+nb) st st'->Srt blt (arrOf st') sa (sb+nb)->pendingOf st'=((pendingOf st).setIfInBounds i (sa,na+nb,pw)).eraseIdxIfInBounds (i+1)->Q true st') :
  wpS (model prog w) A E s (mergeAt' i) Q st:=by
 subst hsb
 with_unfolding_all refine wpS_bind (wpS_get ?_)
 dsimp only;rw[p1,p2];dsimp only;refine wpS_bind (aBq ?_);have hk':kindOf (setPending st (((pendingOf st).setIfInBounds i (sa,na+nb,pw)).eraseIdxIfInBounds (i+1)))=kd:=hk;refine wpS_bind (aU (arr:=arrOf st) (by lia) ?_);refine wpS_bind (fH (arr:=arrOf st) O hL hk' (by lia) hU (hU _ (by lia)) (s1.mono (Nat.le_refl _) (by lia)) (by lia) λk hk1 y1 y2=>?_);dsimp only;have y1':∀i,i<k->blt (gt (arrOf st) (sa+na)) (gt (arrOf st) (sa+i))=false:=λi hi=>by have:=y1 i hi;simpa[gp] using this
 have y2':∀i,k<=i->i<na->blt (gt (arrOf st) (sa+na)) (gt (arrOf st) (sa+i))=true:=λi i1 i2=>by have:=y2 i i1 i2;simpa[gp] using this
 -- the whole stretch is sorted as soon as the first part's last is no more than the second's first
 have whole:(∀i j,sa<=i->i<sa+na->sa+na<=j->j<sa+na+nb->blt (gt (arrOf st) j) (gt (arrOf st) i)=false)->Srt blt (arrOf st) sa (sa+na+nb):=λq i j a1 a2 a3=>by
  by_cases c1:j<sa+na
  ·exact s1 i j a1 a2 c1
  ·by_cases c2:sa+na<=i
   ·exact s2 i j c2 a2 a3
   ·exact q i j a1 (by lia) (by lia) a3
 have stp0:Stp sa (sa+na+nb) st (setPending st (((pendingOf st).setIfInBounds i (sa,na+nb,pw)).eraseIdxIfInBounds (i+1))):=⟨rfl,rfl,Array.Perm.refl _,λ_ _=>rfl⟩
 by_cases e1:na-k=0
 ·rw[if_pos (by simpa using e1)];refine wpS_pure (h _ stp0 (whole λi j i1 i2 j1 j2=>?_) rfl);have q:=y1' (i-sa) (by lia);rw[show sa+(i-sa)=i by lia] at q;exact O.le_trans (hU _ (by lia)) (hU _ (by lia)) (hU _ (by lia)) q (s2 _ _ (Nat.le_refl _) j1 j2)
 rw[if_neg (by simpa using e1)];refine wpS_bind (aU (arr:=arrOf st) (by lia) ?_);refine wpS_bind (fH (arr:=arrOf st) O hL hk' (by lia) hU (hU _ (by lia)) (s2.mono (Nat.le_refl _) (by lia)) (by lia) λnb' hnb1 z1 z2=>?_);dsimp only;have ez:sa+k+(na-k)-1=sa+na-1:=by lia
 have z1':∀i,i<nb'->blt (gt (arrOf st) (sa+na+i)) (gt (arrOf st) (sa+na-1))=true:=λi hi=>by have:=z1 i hi;rw[ez] at this;simpa[gp] using this
 have z2':∀i,nb'<=i->i<nb->blt (gt (arrOf st) (sa+na+i)) (gt (arrOf st) (sa+na-1))=false:=λi i1 i2=>by have:=z2 i i1 i2;rw[ez] at this;simpa[gp] using this
 by_cases e2:nb'=0
 ·rw[if_pos (by simpa using e2)];refine wpS_pure (h _ stp0 (whole λi j i1 i2 j1 j2=>?_) rfl);have q:=z2' (j-(sa+na)) (by lia) (by lia);rw[show sa+na+(j-(sa+na))=j by lia] at q;exact O.le_trans (hU _ (by lia)) (hU (sa+na-1) (by lia)) (hU _ (by lia)) (s1 i (sa+na-1) i1 (by lia) (by lia)) q
 rw[if_neg (by simpa using e2)];have ex:((arrOf st).extract (sa+k) (sa+na)).toList=str (arrOf st) (sa+k) (na-k):=by rw[R3];congr 1;lia
 have ey:((arrOf st).extract (sa+na) (sa+na+nb')).toList=str (arrOf st) (sa+na) nb':=by rw[R3];congr 1;lia
 have zx:((arrOf st).extract (sa+k) (sa+na)).size=na-k:=by rw[Array.size_extract];lia
 have zy:((arrOf st).extract (sa+na) (sa+na+nb')).size=nb':=by rw[Array.size_extract];lia
 have gx:∀i,i<na-k->gt ((arrOf st).extract (sa+k) (sa+na)) i=gt (arrOf st) (sa+k+i):=λi hi=>by
  have e:=nC (a:=arrOf st) (lo:=sa+k) (i:=i) (n:=na-k) hi (by lia);rw[<-ex,Array.getElem?_toList,lK (by lia)] at e;exact Option.some.inj e
 have gy:∀i,i<nb'->gt ((arrOf st).extract (sa+na) (sa+na+nb')) i=gt (arrOf st) (sa+na+i):=λi hi=>by
  have e:=nC (a:=arrOf st) (lo:=sa+na) (i:=i) (n:=nb') hi (by lia);rw[<-ey,Array.getElem?_toList,lK (by lia)] at e;exact Option.some.inj e
 have fin:∀(r:Array Keyed)(st2:SortSt),Sim (setPending st (((pendingOf st).setIfInBounds i (sa,na+nb,pw)).eraseIdxIfInBounds (i+1))) st2->
   r.toList=mrg blt ((arrOf st).extract (sa+k) (sa+na)).toList ((arrOf st).extract (sa+na) (sa+na+nb')).toList->
   wpS (model prog w) A E s (do
    modify λs=>setArr s (r.toList.zipIdx.foldl (λa (p,j)=>a.setIfInBounds (sa+k+j) p) (arrOf s))
    return (failedOf (<- get)).isNone) Q st2:=by
  intro r st2 sim hr;rw[ex,ey] at hr;have hlen:r.toList.length=(na-k)+nb':=by
   rw[hr,(v6 _ _).length_eq,List.length_append,str_len (by lia),str_len (by lia)]
  have hfit:sa+k+r.toList.length<=(arrOf st).size:=by lia
  have ear:arrOf st2=arrOf st:=sim.ar;refine wpS_bind (wpS_modify (wpS_bind (wpS_get (wpS_pure ?_))));show Q (failedOf st2).isNone (setArr st2 (put (arrOf st2) (sa+k) r.toList));rw[sim.fl,show failedOf (setPending st _)=none from hF,ear];have hp:(put (arrOf st) (sa+k) r.toList).Perm (arrOf st):=by
   rw[Array.perm_iff_toList_perm,v8 hfit,hlen];have sp:=NZ (arrOf st) (sa+k) (na-k) nb';rw[show sa+k+(na-k)=sa+na by lia] at sp
   conv=>rhs;rw[sp]
   rw[hr];exact(((v6 _ _).append_left _).append_right _)
  have hU':=bJ hU hp;refine h _ ⟨sim.kd,sim.fl,hp,λj hj=>?_⟩ ?_ ?_
  ·show gt (put (arrOf st) (sa+k) r.toList) j=gt (arrOf st) j;exact sW hfit (by lia)
  ·show Srt blt (put (arrOf st) (sa+k) r.toList) sa (sa+na+nb);have hsz':(put (arrOf st) (sa+k) r.toList).size=(arrOf st).size:=hp.size_eq;have e0:str (put (arrOf st) (sa+k) r.toList) (sa+k) ((na-k)+nb')=mrg blt (str (arrOf st) (sa+k) (na-k)) (str (arrOf st) (sa+na) nb'):=by
    rw[<-hlen,aBp hfit,hr]
   have ux:∀z∈str (arrOf st) (sa+k) (na-k),U z:=λz hz=>by obtain⟨i,_,_,i3,rfl⟩:=v7 hz;exact hU i i3
   have uy:∀z∈str (arrOf st) (sa+na) nb',U z:=λz hz=>by obtain⟨i,_,_,i3,rfl⟩:=v7 hz;exact hU i i3
   have sm:SL blt (mrg blt (str (arrOf st) (sa+k) (na-k)) (str (arrOf st) (sa+na) nb')):=
    R0 O _ _ ux uy (Srt.sl (s1.mono (by lia) (by lia)) (by lia)) (Srt.sl (s2.mono (Nat.le_refl _) (by lia)) (by lia))
   have mid:Srt blt (put (arrOf st) (sa+k) r.toList) (sa+k) (sa+k+((na-k)+nb')):=SL.srt O hU' (by rw[e0];exact sm) (by lia);have inmid:∀j,sa+k<=j->j<sa+na+nb'->∃q,gt (put (arrOf st) (sa+k) r.toList) j=gt (arrOf st) q/\((sa+k<=q/\q<sa+na)\/(sa+na<=q/\q<sa+na+nb')):=by
    intro j j1 j2;have e:=nC (a:=put (arrOf st) (sa+k) r.toList) (lo:=sa+k) (i:=j-(sa+k)) (n:=(na-k)+nb') (by lia) (by lia);rw[e0,show sa+k+(j-(sa+k))=j by lia] at e;have hm:=List.mem_of_getElem? e;rcases GC.mp hm with hm|hm
    ·obtain⟨q,q1,q2,q3,q4⟩:=v7 hm;exact⟨q,q4,.inl ⟨q1,by lia⟩⟩
    ·obtain⟨q,q1,q2,q3,q4⟩:=v7 hm;exact⟨q,q4,.inr ⟨q1,q2⟩⟩
   intro i j a1 a2 a3
   -- three zones
   by_cases ci:i<sa+k
   ·have ei:gt (put (arrOf st) (sa+k) r.toList) i=gt (arrOf st) i:=sW hfit (by lia);by_cases cj:j<sa+k
    ·have ej:gt (put (arrOf st) (sa+k) r.toList) j=gt (arrOf st) j:=sW hfit (by lia);rw[ei,ej];exact s1 i j a1 a2 (by lia)
    ·have yi:=y1' (i-sa) (by lia);rw[show sa+(i-sa)=i by lia] at yi;have leB:∀q,sa+na<=q->q<sa+na+nb->blt (gt (arrOf st) q) (gt (arrOf st) i)=false:=λq q1 q2=>
      O.le_trans (hU _ (by lia)) (hU _ (by lia)) (hU _ (by lia)) yi (s2 _ _ (Nat.le_refl _) q1 q2)
     by_cases cj2:j<sa+na+nb'
     ·obtain⟨q,eq,hq⟩:=inmid j (by lia) cj2;rw[ei,eq];rcases hq with ⟨q1,q2⟩|⟨q1,q2⟩
      ·exact s1 i q a1 (by lia) q2
      ·exact leB q q1 (by lia)
     ·have ej:gt (put (arrOf st) (sa+k) r.toList) j=gt (arrOf st) j:=sW hfit (by lia);rw[ei,ej];exact leB j (by lia) a3
   ·by_cases ci2:i<sa+na+nb'
    ·by_cases cj2:j<sa+na+nb'
     ·exact mid i j (by lia) a2 (by lia)
     ·have ej:gt (put (arrOf st) (sa+k) r.toList) j=gt (arrOf st) j:=sW hfit (by lia);obtain⟨q,eq,hq⟩:=inmid i (by lia) ci2;rw[eq,ej];rcases hq with ⟨q1,q2⟩|⟨q1,q2⟩
      ·have zj:=z2' (j-(sa+na)) (by lia) (by lia);rw[show sa+na+(j-(sa+na))=j by lia] at zj;exact O.le_trans (hU _ (by lia)) (hU (sa+na-1) (by lia)) (hU _ (by lia)) (s1 q (sa+na-1) (by lia) (by lia) (by lia)) zj
      ·exact s2 q j q1 (by lia) a3
    ·have ei:gt (put (arrOf st) (sa+k) r.toList) i=gt (arrOf st) i:=sW hfit (by lia);have ej:gt (put (arrOf st) (sa+k) r.toList) j=gt (arrOf st) j:=sW hfit (by lia);rw[ei,ej];exact s2 i j (by lia) a2 a3
  ·show pendingOf st2=_;exact sim.pd
 have hUx:n6 U ((arrOf st).extract (sa+k) (sa+na)):=λi hi=>by rw[zx] at hi;rw[gx i hi];exact hU _ (by lia)
 have hUy:n6 U ((arrOf st).extract (sa+na) (sa+na+nb')):=λi hi=>by rw[zy] at hi;rw[gy i hi];exact hU _ (by lia)
 have hsx:Srt blt ((arrOf st).extract (sa+k) (sa+na)) 0 ((arrOf st).extract (sa+k) (sa+na)).size:=λi j a1 a2 a3=>by
  rw[zx] at a3;rw[gx i (by lia),gx j a3];exact s1 _ _ (by lia) (by lia) (by lia)
 have hsy:Srt blt ((arrOf st).extract (sa+na) (sa+na+nb')) 0 ((arrOf st).extract (sa+na) (sa+na+nb')).size:=λi j a1 a2 a3=>by
  rw[zy] at a3;rw[gy i (by lia),gy j a3];exact s2 _ _ (by lia) (by lia) (by lia)
 have hfst:blt (gt ((arrOf st).extract (sa+na) (sa+na+nb')) 0) (gt ((arrOf st).extract (sa+k) (sa+na)) 0)=true:=by
  rw[gx 0 (by lia),gy 0 (by lia)];exact y2' k (Nat.le_refl _) (by lia)
 have hlst:∀i,i<((arrOf st).extract (sa+na) (sa+na+nb')).size->blt (gt ((arrOf st).extract (sa+na) (sa+na+nb')) i) (gt ((arrOf st).extract (sa+k) (sa+na)) (((arrOf st).extract (sa+k) (sa+na)).size-1))=true:=λi hi=>by
  rw[zy] at hi;rw[zx,gx (na-k-1) (by lia),gy i hi,show sa+k+(na-k-1)=sa+na-1 by lia];exact z1' i hi
 by_cases ce:na-k<=nb'
 ·rw[if_pos ce];exact wpS_bind (FW (a:=(arrOf st).extract (sa+k) (sa+na)) (b:=(arrOf st).extract (sa+na) (sa+na+nb')) O hL hk' hUx hUy hsx hsy (by lia) (by lia) hfst hlst fin)
 ·rw[if_neg ce];exact wpS_bind (F_ (a:=(arrOf st).extract (sa+k) (sa+na)) (b:=(arrOf st).extract (sa+na) (sa+na+nb')) O hL hk' hUx hUy hsx hsy (by lia) (by lia) hfst hlst fin)
end
section
variable {blt:Keyed->Keyed->Bool} {U:Keyed->Prop}
def Eqv(blt:Keyed->Keyed->Bool)(x y:Keyed):Prop:=blt x y=false/\blt y x=false
theorem Eqv.XC(O:Ord U blt)(h:U x):Eqv blt x x:=⟨O.irr x h,O.irr x h⟩
theorem Eqv.symm(h:Eqv blt x y):Eqv blt y x:=⟨h.2,h.1⟩
theorem Eqv.trans(O:Ord U blt)(hx:U x)(hy:U y)(hz:U z)(h:Eqv blt x y)(g:Eqv blt y z):Eqv blt x z:=⟨O.le_trans hz hy hx g.1 h.1,O.le_trans hx hy hz h.2 g.2⟩
def NonInc(blt:Keyed->Keyed->Bool)(a:Array Keyed)(lo n:Nat):Prop:=∀i j,lo<=i->i<=j->j<lo+n->blt (gt a i) (gt a j)=false
theorem aHd(a:Array Keyed)(i:Nat):gt a i=(a[i]?).getD dk:=by
 unfold gt;by_cases h:i<a.size
 ·simp[Array.getD,h]
 ·simp[Array.getD,h]
theorem lN(hj:j<=a.size)(k:Nat):gt (mirror a i j ((j-i) / 2)) k=if i<=k/\k<j then gt a (i+j-1-k) else gt a k:=by
 rw[aHd,getElem?_mirror_all hj];split<;>rw[aHd]
theorem Stp.mir{lo hi:Nat}{st st':SortSt}(h:Stp lo hi st st'){i j:Nat}(hi':lo<=i)(hj:j<=hi)(hs:j<=(arrOf st').size):Stp lo hi st (setArr st' (mirror (arrOf st') i j ((j-i) / 2))):=
 ⟨h.kd,h.fl,(mirror_perm _ _ _ _).trans h.pm,λk hk=>by
  show gt (mirror (arrOf st') i j ((j-i) / 2)) k=_;rw[lN hs,if_neg (by lia)];exact h.out k hk⟩
theorem n8(O:Ord U blt){a:Array Keyed}{lo x:Nat}(hU:n6 U a)(hx:lo+x<a.size)(h0:1<=x)(h:Srt blt a lo (lo+x))(e:blt (gt a (lo+x)) (gt a (lo+x-1))=false):Srt blt a lo (lo+(x+1)):=λi j a1 a2 a3=>by
 by_cases c:j<lo+x
 ·exact h i j a1 a2 c
 ·obtain rfl:j=lo+x:=by lia
  by_cases d:i=lo+x
  ·rw[d];exact O.irr _ (hU _ hx)
  ·exact O.le_trans (hU _ (by lia)) (hU _ (by lia)) (hU _ hx) (h i (lo+x-1) a1 (by lia) (by lia)) e
theorem o_(O:Ord U blt){a:Array Keyed}{lo x:Nat}(hU:n6 U a)(hx:lo+x<a.size)(h0:1<=x)(h:NonInc blt a lo x)(e:blt (gt a (lo+x-1)) (gt a (lo+x))=false):NonInc blt a lo (x+1):=λi j a1 a2 a3=>by
 by_cases c:j<lo+x
 ·exact h i j a1 a2 c
 ·obtain rfl:j=lo+x:=by lia
  by_cases d:i=lo+x
  ·rw[d];exact O.irr _ (hU _ hx)
  ·exact O.le_trans (hU _ hx) (hU _ (by lia)) (hU _ (by lia)) e (h i (lo+x-1) a1 (by lia) (by lia))
theorem v_{a:Array Keyed}{lo m:Nat}(hs:lo+m<=a.size)(h:NonInc blt a lo m):Srt blt (mirror a lo (lo+m) ((lo+m-lo) / 2)) lo (lo+m):=λi j a1 a2 a3=>by
 rw[lN hs,lN hs,if_pos (by lia),if_pos (by lia)];exact h _ _ (by lia) (by lia) (by lia)
theorem wA(O:Ord U blt){a:Array Keyed}{lo m neq:Nat}(hU:n6 U a)(hs:lo+m<=a.size)(hq:neq+1<=m)(h:∀i,lo+m-(neq+1)<=i->i<lo+m->Eqv blt (gt a i) (gt a (lo+m-1))) :
  ∀k,k<a.size->Eqv blt (gt (mirror a (lo+m-(neq+1)) (lo+m) ((lo+m-(lo+m-(neq+1))) / 2)) k) (gt a k):=λk hk=>by
 rw[lN hs];by_cases c:lo+m-(neq+1)<=k/\k<lo+m
 ·rw[if_pos c];exact(h _ (by lia) (by lia)).trans O (hU _ (by lia)) (hU _ (by lia)) (hU _ (by lia)) (h k c.1 c.2).symm
 ·rw[if_neg c];exact Eqv.XC O (hU _ hk)
theorem zA(O:Ord U blt){a b:Array Keyed}{lo n:Nat}(hU:n6 U a)(hV:n6 U b)(hs:lo+n<=a.size)(ht:lo+n<=b.size)(h:NonInc blt a lo n)(e:∀k,k<a.size->Eqv blt (gt b k) (gt a k)):NonInc blt b lo n:=λi j a1 a2 a3=>
 O.le_trans (hV j (by lia)) (hU j (by lia)) (hV i (by lia)) (e j (by lia)).2 (O.le_trans (hU j (by lia)) (hU i (by lia)) (hV i (by lia)) (h i j a1 a2 a3) (e i (by lia)).1)
end
section
variable {prog:Program} {w:World} {A:Around} {E:Value->Shared->Prop} {s:Shared} {kd:SortKind} {U:Keyed->Prop} {blt:Keyed->Keyed->Bool}
theorem wpS_ltAt(hL:NQ prog w A E s kd U blt){i j:Nat}{st:SortSt}{Q:Option Bool->SortSt->Prop}(hk:kindOf st=kd)(hU:n6 U (arrOf st))(hi:i<(arrOf st).size)(hj:j<(arrOf st).size)
 (h:Q (some (blt (gt (arrOf st) i) (gt (arrOf st) j))) st):wpS (model prog w) A E s (ltAt' i j) Q st:=by
 rw[ltAt'_eq];exact wpS_bind (wpS_get (wpS_bind (aU hi (wpS_bind (aU hj (hL _ _ _ _ (hU _ hi) (hU _ hj) hk h))))))
noncomputable abbrev mrA(st3:SortSt)(lo m neq:Nat):SortSt:=setArr st3 (mirror (arrOf st3) (lo+m-(neq+1)) (lo+m) ((lo+m-(lo+m-(neq+1))) / 2))
noncomputable abbrev mrB(st3:SortSt)(lo m:Nat):SortSt:=setArr st3 (mirror (arrOf st3) lo (lo+m) ((lo+m-lo) / 2))
theorem wpS_countRun(O:Ord U blt)(hL:NQ prog w A E s kd U blt){lo nrem:Nat}{st:SortSt}{Q:Option Nat->SortSt->Prop}(hk:kindOf st=kd)(hU:n6 U (arrOf st))(hn:lo+nrem<=(arrOf st).size)(h1:1<=nrem)
 (h:∀m st',Stp lo (lo+nrem) st st'->pendingOf st'=pendingOf st->1<=m->m<=nrem->Srt blt (arrOf st') lo (lo+m)->Q (some m) st'):wpS (model prog w) A E s (countRun' lo nrem) Q st:=by
 rw[countRun'_eq];have stp0:Stp lo (lo+nrem) st st:=⟨rfl,rfl,Array.Perm.refl _,λ_ _=>rfl⟩
 refine wpS_bind (wpS_mono (wpS_forRange
  (I:=λx c st'=>st'=st/\c=(none,x)/\Srt blt (arrOf st) lo (lo+x))
  (Q:=λc st'=>st'=st/\∃m,c=(none,m)/\1<=m/\m<=nrem/\Srt blt (arrOf st) lo (lo+m)/\(m=nrem\/(m<nrem/\blt (gt (arrOf st) (lo+m)) (gt (arrOf st) (lo+m-1))=true))) ?step ?fin ?init) ?post)
 case init=>exact⟨rfl,rfl,λi j a1 a2 a3=>by rw[show i=lo by lia,show j=lo by lia];exact O.irr _ (hU _ (by lia))⟩
 case fin=>
  rintro c st' ⟨rfl,rfl,q⟩;rw[show max 1 nrem=nrem by lia] at q ⊢;exact⟨rfl,nrem,rfl,h1,Nat.le_refl _,q,.inl rfl⟩
 case step=>
  rintro x c st' x1 x2 ⟨rfl,rfl,q⟩;dsimp only;refine wpS_bind (wpS_ltAt hL hk hU (by lia) (by lia) ?_);dsimp only;cases e:blt (gt (arrOf st') (lo+x)) (gt (arrOf st') (lo+x-1)) with
  |true=>
   simp only[if_true];exact wpS_pure ⟨rfl,x,rfl,x1,by lia,q,.inr ⟨x2,e⟩⟩
  |false=>
   simp only[Bool.false_eq_true,if_false];exact wpS_pure ⟨rfl,rfl,n8 O hU (by lia) x1 q e⟩
 case post=>
  rintro c st ⟨hst,n,rfl,n1,n2,q,hor⟩;have hst:=hst.symm;subst hst;dsimp only;by_cases hnn:n=nrem
  ·rw[if_pos (by simpa using hnn)];exact wpS_pure (h n _ stp0 rfl n1 n2 q)
  rw[if_neg (by simpa using hnn)];obtain⟨n3,hlt⟩:=hor.resolve_left hnn;by_cases hgt:n > 1
  ·rw[if_pos hgt];refine wpS_bind (wpS_ltAt hL hk hU (by lia) (by lia) ?_);dsimp only;cases e:blt (gt (arrOf st) lo) (gt (arrOf st) (lo+n-1)) with
   |true=>
    simp only[if_true];exact wpS_pure (h n _ stp0 rfl n1 n2 q)
   |false=>
    simp only[Bool.false_eq_true,if_false];refine wpS_bind (wpS_reverse ?_);have stp2:Stp lo (lo+nrem) st (setArr st (mirror (arrOf st) lo (lo+n) ((lo+n-lo) / 2))):=stp0.mir (Nat.le_refl _) (by lia) (by lia);have pd2:pendingOf (setArr st (mirror (arrOf st) lo (lo+n) ((lo+n-lo) / 2)))=pendingOf st:=rfl;have ev:∀i,lo<=i->i<lo+n->Eqv blt (gt (arrOf st) i) (gt (arrOf st) (lo+n-1)):=λi i1 i2=>by
     refine⟨?_,q i (lo+n-1) i1 (by lia) (by lia)⟩
     ·cases z:blt (gt (arrOf st) i) (gt (arrOf st) (lo+n-1)) with
      |false=>rfl
      |true=>
       rcases O.ntr _ (gt (arrOf st) lo) _ (hU i (by lia)) (hU lo (by lia)) (hU (lo+n-1) (by lia)) z with p|p
       ·rw[q lo i (Nat.le_refl _) i1 i2] at p;cases p
       ·rw[e] at p;cases p
    have hm:∀k,k<(arrOf st).size->Eqv blt (gt (mirror (arrOf st) lo (lo+n) ((lo+n-lo) / 2)) k) (gt (arrOf st) k):=λk hk'=>by
     rw[lN (by lia)];by_cases c:lo<=k/\k<lo+n
     ·rw[if_pos c];exact(ev _ (by lia) (by lia)).trans O (hU _ (by lia)) (hU _ (by lia)) (hU _ (by lia)) (ev k c.1 c.2).symm
     ·rw[if_neg c];exact Eqv.XC O (hU _ hk')
    have ni1:NonInc blt (arrOf st) lo n:=λi j a1 a2 a3=>((ev i a1 (by lia)).trans O (hU _ (by lia)) (hU _ (by lia)) (hU _ (by lia)) (ev j (by lia) a3).symm).1
    have ni2:NonInc blt (arrOf (setArr st (mirror (arrOf st) lo (lo+n) ((lo+n-lo) / 2)))) lo (n+1):=
     zA O hU (bJ hU (mirror_perm _ _ _ _)) (by lia) (by show lo+(n+1)<=(mirror _ _ _ _).size;rw[mirror_size];lia) (o_ O hU (by lia) n1 ni1 (O.aBo (hU _ (by lia)) (hU _ (by lia)) hlt)) hm
    refine wpS_bind (wpS_lift (wpAny_rule ⟨rfl,?_⟩));refine wpS_bind (wpS_mono (wpS_forRange
     (I:=λx c st'=>∃neq,c=(none,x,neq)/\Stp lo (lo+nrem) st st'/\pendingOf st'=pendingOf st/\NonInc blt (arrOf st') lo x/\neq+1<=x/\∀i,lo+x-(neq+1)<=i->i<lo+x->Eqv blt (gt (arrOf st') i) (gt (arrOf st') (lo+x-1)))
     (Q:=λc st'=>∃m neq,c=(none,m,neq)/\n+1<=m/\m<=nrem/\Stp lo (lo+nrem) st st'/\pendingOf st'=pendingOf st/\NonInc blt (arrOf st') lo m/\neq+1<=m/\∀i,lo+m-(neq+1)<=i->i<lo+m->Eqv blt (gt (arrOf st') i) (gt (arrOf st') (lo+m-1))) ?dstep ?dfin ?dinit) ?dpost)
    case dinit=>exact⟨0,rfl,stp2,pd2,ni2,by lia,λi i1 i2=>by rw[show i=lo+(n+1)-1 by lia];exact Eqv.XC O (bJ hU stp2.pm _ (by rw[stp2.sz];lia))⟩
    case dfin=>
     rintro c st' ⟨neq,rfl,q1,q2,q3,q4,q5⟩;rw[show max (n+1) nrem=nrem by lia] at q3 q4 q5 ⊢;exact⟨nrem,neq,rfl,by lia,Nat.le_refl _,q1,q2,q3,q4,q5⟩
    case dstep=>
     rintro x c st' x1 x2 ⟨neq,rfl,q1,q2,q3,q4,q5⟩;dsimp only;have hUx:=bJ hU q1.pm;have hzx:lo+nrem<=(arrOf st').size:=by rw[q1.sz];lia
     refine wpS_bind (wpS_ltAt hL (q1.kd.trans hk) hUx (by lia) (by lia) ?_);dsimp only;cases e:blt (gt (arrOf st') (lo+x)) (gt (arrOf st') (lo+x-1)) with
     |true=>
      simp only[if_true];have ni':NonInc blt (arrOf st') lo (x+1):=o_ O hUx (by lia) (by lia) q3 (O.aBo (hUx _ (by lia)) (hUx _ (by lia)) e);by_cases hq:neq > 0
      ·rw[if_pos hq];refine wpS_bind (wpS_reverse (wpS_pure ⟨0,rfl,q1.mir (by lia) (by lia) (by lia),q2,?_,by lia,λi i1 i2=>?_⟩))
       ·exact zA O hUx (bJ hUx (mirror_perm _ _ _ _)) (by lia) (by rw[mirror_size];lia) ni' (wA O hUx (by lia) (by lia) q5)
       ·rw[show i=lo+(x+1)-1 by lia];exact Eqv.XC O (bJ hUx (mirror_perm _ _ _ _) _ (by rw[mirror_size];lia))
      ·rw[if_neg hq];exact wpS_pure ⟨0,rfl,q1,q2,ni',by lia,λi i1 i2=>by rw[show i=lo+(x+1)-1 by lia];exact Eqv.XC O (hUx _ (by lia))⟩
     |false=>
      simp only[Bool.false_eq_true,if_false];refine wpS_bind (wpS_ltAt hL (q1.kd.trans hk) hUx (by lia) (by lia) ?_);dsimp only;cases e2:blt (gt (arrOf st') (lo+x-1)) (gt (arrOf st') (lo+x)) with
      |true=>
       simp only[if_true];exact wpS_pure ⟨x,neq,rfl,x1,by lia,q1,q2,q3,q4,q5⟩
      |false=>
       simp only[Bool.false_eq_true,if_false];refine wpS_pure ⟨neq+1,rfl,q1,q2,o_ O hUx (by lia) (by lia) q3 e2,by lia,λi i1 i2=>?_⟩;rw[show lo+(x+1)-1=lo+x by lia];by_cases c:i=lo+x
       ·rw[c];exact Eqv.XC O (hUx _ (by lia))
       ·exact(q5 i (by lia) (by lia)).trans O (hUx _ (by lia)) (hUx _ (by lia)) (hUx _ (by lia)) ⟨e2,e⟩
    case dpost=>
     rintro c st3 ⟨m,neq,rfl,m1,m2,q1,q2,q3,q4,q5⟩;dsimp only;have hU3:=bJ hU q1.pm;have hz3:lo+nrem<=(arrOf st3).size:=by rw[q1.sz];lia
     by_cases hq:neq > 0
     ·rw[if_pos hq];refine wpS_bind (wpS_reverse ?_);have stp4:=q1.mir (i:=lo+m-(neq+1)) (j:=lo+m) (by lia) (by lia) (by lia);have ni4:NonInc blt (mirror (arrOf st3) (lo+m-(neq+1)) (lo+m) ((lo+m-(lo+m-(neq+1))) / 2)) lo m:=
       zA O hU3 (bJ hU3 (mirror_perm _ _ _ _)) (by lia) (by rw[mirror_size];lia) q3 (wA O hU3 (by lia) (by lia) q5)
      refine wpS_bind (wpS_reverse ?_);have stpA:Stp lo (lo+nrem) st (setArr (mrA st3 lo m neq) (mirror (arrOf (mrA st3 lo m neq)) lo (lo+m) ((lo+m-lo) / 2))):=stp4.mir (Nat.le_refl _) (by lia) (by rw[stp4.sz];lia);have pdA:pendingOf (setArr (mrA st3 lo m neq) (mirror (arrOf (mrA st3 lo m neq)) lo (lo+m) ((lo+m-lo) / 2)))=pendingOf st:=q2;have hsA:Srt blt (arrOf (setArr (mrA st3 lo m neq) (mirror (arrOf (mrA st3 lo m neq)) lo (lo+m) ((lo+m-lo) / 2)))) lo (lo+m):=v_ (by rw[stp4.sz];lia) ni4;refine wpS_bind (wpS_mono (wpS_forRange
       (I:=λx c st'=>st'=(setArr (mrA st3 lo m neq) (mirror (arrOf (mrA st3 lo m neq)) lo (lo+m) ((lo+m-lo) / 2)))/\c=(none,x)/\Srt blt (arrOf (setArr (mrA st3 lo m neq) (mirror (arrOf (mrA st3 lo m neq)) lo (lo+m) ((lo+m-lo) / 2)))) lo (lo+x))
       (Q:=λc st'=>st'=(setArr (mrA st3 lo m neq) (mirror (arrOf (mrA st3 lo m neq)) lo (lo+m) ((lo+m-lo) / 2)))/\∃mm,c=(none,mm)/\m<=mm/\mm<=nrem/\Srt blt (arrOf (setArr (mrA st3 lo m neq) (mirror (arrOf (mrA st3 lo m neq)) lo (lo+m) ((lo+m-lo) / 2)))) lo (lo+mm)) ?stepA ?finA ?initA) ?postA)
      case initA=>exact⟨rfl,rfl,hsA⟩
      case finA=>
       rintro c st' ⟨rfl,rfl,q⟩;rw[show max m nrem=nrem by lia] at q ⊢;exact⟨rfl,nrem,rfl,by lia,Nat.le_refl _,q⟩
      case postA=>
       rintro c st' ⟨rfl,mm,rfl,mm1,mm2,q⟩;exact wpS_pure (h mm _ stpA pdA (by lia) mm2 q)
      case stepA=>
       rintro x c st' x1 x2 ⟨rfl,rfl,q⟩;dsimp only;refine wpS_bind (wpS_ltAt hL (stpA.kd.trans hk) (bJ hU stpA.pm) (by rw[stpA.sz];lia) (by rw[stpA.sz];lia) ?_);dsimp only;cases e:blt (gt (arrOf (setArr (mrA st3 lo m neq) (mirror (arrOf (mrA st3 lo m neq)) lo (lo+m) ((lo+m-lo) / 2)))) (lo+x)) (gt (arrOf (setArr (mrA st3 lo m neq) (mirror (arrOf (mrA st3 lo m neq)) lo (lo+m) ((lo+m-lo) / 2)))) (lo+x-1)) with
       |true=>
        simp only[if_true];exact wpS_pure ⟨rfl,x,rfl,x1,by lia,q⟩
       |false=>
        simp only[Bool.false_eq_true,if_false];exact wpS_pure ⟨rfl,rfl,n8 O (bJ hU stpA.pm) (by rw[stpA.sz];lia) (by lia) q e⟩
     ·rw[if_neg hq];refine wpS_bind (wpS_reverse ?_);have stpB:Stp lo (lo+nrem) st (mrB st3 lo m):=q1.mir (Nat.le_refl _) (by lia) (by rw[q1.sz];lia);have pdB:pendingOf (mrB st3 lo m)=pendingOf st:=q2;have hsB:Srt blt (arrOf (mrB st3 lo m)) lo (lo+m):=v_ (by rw[q1.sz];lia) q3;refine wpS_bind (wpS_mono (wpS_forRange
       (I:=λx c st'=>st'=(mrB st3 lo m)/\c=(none,x)/\Srt blt (arrOf (mrB st3 lo m)) lo (lo+x))
       (Q:=λc st'=>st'=(mrB st3 lo m)/\∃mm,c=(none,mm)/\m<=mm/\mm<=nrem/\Srt blt (arrOf (mrB st3 lo m)) lo (lo+mm)) ?stepB ?finB ?initB) ?postB)
      case initB=>exact⟨rfl,rfl,hsB⟩
      case finB=>
       rintro c st' ⟨rfl,rfl,q⟩;rw[show max m nrem=nrem by lia] at q ⊢;exact⟨rfl,nrem,rfl,by lia,Nat.le_refl _,q⟩
      case postB=>
       rintro c st' ⟨rfl,mm,rfl,mm1,mm2,q⟩;exact wpS_pure (h mm _ stpB pdB (by lia) mm2 q)
      case stepB=>
       rintro x c st' x1 x2 ⟨rfl,rfl,q⟩;dsimp only;refine wpS_bind (wpS_ltAt hL (stpB.kd.trans hk) (bJ hU stpB.pm) (by rw[stpB.sz];lia) (by rw[stpB.sz];lia) ?_);dsimp only;cases e:blt (gt (arrOf (mrB st3 lo m)) (lo+x)) (gt (arrOf (mrB st3 lo m)) (lo+x-1)) with
       |true=>
        simp only[if_true];exact wpS_pure ⟨rfl,x,rfl,x1,by lia,q⟩
       |false=>
        simp only[Bool.false_eq_true,if_false];exact wpS_pure ⟨rfl,rfl,n8 O (bJ hU stpB.pm) (by rw[stpB.sz];lia) (by lia) q e⟩
  ·rw[if_neg hgt];obtain rfl:n=1:=by lia
   have stp2:=stp0;have pd2:pendingOf st=pendingOf st:=rfl;have ni2:NonInc blt (arrOf st) lo (1+1):=o_ O hU (by lia) (Nat.le_refl _) (λi j a1 a2 a3=>by rw[show i=lo by lia,show j=lo by lia];exact O.irr _ (hU _ (by lia))) (O.aBo (hU _ (by lia)) (hU _ (by lia)) hlt);refine wpS_bind (wpS_lift (wpAny_rule ⟨rfl,?_⟩));refine wpS_bind (wpS_mono (wpS_forRange
    (I:=λx c st'=>∃neq,c=(none,x,neq)/\Stp lo (lo+nrem) st st'/\pendingOf st'=pendingOf st/\NonInc blt (arrOf st') lo x/\neq+1<=x/\∀i,lo+x-(neq+1)<=i->i<lo+x->Eqv blt (gt (arrOf st') i) (gt (arrOf st') (lo+x-1)))
    (Q:=λc st'=>∃m neq,c=(none,m,neq)/\1+1<=m/\m<=nrem/\Stp lo (lo+nrem) st st'/\pendingOf st'=pendingOf st/\NonInc blt (arrOf st') lo m/\neq+1<=m/\∀i,lo+m-(neq+1)<=i->i<lo+m->Eqv blt (gt (arrOf st') i) (gt (arrOf st') (lo+m-1))) ?dstep ?dfin ?dinit) ?dpost)
   case dinit=>exact⟨0,rfl,stp2,pd2,ni2,by lia,λi i1 i2=>by rw[show i=lo+(1+1)-1 by lia];exact Eqv.XC O (bJ hU stp2.pm _ (by rw[stp2.sz];lia))⟩
   case dfin=>
    rintro c st' ⟨neq,rfl,q1,q2,q3,q4,q5⟩;rw[show max (1+1) nrem=nrem by lia] at q3 q4 q5 ⊢;exact⟨nrem,neq,rfl,by lia,Nat.le_refl _,q1,q2,q3,q4,q5⟩
   case dstep=>
    rintro x c st' x1 x2 ⟨neq,rfl,q1,q2,q3,q4,q5⟩;dsimp only;have hUx:=bJ hU q1.pm;have hzx:lo+nrem<=(arrOf st').size:=by rw[q1.sz];lia
    refine wpS_bind (wpS_ltAt hL (q1.kd.trans hk) hUx (by lia) (by lia) ?_);dsimp only;cases e:blt (gt (arrOf st') (lo+x)) (gt (arrOf st') (lo+x-1)) with
    |true=>
     simp only[if_true];have ni':NonInc blt (arrOf st') lo (x+1):=o_ O hUx (by lia) (by lia) q3 (O.aBo (hUx _ (by lia)) (hUx _ (by lia)) e);by_cases hq:neq > 0
     ·rw[if_pos hq];refine wpS_bind (wpS_reverse (wpS_pure ⟨0,rfl,q1.mir (by lia) (by lia) (by lia),q2,?_,by lia,λi i1 i2=>?_⟩))
      ·exact zA O hUx (bJ hUx (mirror_perm _ _ _ _)) (by lia) (by rw[mirror_size];lia) ni' (wA O hUx (by lia) (by lia) q5)
      ·rw[show i=lo+(x+1)-1 by lia];exact Eqv.XC O (bJ hUx (mirror_perm _ _ _ _) _ (by rw[mirror_size];lia))
     ·rw[if_neg hq];exact wpS_pure ⟨0,rfl,q1,q2,ni',by lia,λi i1 i2=>by rw[show i=lo+(x+1)-1 by lia];exact Eqv.XC O (hUx _ (by lia))⟩
    |false=>
     simp only[Bool.false_eq_true,if_false];refine wpS_bind (wpS_ltAt hL (q1.kd.trans hk) hUx (by lia) (by lia) ?_);dsimp only;cases e2:blt (gt (arrOf st') (lo+x-1)) (gt (arrOf st') (lo+x)) with
     |true=>
      simp only[if_true];exact wpS_pure ⟨x,neq,rfl,x1,by lia,q1,q2,q3,q4,q5⟩
     |false=>
      simp only[Bool.false_eq_true,if_false];refine wpS_pure ⟨neq+1,rfl,q1,q2,o_ O hUx (by lia) (by lia) q3 e2,by lia,λi i1 i2=>?_⟩;rw[show lo+(x+1)-1=lo+x by lia];by_cases c:i=lo+x
      ·rw[c];exact Eqv.XC O (hUx _ (by lia))
      ·exact(q5 i (by lia) (by lia)).trans O (hUx _ (by lia)) (hUx _ (by lia)) (hUx _ (by lia)) ⟨e2,e⟩
   case dpost=>
    rintro c st3 ⟨m,neq,rfl,m1,m2,q1,q2,q3,q4,q5⟩;dsimp only;have hU3:=bJ hU q1.pm;have hz3:lo+nrem<=(arrOf st3).size:=by rw[q1.sz];lia
    by_cases hq:neq > 0
    ·rw[if_pos hq];refine wpS_bind (wpS_reverse ?_);have stp4:=q1.mir (i:=lo+m-(neq+1)) (j:=lo+m) (by lia) (by lia) (by lia);have ni4:NonInc blt (mirror (arrOf st3) (lo+m-(neq+1)) (lo+m) ((lo+m-(lo+m-(neq+1))) / 2)) lo m:=
      zA O hU3 (bJ hU3 (mirror_perm _ _ _ _)) (by lia) (by rw[mirror_size];lia) q3 (wA O hU3 (by lia) (by lia) q5)
     refine wpS_bind (wpS_reverse ?_);have stpA:Stp lo (lo+nrem) st (setArr (mrA st3 lo m neq) (mirror (arrOf (mrA st3 lo m neq)) lo (lo+m) ((lo+m-lo) / 2))):=stp4.mir (Nat.le_refl _) (by lia) (by rw[stp4.sz];lia);have pdA:pendingOf (setArr (mrA st3 lo m neq) (mirror (arrOf (mrA st3 lo m neq)) lo (lo+m) ((lo+m-lo) / 2)))=pendingOf st:=q2;have hsA:Srt blt (arrOf (setArr (mrA st3 lo m neq) (mirror (arrOf (mrA st3 lo m neq)) lo (lo+m) ((lo+m-lo) / 2)))) lo (lo+m):=v_ (by rw[stp4.sz];lia) ni4;refine wpS_bind (wpS_mono (wpS_forRange
      (I:=λx c st'=>st'=(setArr (mrA st3 lo m neq) (mirror (arrOf (mrA st3 lo m neq)) lo (lo+m) ((lo+m-lo) / 2)))/\c=(none,x)/\Srt blt (arrOf (setArr (mrA st3 lo m neq) (mirror (arrOf (mrA st3 lo m neq)) lo (lo+m) ((lo+m-lo) / 2)))) lo (lo+x))
      (Q:=λc st'=>st'=(setArr (mrA st3 lo m neq) (mirror (arrOf (mrA st3 lo m neq)) lo (lo+m) ((lo+m-lo) / 2)))/\∃mm,c=(none,mm)/\m<=mm/\mm<=nrem/\Srt blt (arrOf (setArr (mrA st3 lo m neq) (mirror (arrOf (mrA st3 lo m neq)) lo (lo+m) ((lo+m-lo) / 2)))) lo (lo+mm)) ?stepA ?finA ?initA) ?postA)
     case initA=>exact⟨rfl,rfl,hsA⟩
     case finA=>
      rintro c st' ⟨rfl,rfl,q⟩;rw[show max m nrem=nrem by lia] at q ⊢;exact⟨rfl,nrem,rfl,by lia,Nat.le_refl _,q⟩
     case postA=>
      rintro c st' ⟨rfl,mm,rfl,mm1,mm2,q⟩;exact wpS_pure (h mm _ stpA pdA (by lia) mm2 q)
     case stepA=>
      rintro x c st' x1 x2 ⟨rfl,rfl,q⟩;dsimp only;refine wpS_bind (wpS_ltAt hL (stpA.kd.trans hk) (bJ hU stpA.pm) (by rw[stpA.sz];lia) (by rw[stpA.sz];lia) ?_);dsimp only;cases e:blt (gt (arrOf (setArr (mrA st3 lo m neq) (mirror (arrOf (mrA st3 lo m neq)) lo (lo+m) ((lo+m-lo) / 2)))) (lo+x)) (gt (arrOf (setArr (mrA st3 lo m neq) (mirror (arrOf (mrA st3 lo m neq)) lo (lo+m) ((lo+m-lo) / 2)))) (lo+x-1)) with
      |true=>
       simp only[if_true];exact wpS_pure ⟨rfl,x,rfl,x1,by lia,q⟩
      |false=>
       simp only[Bool.false_eq_true,if_false];exact wpS_pure ⟨rfl,rfl,n8 O (bJ hU stpA.pm) (by rw[stpA.sz];lia) (by lia) q e⟩
    ·rw[if_neg hq];refine wpS_bind (wpS_reverse ?_);have stpB:Stp lo (lo+nrem) st (mrB st3 lo m):=q1.mir (Nat.le_refl _) (by lia) (by rw[q1.sz];lia);have pdB:pendingOf (mrB st3 lo m)=pendingOf st:=q2;have hsB:Srt blt (arrOf (mrB st3 lo m)) lo (lo+m):=v_ (by rw[q1.sz];lia) q3;refine wpS_bind (wpS_mono (wpS_forRange
      (I:=λx c st'=>st'=(mrB st3 lo m)/\c=(none,x)/\Srt blt (arrOf (mrB st3 lo m)) lo (lo+x))
      (Q:=λc st'=>st'=(mrB st3 lo m)/\∃mm,c=(none,mm)/\m<=mm/\mm<=nrem/\Srt blt (arrOf (mrB st3 lo m)) lo (lo+mm)) ?stepB ?finB ?initB) ?postB)
     case initB=>exact⟨rfl,rfl,hsB⟩
     case finB=>
      rintro c st' ⟨rfl,rfl,q⟩;rw[show max m nrem=nrem by lia] at q ⊢;exact⟨rfl,nrem,rfl,by lia,Nat.le_refl _,q⟩
     case postB=>
      rintro c st' ⟨rfl,mm,rfl,mm1,mm2,q⟩;exact wpS_pure (h mm _ stpB pdB (by lia) mm2 q)
     case stepB=>
      rintro x c st' x1 x2 ⟨rfl,rfl,q⟩;dsimp only;refine wpS_bind (wpS_ltAt hL (stpB.kd.trans hk) (bJ hU stpB.pm) (by rw[stpB.sz];lia) (by rw[stpB.sz];lia) ?_);dsimp only;cases e:blt (gt (arrOf (mrB st3 lo m)) (lo+x)) (gt (arrOf (mrB st3 lo m)) (lo+x-1)) with
      |true=>
       simp only[if_true];exact wpS_pure ⟨rfl,x,rfl,x1,by lia,q⟩
      |false=>
       simp only[Bool.false_eq_true,if_false];exact wpS_pure ⟨rfl,rfl,n8 O (bJ hU stpB.pm) (by rw[stpB.sz];lia) (by lia) q e⟩
end
section
theorem sX(hs:src<a.size)(hd:d<=src)(k:Nat) :
  gt (bubble a src d) k=if k=src-d then gt a src else if src-d<k/\k<=src then gt a (k-1) else gt a k:=by
 rw[aHd,getElem?_bubble hs d hd]
 repeat' split
 all_goals rw[aHd]
end
section
variable {prog:Program} {w:World} {A:Around} {E:Value->Shared->Prop} {s:Shared} {kd:SortKind} {U:Keyed->Prop} {blt:Keyed->Keyed->Bool}
theorem wpS_binarySort(O:Ord U blt)(hL:NQ prog w A E s kd U blt){lo n ok:Nat}{st:SortSt}(hk:kindOf st=kd)(hU:n6 U (arrOf st))(hn:lo+n<=(arrOf st).size)(hok:ok<=n)
 (hs:Srt blt (arrOf st) lo (lo+ok))
 (h:∀st',Stp lo (lo+n) st st'->pendingOf st'=pendingOf st->Srt blt (arrOf st') lo (lo+n)->Q true st'):wpS (model prog w) A E s (binarySort' lo n ok) Q st:=by
 rw[binarySort'_eq];have stp0:Stp lo (lo+n) st st:=⟨rfl,rfl,Array.Perm.refl _,λ_ _=>rfl⟩
 refine wpS_bind (wpS_mono (wpS_forRange (I:=λk c st'=>c=(none,())/\Stp lo (lo+n) st st'/\pendingOf st'=pendingOf st/\Srt blt (arrOf st') lo (lo+min k n))
  (Q:=λc st'=>c=(none,())/\Stp lo (lo+n) st st'/\pendingOf st'=pendingOf st/\Srt blt (arrOf st') lo (lo+n)) ?step ?fin ?init) ?post)
 case post=>
  rintro c st' ⟨rfl,q1,q2,q3⟩;exact wpS_pure (h st' q1 q2 q3)
 case init=>
  refine⟨rfl,stp0,rfl,λi j a1 a2 a3=>?_⟩;by_cases h1:ok=0
  ·rw[show i=j by lia];exact O.irr _ (hU _ (by lia))
  ·exact hs i j a1 a2 (by lia)
 case fin=>
  rintro c st' ⟨hc,q1,q2,q3⟩;rw[show min (max (max ok 1) n) n=n by lia] at q3;exact⟨hc,q1,q2,q3⟩
 case step=>
  rintro k c st' k1 k2 ⟨rfl,q1,q2,q3⟩;rw[show min k n=k by lia] at q3;have hU':=bJ hU q1.pm;have hz:lo+n<=(arrOf st').size:=by rw[q1.sz];exact hn
  refine wpS_bind (wpS_mono (wpS_forRange (I:=λx c st''=>st''=st'/\∃l r,c=(none,l,r)/\l<=r/\r<=k/\r-l<=k-x/\
    (∀i,lo<=i->i<lo+l->blt (gt (arrOf st') (lo+k)) (gt (arrOf st') i)=false)/\(∀i,lo+r<=i->i<lo+k->blt (gt (arrOf st') (lo+k)) (gt (arrOf st') i)=true))
   (Q:=λc st''=>st''=st'/\∃l r,c=(none,l,r)/\l<=k/\
    (∀i,lo<=i->i<lo+l->blt (gt (arrOf st') (lo+k)) (gt (arrOf st') i)=false)/\(∀i,lo+l<=i->i<lo+k->blt (gt (arrOf st') (lo+k)) (gt (arrOf st') i)=true)) ?istep ?ifin ?iinit) ?ipost)
  case iinit=>exact⟨rfl,0,k,rfl,by lia,by lia,by lia,λi i1 i2=>by lia,λi i1 i2=>by lia⟩
  case ifin=>
   rintro c st'' ⟨rfl,l,r,rfl,b1,b2,b3,b4,b5⟩;obtain rfl:l=r:=by lia
   exact⟨rfl,l,l,rfl,b2,b4,b5⟩
  case istep=>
   rintro x c st'' _ hx ⟨rfl,l,r,rfl,b1,b2,b3,b4,b5⟩;dsimp only;by_cases hge:l >= r
   ·rw[if_pos hge];obtain rfl:l=r:=by lia
    exact wpS_pure ⟨rfl,l,l,rfl,b2,b4,b5⟩
   ·rw[if_neg hge];refine wpS_bind (wpS_ltAt hL (q1.kd.trans hk) hU' (by lia) (by lia) ?_);dsimp only;cases e:blt (gt (arrOf st'') (lo+k)) (gt (arrOf st'') (lo+(l+r) / 2)) with
    |true=>
     simp only[if_true];refine wpS_pure ⟨rfl,l,(l+r) / 2,rfl,by lia,by lia,by lia,b4,λi i1 i2=>?_⟩;rcases O.ntr _ (gt (arrOf st'') i) _ (hU' _ (by lia)) (hU' i (by lia)) (hU' _ (by lia)) e with p|p
     ·exact p
     ·rw[q3 _ i (by lia) i1 (by lia)] at p;cases p
    |false=>
     simp only[Bool.false_eq_true,if_false];refine wpS_pure ⟨rfl,(l+r) / 2+1,r,rfl,by lia,by lia,by lia,λi i1 i2=>?_,b5⟩;exact O.le_trans (hU' _ (by lia)) (hU' (lo+(l+r) / 2) (by lia)) (hU' _ (by lia)) (q3 i (lo+(l+r) / 2) i1 (by lia) (by lia)) e
  case ipost=>
   rintro c st'' ⟨rfl,l,r,rfl,b1,b4,b5⟩;show wpS _ _ _ _ (moveDown' (lo+k) (lo+l) >>= λ_=>pure (ForInStep.yield (none,()))) _ _;rw[moveDown'_eq];refine wpS_bind (wpS_modify (wpS_pure ⟨rfl,⟨q1.kd,q1.fl,(bubble_perm _ _ _).trans q1.pm,λj hj=>?_⟩,q2,?_⟩))
   ·show gt (bubble (arrOf st'') (lo+k) (lo+k-(lo+l))) j=_;rw[sX (by lia) (by lia),if_neg (by lia),if_neg (by lia)];exact q1.out j hj
   ·rw[show min (k+1) n=k+1 by lia];intro i j a1 a2 a3;show blt (gt (bubble (arrOf st'') (lo+k) (lo+k-(lo+l))) j) (gt (bubble (arrOf st'') (lo+k) (lo+k-(lo+l))) i)=false;rw[sX (by lia) (by lia),sX (by lia) (by lia),show lo+k-(lo+k-(lo+l))=lo+l by lia]
    repeat' split
    all_goals first
     | (exfalso;lia)
     |exact O.irr _ (hU' _ (by lia))
     |exact b4 _ (by lia) (by lia)
     |exact O.aBo (hU' _ (by lia)) (hU' _ (by lia)) (b5 _ (by lia) (by lia))
     |exact q3 _ _ (by lia) (by lia) (by lia)
end
section
variable {blt:Keyed->Keyed->Bool}
def Runs(blt:Keyed->Keyed->Bool)(a:Array Keyed):List (Nat×Nat×Nat)->Nat->Nat->Prop
 |[],b,e=>b=e
 | (s,n,_)::r,b,e=>s=b/\0<n/\Srt blt a b (b+n)/\Runs blt a r (b+n) e
theorem Runs.le:∀{l:List (Nat×Nat×Nat)}{b e:Nat},Runs blt a l b e->b+l.length<=e
 |[],b,e,h=>by have:b=e:=h;simp;lia
 | (s,n,p)::r,b,e,h=>by
  obtain⟨_,h1,_,h2⟩:=h;have:=Runs.le h2;rw[List.length_cons];lia
theorem Runs.app:∀{l r:List (Nat×Nat×Nat)}{b e:Nat},Runs blt a (l++r) b e↔∃m,Runs blt a l b m/\Runs blt a r m e
 |[],r,b,e=>⟨λh=>⟨b,rfl,h⟩,λ⟨m,h1,h2⟩=>by have:b=m:=h1;subst this;exact h2⟩
 | (s,n,p)::l,r,b,e=>by
  constructor
  ·rintro⟨h1,h2,h3,h4⟩;obtain⟨m,h5,h6⟩:=Runs.app.mp h4;exact⟨m,⟨h1,h2,h3,h5⟩,h6⟩
  ·rintro⟨m,⟨h1,h2,h3,h5⟩,h6⟩;exact⟨h1,h2,h3,Runs.app.mpr ⟨m,h5,h6⟩⟩
theorem Runs.out:∀{l:List (Nat×Nat×Nat)}{b e:Nat},Runs blt a l b e->(∀j,b<=j->j<e->gt a' j=gt a j)->Runs blt a' l b e
 |[],b,e,h,_=>h
 | (s,n,p)::l,b,e,⟨h1,h2,h3,h4⟩,q=>by
  have:=h4.le;exact⟨h1,h2,h3.out λj j1 j2=>q j j1 (by lia),Runs.out h4 λj j1 j2=>q j (by lia) j2⟩
theorem Runs.two(h : Runs blt a (l1 ++ (sa,na,p) :: (sb,nb,q) :: l2) b e) :
  b<=sa/\sb=sa+na/\0<na/\0<nb/\sb+nb<=e/\Srt blt a sa (sa+na)/\Srt blt a sb (sb+nb):=by
 obtain⟨m,h1,h2,h3,h4,h5,h6,h7,h8⟩:=Runs.app.mp h;subst h2 h5;have e1:=h1.le;have e2:=h8.le;exact⟨by lia,rfl,h3,h6,by lia,h4,h7⟩
theorem Runs.merge(h:Runs blt a (l1++(sa,na,p)::(sb,nb,q)::l2) b e)
 (ho:∀j,j<sa\/sb+nb<=j->gt a' j=gt a j)(hs:Srt blt a' sa (sb+nb)):Runs blt a' (l1++(sa,na+nb,p)::l2) b e:=by
 obtain⟨m,h1,h2,h3,h4,h5,h6,h7,h8⟩:=Runs.app.mp h;subst h2 h5;have e1:=h1.le;have e2:=h8.le;refine Runs.app.mpr ⟨sa,h1.out λj _ j2=>ho j (by lia),rfl,by lia,?_,?_⟩
 ·rw[<-Nat.add_assoc];exact hs
 ·rw[<-Nat.add_assoc];exact h8.out λj j1 _=>ho j (by lia)
theorem ers{p:Array (Nat×Nat×Nat)}(h:p.toList=l1++x::y::l2)(hi:l1.length=i) :
  ((p.setIfInBounds i v).eraseIdxIfInBounds (i+1)).toList=l1++v::l2:=by
 have hz:p.size=l1.length+(l2.length+2):=by
  have:=congrArg List.length h;simpa using this
 have:i+1<(p.setIfInBounds i v).size:=by rw[Array.size_setIfInBounds];lia
 rw[Array.eraseIdxIfInBounds,dif_pos this,Array.toList_eraseIdx,Array.toList_setIfInBounds,h,List.set_append_right _ _ (by lia),show i-l1.length=0 by lia,List.set_cons_zero,
  List.eraseIdx_append_of_length_le (by lia),show i+1-l1.length=1 by lia]
 rfl
theorem aFi{p:Array (Nat×Nat×Nat)}(h:i+1<p.size):∃x y l1 l2,p.toList=l1++x::y::l2/\l1.length=i/\p[i]?=some x/\p[i+1]?=some y:=by
 refine⟨p[i],p[i+1],p.toList.take i,p.toList.drop (i+2),?_,?_,by simp,by simp⟩
 ·conv=>lhs;rw[<-List.take_append_drop i p.toList]
  rw[List.drop_eq_getElem_cons (by simp;lia),List.drop_eq_getElem_cons (i:=i+1) (by simp;lia)];rfl
 ·simp;lia
end
section
variable {prog:Program} {w:World} {A:Around} {E:Value->Shared->Prop} {s:Shared} {kd:SortKind} {U:Keyed->Prop} {blt:Keyed->Keyed->Bool}
structure Bs(U:Keyed->Prop)(kd:SortKind)(a₀:Array Keyed)(st:SortSt):Prop where
 kd:kindOf st=kd
 fl:failedOf st=none
 pm:(arrOf st).Perm a₀
theorem Bs.stp{st st':SortSt}{lo hi:Nat}(b:Bs U kd a₀ st)(h:Stp lo hi st st'):Bs U kd a₀ st':=⟨h.kd.trans b.kd,h.fl.trans b.fl,h.pm.trans b.pm⟩
theorem wB(pw:Nat):∀(i:Nat){l:List (Nat×Nat×Nat)}{b e:Nat},Runs blt a l b e->Runs blt a (l.modify i λx=>(x.1,x.2.1,pw)) b e
 |_,[],_,_,h=>by
  rw[List.modify_nil];exact h
 |0,(s,n,p)::l,b,e,h=>h
 |i+1,(s,n,p)::l,b,e,⟨h1,h2,h3,h4⟩=>⟨h1,h2,h3,wB pw i h4⟩
theorem sY(O:Ord U blt)(hL:NQ prog w A E s kd U blt){a₀:Array Keyed}(hU:n6 U a₀){st:SortSt}{e i:Nat}{Q:Bool->SortSt->Prop}(B:Bs U kd a₀ st)(he:e<=a₀.size)(R:Runs blt (arrOf st) (pendingOf st).toList 0 e)
 (hi:i+1<(pendingOf st).size)
 (h:∀st',Bs U kd a₀ st'->Runs blt (arrOf st') (pendingOf st').toList 0 e->(pendingOf st').size+1=(pendingOf st).size->(∀j,e<=j->gt (arrOf st') j=gt (arrOf st) j)->Q true st'):wpS (model prog w) A E s (mergeAt' i) Q st:=by
 obtain⟨⟨sa,na,p⟩,⟨sb,nb,q⟩,l1,l2,e1,e2,e3,e4⟩:=aFi hi;rw[e1] at R;obtain⟨r1,r2,r3,r4,r5,r6,r7⟩:=R.two;have hz:(arrOf st).size=a₀.size:=B.pm.size_eq;refine GF O hL B.kd (bJ hU B.pm) B.fl e3 e4 r2 (by lia) r3 r4 r6 r7 λst' S Z P=>?_
 have P':(pendingOf st').toList=l1++(sa,na+nb,p)::l2:=by rw[P];exact ers e1 e2
 refine h st' (B.stp S) ?_ ?_ λj hj=>S.out j (by lia)
 ·rw[P'];exact R.merge S.out Z
 ·have h1:=congrArg List.length P';have h2:=congrArg List.length e1;simp at h1 h2;lia
theorem wpS_sortRuns(O:Ord U blt)(hL:NQ prog w A E s kd U blt){a₀:Array Keyed}(hU:n6 U a₀){st:SortSt}{Q:Unit->SortSt->Prop}(B:Bs U kd a₀ st)(hp:pendingOf st=#[])(hz:0<a₀.size)
 (h:∀st',Bs U kd a₀ st'->Srt blt (arrOf st') 0 a₀.size->Q () st'):wpS (model prog w) A E s sortRuns' Q st:=by
 have sz:∀{st':SortSt},Bs U kd a₀ st'->(arrOf st').size=a₀.size:=λb=>b.pm.size_eq
 rw[sortRuns'_eq];refine wpS_bind (wpS_get ?_);dsimp only;rw[sz B];generalize minRun' a₀.size a₀.size 0=minrun;refine wpS_bind (wpS_mono (wpS_forRange
  (I:=λx c st'=>∃lo,c=(none,lo)/\lo<=a₀.size/\(x<=lo\/lo=a₀.size)/\Bs U kd a₀ st'/\Runs blt (arrOf st') (pendingOf st').toList 0 lo)
  (Q:=λc st'=>c=(none,a₀.size)/\Bs U kd a₀ st'/\Runs blt (arrOf st') (pendingOf st').toList 0 a₀.size) ?step ?fin ?init) ?post)
 case init=>exact⟨0,rfl,Nat.zero_le _,.inl (Nat.le_refl _),B,by rw[hp];rfl⟩
 case fin=>
  rintro c st' ⟨lo,rfl,a1,a2,b,r⟩;obtain rfl:lo=a₀.size:=by lia
  exact⟨rfl,b,r⟩
 case step=>
  rintro x c st1 _ hx ⟨lo,rfl,a1,a2,b,r⟩;dsimp only;by_cases hge:lo >= a₀.size
  ·rw[if_pos hge];obtain rfl:lo=a₀.size:=by lia
   exact wpS_pure ⟨rfl,b,r⟩
  rw[if_neg hge];refine wpS_bind (wpS_countRun O hL b.kd (bJ hU b.pm) (by rw[sz b];lia) (by lia) λm st2 S2 P2 m1 m2 Z2=>?_);dsimp only;have b2:=b.stp S2;have r2:Runs blt (arrOf st2) (pendingOf st2).toList 0 lo:=by rw[P2];exact r.out λj _ j2=>S2.out j (.inl j2)
  have rest:∀(n:Nat),1<=n->lo+n<=a₀.size->∀(st4:SortSt),Bs U kd a₀ st4->∀l,(pendingOf st4).toList=l++[(lo,n,0)]->Runs blt (arrOf st4) l 0 lo->Srt blt (arrOf st4) lo (lo+n)->
    ∃lo',((none,lo+n):Option Unit×Nat)=(none,lo')/\lo'<=a₀.size/\(x+1<=lo'\/lo'=a₀.size)/\Bs U kd a₀ st4/\Runs blt (arrOf st4) (pendingOf st4).toList 0 lo':=by
   intro n n1 n2 st4 b4 l e r4 z4;refine⟨lo+n,rfl,n2,?_,b4,?_⟩
   ·rcases a2 with a2|a2
    ·exact .inl (by lia)
    ·lia
   ·rw[e];exact Runs.app.mpr ⟨lo,r4,rfl,by lia,z4,rfl⟩
  by_cases hm:m<minrun
  ·rw[if_pos hm];refine wpS_bind (wpS_lift (wpAny_rule ⟨rfl,?_⟩));refine wpS_bind (wpS_binarySort O hL b2.kd (bJ hU b2.pm) (by rw[sz b2];lia) (by lia) Z2 λst3 S3 P3 Z3=>?_);simp only[Bool.not_true,Bool.false_eq_true,if_false];have b3:=b2.stp S3;have r3:Runs blt (arrOf st3) (pendingOf st3).toList 0 lo:=by rw[P3];exact r2.out λj _ j2=>S3.out j (.inl j2)
   have hmm:1<=min (a₀.size-lo) minrun/\lo+min (a₀.size-lo) minrun<=a₀.size:=⟨by lia,by lia⟩
   refine wpS_bind (wpS_get ?_);cases hbk:(pendingOf st3).back? with
   |none=>
    dsimp only;refine wpS_bind (wpS_modify (wpS_pure (rest (min (a₀.size-lo) minrun) (by lia) (by lia) _ ⟨b3.kd,b3.fl,b3.pm⟩ _ ?_ r3 Z3)));show((pendingOf st3).push (lo,(min (a₀.size-lo) minrun),0)).toList=_;rw[Array.toList_push]
   |some t=>
    obtain⟨s1,n1',pw1⟩:=t;dsimp only;refine wpS_bind (wpS_mono (wpS_forRange
     (I:=λy c st'=>c=(none,())/\Bs U kd a₀ st'/\Runs blt (arrOf st') (pendingOf st').toList 0 lo/\∀j,lo<=j->gt (arrOf st') j=gt (arrOf st3) j)
     (Q:=λc st'=>c=(none,())/\Bs U kd a₀ st'/\Runs blt (arrOf st') (pendingOf st').toList 0 lo/\∀j,lo<=j->gt (arrOf st') j=gt (arrOf st3) j) ?mstep (λc st' q=>q) ⟨rfl,b3,r3,λ_ _=>rfl⟩) ?mpost)
    case mpost=>
     rintro c st4 ⟨rfl,b4,r4,o4⟩;dsimp only;refine wpS_bind (wpS_modify (wpS_bind (wpS_modify (wpS_pure (rest (min (a₀.size-lo) minrun) (by lia) (by lia) _ ⟨b4.kd,b4.fl,b4.pm⟩ _ ?_ (wB (power' a₀.size (2*s1+n1') (2*s1+n1'+n1'+min (a₀.size-lo) minrun) a₀.size) ((pendingOf st4).size-1) r4) (Z3.out λj j1 j2=>o4 j j1))))));show(((pendingOf st4).modify _ _).push (lo,(min (a₀.size-lo) minrun),0)).toList=_;rw[Array.toList_push,Array.toList_modify]
    case mstep=>
     rintro y c st4 _ hy ⟨rfl,b4,r4,o4⟩;refine wpS_bind (wpS_get ?_);by_cases hp:(pendingOf st4).size > 1
     ·rw[if_pos hp];obtain⟨t,ht⟩:∃t,(pendingOf st4)[(pendingOf st4).size-2]?=some t:=⟨_,getElem?_pos _ _ (by lia)⟩
      rw[ht];obtain⟨t1,t2,older⟩:=t;dsimp only;split
      ·exact wpS_pure ⟨rfl,b4,r4,o4⟩
      ·refine wpS_bind (sY O hL hU b4 (by lia) r4 (by lia) λst5 b5 r5 _ o5=>?_);simp only[Bool.not_true,Bool.false_eq_true,if_false];exact wpS_pure ⟨rfl,b5,r5,λj hj=>(o5 j hj).trans (o4 j hj)⟩
     ·rw[if_neg hp];exact wpS_pure ⟨rfl,b4,r4,o4⟩
  ·rw[if_neg hm];refine wpS_bind (wpS_get ?_);cases hbk:(pendingOf st2).back? with
   |none=>
    dsimp only;refine wpS_bind (wpS_modify (wpS_pure (rest m (by lia) (by lia) _ ⟨b2.kd,b2.fl,b2.pm⟩ _ ?_ r2 Z2)));show((pendingOf st2).push (lo,m,0)).toList=_;rw[Array.toList_push]
   |some t=>
    obtain⟨s1,n1',pw1⟩:=t;dsimp only;refine wpS_bind (wpS_mono (wpS_forRange
     (I:=λy c st'=>c=(none,())/\Bs U kd a₀ st'/\Runs blt (arrOf st') (pendingOf st').toList 0 lo/\∀j,lo<=j->gt (arrOf st') j=gt (arrOf st2) j)
     (Q:=λc st'=>c=(none,())/\Bs U kd a₀ st'/\Runs blt (arrOf st') (pendingOf st').toList 0 lo/\∀j,lo<=j->gt (arrOf st') j=gt (arrOf st2) j) ?mstep (λc st' q=>q) ⟨rfl,b2,r2,λ_ _=>rfl⟩) ?mpost)
    case mpost=>
     rintro c st4 ⟨rfl,b4,r4,o4⟩;dsimp only;refine wpS_bind (wpS_modify (wpS_bind (wpS_modify (wpS_pure (rest m (by lia) (by lia) _ ⟨b4.kd,b4.fl,b4.pm⟩ _ ?_ (wB (power' a₀.size (2*s1+n1') (2*s1+n1'+n1'+m) a₀.size) ((pendingOf st4).size-1) r4) (Z2.out λj j1 j2=>o4 j j1))))));show(((pendingOf st4).modify _ _).push (lo,m,0)).toList=_;rw[Array.toList_push,Array.toList_modify]
    case mstep=>
     rintro y c st4 _ hy ⟨rfl,b4,r4,o4⟩;refine wpS_bind (wpS_get ?_);by_cases hp:(pendingOf st4).size > 1
     ·rw[if_pos hp];obtain⟨t,ht⟩:∃t,(pendingOf st4)[(pendingOf st4).size-2]?=some t:=⟨_,getElem?_pos _ _ (by lia)⟩
      rw[ht];obtain⟨t1,t2,older⟩:=t;dsimp only;split
      ·exact wpS_pure ⟨rfl,b4,r4,o4⟩
      ·refine wpS_bind (sY O hL hU b4 (by lia) r4 (by lia) λst5 b5 r5 _ o5=>?_);simp only[Bool.not_true,Bool.false_eq_true,if_false];exact wpS_pure ⟨rfl,b5,r5,λj hj=>(o5 j hj).trans (o4 j hj)⟩
     ·rw[if_neg hp];exact wpS_pure ⟨rfl,b4,r4,o4⟩
 case post=>
  rintro c st1 ⟨rfl,b,r⟩;dsimp only;have hle:=r.le;rw[Array.length_toList] at hle;refine wpS_bind (wpS_mono (wpS_forRange
   (I:=λx c st'=>c=(none,())/\Bs U kd a₀ st'/\Runs blt (arrOf st') (pendingOf st').toList 0 a₀.size/\((pendingOf st').size+x<=a₀.size\/(pendingOf st').size<=1))
   (Q:=λc st'=>c=(none,())/\Bs U kd a₀ st'/\Runs blt (arrOf st') (pendingOf st').toList 0 a₀.size/\(pendingOf st').size<=1) ?fstep ?ffin ?finit) ?fpost)
  case finit=>exact⟨rfl,b,r,.inl (by lia)⟩
  case ffin=>
   rintro c st' ⟨rfl,q1,q2,q3⟩;exact⟨rfl,q1,q2,by lia⟩
  case fpost=>
   rintro c st' ⟨rfl,q1,q2,q3⟩;refine wpS_pure (h st' q1 ?_)
   match hl:(pendingOf st').toList with
   |[]=>rw[hl] at q2;have:0=a₀.size:=q2;lia
   |[(s0,n0,p0)]=>
    rw[hl] at q2;obtain⟨_,_,z,e⟩:=q2;have e:0+n0=a₀.size:=e;rw[e] at z;exact z
   |_::_::_=>
    have:=congrArg List.length hl;rw[Array.length_toList] at this;simp at this;lia
  case fstep=>
   rintro x c st4 _ hx ⟨rfl,b4,r4,o4⟩;refine wpS_bind (wpS_get ?_);by_cases hp1:(pendingOf st4).size<=1
   ·rw[if_pos hp1];exact wpS_pure ⟨rfl,b4,r4,hp1⟩
   rw[if_neg hp1];refine wpS_bind (sY O hL hU b4 (Nat.le_refl _) r4 ?hi λst5 b5 r5 e5 _=>?_)
   case hi=>
    repeat' split
    all_goals lia
   simp only[Bool.not_true,Bool.false_eq_true,if_false];exact wpS_pure ⟨rfl,b5,r5,by lia⟩
end
end TS
namespace Mi
open PySem
inductive D where
 |uD|non|bl (b:Bool)|int (i:Int)|str (x:Str)
 |tup (xs:List D)|lst (xs:List D)|dct (kvs:List (D×D))|scr (xs:List D)|fdc (kvs:List (D×D))|cel (a:Nat) (xs:List D)|exc (c:Str) (fs:List (Str×Str))|ins (c:Str) (fs:List (Str×D))
 deriving Inhabited
mutual
noncomputable def D.pure:D->Bool
 |.tup xs=>D.bA xs
 |.lst _=>false
 |.dct _=>false
 |.uD=>false
 |.scr xs=>D.bA xs
 |.fdc _=>false
 |.cel _ _=>false
 |.exc _ _=>false
 |.ins _ _=>false
 |_=>true
noncomputable def D.bA:List D->Bool
 |[]=>true
 |x::xs=>x.pure&&D.bA xs
end
mutual
noncomputable def eqD:D->D->Bool
 |.non,.non=>true
 |.bl a,.bl b=>a==b
 |.int a,.int b=>a==b
 |.bl a,.int b=>(if a then (1:Int) else 0)==b
 |.int a,.bl b=>a==(if b then (1:Int) else 0)
 |.str a,.str b=>a==b
 |.tup xs,.tup ys=>uN xs ys
 |.lst xs,.lst ys=>uN xs ys
 |_,_=>false
noncomputable def uN:List D->List D->Bool
 |[],[]=>true
 |x::xs,y::ys=>eqD x y&&uN xs ys
 |_,_=>false
end
mutual
noncomputable def D.eN:Nat->D->Bool
 |n+1,.tup xs=>D.eQ n xs
 |n+1,.lst xs=>D.eQ n xs
 |0,.tup _=>false
 |0,.lst _=>false
 |_,.dct _=>false
 |_,.uD=>false
 |_,.scr _=>false
 |_,.fdc _=>false
 |_,.cel _ _=>false
 |_,.exc _ _=>false
 |_,.ins _ _=>false
 |_,_=>true
noncomputable def D.eQ:Nat->List D->Bool
 |_,[]=>true
 |n,x::xs=>D.eN n x&&D.eQ n xs
end
inductive kY where|lt|le|gt|ge
 deriving DecidableEq
def kY.int:kY->Int->Int->Bool
 |.lt,a,b=>decide (a<b)|.le,a,b=>decide (a<=b)|.gt,a,b=>decide (b<a)|.ge,a,b=>decide (b<=a)
def kY.nat:kY->Nat->Nat->Bool
 |.lt,a,b=>decide (a<b)|.le,a,b=>decide (a<=b)|.gt,a,b=>decide (b<a)|.ge,a,b=>decide (b<=a)
noncomputable def R4(a b:Str):Bool:=decide (a.cps.toList<b.cps.toList)
def kY.str:kY->Str->Str->Bool
 |.lt,a,b=>R4 a b|.le,a,b=>!R4 b a|.gt,a,b=>R4 b a|.ge,a,b=>!R4 a b
mutual
noncomputable def n_(o:kY):D->D->Option Bool
 |.int a,.int b=>some (o.int a b)
 |.str a,.str b=>some (o.str a b)
 |.tup xs,.tup ys=>dU o xs ys
 |_,_=>none
noncomputable def dU(o:kY):List D->List D->Option Bool
 |[],ys=>some (o.nat 0 ys.length)
 |x::xs,[]=>some (o.nat (x::xs).length 0)
 |x::xs,y::ys=>if eqD x y then dU o xs ys else n_ o x y
end
inductive Res(α:Type) where
 |ok (a:α)|err (c:Str) (as:List D)|bad
noncomputable def Res.bind{α β:Type}:Res α->(α->Res β)->Res β
 |.ok a,f=>f a
 |.err c as,_=>.err c as
 |.bad,_=>.bad
noncomputable instance:Monad Res where
 pure:=.ok
 bind:=Res.bind
@[simp] theorem Res.bB(a:α)(f:α->Res β):((Res.ok a) >>= f)=f a:=rfl
@[simp] theorem Res.aHe(c:Str)(as:List D)(f:α->Res β):((Res.err c as:Res α) >>= f)=.err c as:=rfl
@[simp] theorem Res.aHf(f:α->Res β):((Res.bad:Res α) >>= f)=.bad:=rfl
@[simp] theorem Res.pure_eq(a:α):(pure a:Res α)=.ok a:=rfl
theorem Res.aBr{α β:Type}{m:Res α}{f:α->Res β}{b:β}(h:(m >>= f)=.ok b):∃a,m=.ok a/\f a=.ok b:=by
 cases m with
 |ok a=>exact⟨a,rfl,h⟩
 |err c as=>cases h
 |bad=>cases h
theorem bx{α:Type}{d:α}{P:Prop}(h:(Res.bad:Res α)=.ok d):P:=by cases h
theorem fx0{P:Prop}(h:false=true):P:=by cases h
theorem nx0{α:Type}{d:α}{P:Prop}(h:(none:Option α)=some d):P:=by cases h
noncomputable def Res.ofOpt{α:Type}:Option α->Res α
 |some a=>.ok a
 |none=>.bad
@[simp] theorem Res.aE2(a:α):Res.ofOpt (some a)=.ok a:=rfl
theorem Res.j4(h:Res.ofOpt o=.ok a):o=some a:=by
 cases o with
 |none=>cases h
 |some b=>cases h;rfl
noncomputable def lim:Nat:=1000000
inductive Bop where|add|sub|mul|fdiv|mod|pow
 deriving DecidableEq
inductive Cop where|eq|ne|ord (o:kY)|isin|notin|isN|notN
 deriving DecidableEq
noncomputable def jR(i:Int):Bool:=decide (-(2 ^ 64)<i)&&decide (i<2 ^ 64)
def aW:Bop->D->D->Res D
 |.add,.int a,.int b=>.ok (.int (a+b))
 |.sub,.int a,.int b=>.ok (.int (a-b))
 |.mul,.int a,.int b=>if jR a||jR b then .ok (.int (a*b)) else .bad
 |.fdiv,.int a,.int b=>if decide (0<b)&&decide (b<1073741824) then .ok (.int (a / b)) else .bad
 |.mod,.int a,.int b=>if decide (0<b) then .ok (.int (a % b)) else .bad
 |.pow,.int a,.int b=>if decide (0<=b)&&decide (b<=1000000)&&decide (a.natAbs<2 ^ 64) then .ok (.int (a ^ b.toNat)) else .bad
 |.add,.str a,.str b=>if decide (a.length+b.length<=lim) then .ok (.str (a++b)) else .bad
 |.add,.lst a,.lst b=>if decide (a.length+b.length<=lim)&&D.bA a&&D.bA b then .ok (.lst (a++b)) else .bad
 |_,_,_=>.bad
def aJ4:D->Res Bool
 |.non=>.ok false
 |.bl b=>.ok b
 |.int i=>.ok (i !=0)
 |.str x=>if decide (x.length<=lim) then .ok ((x.length:Int)!=0) else .bad
 |.tup xs=>.ok (!xs.isEmpty)
 |.lst xs=>.ok (!xs.isEmpty)
 |.dct kvs=>.ok (!kvs.isEmpty)
 |.uD=>.bad
 |.fdc _=>.bad
 |.cel _ _=>.bad
 |.exc _ _=>.bad
 |.ins _ _=>.bad
 |.scr xs=>.ok (!xs.isEmpty)
def j5:D->Bool
 |.int _=>true
 |.str _=>true
 |_=>false
def keyOk:D->Bool
 |.int _=>true
 |.str _=>true
 |.tup xs=>xs.all j5
 |_=>false
noncomputable def isTup:D->Bool
 |.tup _=>true
 |_=>false
def dO:List (D×D)->D->Option D
 |[],_=>none
 | (k,v)::r,q=>if eqD k q then some v else dO r q
def putD:List (D×D)->D->D->List (D×D)
 |[],q,w=>[(q,w)]
 | (k,v)::r,q,w=>if eqD k q then (k,w)::r else (k,v)::putD r q w
def wC(kvs:List (D×D))(k:D):Bool:=keyOk k&&kvs.all (λp=>isTup p.1==isTup k)
noncomputable def aY:Nat:=12
def d9:Cop->D->D->Res D
 |.eq,a,b=>if a.eN aY&&b.eN aY then .ok (.bl (eqD a b)) else .bad
 |.ne,a,b=>if a.eN aY&&b.eN aY then .ok (.bl (!eqD a b)) else .bad
 |.ord o,a,b=>if a.eN aY&&b.eN aY then (match n_ o a b with|some k=>.ok (.bl k)|none=>.bad) else .bad
 |.isin,a,.tup ys=>if a.eN aY&&D.eQ aY ys then .ok (.bl (ys.any λy=>eqD y a)) else .bad
 |.isin,a,.lst ys=>if a.eN aY&&D.eQ aY ys then .ok (.bl (ys.any λy=>eqD y a)) else .bad
 |.isin,a,.dct kvs=>if wC kvs a then .ok (.bl (dO kvs a).isSome) else .bad
 |.notin,a,.tup ys=>if a.eN aY&&D.eQ aY ys then .ok (.bl (!(ys.any λy=>eqD y a))) else .bad
 |.notin,a,.lst ys=>if a.eN aY&&D.eQ aY ys then .ok (.bl (!(ys.any λy=>eqD y a))) else .bad
 |.notin,a,.dct kvs=>if wC kvs a then .ok (.bl (!(dO kvs a).isSome)) else .bad
 |.isN,.scr _,.non=>.bad
 |.notN,.scr _,.non=>.bad
 |.isN,.fdc _,.non=>.bad
 |.notN,.fdc _,.non=>.bad
 |.isN,.cel _ _,.non=>.bad
 |.notN,.cel _ _,.non=>.bad
 |.isN,.non,.non=>.ok (.bl true)
 |.isN,a,.non=>.ok (.bl false)
 |.notN,.non,.non=>.ok (.bl false)
 |.notN,a,.non=>.ok (.bl true)
 |_,_,_=>.bad
noncomputable def ixD(n:Nat)(i:Int):Option Nat:=if 0<=i then (if i<n then some i.toNat else none) else if -(n:Int)<=i then some (i+n).toNat else none
def getD(d i:D):Res D:=
 match d,i with
 |.tup xs,.int i=>Res.ofOpt ((ixD xs.length i).bind λj=>xs[j]?)
 |.lst xs,.int i=>Res.ofOpt ((ixD xs.length i).bind λj=>xs[j]?)
 |.scr xs,.int i=>Res.ofOpt ((ixD xs.length i).bind λj=>xs[j]?)
 |.cel _ xs,.int i=>Res.ofOpt ((ixD xs.length i).bind λj=>xs[j]?)
 |.str x,.int i=>if decide (x.length<=lim) then Res.ofOpt (((ixD x.cps.toList.length i).bind λj=>x.cps.toList[j]?).map λc=>D.str ⟨#[c]⟩) else .bad
 |.dct kvs,k=>if keyOk k then Res.ofOpt (dO kvs k) else .bad
 |.fdc kvs,k=>if keyOk k then Res.ofOpt (dO kvs k) else .bad
 |_,_=>.bad
noncomputable def aE3(n d:Nat):Option Int->Nat
 |none=>d
 |some v=>if v<0 then (max (v+(n:Int)) 0).toNat else (min v (n:Int)).toNat
def cutD{α:Type}(xs:List α)(lo hi:Option Int):List α:=(xs.drop (aE3 xs.length 0 lo)).take (aE3 xs.length xs.length hi-aE3 xs.length 0 lo)
inductive Ty where|int|str|bool|list|tuple|dict
 deriving DecidableEq
def aI4:Ty->D->Res Bool
 |_,.uD=>.bad
 |_,.scr _=>.bad
 |_,.fdc _=>.bad
 |_,.cel _ _=>.bad
 |_,.exc _ _=>.bad
 |_,.ins _ _=>.bad
 |.int,.int _=>.ok true
 |.int,.bl _=>.ok true
 |.bool,.bl _=>.ok true
 |.str,.str _=>.ok true
 |.tuple,.tup _=>.ok true
 |.list,.lst _=>.ok true
 |.dict,.dct _=>.ok true
 |_,_=>.ok false
mutual
noncomputable def D.plain:D->Bool
 |.int _=>true
 |.str _=>true
 |.tup xs=>D.iR xs
 |_=>false
noncomputable def D.iR:List D->Bool
 |[]=>true
 |x::xs=>x.plain&&D.iR xs
end
mutual
noncomputable def enc:D->List Int
 |.int i=>[0,i]
 |.str x=>1::(x.cps.toList.map (λ(c:Nat)=>(c:Int)+1)++[0])
 |.tup xs=>2::CZ xs
 |_=>[]
noncomputable def CZ:List D->List Int
 |[]=>[0]
 |x::xs=>1::(enc x++CZ xs)
end
def fM:D->Nat
 |.int _=>1
 |.str _=>2
 |.tup (.int _::_)=>3
 |.tup (.str _::_)=>4
 |.tup (.tup _::_)=>5
 |_=>0
def dF(xs:List D):Bool:=xs.all λa=>a.plain&&a.eN aY&&fM a !=0&&fM a==fM (xs.headD .non)&&xs.all λb=>(n_ .lt a b).isSome
def leE(a b:D):Bool:=!decide (enc b<enc a)
def zB(xs:List D):List D:=xs.mergeSort leE
noncomputable def iT(i:Int):Bool:=decide (-(2 ^ 62)<=i)&&decide (i<2 ^ 62)
noncomputable def asB:D->Res Bool
 |.bl b=>.ok b
 |_=>.bad
noncomputable def asI:D->Res Int
 |.int i=>.ok i
 |_=>.bad
inductive Fl where
 |nx (ρ:List D)|rt (d:D)|bk (ρ:List D)|ct (ρ:List D)
noncomputable def aJx:Fl->Res D
 |.rt d=>.ok d
 |.nx _=>.ok .non
 |_=>.bad
noncomputable abbrev FE:=List D->Res D
noncomputable abbrev FT:=List D->Res Bool
noncomputable abbrev FA:=List D->Res (List D)
noncomputable def fV(i:Nat):FE:=λρ=>match ρ.getD i .uD with|.uD=>.bad|d=>.ok d
noncomputable def bC(d:D):FE:=λ_=>.ok d
abbrev cA:FE:= fV 0
abbrev dW:FE:= fV 1
abbrev eO:FE:= fV 2
abbrev cM:FE:= fV 3
abbrev kZ:FE:= fV 5
abbrev iQ:FE:= fV 4
abbrev lD:FE:= fV 6
abbrev j6:FE:= fV 7
abbrev oA:FE:= fV 9
abbrev nD:FE:= fV 8
abbrev fW:FE:= fV 17
abbrev fO:FE:= fV 12
abbrev fP:FE:= fV 10
abbrev eU:FE:= fV 11
abbrev lO:FE:= fV 13
abbrev N5:FE:= fV 14
abbrev wF:FE:= fV 15
abbrev bQ:FE:= bC (.int 0)
abbrev g_:FE:= bC (.int 2147483647)
abbrev dI:FE:= bC (.int 1)
abbrev sZ:FE:= bC (.int 104729)
abbrev wG:FE:= bC (.int 48271)
abbrev j7:FE:= bC (.int 2147483629)
abbrev p_:FE:= bC (.int 4)
abbrev wH:FE:= bC (.int 17)
abbrev R5:FE:= bC (.int 5)
abbrev aBs:FE:= bC (.int 37)
abbrev wI:FE:= bC (.int 26)
abbrev jK:FE:= bC (.int 2)
abbrev XF:FE:= bC (.int 8)
abbrev lH:FE:= bC (.int 3)
abbrev YD:FE:= bC (.int 38)
abbrev YF:FE:= bC (.int 40)
abbrev aI5:FE:= bC (.int 6)
abbrev aE4:FE:= bC (.int 7)
abbrev N6:FE:= bC (.int 12)
abbrev R6:FE:= bC (.int 100)
abbrev aBt:FE:= bC (.int 20)
abbrev R7:FE:= bC (.int 500)
noncomputable def b2(f:D->D->Res D)(a b:FE):FE:=λρ=>do let x <- a ρ;let y <- b ρ;f x y
noncomputable def b1(f:D->Res D)(a:FE):FE:=λρ=>do let x <- a ρ;f x
def bTB(a:FE):FT:=λρ=>do let x <- a ρ;asB x
noncomputable def YG(a:FT):FT:=λρ=>do let x <- a ρ;pure (!x)
noncomputable def QM(a b:FT):FT:=λρ=>do let x <- a ρ;if x then b ρ else pure false
noncomputable def bOr(a b:FT):FT:=λρ=>do let x <- a ρ;if x then pure true else b ρ
def R8(a b:FE):FE:=λρ=>do let x <- a ρ;let k <- asB x;if k then b ρ else pure (.bl false)
noncomputable def aM:FA:=λ_=>.ok []
noncomputable def aA(a:FE)(b:FA):FA:=λρ=>do let x <- a ρ;let xs <- b ρ;pure (x::xs)
def cU(a:FA):FE:=λρ=>do let xs <- a ρ;if decide (xs.length<=lim) then pure (.tup xs) else .bad
def nQ(a:FA):FE:=λρ=>do let xs <- a ρ;if decide (xs.length<=lim) then pure (.lst xs) else .bad
noncomputable def aL(f:List D->Res D)(a:FA):FE:=λρ=>do let xs <- a ρ;f xs
noncomputable def bM(f:D->List D->Res D)(o:FE)(a:FA):FE:=λρ=>do let x <- o ρ;let xs <- a ρ;f x xs
def GJ(a:FE):List D->Res (Option Int):=λρ=>do let x <- a ρ;let i <- asI x;pure (some i)
noncomputable def GK:List D->Res (Option Int):=λ_=>.ok none
def aJy:D->Res Bool
 |.dct _=>.bad
 |.scr _=>.bad
 |.fdc _=>.bad
 |d=>aJ4 d
def bTr(a:FE):FT:=λρ=>do let x <- a ρ;aJy x
noncomputable def aFj:D->Res D
 |.int i=>.ok (.int (-i))
 |_=>.bad
def aE5:D->Option Int->Option Int->Res D
 |.lst xs,lo,hi=>if D.bA xs then .ok (.lst (cutD xs lo hi)) else .bad
 |.scr xs,lo,hi=>if D.bA xs then .ok (.lst (cutD xs lo hi)) else .bad
 |.tup xs,lo,hi=>if !D.bA xs||decide (aE3 xs.length 0 lo=0/\aE3 xs.length xs.length hi=xs.length) then .bad else .ok (.tup (cutD xs lo hi))
 |_,_,_=>.bad
def dJ:List D->Res D
 |[.tup xs]=>.ok (.int xs.length)
 |[.lst xs]=>.ok (.int xs.length)
 |[.scr xs]=>.ok (.int xs.length)
 |[.cel _ xs]=>.ok (.int xs.length)
 |[.str x]=>if decide (x.length<=lim) then .ok (.int x.length) else .bad
 |_=>.bad
noncomputable def oE(kvs:List (D×D)):List D:=kvs.map (·.1)
noncomputable def dH:List D->Res D
 |[.tup xs]=>.ok (.tup xs)
 |[.lst xs]=>.ok (.tup xs)
 |_=>.bad
def d_:List D->Res D
 |[.lst xs]=>if dF xs then .ok (.lst (zB xs)) else .bad
 |_=>.bad
def Ty.nm:Ty->String
 |.int=>"int" | .str=>"str" | .bool=>"bool" | .list=>"list" | .tuple=>"tuple" | .dict=>"dict"
def R9(t:Ty)(d:D):Res D:=do let k <- aI4 t d;pure (.bl k)
def aBu:D->List D->Res D
 |.dct kvs,[k]=>if wC kvs k then .ok ((dO kvs k).getD .non) else .bad
 |.dct kvs,[k,e]=>if wC kvs k then .ok ((dO kvs k).getD e) else .bad
 |_,_=>.bad
noncomputable def bW(n:Nat)(f:List D->Res D):List D->Res D:=λds=>if decide (ds.length=n) then f ds else .bad
noncomputable abbrev FI:=List D->Res (List D×Bool)
noncomputable def tB:D->Res (List D)
 |.lst xs=>.ok xs
 |.tup xs=>.ok xs
 |_=>.bad
def lQ:List D->Res (List D×Bool)
 |[.int n]=>if iT n then .ok ((List.range n.toNat).map λ(k:Nat)=>D.int (0+(k:Int)),true) else .bad
 |_=>.bad
def N7:List D->Res (List D×Bool)
 |[.int a,.int b]=>if iT a&&iT b then .ok ((List.range (b-a).toNat).map λ(k:Nat)=>D.int (a+(k:Int)),true) else .bad
 |_=>.bad
noncomputable def gG(f:FA)(g:List D->Res (List D×Bool)):FI:=λρ=>do let xs <- f ρ;g xs
noncomputable def GP(n:Nat)(ρ:List D):List D:=(List.range n).map λi=>ρ.getD i .uD
noncomputable def h_:D->Res (List D):=λd=>.ok [d]
noncomputable def aFk(m:Nat):D->Res (List D)
 |.tup ds=>if decide (ds.length=m) then .ok ds else .bad
 |_=>.bad
def iB(n:Nat)(t:D->Res (List D))(c:FT)(f:FE)(k:Bool)(ρ:List D)(acc:List D)(x:D):Res (List D):=do
 let bs <- t x
 let ok <- c (GP n ρ++bs)
 if ok then (do
  let y <- f (GP n ρ++bs)
  if k||y.pure then pure (acc++[y]) else .bad)
 else pure acc
noncomputable def gZ(g:List D->D->Res (List D)):List D->List D->Res (List D)
 |acc,[]=>.ok acc
 |acc,x::xs=>do let a <- g acc x;gZ g a xs
def c7(n:Nat)(it:FI)(t:D->Res (List D))(c:FT)(f:FE)(k:Bool):FE:=λρ=>do
 let xs <- it ρ
 if decide (xs.1.length<=lim) then (do
  let ys <- gZ (iB n t c f k ρ) [] xs.1
  pure (.lst ys)) else .bad
noncomputable def dZ:FT:=λ_=>.ok true
noncomputable abbrev FS:=List D->Res Fl
def inner:D->Bool
 |.lst xs=>D.bA xs
 |.dct kvs=>D.bA (kvs.map (·.2))
 |.cel _ xs=>D.bA xs
 |_=>false
noncomputable def o6:FS:=λρ=>.ok (.nx ρ)
noncomputable def bF(f g:FS):FS:=λρ=>do
 let r <- f ρ
 match r with
 |.nx ρ'=>g ρ'
 |r=>.ok r
def bN(o:Bool)(i:Nat)(f:FE)(k:Bool):FS:=λρ=>do
 let d <- f ρ
 if (if o then k&&inner d else k||d.pure) then .ok (.nx (ρ.set i d)) else .bad
noncomputable def sIf(c:FT)(f g:FS):FS:=λρ=>do
 let k <- c ρ
 if k then f ρ else g ρ
noncomputable def nR(f:FE)(k:Bool):FS:=λρ=>do
 let d <- f ρ
 if k||d.pure then .ok (.rt d) else .bad
def R_(i:Nat):FS:=λρ=>do
 let d <- fV i ρ
 .ok (.rt d)
noncomputable def rtX:Nat:=1000000
noncomputable def aBv(f:FE):FS:=λρ=>do
 let _ <- f ρ
 .ok (.nx ρ)
def o7(i:Nat)(f:FE):FS:=λρ=>do
 let d <- f ρ
 match ρ.getD i .uD with
 |.lst xs=>if decide (xs.length<lim)&&d.pure then .ok (.nx (ρ.set i (.lst (xs++[d])))) else .bad
 |_=>.bad
def GQ(i:Nat)(f:FE)(g:FE):FS:=λρ=>do
 let d <- g ρ
 let k <- f ρ
 match ρ.getD i .uD with
 |.dct kvs=>if decide (kvs.length<lim)&&wC kvs k&&d.pure then .ok (.nx (ρ.set i (.dct (putD kvs k d)))) else .bad
 |_=>.bad
noncomputable def tg1(i:Nat):D->List D->Res (List D):=λd ρ=>.ok (ρ.set i d)
noncomputable def SJ:List Nat->List D->List D->List D
 |i::is,d::ds,ρ=>SJ is ds (ρ.set i d)
 |_,_,ρ=>ρ
def tgN(is:List Nat):D->List D->Res (List D)
 |.tup ds,ρ=>if decide (ds.length=is.length) then .ok (SJ is ds ρ) else .bad
 |_,_=>.bad
noncomputable def rK(t:D->List D->Res (List D))(body:FS):List D->List D->Res Fl
 |[],ρ=>.ok (.nx ρ)
 |x::xs,ρ=>do
  let ρ1 <- t x ρ
  let r <- body ρ1
  match r with
  |.nx ρ'=>rK t body xs ρ'
  |.ct ρ'=>rK t body xs ρ'
  |.bk ρ'=>.ok (.nx ρ')
  |.rt d=>.ok (.rt d)
def vD(it:FI)(t:D->List D->Res (List D))(body:FS):FS:=λρ=>do
 let xs <- it ρ
 if xs.2 then rK t body xs.1 ρ else .bad
def GR(i:Nat)(t:D->List D->Res (List D))(body:FS):FS:=λρ=>do
 let d <- fV i ρ
 let xs <- tB d
 rK t body xs ρ
def fnS(n m:Nat)(f:FS):List D->Res D:=λds=>do
 let r <- f (ds++List.replicate (m-n) .uD)
 aJx r
mutual
theorem aAg:∀(a b:D),a.plain=true->b.plain=true->eqD a b=true->a=b
 |.int i,.int j,_,_,h=>by rw[eqD] at h;rw[eq_of_beq h]
 |.str i,.str j,_,_,h=>by rw[eqD] at h;rw[eq_of_beq h]
 |.tup xs,.tup ys,h1,h2,h=>by
  rw[D.plain] at h1 h2;rw[eqD] at h;rw[SM xs ys h1 h2 h]
 |.int _,.str _,_,_,h=>by exact fx0 h
 |.int _,.tup _,_,_,h=>by exact fx0 h
 |.str _,.int _,_,_,h=>by exact fx0 h
 |.str _,.tup _,_,_,h=>by exact fx0 h
 |.tup _,.int _,_,_,h=>by exact fx0 h
 |.tup _,.str _,_,_,h=>by exact fx0 h
 |.uD,_,h,_,_=>by simp[D.plain] at h
 |.scr _,_,h,_,_=>by simp[D.plain] at h
 |.non,_,h,_,_=>by simp[D.plain] at h
 |.bl _,_,h,_,_=>by simp[D.plain] at h
 |.lst _,_,h,_,_=>by simp[D.plain] at h
 |.dct _,_,h,_,_=>by simp[D.plain] at h
 |.int _,.uD,_,h,_=>by simp[D.plain] at h
 |.int _,.scr _,_,h,_=>by simp[D.plain] at h
 |.int _,.non,_,h,_=>by simp[D.plain] at h
 |.int _,.bl _,_,h,_=>by simp[D.plain] at h
 |.int _,.lst _,_,h,_=>by simp[D.plain] at h
 |.int _,.dct _,_,h,_=>by simp[D.plain] at h
 |.str _,.uD,_,h,_=>by simp[D.plain] at h
 |.str _,.scr _,_,h,_=>by simp[D.plain] at h
 |.str _,.non,_,h,_=>by simp[D.plain] at h
 |.str _,.bl _,_,h,_=>by simp[D.plain] at h
 |.str _,.lst _,_,h,_=>by simp[D.plain] at h
 |.str _,.dct _,_,h,_=>by simp[D.plain] at h
 |.tup _,.uD,_,h,_=>by simp[D.plain] at h
 |.tup _,.scr _,_,h,_=>by simp[D.plain] at h
 |.tup _,.non,_,h,_=>by simp[D.plain] at h
 |.tup _,.bl _,_,h,_=>by simp[D.plain] at h
 |.tup _,.lst _,_,h,_=>by simp[D.plain] at h
 |.tup _,.dct _,_,h,_=>by simp[D.plain] at h
theorem SM:∀(a b:List D),D.iR a=true->D.iR b=true->uN a b=true->a=b
 |[],[],_,_,_=>rfl
 |x::xs,y::ys,h1,h2,h=>by
  rw[D.iR,Bool.and_eq_true] at h1 h2;rw[uN,Bool.and_eq_true] at h;rw[aAg x y h1.1 h2.1 h.1,SM xs ys h1.2 h2.2 h.2]
 |[],_::_,_,_,h=>by exact fx0 h
 |_::_,[],_,_,h=>by exact fx0 h
end
mutual
theorem JW:∀(a:D),a.plain=true->eqD a a=true
 |.int i,_=>by simp[eqD]
 |.str i,_=>by simp[eqD]
 |.tup xs,h=>by rw[D.plain] at h;rw[eqD];exact zE xs h
 |.uD,h=>by simp[D.plain] at h
 |.scr _,h=>by simp[D.plain] at h
 |.non,h=>by simp[D.plain] at h
 |.bl _,h=>by simp[D.plain] at h
 |.lst _,h=>by simp[D.plain] at h
 |.dct _,h=>by simp[D.plain] at h
theorem zE:∀(a:List D),D.iR a=true->uN a a=true
 |[],_=>rfl
 |x::xs,h=>by
  rw[D.iR,Bool.and_eq_true] at h;rw[uN,JW x h.1,zE xs h.2];rfl
end
theorem SN:∀(a b:List Nat)(r t:List Int),(a.map (λ(c:Nat)=>(c:Int)+1)++[0])++r=(b.map (λ(c:Nat)=>(c:Int)+1)++[0])++t->a=b/\r=t
 |[],[],r,t,h=>by simpa using h
 |[],c::b,r,t,h=>by
  simp only[List.map_nil,List.nil_append,List.cons_append,List.map_cons,List.cons.injEq] at h;lia
 |c::a,[],r,t,h=>by
  simp only[List.map_nil,List.nil_append,List.cons_append,List.map_cons,List.cons.injEq] at h;lia
 |c::a,d::b,r,t,h=>by
  simp only[List.cons_append,List.map_cons,List.cons.injEq] at h;obtain⟨e1,e2⟩:=SN a b r t h.2;exact⟨by rw[e1,show c=d by lia],e2⟩
mutual
theorem wJ:∀(a b:D)(r t:List Int),a.plain=true->b.plain=true->enc a++r=enc b++t->a=b/\r=t
 |.int i,b,r,t,_,h2,h=>by
  cases b<;>simp only[enc,D.plain,Bool.false_eq_true,List.cons_append,List.cons.injEq,List.nil_append] at h h2<;>try omega
  ·exact⟨by rw[h.2.1],h.2.2⟩
 |.str x,b,r,t,_,h2,h=>by
  cases b with
  |str y=>
   simp only[enc,List.cons_append,List.cons.injEq,true_and] at h;obtain⟨e1,e2⟩:=SN _ _ _ _ h;refine⟨?_,e2⟩;cases x;cases y;simp only[] at e1
   congr 2
   exact Array.toList_inj.mp e1
  |_=>simp[enc,D.plain] at h h2
 |.tup xs,b,r,t,h1,h2,h=>by
  cases b with
  |tup ys=>
   rw[D.plain] at h1 h2;simp only[enc,List.cons_append,List.cons.injEq,true_and] at h;obtain⟨e1,e2⟩:=JX xs ys r t h1 h2 h;exact⟨by rw[e1],e2⟩
  |_=>simp[enc,D.plain] at h h2
 |.uD,_,_,_,h,_,_=>by simp[D.plain] at h
 |.scr _,_,_,_,h,_,_=>by simp[D.plain] at h
 |.non,_,_,_,h,_,_=>by simp[D.plain] at h
 |.bl _,_,_,_,h,_,_=>by simp[D.plain] at h
 |.lst _,_,_,_,h,_,_=>by simp[D.plain] at h
 |.dct _,_,_,_,h,_,_=>by simp[D.plain] at h
theorem JX:∀(a b:List D)(r t:List Int),D.iR a=true->D.iR b=true->CZ a++r=CZ b++t->a=b/\r=t
 |[],[],r,t,_,_,h=>by simpa[CZ] using h
 |[],_::_,r,t,_,_,h=>by simp[CZ] at h
 |_::_,[],r,t,_,_,h=>by simp[CZ] at h
 |x::xs,y::ys,r,t,h1,h2,h=>by
  rw[D.iR,Bool.and_eq_true] at h1 h2;simp only[CZ,List.cons_append,List.cons.injEq,true_and,List.append_assoc] at h;obtain⟨e1,e2⟩:=wJ x y _ _ h1.1 h2.1 h;obtain⟨e3,e4⟩:=JX xs ys r t h1.2 h2.2 e2;exact⟨by rw[e1,e3],e4⟩
end
theorem aBw(h1:a.plain=true)(h2:b.plain=true)(h:enc a=enc b):a=b:=(wJ a b [] [] h1 h2 (by rw[h])).1
theorem GX(p:List Int)(r t:List Int):p++r<p++t↔r<t:=by
 induction p with
 |nil=>rfl
 |cons x p ih=>rw[List.cons_append,List.cons_append,List.cons_lt_cons_iff];simp[ih]
theorem aAh:∀(u v r t:List Int),(∀z,u++z≠v)->(∀z,v++z≠u)->(u++r<v++t↔u<v)
 |[],v,_,_,h,_=>absurd rfl (h v)
 |u,[],_,_,_,h=>absurd rfl (h u)
 |x::u,y::v,r,t,h1,h2=>by
  rw[List.cons_append,List.cons_append,List.cons_lt_cons_iff,List.cons_lt_cons_iff];by_cases e:x=y
  ·subst e;have:=aAh u v r t (λz hz=>h1 z (by rw[List.cons_append,hz])) (λz hz=>h2 z (by rw[List.cons_append,hz]));simp[this]
  ·simp[e]
theorem SQ:∀(a b:List Nat),(a.map (λ(c:Nat)=>(c:Int)+1)++[0]<b.map (λ(c:Nat)=>(c:Int)+1)++[0])↔a<b
 |[],[]=>by simp
 |[],c::b=>by
  simp only[List.map_nil,List.nil_append,List.map_cons,List.cons_append,List.cons_lt_cons_iff,List.nil_lt_cons,iff_true]
  left;lia
 |c::a,[]=>by
  simp only[List.map_nil,List.nil_append,List.map_cons,List.cons_append,List.cons_lt_cons_iff,List.not_lt_nil,iff_false,not_or,not_and];exact⟨by lia,λh=>by lia⟩
 |c::a,d::b=>by
  simp only[List.map_cons,List.cons_append,List.cons_lt_cons_iff,SQ a b];constructor
  ·rintro(h|⟨h,k⟩)
   ·left;lia
   ·right;exact⟨by lia,k⟩
  ·rintro(h|⟨h,k⟩)
   ·left;lia
   ·right;exact⟨by lia,k⟩
mutual
theorem SX:∀(a b:D)(k:Bool),a.plain=true->b.plain=true->n_ .lt a b=some k->k=decide (enc a<enc b)
 |.int i,.int j,k,_,_,h=>by
  rw[n_] at h;rw[<-Option.some.inj h];simp[enc,kY.int,List.cons_lt_cons_iff]
 |.str x,.str y,k,_,_,h=>by
  rw[n_] at h;rw[<-Option.some.inj h];have:=SQ x.cps.toList y.cps.toList;simp only[enc,kY.str,R4,List.cons_lt_cons_iff,true_and];simp[this]
 |.tup xs,.tup ys,k,h1,h2,h=>by
  rw[D.plain] at h1 h2;rw[n_] at h;rw[JZ xs ys k h1 h2 h];simp[enc,List.cons_lt_cons_iff]
 |.int _,.str _,_,_,_,h=>by exact nx0 h
 |.int _,.tup _,_,_,_,h=>by exact nx0 h
 |.int _,.uD,_,_,_,h=>by exact nx0 h
 |.int _,.scr _,_,_,_,h=>by exact nx0 h
 |.int _,.non,_,_,_,h=>by exact nx0 h
 |.int _,.bl _,_,_,_,h=>by exact nx0 h
 |.int _,.lst _,_,_,_,h=>by exact nx0 h
 |.int _,.dct _,_,_,_,h=>by exact nx0 h
 |.str _,.int _,_,_,_,h=>by exact nx0 h
 |.str _,.tup _,_,_,_,h=>by exact nx0 h
 |.str _,.uD,_,_,_,h=>by exact nx0 h
 |.str _,.scr _,_,_,_,h=>by exact nx0 h
 |.str _,.non,_,_,_,h=>by exact nx0 h
 |.str _,.bl _,_,_,_,h=>by exact nx0 h
 |.str _,.lst _,_,_,_,h=>by exact nx0 h
 |.str _,.dct _,_,_,_,h=>by exact nx0 h
 |.tup _,.int _,_,_,_,h=>by exact nx0 h
 |.tup _,.str _,_,_,_,h=>by exact nx0 h
 |.tup _,.uD,_,_,_,h=>by exact nx0 h
 |.tup _,.scr _,_,_,_,h=>by exact nx0 h
 |.tup _,.non,_,_,_,h=>by exact nx0 h
 |.tup _,.bl _,_,_,_,h=>by exact nx0 h
 |.tup _,.lst _,_,_,_,h=>by exact nx0 h
 |.tup _,.dct _,_,_,_,h=>by exact nx0 h
 |.uD,_,_,h,_,_=>by simp[D.plain] at h
 |.scr _,_,_,h,_,_=>by simp[D.plain] at h
 |.non,_,_,h,_,_=>by simp[D.plain] at h
 |.bl _,_,_,h,_,_=>by simp[D.plain] at h
 |.lst _,_,_,h,_,_=>by simp[D.plain] at h
 |.dct _,_,_,h,_,_=>by simp[D.plain] at h
theorem JZ:∀(a b:List D)(k:Bool),D.iR a=true->D.iR b=true->dU .lt a b=some k->k=decide (CZ a<CZ b)
 |[],[],k,_,_,h=>by rw[dU] at h;rw[<-Option.some.inj h];simp[CZ,kY.nat]
 |[],y::ys,k,_,_,h=>by rw[dU] at h;rw[<-Option.some.inj h];simp[CZ,kY.nat,List.cons_lt_cons_iff]
 |x::xs,[],k,_,_,h=>by rw[dU] at h;rw[<-Option.some.inj h];simp[CZ,kY.nat,List.cons_lt_cons_iff]
 |x::xs,y::ys,k,h1,h2,h=>by
  rw[D.iR,Bool.and_eq_true] at h1 h2;rw[dU] at h;simp only[CZ,List.cons_lt_cons_iff,true_and,Int.lt_irrefl,false_or];cases e:eqD x y with
  |true=>
   rw[e,if_pos rfl] at h;have:=aAg x y h1.1 h2.1 e;subst this;rw[JZ xs ys k h1.2 h2.2 h];simp[GX]
  |false=>
   rw[e,if_neg (by simp)] at h;rw[SX x y k h1.1 h2.1 h];have hne:x≠y:=λz=>by subst z;rw[JW x h1.1] at e;cases e
   have:=aAh (enc x) (enc y) (CZ xs) (CZ ys) (λz hz=>hne (wJ x y z [] h1.1 h2.1 (by simpa using hz)).1) (λz hz=>hne (wJ y x z [] h2.1 h1.1 (by simpa using hz)).1.symm);simp[this]
end
theorem S5(a b c:D)(h1:leE a b=true)(h2:leE b c=true):leE a c=true:=by
 simp only[leE,Bool.not_eq_true',decide_eq_false_iff_not] at *;exact λh=>by
  rcases(inferInstance:Std.Trichotomous (α:=List Int) (·<·)) with _
  exact h1 (List.lt_of_le_of_lt (List.not_lt.mp h2) h)
theorem S6(a b:D):(leE a b||leE b a)=true:=by
 simp only[leE,Bool.or_eq_true,Bool.not_eq_true',decide_eq_false_iff_not];by_cases h:enc b<enc a
 ·right;exact List.lt_asymm h
 ·left;exact h
theorem mJ(ds:List D):(zB ds).Perm ds:=List.mergeSort_perm ds leE
theorem zF(ds:List D):(zB ds).Pairwise λa b=>leE a b=true:=List.pairwise_mergeSort (λa b c=>S5 a b c) (λa b=>S6 a b) ds
theorem S7{ds es:List D}(hp:∀d∈ds,d.plain=true)(h:ds.Perm es)(h1:ds.Pairwise λa b=>leE a b=true)(h2:es.Pairwise λa b=>leE a b=true):ds=es:=by
 refine List.Perm.eq_of_pairwise (le:=λa b=>leE a b=true) (λa b ha hb h1 h2=>?_) h1 h2 h;simp only[leE,Bool.not_eq_true',decide_eq_false_iff_not] at h1 h2;exact aBw (hp a ha) (hp b (h.mem_iff.mpr hb)) (List.le_antisymm h1 h2)
end Mi
namespace Mi
open PySem L2
class KFrag where
 K:PySem.W.Frag
variable [KFrag]
def aBx(H:Hp)(a:Addr)(xs:List V):Prop:=(∃o,H a=some (.frz o (.lst xs)))\/
 ∃(o:Obj)(its:Array Value)(n:Nat),KFrag.K.lookup a=some o/\o.cls=.type "list"/\o.dict=none/\o.data=.seq its n/\its.size<=sizeLine/\Vals xs its.toList
theorem aBx.sq(h:aBx H a xs)(hK:KFrag.K=K):SqL K H a xs:=by
 subst hK;rcases h with ⟨o,h⟩|h
 ·exact .inl (.inr ⟨o,h⟩)
 ·exact .inr h
def kD:Key->D
 |.inl i=>.int i
 |.inr x=>.str x
noncomputable def N8:HO->Bool
 |.lst _=>true
 |.dK _=>true
 |.dT _=>true
 |_=>false
def XO(a C:Addr)(dx:Option Addr)(h:Heap):Prop:=∃o,h.get? a=some o/\o.cls=.ref C/\o.dict=dx/\∃vs,o.data=.fields vs
def XD(dx:Addr)(fs:List (Str×Str))(h:Heap):Prop:=∃mA,h.Ns1 dx mA/\PySem.Within mA (fs.map (·.1))/\∀f,match fs.lookup f with
 |some t=>∃tk,mA f=some (.str t tk)
 |none=>mA f=none
def XDs(H:Hp)(fs:List (Str×Str)):Option Addr->Prop
 |none=>fs=[]
 |some d=>H d=some (.ext (XD d fs))
mutual
inductive Rep(P:Addr->Prop)(H:Hp):V->D->Prop
 |non:Rep P H .non .non
 |bl (b:Bool):Rep P H (.bl b) (.bl b)
 |int (i:Int):Rep P H (.int i) (.int i)
 |str (x:Str):Rep P H (.str x) (.str x)
 |tup {a:Addr} {xs:List V} {ds:List D}:H a=some (.tup xs)->bR P H xs ds->Rep P H (.ref a) (.tup ds)
 |lst {a:Addr} {xs:List V} {ds:List D}:H a=some (.lst xs)->P a->bR P H xs ds->Rep P H (.ref a) (.lst ds)
 |cel {a:Addr} {xs:List V} {ds:List D}:H a=some (.lst xs)->P a->bR P H xs ds->Rep P H (.ref a) (.cel a ds)
 |frz {a:Addr} {xs:List V} {ds:List D}:aBx H a xs->bR P H xs ds->Rep P H (.ref a) (.scr ds)
 |dK {a:Addr} {kvs:List (Key×V)} {ds:List (D×D)}:H a=some (.dK kvs)->P a->jF P H kvs ds->(kvs.map (·.1)).Nodup->Rep P H (.ref a) (.dct ds)
 |dT {a:Addr} {kvs:List (List Key×V)} {ds:List (D×D)}:H a=some (.dT kvs)->P a->oF P H kvs ds->(kvs.map (·.1)).Nodup->Rep P H (.ref a) (.dct ds)
 |fdK {a:Addr} {o:Obj} {kvs:List (Key×V)} {ds:List (D×D)}:H a=some (.frz o (.dK kvs))->jF P H kvs ds->(kvs.map (·.1)).Nodup->Rep P H (.ref a) (.fdc ds)
 |fdT {a:Addr} {o:Obj} {kvs:List (List Key×V)} {ds:List (D×D)}:H a=some (.frz o (.dT kvs))->oF P H kvs ds->(kvs.map (·.1)).Nodup->Rep P H (.ref a) (.fdc ds)
 |exc {a C:Addr} {dx:Option Addr} {c:Str} {fs:List (Str×Str)}:PySem.W.nsIn KFrag.K mainGlobals c=some (some (.ref C))->H a=some (.ext (XO a C dx))->XDs H fs dx->Rep P H (.ref a) (.exc c fs)
 |ins {a C dx:Addr} {c:Str} {vs:List (Str×V)} {fs:List (Str×D)}:PySem.W.nsIn KFrag.K mainGlobals c=some (some (.ref C))->H a=some (.ins C dx vs)->J5 P H vs fs->Rep P H (.ref a) (.ins c fs)
inductive J5(P:Addr->Prop)(H:Hp):List (Str×V)->List (Str×D)->Prop
 |nil:J5 P H [] []
 |cons {f:Str} {v:V} {d:D} {r:List (Str×V)} {ds:List (Str×D)}:Rep P H v d->J5 P H r ds->J5 P H ((f,v)::r) ((f,d)::ds)
inductive bR(P:Addr->Prop)(H:Hp):List V->List D->Prop
 |nil:bR P H [] []
 |cons {v:V} {d:D} {vs:List V} {ds:List D}:Rep P H v d->bR P H vs ds->bR P H (v::vs) (d::ds)
inductive jF(P:Addr->Prop)(H:Hp):List (Key×V)->List (D×D)->Prop
 |nil:jF P H [] []
 |cons {k:Key} {v:V} {d:D} {r:List (Key×V)} {ds:List (D×D)}:Rep P H v d->jF P H r ds->jF P H ((k,v)::r) ((kD k,d)::ds)
inductive oF(P:Addr->Prop)(H:Hp):List (List Key×V)->List (D×D)->Prop
 |nil:oF P H [] []
 |cons {k:List Key} {v:V} {d:D} {r:List (List Key×V)} {ds:List (D×D)}:Rep P H v d->oF P H r ds->oF P H ((k,v)::r) ((.tup (k.map kD),d)::ds)
end
def J6(P:Addr->Prop)(H H':Hp):Prop:=∀a o,H a=some o->(P a\/N8 o=false)->H' a=some o
theorem J6.same(h:cL H H'):J6 P H H':=λa o e _=>h a o e
mutual
theorem Rep.keep{P P':Addr->Prop}{H H':Hp}(k:J6 P H H')(m:∀a,P a->P' a):∀{v:V}{d:D},Rep P H v d->Rep P' H' v d
 |_,_,.non=>.non
 |_,_,.bl b=>.bl b
 |_,_,.int i=>.int i
 |_,_,.str x=>.str x
 |_,_,.tup e r=>.tup (k _ _ e (.inr rfl)) (bR.keep k m r)
 |_,_,.lst e p r=>.lst (k _ _ e (.inl p)) (m _ p) (bR.keep k m r)
 |_,_,.cel e p r=>.cel (k _ _ e (.inl p)) (m _ p) (bR.keep k m r)
 |_,_,.frz e r=>.frz (e.imp (λ⟨o,e⟩=>⟨o,k _ _ e (.inr rfl)⟩) id) (bR.keep k m r)
 |_,_,.dK e p r n=>.dK (k _ _ e (.inl p)) (m _ p) (jF.keep k m r) n
 |_,_,.dT e p r n=>.dT (k _ _ e (.inl p)) (m _ p) (oF.keep k m r) n
 |_,_,.fdK e r n=>.fdK (k _ _ e (.inr rfl)) (jF.keep k m r) n
 |_,_,.fdT e r n=>.fdT (k _ _ e (.inr rfl)) (oF.keep k m r) n
 |_,_,.exc (dx:=dx) n e q=>.exc n (k _ _ e (.inr rfl)) (match dx,q with|none,q=>q|some _,q=>k _ _ q (.inr rfl))
 |_,_,.ins n e r=>.ins n (k _ _ e (.inr rfl)) (J5.keep k m r)
theorem J5.keep{P P':Addr->Prop}{H H':Hp}(k:J6 P H H')(m:∀a,P a->P' a):∀{v:List (Str×V)}{d:List (Str×D)},J5 P H v d->J5 P' H' v d
 |_,_,.nil=>.nil
 |_,_,.cons r t=>.cons (Rep.keep k m r) (J5.keep k m t)
theorem bR.keep{P P':Addr->Prop}{H H':Hp}(k:J6 P H H')(m:∀a,P a->P' a):∀{v:List V}{d:List D},bR P H v d->bR P' H' v d
 |_,_,.nil=>.nil
 |_,_,.cons r t=>.cons (Rep.keep k m r) (bR.keep k m t)
theorem jF.keep{P P':Addr->Prop}{H H':Hp}(k:J6 P H H')(m:∀a,P a->P' a):∀{v:List (Key×V)}{d:List (D×D)},jF P H v d->jF P' H' v d
 |_,_,.nil=>.nil
 |_,_,.cons r t=>.cons (Rep.keep k m r) (jF.keep k m t)
theorem oF.keep{P P':Addr->Prop}{H H':Hp}(k:J6 P H H')(m:∀a,P a->P' a):∀{v:List (List Key×V)}{d:List (D×D)},oF P H v d->oF P' H' v d
 |_,_,.nil=>.nil
 |_,_,.cons r t=>.cons (Rep.keep k m r) (oF.keep k m t)
end
theorem Rep.mono(r:Rep P H v d)(m:∀a,P a->P' a):Rep P' H v d:=r.keep (λ_ _ e _=>e) m
theorem bR.mono(r:bR P H v d)(m:∀a,P a->P' a):bR P' H v d:=r.keep (λ_ _ e _=>e) m
theorem Rep.same(r:Rep P H v d)(s:cL H H'):Rep P H' v d:=r.keep (.same s) λ_ h=>h
theorem bR.same(r:bR P H v d)(s:cL H H'):bR P H' v d:=r.keep (.same s) λ_ h=>h
mutual
theorem Rep.bO{P P':Addr->Prop}{H:Hp}:∀{v:V}{d:D},Rep P H v d->d.pure=true->Rep P' H v d
 |_,_,.non,_=>.non
 |_,_,.bl b,_=>.bl b
 |_,_,.int i,_=>.int i
 |_,_,.str x,_=>.str x
 |_,_,.tup e r,h=>.tup e (bR.bO r (by rw[D.pure] at h;exact h))
 |_,_,.lst _ _ _,h=>by rw[D.pure] at h;cases h
 |_,_,.cel _ _ _,h=>by rw[D.pure] at h;cases h
 |_,_,.frz e r,h=>.frz e (bR.bO r (by rw[D.pure] at h;exact h))
 |_,_,.dK _ _ _ _,h=>by rw[D.pure] at h;cases h
 |_,_,.dT _ _ _ _,h=>by rw[D.pure] at h;cases h
 |_,_,.fdK _ _ _,h=>by rw[D.pure] at h;cases h
 |_,_,.fdT _ _ _,h=>by rw[D.pure] at h;cases h
 |_,_,.exc _ _ _,h=>by rw[D.pure] at h;cases h
 |_,_,.ins _ _ _,h=>by rw[D.pure] at h;cases h
theorem bR.bO{P P':Addr->Prop}{H:Hp}:∀{v:List V}{d:List D},bR P H v d->D.bA d=true->bR P' H v d
 |_,_,.nil,_=>.nil
 |_,_,.cons r t,h=>by
  rw[D.bA,Bool.and_eq_true] at h;exact .cons (Rep.bO r h.1) (bR.bO t h.2)
end
theorem bR.length:∀{v:List V}{d:List D},bR P H v d->v.length=d.length
 |_,_,.nil=>rfl
 |_,_,.cons _ t=>by rw[List.length_cons,List.length_cons,bR.length t]
theorem bR.get:∀{vs:List V}{ds:List D}{i:Nat}{d:D},bR P H vs ds->ds[i]?=some d->∃v,vs[i]?=some v/\Rep P H v d
 |_,_,_,_,.nil,e=>by simp at e
 |_,_,0,_,.cons r _,e=>by simp at e;subst e;exact⟨_,rfl,r⟩
 |_,_,i+1,d,.cons _ t,e=>by
  obtain⟨v,h1,h2⟩:=bR.get (i:=i) (d:=d) t (by simpa using e);exact⟨v,by simpa using h1,h2⟩
theorem bR.at:∀{vs:List V}{ds:List D}{i:Nat}{v:V},bR P H vs ds->vs[i]?=some v->∃d,ds[i]?=some d/\Rep P H v d
 |_,_,_,_,.nil,e=>by simp at e
 |_,_,0,_,.cons r _,e=>by simp at e;subst e;exact⟨_,rfl,r⟩
 |_,_,i+1,d,.cons _ t,e=>by
  obtain⟨v,h1,h2⟩:=bR.at (i:=i) (v:=d) t (by simpa using e);exact⟨v,by simpa using h1,h2⟩
theorem bR.append:∀{vs ws:List V}{ds es:List D},bR P H vs ds->bR P H ws es->bR P H (vs++ws) (ds++es)
 |_,_,_,_,.nil,s=>s
 |_,_,_,_,.cons r t,s=>.cons r (bR.append t s)
theorem bR.take:∀{vs:List V}{ds:List D}(n:Nat),bR P H vs ds->bR P H (vs.take n) (ds.take n)
 |_,_,0,_=>.nil
 |_,_,_+1,.nil=>.nil
 |_,_,n+1,.cons r t=>.cons r (bR.take n t)
theorem bR.drop:∀{vs:List V}{ds:List D}(n:Nat),bR P H vs ds->bR P H (vs.drop n) (ds.drop n)
 |_,_,0,r=>r
 |_,_,_+1,.nil=>.nil
 |_,_,n+1,.cons _ t=>bR.drop n t
theorem bR.snoc(t:bR P H vs ds)(r:Rep P H v d):bR P H (vs++[v]) (ds++[d]):=t.append (.cons r .nil)
theorem Rep.uD:¬Rep P H v .uD:=λh=>by cases h
abbrev All:Addr->Prop:=λ_=>True
abbrev New(H:Hp):Addr->Prop:=λa=>H a=none
theorem Rep.all(r:Rep P H v d):Rep All H v d:=r.mono λ_ _=>trivial
theorem bR.all(r:bR P H v d):bR All H v d:=r.mono λ_ _=>trivial
theorem cL.new(s:cL H H'):∀a,New H' a->New H a:=λa h=>s.free h
theorem cL.upd(h:H a=none):cL H (upd H a o):=λb u e=>by rw[bL (dN e h)];exact e
def ER(H:Hp)(σ:St)(ρ:List D):Prop:=∀i,ρ.getD i .uD≠.uD->∃v,σ[i]?=some (some v)/\Rep All H v (ρ.getD i .uD)
theorem ER.same(e:ER H σ ρ)(s:cL H H'):ER H' σ ρ:=λi h=>by
 obtain⟨v,h1,h2⟩:=e i h;exact⟨v,h1,h2.same s⟩
theorem PE.imp(h:PE X e t)(i:∀σ H Q,t' σ H Q->t σ H Q):PE X e t':=λpins s σ H Q I q=>h pins s σ H Q I (i σ H Q q)
theorem PT.imp(h:PT X e t)(i:∀σ H Q,t' σ H Q->t σ H Q):PT X e t':=λpins s σ H Q I q=>h pins s σ H Q I (i σ H Q q)
theorem PA.imp(h:PA X e t)(i:∀σ H Q,t' σ H Q->t σ H Q):PA X e t':=λpos pins s σ H Q I q=>h pos pins s σ H Q I (i σ H Q q)
mutual
theorem Rep.dom{P:Addr->Prop}{H:Hp}:∀{v:V}{d:D},Rep P H v d->Rep (λa=>P a/\H a≠none) H v d
 |_,_,.non=>.non
 |_,_,.bl b=>.bl b
 |_,_,.int i=>.int i
 |_,_,.str x=>.str x
 |_,_,.tup e r=>.tup e (bR.dom r)
 |_,_,.lst e p r=>.lst e ⟨p,by rw[e];simp⟩ (bR.dom r)
 |_,_,.cel e p r=>.cel e ⟨p,by rw[e];simp⟩ (bR.dom r)
 |_,_,.frz e r=>.frz e (bR.dom r)
 |_,_,.dK e p r n=>.dK e ⟨p,by rw[e];simp⟩ (jF.dom r) n
 |_,_,.dT e p r n=>.dT e ⟨p,by rw[e];simp⟩ (oF.dom r) n
 |_,_,.fdK e r n=>.fdK e (jF.dom r) n
 |_,_,.fdT e r n=>.fdT e (oF.dom r) n
 |_,_,.exc n e q=>.exc n e q
 |_,_,.ins n e q=>.ins n e (J5.dom q)
theorem J5.dom{P:Addr->Prop}{H:Hp}:∀{v:List (Str×V)}{d:List (Str×D)},J5 P H v d->J5 (λa=>P a/\H a≠none) H v d
 |_,_,.nil=>.nil
 |_,_,.cons r t=>.cons (Rep.dom r) (J5.dom t)
theorem bR.dom{P:Addr->Prop}{H:Hp}:∀{v:List V}{d:List D},bR P H v d->bR (λa=>P a/\H a≠none) H v d
 |_,_,.nil=>.nil
 |_,_,.cons r t=>.cons (Rep.dom r) (bR.dom t)
theorem jF.dom{P:Addr->Prop}{H:Hp}:∀{v:List (Key×V)}{d:List (D×D)},jF P H v d->jF (λa=>P a/\H a≠none) H v d
 |_,_,.nil=>.nil
 |_,_,.cons r t=>.cons (Rep.dom r) (jF.dom t)
theorem oF.dom{P:Addr->Prop}{H:Hp}:∀{v:List (List Key×V)}{d:List (D×D)},oF P H v d->oF (λa=>P a/\H a≠none) H v d
 |_,_,.nil=>.nil
 |_,_,.cons r t=>.cons (Rep.dom r) (oF.dom t)
end
theorem Rep.YH(r:Rep P H v d)(k:J6 P H H')(m:∀a o,H a=some o->P a->P' a):Rep P' H' v d:=
 r.dom.keep (λa o e hp=>k a o e (hp.imp (·.1) id)) λa ⟨h1,h2⟩=>by
  cases q:H a with
  |none=>exact absurd q h2
  |some o=>exact m a o q h1
def aJz(P:Addr->Prop)(H:Hp)(v:V):D->Prop
 |.non=>v=.non
 |.bl b=>v=.bl b
 |.int i=>v=.int i
 |.str x=>v=.str x
 |.tup ds=>∃a xs,v=.ref a/\H a=some (.tup xs)/\bR P H xs ds
 |.lst ds=>∃a xs,v=.ref a/\H a=some (.lst xs)/\P a/\bR P H xs ds
 |_=>True
theorem Rep.inv(r:Rep P H v d):aJz P H v d:=by
 cases r with
 |non=>rfl
 |bl=>rfl
 |int=>rfl
 |str=>rfl
 |tup e r=>exact⟨_,_,rfl,e,r⟩
 |lst e p r=>exact⟨_,_,rfl,e,p,r⟩
 |_=>trivial
end Mi
namespace L2
open PySem PySem.Spec PyProof.Rows
noncomputable def g8(own:List Str)(x:Str):Str:=if own.contains x then x++(" " : Str) else x
def clF(env:Env):List (Str×NameKind)->List (Str×Addr)->List (Str×Addr)
 |[],acc=>acc
 | (n,k)::r,acc=>clF env r (if k==.free then (n,(env.cells.lookup n).getD 0)::acc else acc)
theorem qC:∀(names:List (Str×NameKind))(acc:List (Str×Addr)),(∀y∈names,y.2=.free->∃c,env.cells.lookup y.1=some c)->
  (forIn names acc λx cs=>(match x with
   | (name,kind)=>if (kind==.free)=true then cellOf env name >>= λc=>pure (ForInStep.yield ((name,c)::cs)) else pure (ForInStep.yield cs):Sem (ForInStep (List (Str×Addr)))))=(pure (clF env names acc):Sem _)
 |[],acc,_=>by rw[List.forIn_nil];rfl
 | (n,k)::r,acc,h=>by
  rw[List.forIn_cons];by_cases hk:(k==.free)=true
  ·have hk':k=.free:=by simpa using hk
   obtain⟨c,e⟩:=h (n,k) (List.mem_cons_self ..) hk';have e':cellOf env n=pure c:=by
    unfold cellOf;have e2:env.cells.lookup n=some c:=e;rw[e2]
   dsimp only;rw[if_pos hk,e',pure_bind,pure_bind];dsimp only;rw[qC r _ λy hy=>h y (List.mem_cons_of_mem _ hy)];have e2:env.cells.lookup n=some c:=e;simp only[clF,hk,if_true,e2,Option.getD_some]
  ·dsimp only;rw[if_neg hk,pure_bind];dsimp only;rw[qC r _ λy hy=>h y (List.mem_cons_of_mem _ hy)];simp only[clF,hk,Bool.false_eq_true,if_false]
theorem N_(h:∀y∈scope.names,y.2=.free->∃c,env.cells.lookup y.1=some c):closureFor scope env=pure (clF env scope.names []):=by
 unfold closureFor;have:=qC (env:=env) scope.names [] h;simp only[bind_pure] at *;exact this
theorem GZ:∀{names:List (Str×NameKind)}{acc:List (Str×Addr)}{x:Str}{c:Addr},(∀y∈names,y.2=.free->∃c,env.cells.lookup y.1=some c)->(∀x c,acc.lookup x=some c->env.cells.lookup x=some c)->
  (clF env names acc).lookup x=some c->env.cells.lookup x=some c
 |[],acc,x,c,_,h,e=>h x c e
 | (n,k)::r,acc,x,c,q,h,e=>by
  unfold clF at e;refine GZ (λy hy=>q y (List.mem_cons_of_mem _ hy)) (λy d hy=>?_) e;by_cases hk:(k==.free)=true
  ·rw[if_pos hk,List.lookup_cons] at hy;obtain⟨c',e'⟩:=q (n,k) (List.mem_cons_self ..) (by simpa using hk);have e2:env.cells.lookup n=some c':=e';cases hyn:y==n with
   |true=>
    rw[hyn] at hy;have:y=n:=by simpa using hyn
    subst this;rw[e2] at hy;simp only[Option.getD_some] at hy;rw[e2];exact hy
   |false=>rw[hyn] at hy;exact h y d hy
  ·rw[if_neg hk] at hy;exact h y d hy
theorem S8:∀{names:List (Str×NameKind)}{acc:List (Str×Addr)}{x:Str},(∃c,acc.lookup x=some c)->∃c,(clF env names acc).lookup x=some c
 |[],_,_,h=>h
 | (n,k)::r,acc,x,⟨c,h⟩=>by
  unfold clF;refine S8 ?_;by_cases hk:(k==.free)=true
  ·rw[if_pos hk,List.lookup_cons];cases x==n with
   |true=>exact⟨_,rfl⟩
   |false=>exact⟨c,h⟩
  ·rw[if_neg hk];exact⟨c,h⟩
theorem G3:∀{names:List (Str×NameKind)}{acc:List (Str×Addr)}{x:Str},(x,NameKind.free)∈names->∃c,(clF env names acc).lookup x=some c
 | (n,k)::r,acc,x,h=>by
  unfold clF;rcases List.mem_cons.mp h with e|h
  ·cases e;refine S8 ?_;rw[if_pos (by decide),List.lookup_cons];simp
  ·exact G3 h
structure cH(N:List Str)(sc scope:Scope)(own:List Str):Prop where
 kind:scope.kind=.function
 nocell:∀y∈scope.names,y.2≠.cell
 names:∀y∈scope.names,y.2=.local->scope.names.lookup y.1=some .local
 free:∀y∈scope.names,y.2=.free->sc.names.lookup y.1=some .cell\/sc.names.lookup y.1=some .free
 ownl:∀x∈own,scope.names.lookup x=some .local
 hid:∀x∈own,scope.names.lookup (x++(" " : Str))=none
 loc:∀y∈scope.names,y.2=.local->y.1∈own\/y.1∉N
structure cO(X X':Cx)(scope:Scope)(own:List Str):Prop where
 prog:X'.prog=X.prog
 w:X'.w=X.w
 K:X'.K=X.K
 mg:X'.mg=X.mg
 base:X'.base=X.base
 A:X'.A=X.A
 N:X'.N=X.N.map (g8 own)++own
 scope:X'.env.scope=relabel scope X.env
 calm:X'.calm=X.calm
 xe:X'.xe=λ_ _=>False
def J7(X:Cx)(scope:Scope)(cl:List (Str×Addr))(C:Addr)(own:List Str)(s₂:Shared)(H₂:Hp)(fp:List Addr):Cx:=
 {X with N:=X.N.map (g8 own)++own,s₀:=s₂,H₀:=H₂,env:=compEnvC scope cl C X.env,outer:=X.stack,stack:=X.stack,ex:=fp,fn:=λ_=>false,pn:=[],xe:=λ_ _=>False}
theorem S9:cO X (J7 X scope cl C own s₂ H₂ fp) scope own:=
 ⟨rfl,rfl,rfl,rfl,rfl,rfl,rfl,rfl,rfl,rfl⟩
def Ext(σ σ2:St):Prop:=σ2.length=σ.length/\∀(i:Nat) v,σ[i]?=some (some v)->σ2[i]?=some (some v)
def G4(wi:TI)(g:TG)(tc:TT)(te:TE)(m:Nat):TE:=λσ H Q=>wi σ H λJ H1=>∀p,H1 p=none->
 ∃W:Nat->Nat->List V->Hp->Prop,(∃n,W 0 n [] (upd H1 p (.lst [])))/\∀i n ys H,W i n ys H->H p=some (.lst ys)/\((J.stop i H/\Q (.ref p) H)\/(J.go i H/\ys.length<sizeLine/\
  ∀x H2,J.yld i H x H2->g x (σ++List.replicate m none) H2 λσ2 H3=>Ext (σ++List.replicate m none) σ2/\tc σ2 H3 λb H4=>if b=true then te σ2 H4 λy H5=>H5 p=some (.lst ys)/\∃n',n'<n/\W (i+1) n' (ys++[y]) (upd H5 p (.lst (ys++[y])))
   else ∃n',n'<n/\W (i+1) n' ys H4))
section
variable {X:Cx} {scope:Scope} {own:List Str}
theorem Inv.comp(I:Inv X pins σ H2 s2)(S:cH X.N X.env.scope scope own)(hf:∀b∈fp,QL X pins H2 b)
 (hfx:∀b∈fp,b<s2.heap.objs.size)(hns:h1.Ns (s2.heap.objs.size+1) (λ_=>none))
 (hk:∀b o,s2.heap.get? b=some o->h1.get? b=some o)(hacc:h1.get? s2.heap.objs.size=some {cls:=.type "list",data:=.seq #[]}) :
  Inv (J7 X scope (clF X.env scope.names []) (s2.heap.objs.size+1) own s2 H2 fp) [] (σ++List.replicate own.length none) (upd H2 s2.heap.objs.size (.lst [])) {s2 with heap:=h1,toks:=t1}:=by
 have hD:H2 s2.heap.objs.size=none:=I.hok.fresh (Nat.le_refl _);have hC:H2 (s2.heap.objs.size+1)=none:=I.hok.fresh (Nat.le_succ _);have cells:∀y∈scope.names,y.2=.free->∃c,X.env.cells.lookup y.1=some c:=λy hy hk=>I.ok.has y.1 (S.free y hy hk)
 have sub:∀x c,(clF X.env scope.names []).lookup x=some c->X.env.cells.lookup x=some c:=λx c e=>GZ cells (λ_ _ h=>by simp at h) e
 have relk:∀x,(relabel scope X.env).names.lookup x=some .cell\/(relabel scope X.env).names.lookup x=some .free->(x,NameKind.free)∈scope.names:=by
  intro x hx;have go:∀(l:List (Str×NameKind)),(∀y∈l,y.2≠.cell)->((l.map λ(n,k)=>if (k==NameKind.free&&X.env.scope.kind==.function&&X.env.kindOf n==some .cell) then (n,NameKind.cell) else (n,k)).lookup x=some .cell\/(l.map λ(n,k)=>if (k==NameKind.free&&X.env.scope.kind==.function&&X.env.kindOf n==some .cell) then (n,NameKind.cell) else (n,k)).lookup x=some .free)->(x,NameKind.free)∈l:=by
   intro l;induction l with
   |nil=>intro _ h;rcases h with h|h<;>simp at h
   |cons p l ih=>
    obtain⟨n,k⟩:=p;intro nc h;rw[List.map_cons] at h;dsimp only at h;by_cases hc:(k==NameKind.free&&X.env.scope.kind==.function&&X.env.kindOf n==some .cell)=true
    ·rw[if_pos hc] at h;rw[List.lookup_cons] at h;cases e:x==n with
     |true=>
      have:x=n:=by simpa using e
      subst this;simp only[Bool.and_eq_true] at hc;have:k=.free:=by simpa using hc.1.1
      subst this;exact List.mem_cons_self ..
     |false=>
      rw[e] at h;exact List.mem_cons_of_mem _ (ih (λy hy=>nc y (List.mem_cons_of_mem _ hy)) h)
    ·rw[if_neg hc] at h;rw[List.lookup_cons] at h;cases e:x==n with
     |true=>
      have:x=n:=by simpa using e
      subst this;rw[e] at h;dsimp only at h;rcases h with h|h
      ·exact absurd (Option.some.inj h) (nc (x,k) (List.mem_cons_self ..))
      ·have:=Option.some.inj h;subst this;exact List.mem_cons_self ..
     |false=>
      rw[e] at h;exact List.mem_cons_of_mem _ (ih (λy hy=>nc y (List.mem_cons_of_mem _ hy)) h)
  exact go scope.names S.nocell hx
 have hne:s2.heap.objs.size≠s2.heap.objs.size+1:=Nat.ne_of_lt (Nat.lt_succ_self _);have hlt:∀b o,s2.heap.get? b=some o->b<s2.heap.objs.size:=λb o e=>Heap.lt_size e
 have hstk:∀b∈frs X.stack,b<s2.heap.objs.size:=λb hb=>by
  obtain⟨_,o,ho,_⟩:=I.stack.mem hb;exact hlt b o ho
 refine⟨⟨I.mod,?_,I.ok.glob,I.ok.blt,Nat.le_succ _,λx y c e1 e2=>I.ok.inj x y c (sub x c e1) (sub y c e2),λx hx=>?_,λ_ _ h=>(by cases h),I.ok.hd,I.ok.frames,.inl rfl,λb hb=>?_,λb o e=>I.bs b o e,?_,λb o e hb=>?_,λb hb hz=>?_,I.stack,I.QX⟩,
  rfl,I.bare,Un.laid hk (Nat.le_refl _) hD,?_,λx c e=>?_,?_,λx c e=>?_,λp hp=>(by simp[J7] at hp),?_,?_⟩
 ·exact S.kind
 ·have hx':(relabel scope X.env).names.lookup x=some .cell\/(relabel scope X.env).names.lookup x=some .free:=hx;exact G3 (relk x hx')
 ·refine⟨Nat.ne_of_lt (Nat.lt_succ_of_lt (hfx b hb)),λx c e z=>?_⟩;exact(hf b hb).2.2.2.2.1 x c (sub x c e) z
 ·exact Nat.le_trans I.ok.bsz I.sz
 ·rcases(hf b hb).2.2.2.1 with z|z
  ·exact I.ok.noex b o e z
  ·exact absurd (Nat.lt_of_lt_of_le (Heap.lt_size e) (Nat.le_trans I.ok.bsz z)) (Nat.lt_irrefl _)
 ·rcases List.mem_cons.mp (I.JK b hz) with z'|z'
  ·exact(hf b hb).2.1 z'
  ·exact(hf b hb).2.2.1 z'
 ·refine⟨_,hns,λi x v e1 e2 e3=>?_⟩;have hi:i<σ.length:=by
   rcases Nat.lt_or_ge i σ.length with h|h
   ·exact h
   ·rw[List.getElem?_append_right h,List.getElem?_replicate] at e2;split at e2<;>cases e2
  rw[List.getElem?_append_left hi] at e2;have hiN:i<X.N.length:=by rw[<-I.len];exact hi
  have e1':(X.N.map (g8 own))[i]?=some x:=by
   have:(X.N.map (g8 own)++own)[i]?=some x:=e1;rwa [List.getElem?_append_left (by rw[List.length_map];exact hiN)] at this
  rw[List.getElem?_map] at e1';obtain⟨y,hy,ey⟩:=Option.map_eq_some_iff.mp e1';have hyN:y∈X.N:=List.mem_of_getElem? hy;have e3':(relabel scope X.env).names.lookup x=some .local\/(relabel scope X.env).names.lookup x=some .cell\/(relabel scope X.env).names.lookup x=some .free:=e3;have keys:∀z k,(relabel scope X.env).names.lookup z=some k->∃k',scope.names.lookup z=some k'/\(k=.local->k'=.local):=by
   intro z k;show(scope.names.map λ(n,k)=>if (k==NameKind.free&&X.env.scope.kind==.function&&X.env.kindOf n==some .cell) then (n,NameKind.cell) else (n,k)).lookup z=some k->_;generalize scope.names=l;induction l with
   |nil=>intro h;simp at h
   |cons p l ih=>
    obtain⟨n,k0⟩:=p;intro h;rw[List.map_cons] at h;dsimp only at h;by_cases hc:(k0==NameKind.free&&X.env.scope.kind==.function&&X.env.kindOf n==some .cell)=true
    ·rw[if_pos hc,List.lookup_cons] at h;rw[List.lookup_cons];cases e:z==n with
     |true=>
      rw[e] at h;dsimp only at h;cases h;exact⟨k0,rfl,λq=>by cases q⟩
     |false=>rw[e] at h;exact ih h
    ·rw[if_neg hc,List.lookup_cons] at h;rw[List.lookup_cons];cases e:z==n with
     |true=>
      rw[e] at h;dsimp only at h;cases h;exact⟨_,rfl,λq=>q⟩
     |false=>rw[e] at h;exact ih h
  by_cases hown:own.contains y=true
  ·exfalso;have ex:x=y++(" " : Str):=by rw[<-ey];unfold g8;rw[if_pos hown]
   have hn:=S.hid y (by simpa using hown);rw[<-ex] at hn;rcases e3' with q|q|q
   all_goals
    obtain⟨k',hk',_⟩:=keys _ _ q;rw[hn] at hk';cases hk'
  ·have ex:x=y:=by rw[<-ey];unfold g8;rw[if_neg hown]
   subst ex;rcases e3' with q|q
   ·exfalso;obtain⟨k',hk',hl⟩:=keys _ _ q;have:=hl rfl;subst this;rcases S.loc _ (PySem.mem_of_lookup hk') rfl with z|z
    ·exact hown (by simpa using z)
    ·exact z hyN
   ·have hfr:=relk x q;have hv:=S.free _ hfr rfl;obtain⟨m,_,hl⟩:=I.loc;obtain⟨u,ru,lk⟩:=hl i x v hy e2 (.inr hv);refine⟨u,ru,.inr ⟨q,?_⟩⟩;rcases lk with ⟨z,_⟩|⟨_,c,hc,o,ho,hd⟩
    ·have z':X.env.scope.names.lookup x=some .local:=z;rcases hv with hv|hv<;>(rw[z'] at hv;cases hv)
    ·obtain⟨c',hc'⟩:=G3 (env:=X.env) (acc:=[]) hfr;have:=sub x c' hc';rw[hc] at this;cases this;exact⟨c,hc',o,hk c o ho,hd⟩
 ·obtain⟨v,z⟩:=I.cell x c (sub x c e);obtain⟨o,ho,hd⟩:=z;exact⟨v,o,hk c o ho,hd⟩
 ·show upd H2 _ _ (s2.heap.objs.size+1)=none;rw[bL (Ne.symm hne)];exact hC
 ·obtain⟨v,o,ho,_⟩:=I.cell x c (sub x c e);show upd H2 _ _ c=none;rw[bL (Nat.ne_of_lt (hlt c o ho))];exact I.freeC x c (sub x c e)
 ·exact I.hok.laid hk (Nat.le_refl _) ⟨Nat.zero_le _,[],0,.nil,hacc⟩
 ·show(σ++List.replicate own.length none).length=(X.N.map (g8 own)++own).length;rw[List.length_append,List.length_append,List.length_replicate,List.length_map,I.len]
end
section
variable {X:Cx} {scope:Scope} {own:List Str}
def cI(X':Cx)(σ:St)(fp:List Addr)(tn:Nat->Heap->Prop)(W:Nat->Nat->List V->Hp->Prop)(n:Nat)(s:Shared):Prop:=∃i ys H',Inv X' [] σ H' s/\tn i s.heap/\(∀b∈fp,H' b=none)/\W i n ys H'
abbrev cE(X X':Cx)(use:Option (Value->Sem Unit))(QQ:Value->Shared->Prop)(p:Addr):Value->Shared->Prop:=notedBy (model X.prog X.w) X.A X'.env λe s'=>compPost (model X.prog X.w) X.A X.xe use QQ (.ref p) (p+1) (.error e) s'
def cB(X':Cx)(σ:St)(fp:List Addr)(tn:Nat->Heap->Prop)(W:Nat->Nat->List V->Hp->Prop)(n i:Nat)(h:Heap):Prop:=∀{ys':List V}{H9:Hp}{s9:Shared}{σ9:St},Ext σ σ9->Inv X' ([]++rW fp h) σ9 H9 s9->(∃n',n'<n/\W (i+1) n' ys' H9)->∃m,m<n/\cI X' σ fp tn W m s9
theorem G5(S:cH X.N X.env.scope scope own)(hcalm:X.calm=true)(hi:PI X tg iter wi)
 (hg:∀X',cO X X' scope own->PG X' tg g)(hc:(ifs=[]/\tc=λ_ H Q=>Q true H)\/∃c,ifs=[c]/\∀X',cO X X' scope own->PT X' c tc)(he:∀X',cO X X' scope own->PE X' elt te)
 (hs:∀x,foldedSetIterable iter X.env x=pure x)(I:Inv X pins σ H s)(h:G4 wi g tc te own.length σ H R)
 (last:∀{p C:Addr} {H5:Hp} {s6:Shared} {m6:Str->Option Value},Inv X pins σ H5 s6->QL X pins H5 C->s6.heap.Ns C m6->R (.ref p) H5->compPost (model X.prog X.w) X.A X.xe use QQ (.ref p) C (.ok .next) s6) :
  wpAny (model X.prog X.w) X.A (comprehension (.ListComp elt [⟨tg,iter,ifs,0⟩] scope pos) scope X.env ps (newList []) false (eval iter X.env) use) QQ X.xe s:=by
 have cells:∀y∈scope.names,y.2=.free->∃c,X.env.cells.lookup y.1=some c:=λy hy hk=>I.ok.has y.1 (S.free y hy hk)
 refine wpAny_comprehension_free rfl hs (N_ cells) S.kind S.names (thn (hi pins s σ H _ I h) λxv s1 h1=>thn h1 λitv s2 h2=>?_);obtain⟨it,fp,tn,J,H2,e,I2,T,st2,f2,hW⟩:=h2;subst e;have hD:H2 s2.heap.objs.size=none:=I2.hok.fresh (Nat.le_refl _);obtain⟨W,⟨n0,w0⟩,turn⟩:=hW _ hD;have hfx:∀b∈fp,b<s2.heap.objs.size:=λb hb=>by
  obtain⟨o,ho,_⟩:=T.obj 0 _ st2 b hb;exact Heap.lt_size ho
 refine wpAny_newObj_type (wpAny_newFunctionEnv S.nocell (by intro y hy;simp at hy) (λh₁ hns₁ hsb₁=>?_) S.kind);dsimp only at hns₁ hsb₁ ⊢;have hC:(s2.heap.push {cls:=.type "list",dict:=none,data:=.seq ([]:List Value).toArray}).objs.size=s2.heap.objs.size+1:=Heap.size_push ..;have hne:s2.heap.objs.size≠s2.heap.objs.size+1:=Nat.ne_of_lt (Nat.lt_succ_self _);rw[hC] at hns₁ hsb₁ ⊢;have old:∀b o,s2.heap.get? b=some o->h₁.get? b=some o:=λb o e=>hsb₁.extBut b o (Nat.ne_of_lt (Nat.lt_succ_of_lt (Heap.lt_size e))) (Heap.get?_push_of_some _ (Heap.get?_push_of_some _ e))
 have hacc:h₁.get? s2.heap.objs.size=some {cls:=.type "list",data:=.seq #[]}:=hsb₁.extBut _ _ hne (Heap.get?_push_of_some _ (Heap.get?_push_size _ rfl));have I4:=Inv.comp (t1:=s2.toks+([]:List (Str×Value)).length) I2 S f2 hfx hns₁ old hacc;generalize hX':J7 X scope (clF X.env scope.names []) (s2.heap.objs.size+1) own s2 H2 fp=X' at I4;have cc:cO X X' scope own:=by rw[<-hX'];exact S9
 have eenv:X'.env=compEnvC scope (clF X.env scope.names []) (s2.heap.objs.size+1) X.env:=by rw[<-hX'];rfl
 have eA:X'.A=X.A:=cc.A;have ep:X'.prog=X.prog:=cc.prog;have ew:X'.w=X.w:=cc.w;have efs:X'.fs=frs X.stack:=by rw[<-hX'];rfl
 have eex:X'.ex=fp:=by rw[<-hX'];rfl
 have es0:X'.s₀=s2:=by rw[<-hX'];rfl
 have eH0:X'.H₀=H2:=by rw[<-hX'];rfl
 have epn:X'.pn=[]:=by rw[<-hX'];rfl
 have eK:X'.K=X.K:=cc.K;have exe:=cc.xe;have ecalm:X'.calm=true:=cc.calm.trans hcalm
 -- the iterator's records within the block
 have fpok:∀{H':Hp},(∀b∈fp,H' b=none)->∀b∈fp,QL X' [] H' b:=λ{H'} hn b hb=>by
  obtain⟨_,f1,f3,_,f5,_⟩:=f2 b hb;refine⟨hn b hb,?_,?_,.inl (by rw[eex];exact hb),λx c e=>?_,λp hp=>by rw[epn] at hp;simp at hp⟩
  ·rw[eenv];exact Nat.ne_of_lt (Nat.lt_succ_of_lt (hfx b hb))
  ·rw[efs];intro z;rcases List.mem_cons.mp (I2.JK b z) with z|z
   ·exact f1 z
   ·exact f3 z
  ·rw[eenv] at e;exact f5 x c (GZ cells (λ_ _ h=>by simp at h) e)
 have st4:tn 0 h₁:=T.keep _ _ _ st2 λb _ o e=>old b o e
 have fr4:∀b∈fp,(upd H2 s2.heap.objs.size (.lst [])) b=none:=λb hb=>by rw[bL (Nat.ne_of_lt (hfx b hb))];exact(f2 b hb).1
 have loop:∀s4:Shared,s4={s2 with heap:=h₁,toks:=s2.toks+([]:List (Str×Value)).length}->
   codeAny (model X.prog X.w) X.A (.compLoop (.ListComp elt [⟨tg,iter,ifs,0⟩] scope pos) 0 (.ref it) (.ref s2.heap.objs.size) X'.env)
    (compPost (model X.prog X.w) X.A X.xe use QQ (.ref s2.heap.objs.size) (s2.heap.objs.size+1)) s4:=by
  rintro s4 rfl;have put:∀(n i:Nat)(ys:List V)(s7:Shared)(σ8:St)(H8:Hp)(s8:Shared),cB X' (σ++List.replicate own.length none) fp tn W n i s7.heap->Inv X' ([]++rW fp s7.heap) σ8 H8 s8->Ext (σ++List.replicate own.length none) σ8->ys.length<sizeLine->(te σ8 H8 λy H5=>H5 s2.heap.objs.size=some (.lst ys)/\∃n',n'<n/\W (i+1) n' (ys++[y]) (upd H5 s2.heap.objs.size (.lst (ys++[y]))))->
    wpAny (model X.prog X.w) X.A (eval elt X'.env) (λx s₄=>wpAny (model X.prog X.w) X.A (call (.builtin "list.append") [.ref s2.heap.objs.size,x]) (λ_ s₅=>∃m,m<n/\cI X' (σ++List.replicate own.length none) fp tn W m s₅) (cE X X' use QQ s2.heap.objs.size) s₄) (cE X X' use QQ s2.heap.objs.size) s8:=by
   intro n i ys s7 σ8 H8 s8 back I8 ext8 hlen q8;have he':=he X' cc _ s8 _ H8 _ I8 q8;rw[ep,ew,eA,exe] at he';refine wpAny_mono he' (λyv s10 ⟨y,H10,I10,r10,p10,q10⟩=>?_) λ_ _ z=>False.elim z
   have hm:=sE (X:=X') _ s10 σ8 H10 (.ref s2.heap.objs.size) [y] (.ref s2.heap.objs.size) [yv] (λ_ H11=>∃n',n'<n/\W (i+1) n' (ys++[y]) H11) I10 rfl (.cons r10 .nil) ⟨s2.heap.objs.size,ys,y,rfl,rfl,p10,hlen,q10⟩;rw[ep,ew,eA,exe] at hm;exact wpAny_mono hm (λ_ s11 ⟨_,H11,I11,_,q11⟩=>back ext8 I11 q11) λ_ _ z=>False.elim z
  have key:∀(PO:Nat->Shared->Prop),(∀(n i:Nat)(ys:List V)(s7:Shared)(σ8:St)(H8:Hp)(s8:Shared),cB X' (σ++List.replicate own.length none) fp tn W n i s7.heap->Inv X' ([]++rW fp s7.heap) σ8 H8 s8->Ext (σ++List.replicate own.length none) σ8->ys.length<sizeLine->(tc σ8 H8 λb H4=>if b=true then te σ8 H4 λy H5=>H5 s2.heap.objs.size=some (.lst ys)/\∃n',n'<n/\W (i+1) n' (ys++[y]) (upd H5 s2.heap.objs.size (.lst (ys++[y]))) else ∃n',n'<n/\W (i+1) n' ys H4)->PO n s8)->
    ∀n s5,(cI X' (σ++List.replicate own.length none) fp tn W n s5)->wpAny (model X.prog X.w) X.A (pyNext (.ref it)) (λr s₁=>match r with
     |none=>compPost (model X.prog X.w) X.A X.xe use QQ (.ref s2.heap.objs.size) (s2.heap.objs.size+1) (.ok .next) s₁
     |some v=>wpAny (model X.prog X.w) X.A (letOwnedTupleGo tg (.ref it) v) (λ_ s₀=>wpAny (model X.prog X.w) X.A (assign tg X'.env v) (λ_ s₂=>PO n s₂) (cE X X' use QQ s2.heap.objs.size) s₀) (cE X X' use QQ s2.heap.objs.size) s₁) (cE X X' use QQ s2.heap.objs.size) s5:=by
   intro PO hPO;rintro n s5 ⟨i,ys,H5,I5,st5,fr5,w5⟩;obtain⟨hacc5,tr⟩:=turn i n ys H5 w5;rcases tr with ⟨stop,q⟩|⟨go,hlen,step⟩
   ·have done:=T.done X' ep ew eK ecalm i [] s5 _ H5 (cE X X' use QQ s2.heap.objs.size) I5 (fpok fr5) st5 stop;rw[eA] at done;refine thn done λr s6 ⟨hr,I6⟩=>?_
    subst hr;obtain⟨m6,hn6,_⟩:=id I6.loc;rw[eenv] at hn6;have u6:Un (frs X.stack) fp H2 H5 s2.heap s6.heap:=by
     have:=I6.base;rw[efs,eex,eH0,es0] at this;exact this
    have hCn:H5 (s2.heap.objs.size+1)=none:=by
     have:=I6.free;rw[eenv] at this;exact this
    have hok6:HOk X.prog X.w H5 s6.heap:=by
     have:=I6.hok;rw[ep,ew] at this;exact this
    have hos:s6.os=s2.os:=by have:=I6.os;rw[es0] at this;exact this
    obtain⟨hh,gg,dd,tt,oo⟩:=s6;obtain rfl:oo=s2.os:=hos;have fin:=Inv.call (h':=hh) (g':=gg) (d':=dd) (t':=tt) (ch:=fp) I2 u6 hok6 I6.bare λb hb=>⟨(f2 b hb).2.2.2.1,(f2 b hb).2.1,(f2 b hb).2.2.2.2.1,(f2 b hb).2.2.2.2.2⟩
    refine last fin ⟨hCn,Nat.ne_of_gt (Nat.lt_succ_of_lt I2.lt),I2.aIz (Nat.le_succ _),.inr (Nat.le_trans I2.sz (Nat.le_succ _)),λx c e z=>?_,λp hp z=>?_⟩ hn6 q
    ·obtain⟨v,qq⟩:=I2.cell x c e;exact absurd (Nat.lt_succ_of_lt qq.lt) (by rw[z];exact Nat.lt_irrefl _)
    ·exact absurd (Nat.lt_succ_of_lt (Heap.lt_size (I2.pin p hp).1)) (by rw[z];exact Nat.lt_irrefl _)
   ·have item:=T.item X' ep ew eK ecalm i [] s5 _ H5 (cE X X' use QQ s2.heap.objs.size) I5 (fpok fr5) st5 go;rw[eA] at item;refine thn item λr s6 ⟨u,hr,h6⟩=>?_
    subst hr;refine thn h6 λ_ s7 ⟨x,H7,I7,r7,y7,st7,fr7⟩=>?_
    have I7':=I7.pinned (fpok fr7) (T.obj _ _ st7);have hg':=hg X' cc _ s7 _ H7 x u _ I7' r7 (step x H7 y7);rw[ep,ew,eA,exe] at hg';refine wpAny_mono hg' (λ_ s8 ⟨σ8,H8,I8,ext8,q8⟩=>?_) λ_ _ z=>False.elim z
    have back:cB X' (σ++List.replicate own.length none) fp tn W n i s7.heap:=by
     rintro ys' H9 s9 σ9 ex9 I9 ⟨n',hn',w9⟩;refine⟨n',hn',i+1,ys',H9,(I9.weak ex9.1.symm ex9.2).nT,T.keep _ _ _ st7 λb hb o e=>(I9.pin (b,o) (List.mem_append_right _ (List.mem_append_right _ (mF hb e)))).1,λb hb=>?_,w9⟩;obtain⟨o,e,d⟩:=T.obj _ _ st7 b hb;exact(I9.pin (b,o) (List.mem_append_right _ (List.mem_append_right _ (mF hb e)))).2.1
    exact hPO n i ys s7 σ8 H8 s8 back I8 ext8 hlen q8
  rcases hc with ⟨rfl,rfl⟩|⟨c,rfl,hc⟩
  ·refine PySem.W.kcp_loop _ (key _ λn i ys s7 σ8 H8 s8 back I8 ext8 hlen q8=>?_) n0 ⟨0,[],_,I4,st4,fr4,w0⟩;simp only[if_true] at q8;exact put n i ys s7 σ8 H8 s8 back I8 ext8 hlen q8
  ·refine PySem.W.kct_loop _ (key _ λn i ys s7 σ8 H8 s8 back I8 ext8 hlen q8=>?_) n0 ⟨0,[],_,I4,st4,fr4,w0⟩;have hc':=hc X' cc _ s8 _ H8 _ I8 q8;rw[ep,ew,eA,exe] at hc';refine wpAny_mono hc' (λb s9 ⟨H9,I9,q9⟩=>?_) λ_ _ z=>False.elim z
   cases b with
   |false=>
    simp only[Bool.false_eq_true,if_false] at q9 ⊢;exact back ext8 I9 q9
   |true=>
    simp only[if_true] at q9 ⊢;exact put n i ys s7 σ8 H9 s9 back I9 ext8 hlen q9
 have l4:=loop _ rfl;rw[eenv] at l4;exact codeAny_compStart_list l4 (T.self X.A 0 _ _ _ st4 l4)
theorem J8(f:Inv X pins σ H5 s6)(k:QL X pins H5 C)(n:s6.heap.Ns C m6)(q:Q (.ref p) H5):compPost (model X.prog X.w) X.A X.xe none (EP X pins σ Q) (.ref p) C (.ok .next) s6:=
 ⟨m6,n,λh' sb=>⟨.ref p,H5,Inv.turned (t':=s6.toks) f (λb o hb e=>sb.extBut b o hb e) k.1 k.2.1 k.2.2.2.1 k.2.2.2.2.1 k.2.2.2.2.2,rfl,q⟩⟩
theorem S_(S:cH X.N X.env.scope scope own)(hcalm:X.calm=true)(hi:PI X tg iter wi)
 (hg:∀X',cO X X' scope own->PG X' tg g)(hc:∀X',cO X X' scope own->PT X' c tc)(he:∀X',cO X X' scope own->PE X' elt te)
 (hs:∀x,foldedSetIterable iter X.env x=pure x):PE X (.ListComp elt [⟨tg,iter,[c],0⟩] scope pos) (G4 wi g tc te own.length):=by
 intro pins s σ H Q I h;rw[eval_ListComp];exact G5 S hcalm hi hg (.inr ⟨c,rfl,hc⟩) he hs I h J8
theorem YJ(S:cH X.N X.env.scope scope own)(hcalm:X.calm=true)(hi:PI X tg iter wi)
 (hg:∀X',cO X X' scope own->PG X' tg g)(he:∀X',cO X X' scope own->PE X' elt te)
 (hs:∀x,foldedSetIterable iter X.env x=pure x):PE X (.ListComp elt [⟨tg,iter,[],0⟩] scope pos) (G4 wi g (λ_ H Q=>Q true H) te own.length):=by
 intro pins s σ H Q I h;rw[eval_ListComp];exact G5 S hcalm hi hg (.inl ⟨rfl,rfl⟩) he hs I h J8
end
end L2
namespace Mi
open PySem L2 PySem.SeqAt
variable [KFrag]
theorem gH(I:Inv X pins σ H s)(e:H a=some (.tup xs)):∃its:List Value,Vals xs its/\s.heap.IsTuple a its.toArray:=by
 obtain⟨_,its,r,p⟩:xs.length<=sizeLine/\∃its:List Value,Vals xs its/\jH s.heap a its.toArray:=I.hok a _ e;exact⟨its,r,p.tup⟩
theorem mZ(I:Inv X pins σ H s)(e:SqL X.K H a xs):∃its:List Value,Vals xs its/\s.heap.IsList a its.toArray:=by
 obtain⟨its,r,p,_⟩:=I.list e;exact⟨its,r,p.isList⟩
theorem Rep.lE(r:Rep P H v (.lst ds)):∃a xs,v=.ref a/\SqL K H a xs/\bR P H xs ds:=by
 cases r with
 |lst e p r=>exact⟨_,_,rfl,.inl (.inl e),r⟩
theorem Rep.eX(r:Rep P H v (.tup ds)):∃a xs,v=.ref a/\H a=some (.tup xs)/\bR P H xs ds:=by
 cases r with
 |tup e r=>exact⟨_,_,rfl,e,r⟩
mutual
theorem wK:∀(n:Nat)(d:D),d.eN n=true->eqD d d=true
 |_,.non,_=>rfl
 |_,.bl b,_=>by simp[eqD]
 |_,.int i,_=>by simp[eqD]
 |_,.str x,_=>by simp[eqD]
 |n+1,.tup xs,h=>by rw[D.eN] at h;rw[eqD];exact tD n xs h
 |n+1,.lst xs,h=>by rw[D.eN] at h;rw[eqD];exact tD n xs h
 |0,.tup xs,h=>by exact fx0 h
 |0,.lst xs,h=>by exact fx0 h
 |n,.dct _,h=>by cases n<;>exact fx0 h
 |n,.uD,h=>by cases n<;>exact fx0 h
 |n,.scr _,h=>by cases n<;>exact fx0 h
 |n,.fdc _,h=>by cases n<;>exact fx0 h
 |n,.exc _ _,h=>by cases n<;>exact fx0 h
 |n,.ins _ _,h=>by cases n<;>exact fx0 h
 |n,.cel _ _,h=>by cases n<;>exact fx0 h
theorem tD:∀(n:Nat)(ds:List D),D.eQ n ds=true->uN ds ds=true
 |_,[],_=>rfl
 |n,d::ds,h=>by
  rw[D.eQ,Bool.and_eq_true] at h;rw[uN,wK n d h.1,tD n ds h.2];rfl
end
mutual
theorem Rep.inj{P P':Addr->Prop}{H:Hp}:∀(n:Nat){v:V}{d e:D},d.eN n=true->e.eN n=true->Rep P H v d->Rep P' H v e->d=e
 |_,_,_,_,_,_,.non,.non=>rfl
 |_,_,_,_,_,_,.bl _,.bl _=>rfl
 |_,_,_,_,_,_,.int _,.int _=>rfl
 |_,_,_,_,_,_,.str _,.str _=>rfl
 |n+1,_,.tup ds,_,h,h',.tup e1 r1,q=>by
  cases q with
  |tup e2 r2=>
   rw[e1] at e2;cases e2;rw[D.eN] at h h';rw[bR.inj n h h' r1 r2]
  |lst e2 _ _=>rw[e1] at e2;cases e2
  |frz e2 _=>exact fx0 h'
  |fdK e2 _ _=>exact fx0 h'
  |cel e2 _ _=>exact fx0 h'
  |fdT e2 _ _=>exact fx0 h'
  |exc _ _ _=>exact fx0 h'
  |ins _ _ _=>exact fx0 h'
  |dK e2 _ _ _=>rw[e1] at e2;cases e2
  |dT e2 _ _ _=>rw[e1] at e2;cases e2
 |n+1,_,.lst ds,_,h,h',.lst e1 p r1,q=>by
  cases q with
  |tup e2 r2=>rw[e1] at e2;cases e2
  |lst e2 _ r2=>
   rw[e1] at e2;cases e2;rw[D.eN] at h h';rw[bR.inj n h h' r1 r2]
  |frz e2 _=>exact fx0 h'
  |fdK e2 _ _=>exact fx0 h'
  |cel e2 _ _=>exact fx0 h'
  |fdT e2 _ _=>exact fx0 h'
  |exc _ _ _=>exact fx0 h'
  |ins _ _ _=>exact fx0 h'
  |dK e2 _ _ _=>rw[e1] at e2;cases e2
  |dT e2 _ _ _=>rw[e1] at e2;cases e2
 |0,_,.tup ds,_,h,_,_,_=>by exact fx0 h
 |0,_,.lst ds,_,h,_,_,_=>by exact fx0 h
 |n,_,.dct _,_,h,_,_,_=>by cases n<;>exact fx0 h
 |n,_,.scr _,_,h,_,_,_=>by cases n<;>exact fx0 h
 |n,_,.fdc _,_,h,_,_,_=>by cases n<;>exact fx0 h
 |n,_,.exc _ _,_,h,_,_,_=>by cases n<;>exact fx0 h
 |n,_,.ins _ _,_,h,_,_,_=>by cases n<;>exact fx0 h
 |n,_,.cel _ _,_,h,_,_,_=>by cases n<;>exact fx0 h
theorem bR.inj{P P':Addr->Prop}{H:Hp}:∀(n:Nat){v:List V}{d e:List D},D.eQ n d=true->D.eQ n e=true->bR P H v d->bR P' H v e->d=e
 |_,_,_,_,_,_,.nil,.nil=>rfl
 |n,_,_,_,h,h',.cons r t,.cons r' t'=>by
  rw[D.eQ,Bool.and_eq_true] at h h';rw[Rep.inj n h.1 h'.1 r r',bR.inj n h.2 h'.2 t t']
end
theorem qD:∀(xs ys:List D),uN xs ys=((List.range (min xs.length ys.length)).all (λj=>eqD (xs.getD j .non) (ys.getD j .non))&&xs.length==ys.length)
 |[],[]=>by simp[uN]
 |[],y::ys=>by simp[uN]
 |x::xs,[]=>by simp[uN]
 |x::xs,y::ys=>by
  have e:min (x::xs).length (y::ys).length=min xs.length ys.length+1:=by simp only[List.length_cons];lia
  rw[uN,qD xs ys,e,List.range_succ_eq_map,List.all_cons,List.all_map,Bool.and_assoc]
  congr 1
  simp[Function.comp_def]
theorem gJ:∀{ds:List D}{j:Nat},D.eQ n ds=true->j<ds.length->(ds.getD j .non).eN n=true
 |[],j,_,h=>by simp at h
 |d::ds,0,h,_=>by rw[D.eQ,Bool.and_eq_true] at h;exact h.1
 |d::ds,j+1,h,hj=>by
  rw[D.eQ,Bool.and_eq_true] at h;simpa using gJ (ds:=ds) (j:=j) h.2 (by simpa using hj)
theorem bR.getD(r:bR P H vs ds)(hj:j<ds.length):∃v,vs[j]?=some v/\Rep P H v (ds.getD j .non):=by
 obtain⟨v,h1,h2⟩:=r.get (i:=j) (d:=ds.getD j .non) (by simp[hj]);exact⟨v,h1,h2⟩
section
variable {X:Cx} {pins:List (Addr×Obj)} {σ:St} {H:Hp} {s:Shared}
theorem tE(ha:a.eN 0=true)(hb:b.eN 0=true)(rx:Rep All H x a)(ry:Rep All H y b)(ru:RelV x u)(rv:RelV y v):RcAt A s u v (eqD a b)/\RcNeAt A s u v (!eqD a b)/\EqAt A s u v (eqD a b):=by
 cases rx with
 |non=>
  cases ru;cases ry with
  |non=>cases rv;exact⟨RcAt.none_none,RcNeAt.none_none,EqAt.same _⟩
  |bl _=>cases rv;exact⟨RcAt.none_bool _,RcNeAt.none_bool _,EqAt.none_bool _⟩
  |int _=>obtain⟨t,rfl⟩:=rv;exact⟨RcAt.none_int _ _,RcNeAt.none_int _ _,EqAt.none_int _ _⟩
  |str _=>obtain⟨t,rfl⟩:=rv;exact⟨RcAt.none_str _ _,RcNeAt.none_str _ _,EqAt.none_str _ _⟩
  |_=>exact fx0 hb
 |bl _=>
  cases ru;cases ry with
  |non=>cases rv;exact⟨RcAt.bool_none _,RcNeAt.bool_none _,EqAt.bool_none _⟩
  |bl _=>cases rv;exact⟨RcAt.bool_bool _ _,RcNeAt.bool_bool _ _,EqAt.bool_bool _ _⟩
  |int _=>obtain⟨t,rfl⟩:=rv;exact⟨RcAt.bool_int _ _ _,RcNeAt.bool_int _ _ _,EqAt.bool_int _ _ _⟩
  |str _=>obtain⟨t,rfl⟩:=rv;exact⟨RcAt.bool_str _ _ _,RcNeAt.bool_str _ _ _,EqAt.bool_str _ _ _⟩
  |_=>exact fx0 hb
 |int _=>
  obtain⟨t,rfl⟩:=ru;cases ry with
  |non=>cases rv;exact⟨RcAt.int_none _ _,RcNeAt.int_none _ _,EqAt.int_none _ _⟩
  |bl _=>cases rv;exact⟨RcAt.int_bool _ _ _,RcNeAt.int_bool _ _ _,EqAt.int_bool _ _ _⟩
  |int _=>obtain⟨t',rfl⟩:=rv;exact⟨RcAt.int_int _ _ _ _,RcNeAt.int_int _ _ _ _,EqAt.int_int _ _ _ _⟩
  |str _=>obtain⟨t',rfl⟩:=rv;exact⟨RcAt.int_str _ _ _ _,RcNeAt.int_str _ _ _ _,EqAt.int_str _ _ _ _⟩
  |_=>exact fx0 hb
 |str _=>
  obtain⟨t,rfl⟩:=ru;cases ry with
  |non=>cases rv;exact⟨RcAt.str_none _ _,RcNeAt.str_none _ _,EqAt.str_none _ _⟩
  |bl _=>cases rv;exact⟨RcAt.str_bool _ _ _,RcNeAt.str_bool _ _ _,EqAt.str_bool _ _ _⟩
  |int _=>obtain⟨t',rfl⟩:=rv;exact⟨RcAt.str_int _ _ _ _,RcNeAt.str_int _ _ _ _,EqAt.str_int _ _ _ _⟩
  |str _=>obtain⟨t',rfl⟩:=rv;exact⟨RcAt.str_str _ _ _ _,RcNeAt.str_str _ _ _ _,EqAt.str_str _ _ _ _⟩
  |_=>exact fx0 hb
 |_=>exact fx0 ha
theorem zG(I:Inv X pins σ H s):∀(n:Nat)(A:Around){x y:V}{a b:D}{u v:Value},A.units+n<cLine->a.eN n=true->b.eN n=true->Rep All H x a->Rep All H y b->RelV x u->RelV y v->
  RcAt A s u v (eqD a b)/\RcNeAt A s u v (!eqD a b)/\EqAt A s u v (eqD a b):=by
 intro n;induction n with
 |zero=>exact λA=>λ_ ha hb rx ry ru rv=>tE ha hb rx ry ru rv
 |succ n ih=>
  intro A x y a b u v hu ha hb rx ry ru rv;have hu0:A.units<cLine:=by lia
  have hu1:A.in1.units+n<cLine:=by show A.units+1+n<cLine;lia
  have itm:∀{xs ys:List V}{ds es:List D}{i1 i2:List Value},D.eQ n ds=true->D.eQ n es=true->bR All H xs ds->bR All H ys es->Vals xs i1->Vals ys i2->∀j (g1:j<i1.toArray.size) (g2:j<i2.toArray.size),EqAt A.in1 s i1.toArray[j] i2.toArray[j] (eqD (ds.getD j .non) (es.getD j .non)):=by
   intro xs ys ds es i1 i2 ha hb r1 r2 vr1 vr2 j g1 g2;have z1:i1.toArray.size=ds.length:=by rw[List.size_toArray,<-vr1.length,r1.length]
   have z2:i2.toArray.size=es.length:=by rw[List.size_toArray,<-vr2.length,r2.length]
   obtain⟨v1,w1,rr1⟩:=r1.getD (j:=j) (by lia);obtain⟨v2,w2,rr2⟩:=r2.getD (j:=j) (by lia);obtain⟨u1,k1,l1⟩:=vr1.get w1;obtain⟨u2,k2,l2⟩:=vr2.get w2;have m1:i1.toArray[j]=u1:=by
    rw[List.getElem?_eq_getElem (by simpa using g1)] at k1;simpa using Option.some.inj k1
   have m2:i2.toArray[j]=u2:=by
    rw[List.getElem?_eq_getElem (by simpa using g2)] at k2;simpa using Option.some.inj k2
   rw[m1,m2];exact(ih A.in1 hu1 (gJ ha (by lia)) (gJ hb (by lia)) rr1 rr2 l1 l2).2.2
  cases a with
  |non=>
   cases b with
   |tup es=>
    cases rx.inv;cases ru;obtain⟨q,ys,rfl,e2,r2⟩:=ry.eX;cases rv;obtain⟨its2,vr2,h2⟩:=gH I e2;exact⟨RcAt.none_tuple h2 hu0,RcNeAt.none_tuple h2 hu0,EqAt.none_tuple h2 hu0⟩
   |lst es=>
    cases rx.inv;cases ru;obtain⟨q,ys,rfl,e2,r2⟩:=ry.lE (K:=X.K);cases rv;obtain⟨its2,vr2,h2⟩:=mZ I e2;exact⟨RcAt.none_list h2 hu0,RcNeAt.none_list h2 hu0,EqAt.none_list h2 hu0⟩
   |_=>first|exact tE rfl rfl rx ry ru rv|exact absurd ry Rep.uD|exact fx0 hb
  |bl _=>
   cases b with
   |tup es=>
    cases rx.inv;cases ru;obtain⟨q,ys,rfl,e2,r2⟩:=ry.eX;cases rv;obtain⟨its2,vr2,h2⟩:=gH I e2;exact⟨RcAt.bool_tuple _ h2 hu0,RcNeAt.bool_tuple _ h2 hu0,EqAt.bool_tuple _ h2 hu0⟩
   |lst es=>
    cases rx.inv;cases ru;obtain⟨q,ys,rfl,e2,r2⟩:=ry.lE (K:=X.K);cases rv;obtain⟨its2,vr2,h2⟩:=mZ I e2;exact⟨RcAt.bool_list _ h2 hu0,RcNeAt.bool_list _ h2 hu0,EqAt.bool_list _ h2 hu0⟩
   |_=>first|exact tE rfl rfl rx ry ru rv|exact absurd ry Rep.uD|exact fx0 hb
  |int _=>
   cases b with
   |tup es=>
    cases rx.inv;obtain⟨t1,rfl⟩:=ru;obtain⟨q,ys,rfl,e2,r2⟩:=ry.eX;cases rv;obtain⟨its2,vr2,h2⟩:=gH I e2;exact⟨RcAt.int_tuple _ _ h2 hu0,RcNeAt.int_tuple _ _ h2 hu0,EqAt.int_tuple _ _ h2 hu0⟩
   |lst es=>
    cases rx.inv;obtain⟨t1,rfl⟩:=ru;obtain⟨q,ys,rfl,e2,r2⟩:=ry.lE (K:=X.K);cases rv;obtain⟨its2,vr2,h2⟩:=mZ I e2;exact⟨RcAt.int_list _ _ h2 hu0,RcNeAt.int_list _ _ h2 hu0,EqAt.int_list _ _ h2 hu0⟩
   |_=>first|exact tE rfl rfl rx ry ru rv|exact absurd ry Rep.uD|exact fx0 hb
  |str _=>
   cases b with
   |tup es=>
    cases rx.inv;obtain⟨t1,rfl⟩:=ru;obtain⟨q,ys,rfl,e2,r2⟩:=ry.eX;cases rv;obtain⟨its2,vr2,h2⟩:=gH I e2;exact⟨RcAt.str_tuple _ _ h2 hu0,RcNeAt.str_tuple _ _ h2 hu0,EqAt.str_tuple _ _ h2 hu0⟩
   |lst es=>
    cases rx.inv;obtain⟨t1,rfl⟩:=ru;obtain⟨q,ys,rfl,e2,r2⟩:=ry.lE (K:=X.K);cases rv;obtain⟨its2,vr2,h2⟩:=mZ I e2;exact⟨RcAt.str_list _ _ h2 hu0,RcNeAt.str_list _ _ h2 hu0,EqAt.str_list _ _ h2 hu0⟩
   |_=>first|exact tE rfl rfl rx ry ru rv|exact absurd ry Rep.uD|exact fx0 hb
  |tup ds=>
   obtain⟨p,xs,rfl,e1,r1⟩:=rx.eX;cases ru;obtain⟨its1,vr1,h1⟩:=gH I e1;rw[D.eN] at ha;cases b with
   |non=>cases ry.inv;cases rv;exact⟨RcAt.tuple_none h1 hu0,RcNeAt.tuple_none h1 hu0,EqAt.tuple_none h1 hu0⟩
   |bl _=>cases ry.inv;cases rv;exact⟨RcAt.tuple_bool _ h1 hu0,RcNeAt.tuple_bool _ h1 hu0,EqAt.tuple_bool _ h1 hu0⟩
   |int _=>cases ry.inv;obtain⟨t2,rfl⟩:=rv;exact⟨RcAt.tuple_int _ _ h1 hu0,RcNeAt.tuple_int _ _ h1 hu0,EqAt.tuple_int _ _ h1 hu0⟩
   |str _=>cases ry.inv;obtain⟨t2,rfl⟩:=rv;exact⟨RcAt.tuple_str _ _ h1 hu0,RcNeAt.tuple_str _ _ h1 hu0,EqAt.tuple_str _ _ h1 hu0⟩
   |tup es=>
    obtain⟨q,ys,rfl,e2,r2⟩:=ry.eX;cases rv;obtain⟨its2,vr2,h2⟩:=gH I e2;rw[D.eN] at hb;have z1:its1.toArray.size=ds.length:=by rw[List.size_toArray,<-vr1.length,r1.length]
    have z2:its2.toArray.size=es.length:=by rw[List.size_toArray,<-vr2.length,r2.length]
    have he:=itm ha hb r1 r2 vr1 vr2;have ee:eqD (.tup ds) (.tup es)=((List.range (min its1.toArray.size its2.toArray.size)).all (λj=>eqD (ds.getD j .non) (es.getD j .non))&&its1.toArray.size==its2.toArray.size):=by
     rw[eqD,qD,z1,z2]
    have r0:=RcAt.tuples h1 h2 hu0 he;have r0':=RcNeAt.tuples h1 h2 hu0 he;rw[<-ee] at r0 r0';refine⟨r0,r0',?_⟩;by_cases hpq:p=q
    ·subst hpq;have hab:(D.tup ds)=(.tup es):=Rep.inj (n+1) (by rw[D.eN];exact ha) (by rw[D.eN];exact hb) rx ry;rw[<-hab,wK (n+1) _ (by rw[D.eN];exact ha)];exact EqAt.same _
    ·exact EqAt.of_refs hpq r0
   |lst es=>
    obtain⟨q,ys,rfl,e2,r2⟩:=ry.lE (K:=X.K);cases rv;obtain⟨its2,vr2,h2⟩:=mZ I e2;exact⟨RcAt.tuple_list h1 h2 hu0,RcNeAt.tuple_list h1 h2 hu0,EqAt.tuple_list h1 h2 hu0⟩
   |_=>first|exact absurd ry Rep.uD|exact fx0 hb
  |lst ds=>
   obtain⟨p,xs,rfl,e1,r1⟩:=rx.lE (K:=X.K);cases ru;obtain⟨its1,vr1,h1⟩:=mZ I e1;rw[D.eN] at ha;cases b with
   |non=>cases ry.inv;cases rv;exact⟨RcAt.list_none h1 hu0,RcNeAt.list_none h1 hu0,EqAt.list_none h1 hu0⟩
   |bl _=>cases ry.inv;cases rv;exact⟨RcAt.list_bool _ h1 hu0,RcNeAt.list_bool _ h1 hu0,EqAt.list_bool _ h1 hu0⟩
   |int _=>cases ry.inv;obtain⟨t2,rfl⟩:=rv;exact⟨RcAt.list_int _ _ h1 hu0,RcNeAt.list_int _ _ h1 hu0,EqAt.list_int _ _ h1 hu0⟩
   |str _=>cases ry.inv;obtain⟨t2,rfl⟩:=rv;exact⟨RcAt.list_str _ _ h1 hu0,RcNeAt.list_str _ _ h1 hu0,EqAt.list_str _ _ h1 hu0⟩
   |tup es=>
    obtain⟨q,ys,rfl,e2,r2⟩:=ry.eX;cases rv;obtain⟨its2,vr2,h2⟩:=gH I e2;exact⟨RcAt.list_tuple h1 h2 hu0,RcNeAt.list_tuple h1 h2 hu0,EqAt.list_tuple h1 h2 hu0⟩
   |lst es=>
    obtain⟨q,ys,rfl,e2,r2⟩:=ry.lE (K:=X.K);cases rv;obtain⟨its2,vr2,h2⟩:=mZ I e2;rw[D.eN] at hb;have z1:its1.toArray.size=ds.length:=by rw[List.size_toArray,<-vr1.length,r1.length]
    have z2:its2.toArray.size=es.length:=by rw[List.size_toArray,<-vr2.length,r2.length]
    have he:=itm ha hb r1 r2 vr1 vr2;have r00:RcAt A s (.ref p) (.ref q) (eqD (.lst ds) (.lst es))/\RcNeAt A s (.ref p) (.ref q) (!eqD (.lst ds) (.lst es)):=by
     rw[eqD,qD];by_cases hz:ds.length=es.length
     ·have r0:=RcAt.lists h1 h2 (by lia) hu0 he;have r0':=RcNeAt.lists h1 h2 (by lia) hu0 he;rw[z1] at r0 r0';rw[show min ds.length es.length=ds.length by lia,show(ds.length==es.length)=true by simpa using hz,Bool.and_true];exact⟨r0,r0'⟩
     ·have hz':(its1.toArray.size !=its2.toArray.size)=true:=by rw[z1,z2];simpa using hz
      rw[show(ds.length==es.length)=false by simpa using hz,Bool.and_false];exact⟨RcAt.lists_lengths h1 h2 hz' hu0,RcNeAt.lists_lengths h1 h2 hz' hu0⟩
    obtain⟨r0,r0'⟩:=r00;refine⟨r0,r0',?_⟩;by_cases hpq:p=q
    ·subst hpq;have hab:(D.lst ds)=(.lst es):=Rep.inj (n+1) (by rw[D.eN];exact ha) (by rw[D.eN];exact hb) rx ry;rw[<-hab,wK (n+1) _ (by rw[D.eN];exact ha)];exact EqAt.same _
    ·exact EqAt.of_refs hpq r0
   |_=>first|exact absurd ry Rep.uD|exact fx0 hb
  |_=>first|exact absurd rx Rep.uD|exact fx0 ha
end
end Mi
namespace Mi
open PySem L2 PySem.SeqAt
open PySem.AutoSeq1 (wpAny_loadPart')
open PySem.MeetsSeq PySem.MeetsSeq2 PySem.MeetsSeq3
variable [KFrag]
def kY.op:kY->CmpOp
 |.lt=>.Lt|.le=>.LtE|.gt=>.Gt|.ge=>.GtE
def J9(op:CmpOp)(A:Around)(s:Shared)(u v:Value)(b:Bool):Prop:=
 ∀(prog:Program)(w:World)(E:Value->Shared->Prop)(Q:Value->Shared->Prop),Q (.bool b) s->wpAny (model prog w) A (richCompare op u v) Q E s
def C2(o:kY)(A:Around)(s:Shared)(vs ws:List Value)(xs ys:List D):Prop:=
 vs.length=xs.length/\ws.length=ys.length/\∀(j:Nat)(v w:Value)(x y:D),vs[j]?=some v->ws[j]?=some w->xs[j]?=some x->ys[j]?=some y->
  EqAt A s v w (eqD x y)/\(eqD x y=false->∀k,n_ o x y=some k->J9 o.op A s v w k)
theorem C2.tail(h:C2 o A s (v::vs) (w::ws) (x::xs) (y::ys)):C2 o A s vs ws xs ys:=
 ⟨by simpa using h.1,by simpa using h.2.1,λj a b c d e1 e2 e3 e4=>h.2.2 (j+1) a b c d (by simpa using e1) (by simpa using e2) (by simpa using e3) (by simpa using e4)⟩
theorem OD(l b:Addr)(items items2:Array Value)(n n2:Nat)(dd dd2:Option Addr)(sl sl2:Array (Option Value))(xs ys:List D)(res:Bool)(hr:dU .lt xs ys=some res) :
  Meets (Builtin.«tuple.__lt__» ⟨[.ref l,.ref b],[]⟩)
   (λA R s=>s.heap.get? l=some {cls:=.type "tuple",dict:=dd,data:=.seq items n,slots:=sl}/\s.heap.get? b=some {cls:=.type "tuple",dict:=dd2,data:=.seq items2 n2,slots:=sl2}/\
    C2 .lt A.in1 s items.toList items2.toList xs ys/\R (.ok (.ret (.bool res))) s):=
 .of_wp λprog w A R s h=>by
  obtain⟨hp,g,d,tk,os⟩:=s;obtain⟨hl,hb,hC,h⟩:=h;have f2:=AutoSeq1.sub_tuple_tuple;have z1:items.size=xs.length:=by rw[<-hC.1];simp
  have z2:items2.size=ys.length:=by rw[<-hC.2.1];simp
  wp_walk using wpAny_loadPart' hl,wpAny_loadPart' hb,wpAny_forIn_list _ (λrest b s'=>b.1=none/\s'=⟨hp,g,d,tk,os⟩/\∃(vs ws:List Value)(xs' ys':List D),rest=vs.zip ws/\
   C2 .lt A.in1 ⟨hp,g,d,tk,os⟩ vs ws xs' ys'/\xs'.length+items2.size=ys'.length+items.size/\dU .lt xs' ys'=some res) _
  case turn=>
   rintro⟨y,x⟩ rest b s' ⟨hb',rfl,vs,ws,xs',ys',hz,hC',hlen,hR⟩;cases vs with
   |nil=>rw[List.zip_nil_left] at hz;cases hz
   |cons v vs=>
    cases ws with
    |nil=>rw[List.zip_nil_right] at hz;cases hz
    |cons w' ws=>
     rw[List.zip_cons_cons] at hz;injection hz with hyx hrest
     injection hyx with hy hx
     subst hy hx;cases xs' with
     |nil=>exact absurd hC'.1 (by simp)
     |cons x0 xs'=>
      cases ys' with
      |nil=>exact absurd hC'.2.1 (by simp)
      |cons y0 ys'=>
       rw[dU] at hR;simp only[List.length_cons] at hlen;obtain⟨he,hlt⟩:=hC'.2.2 0 _ _ _ _ rfl rfl rfl rfl;refine wpAny_bind (he prog w _ _ ?_);cases e:eqD x0 y0 with
       |true=>
        rw[e] at hR;simp only[if_true] at hR
        wp_walk
        exact⟨rfl,rfl,_,_,_,_,hrest,hC'.tail,by lia,hR⟩
       |false=>
        rw[e] at hR;simp only[Bool.false_eq_true,if_false] at hR;have hri:∀(E:Value->Shared->Prop)(Q:Value->Shared->Prop),Q (.bool res) ⟨hp,g,d,tk,os⟩->wpAny (model prog w) A.in1 (richCompare .Lt _ _) Q E ⟨hp,g,d,tk,os⟩:=λE Q q=>hlt e res hR prog w E Q q
        wp_walk using hri
        exact⟨_,rfl,by simpa using h⟩
  case fin=>
   rintro⟨b1,b2⟩ s' ⟨hb',rfl,vs,ws,xs',ys',hz,hC',hlen,hR⟩;simp only at hb';subst hb';have hv:res=decide (items.size<items2.size):=by
    cases xs' with
    |nil=>
     rw[dU] at hR;have:=Option.some.inj hR;rw[<-this];simp only[List.length_nil] at hlen;simp only[kY.nat]
     congr 1
     simp only[eq_iff_iff];lia
    |cons x0 xs'=>
     cases ys' with
     |nil=>
      rw[dU] at hR;have:=Option.some.inj hR;rw[<-this];simp only[List.length_nil,List.length_cons] at hlen;simp only[kY.nat,List.length_cons]
      congr 1
      simp only[eq_iff_iff];lia
     |cons y0 ys'=>
      exfalso;cases vs with
      |nil=>exact absurd hC'.1 (by simp)
      |cons v vs=>
       cases ws with
       |nil=>exact absurd hC'.2.1 (by simp)
       |cons w' ws=>rw[List.zip_cons_cons] at hz;cases hz
   rw[hv] at h
   wp_walk
   exact⟨_,rfl,by simpa[Builtin.Tuple.tupleCompareSizes] using h⟩
  case h=>
   exact⟨rfl,rfl,items.toList,items2.toList,xs,ys,rfl,hC,by lia,hr⟩
theorem J9.aFl(hl:s.heap.IsTuple l items)(hb:s.heap.IsTuple b items2)(hC:C2 .lt A.in1 s items.toList items2.toList xs ys)(hr:dU .lt xs ys=some res)(hu:A.units<cLine) :
  J9 .Lt A s (.ref l) (.ref b) res:=λprog w E Q h=>by
 obtain⟨⟨cls,dd,data,sl⟩,ho,hc,n,hd⟩:=id hl;obtain⟨⟨cls2,dd2,data2,sl2⟩,ho2,hc2,n2,hd2⟩:=id hb;simp only at hc hd hc2 hd2;subst hc hd hc2 hd2;exact richCompare_meets_room (op:=.Lt) ⟨_,ho,rfl⟩ ⟨_,ho2,rfl⟩ PySem.F.slot_tuple_lt PySem.F.entry_tuple_lt (PySem.F.args_tuple_lt_2 _ _) (OD l b items items2 n n2 dd dd2 sl sl2 xs ys res hr)
  ⟨ho,ho2,hC,show Value.bool res≠Value.notImplemented/\Q (.bool res) s from ⟨(λx=>nomatch x),h⟩⟩ hu
theorem OJ(l b:Addr)(items items2:Array Value)(n n2:Nat)(dd dd2:Option Addr)(sl sl2:Array (Option Value))(xs ys:List D)(res:Bool)(hr:dU .le xs ys=some res) :
  Meets (Builtin.«tuple.__le__» ⟨[.ref l,.ref b],[]⟩)
   (λA R s=>s.heap.get? l=some {cls:=.type "tuple",dict:=dd,data:=.seq items n,slots:=sl}/\s.heap.get? b=some {cls:=.type "tuple",dict:=dd2,data:=.seq items2 n2,slots:=sl2}/\
    C2 .le A.in1 s items.toList items2.toList xs ys/\R (.ok (.ret (.bool res))) s):=
 .of_wp λprog w A R s h=>by
  obtain⟨hp,g,d,tk,os⟩:=s;obtain⟨hl,hb,hC,h⟩:=h;have f2:=AutoSeq1.sub_tuple_tuple;have z1:items.size=xs.length:=by rw[<-hC.1];simp
  have z2:items2.size=ys.length:=by rw[<-hC.2.1];simp
  wp_walk using wpAny_loadPart' hl,wpAny_loadPart' hb,wpAny_forIn_list _ (λrest b s'=>b.1=none/\s'=⟨hp,g,d,tk,os⟩/\∃(vs ws:List Value)(xs' ys':List D),rest=vs.zip ws/\
   C2 .le A.in1 ⟨hp,g,d,tk,os⟩ vs ws xs' ys'/\xs'.length+items2.size=ys'.length+items.size/\dU .le xs' ys'=some res) _
  case turn=>
   rintro⟨y,x⟩ rest b s' ⟨hb',rfl,vs,ws,xs',ys',hz,hC',hlen,hR⟩;cases vs with
   |nil=>rw[List.zip_nil_left] at hz;cases hz
   |cons v vs=>
    cases ws with
    |nil=>rw[List.zip_nil_right] at hz;cases hz
    |cons w' ws=>
     rw[List.zip_cons_cons] at hz;injection hz with hyx hrest
     injection hyx with hy hx
     subst hy hx;cases xs' with
     |nil=>exact absurd hC'.1 (by simp)
     |cons x0 xs'=>
      cases ys' with
      |nil=>exact absurd hC'.2.1 (by simp)
      |cons y0 ys'=>
       rw[dU] at hR;simp only[List.length_cons] at hlen;obtain⟨he,hlt⟩:=hC'.2.2 0 _ _ _ _ rfl rfl rfl rfl;refine wpAny_bind (he prog w _ _ ?_);cases e:eqD x0 y0 with
       |true=>
        rw[e] at hR;simp only[if_true] at hR
        wp_walk
        exact⟨rfl,rfl,_,_,_,_,hrest,hC'.tail,by lia,hR⟩
       |false=>
        rw[e] at hR;simp only[Bool.false_eq_true,if_false] at hR;have hri:∀(E:Value->Shared->Prop)(Q:Value->Shared->Prop),Q (.bool res) ⟨hp,g,d,tk,os⟩->wpAny (model prog w) A.in1 (richCompare .LtE _ _) Q E ⟨hp,g,d,tk,os⟩:=λE Q q=>hlt e res hR prog w E Q q
        wp_walk using hri
        exact⟨_,rfl,by simpa using h⟩
  case fin=>
   rintro⟨b1,b2⟩ s' ⟨hb',rfl,vs,ws,xs',ys',hz,hC',hlen,hR⟩;simp only at hb';subst hb';have hv:res=decide (items.size<=items2.size):=by
    cases xs' with
    |nil=>
     rw[dU] at hR;have:=Option.some.inj hR;rw[<-this];simp only[List.length_nil] at hlen;simp only[kY.nat]
     congr 1
     simp only[eq_iff_iff];lia
    |cons x0 xs'=>
     cases ys' with
     |nil=>
      rw[dU] at hR;have:=Option.some.inj hR;rw[<-this];simp only[List.length_nil,List.length_cons] at hlen;simp only[kY.nat,List.length_cons]
      congr 1
      simp only[eq_iff_iff];lia
     |cons y0 ys'=>
      exfalso;cases vs with
      |nil=>exact absurd hC'.1 (by simp)
      |cons v vs=>
       cases ws with
       |nil=>exact absurd hC'.2.1 (by simp)
       |cons w' ws=>rw[List.zip_cons_cons] at hz;cases hz
   rw[hv] at h
   wp_walk
   exact⟨_,rfl,by simpa[Builtin.Tuple.tupleCompareSizes] using h⟩
  case h=>
   exact⟨rfl,rfl,items.toList,items2.toList,xs,ys,rfl,hC,by lia,hr⟩
theorem J9.aFm(hl:s.heap.IsTuple l items)(hb:s.heap.IsTuple b items2)(hC:C2 .le A.in1 s items.toList items2.toList xs ys)(hr:dU .le xs ys=some res)(hu:A.units<cLine) :
  J9 .LtE A s (.ref l) (.ref b) res:=λprog w E Q h=>by
 obtain⟨⟨cls,dd,data,sl⟩,ho,hc,n,hd⟩:=id hl;obtain⟨⟨cls2,dd2,data2,sl2⟩,ho2,hc2,n2,hd2⟩:=id hb;simp only at hc hd hc2 hd2;subst hc hd hc2 hd2;exact richCompare_meets_room (op:=.LtE) ⟨_,ho,rfl⟩ ⟨_,ho2,rfl⟩ PySem.F.slot_tuple_le PySem.F.entry_tuple_le (PySem.F.args_tuple_le_2 _ _) (OJ l b items items2 n n2 dd dd2 sl sl2 xs ys res hr)
  ⟨ho,ho2,hC,show Value.bool res≠Value.notImplemented/\Q (.bool res) s from ⟨(λx=>nomatch x),h⟩⟩ hu
theorem O3(l b:Addr)(items items2:Array Value)(n n2:Nat)(dd dd2:Option Addr)(sl sl2:Array (Option Value))(xs ys:List D)(res:Bool)(hr:dU .gt xs ys=some res) :
  Meets (Builtin.«tuple.__gt__» ⟨[.ref l,.ref b],[]⟩)
   (λA R s=>s.heap.get? l=some {cls:=.type "tuple",dict:=dd,data:=.seq items n,slots:=sl}/\s.heap.get? b=some {cls:=.type "tuple",dict:=dd2,data:=.seq items2 n2,slots:=sl2}/\
    C2 .gt A.in1 s items.toList items2.toList xs ys/\R (.ok (.ret (.bool res))) s):=
 .of_wp λprog w A R s h=>by
  obtain⟨hp,g,d,tk,os⟩:=s;obtain⟨hl,hb,hC,h⟩:=h;have f2:=AutoSeq1.sub_tuple_tuple;have z1:items.size=xs.length:=by rw[<-hC.1];simp
  have z2:items2.size=ys.length:=by rw[<-hC.2.1];simp
  wp_walk using wpAny_loadPart' hl,wpAny_loadPart' hb,wpAny_forIn_list _ (λrest b s'=>b.1=none/\s'=⟨hp,g,d,tk,os⟩/\∃(vs ws:List Value)(xs' ys':List D),rest=vs.zip ws/\
   C2 .gt A.in1 ⟨hp,g,d,tk,os⟩ vs ws xs' ys'/\xs'.length+items2.size=ys'.length+items.size/\dU .gt xs' ys'=some res) _
  case turn=>
   rintro⟨y,x⟩ rest b s' ⟨hb',rfl,vs,ws,xs',ys',hz,hC',hlen,hR⟩;cases vs with
   |nil=>rw[List.zip_nil_left] at hz;cases hz
   |cons v vs=>
    cases ws with
    |nil=>rw[List.zip_nil_right] at hz;cases hz
    |cons w' ws=>
     rw[List.zip_cons_cons] at hz;injection hz with hyx hrest
     injection hyx with hy hx
     subst hy hx;cases xs' with
     |nil=>exact absurd hC'.1 (by simp)
     |cons x0 xs'=>
      cases ys' with
      |nil=>exact absurd hC'.2.1 (by simp)
      |cons y0 ys'=>
       rw[dU] at hR;simp only[List.length_cons] at hlen;obtain⟨he,hlt⟩:=hC'.2.2 0 _ _ _ _ rfl rfl rfl rfl;refine wpAny_bind (he prog w _ _ ?_);cases e:eqD x0 y0 with
       |true=>
        rw[e] at hR;simp only[if_true] at hR
        wp_walk
        exact⟨rfl,rfl,_,_,_,_,hrest,hC'.tail,by lia,hR⟩
       |false=>
        rw[e] at hR;simp only[Bool.false_eq_true,if_false] at hR;have hri:∀(E:Value->Shared->Prop)(Q:Value->Shared->Prop),Q (.bool res) ⟨hp,g,d,tk,os⟩->wpAny (model prog w) A.in1 (richCompare .Gt _ _) Q E ⟨hp,g,d,tk,os⟩:=λE Q q=>hlt e res hR prog w E Q q
        wp_walk using hri
        exact⟨_,rfl,by simpa using h⟩
  case fin=>
   rintro⟨b1,b2⟩ s' ⟨hb',rfl,vs,ws,xs',ys',hz,hC',hlen,hR⟩;simp only at hb';subst hb';have hv:res=decide (items2.size<items.size):=by
    cases xs' with
    |nil=>
     rw[dU] at hR;have:=Option.some.inj hR;rw[<-this];simp only[List.length_nil] at hlen;simp only[kY.nat]
     congr 1
     simp only[eq_iff_iff];lia
    |cons x0 xs'=>
     cases ys' with
     |nil=>
      rw[dU] at hR;have:=Option.some.inj hR;rw[<-this];simp only[List.length_nil,List.length_cons] at hlen;simp only[kY.nat,List.length_cons]
      congr 1
      simp only[eq_iff_iff];lia
     |cons y0 ys'=>
      exfalso;cases vs with
      |nil=>exact absurd hC'.1 (by simp)
      |cons v vs=>
       cases ws with
       |nil=>exact absurd hC'.2.1 (by simp)
       |cons w' ws=>rw[List.zip_cons_cons] at hz;cases hz
   rw[hv] at h
   wp_walk
   exact⟨_,rfl,by simpa[Builtin.Tuple.tupleCompareSizes] using h⟩
  case h=>
   exact⟨rfl,rfl,items.toList,items2.toList,xs,ys,rfl,hC,by lia,hr⟩
theorem J9.aFn(hl:s.heap.IsTuple l items)(hb:s.heap.IsTuple b items2)(hC:C2 .gt A.in1 s items.toList items2.toList xs ys)(hr:dU .gt xs ys=some res)(hu:A.units<cLine) :
  J9 .Gt A s (.ref l) (.ref b) res:=λprog w E Q h=>by
 obtain⟨⟨cls,dd,data,sl⟩,ho,hc,n,hd⟩:=id hl;obtain⟨⟨cls2,dd2,data2,sl2⟩,ho2,hc2,n2,hd2⟩:=id hb;simp only at hc hd hc2 hd2;subst hc hd hc2 hd2;exact richCompare_meets_room (op:=.Gt) ⟨_,ho,rfl⟩ ⟨_,ho2,rfl⟩ PySem.F.slot_tuple_gt PySem.F.entry_tuple_gt (PySem.F.args_tuple_gt_2 _ _) (O3 l b items items2 n n2 dd dd2 sl sl2 xs ys res hr)
  ⟨ho,ho2,hC,show Value.bool res≠Value.notImplemented/\Q (.bool res) s from ⟨(λx=>nomatch x),h⟩⟩ hu
theorem O4(l b:Addr)(items items2:Array Value)(n n2:Nat)(dd dd2:Option Addr)(sl sl2:Array (Option Value))(xs ys:List D)(res:Bool)(hr:dU .ge xs ys=some res) :
  Meets (Builtin.«tuple.__ge__» ⟨[.ref l,.ref b],[]⟩)
   (λA R s=>s.heap.get? l=some {cls:=.type "tuple",dict:=dd,data:=.seq items n,slots:=sl}/\s.heap.get? b=some {cls:=.type "tuple",dict:=dd2,data:=.seq items2 n2,slots:=sl2}/\
    C2 .ge A.in1 s items.toList items2.toList xs ys/\R (.ok (.ret (.bool res))) s):=
 .of_wp λprog w A R s h=>by
  obtain⟨hp,g,d,tk,os⟩:=s;obtain⟨hl,hb,hC,h⟩:=h;have f2:=AutoSeq1.sub_tuple_tuple;have z1:items.size=xs.length:=by rw[<-hC.1];simp
  have z2:items2.size=ys.length:=by rw[<-hC.2.1];simp
  wp_walk using wpAny_loadPart' hl,wpAny_loadPart' hb,wpAny_forIn_list _ (λrest b s'=>b.1=none/\s'=⟨hp,g,d,tk,os⟩/\∃(vs ws:List Value)(xs' ys':List D),rest=vs.zip ws/\
   C2 .ge A.in1 ⟨hp,g,d,tk,os⟩ vs ws xs' ys'/\xs'.length+items2.size=ys'.length+items.size/\dU .ge xs' ys'=some res) _
  case turn=>
   rintro⟨y,x⟩ rest b s' ⟨hb',rfl,vs,ws,xs',ys',hz,hC',hlen,hR⟩;cases vs with
   |nil=>rw[List.zip_nil_left] at hz;cases hz
   |cons v vs=>
    cases ws with
    |nil=>rw[List.zip_nil_right] at hz;cases hz
    |cons w' ws=>
     rw[List.zip_cons_cons] at hz;injection hz with hyx hrest
     injection hyx with hy hx
     subst hy hx;cases xs' with
     |nil=>exact absurd hC'.1 (by simp)
     |cons x0 xs'=>
      cases ys' with
      |nil=>exact absurd hC'.2.1 (by simp)
      |cons y0 ys'=>
       rw[dU] at hR;simp only[List.length_cons] at hlen;obtain⟨he,hlt⟩:=hC'.2.2 0 _ _ _ _ rfl rfl rfl rfl;refine wpAny_bind (he prog w _ _ ?_);cases e:eqD x0 y0 with
       |true=>
        rw[e] at hR;simp only[if_true] at hR
        wp_walk
        exact⟨rfl,rfl,_,_,_,_,hrest,hC'.tail,by lia,hR⟩
       |false=>
        rw[e] at hR;simp only[Bool.false_eq_true,if_false] at hR;have hri:∀(E:Value->Shared->Prop)(Q:Value->Shared->Prop),Q (.bool res) ⟨hp,g,d,tk,os⟩->wpAny (model prog w) A.in1 (richCompare .GtE _ _) Q E ⟨hp,g,d,tk,os⟩:=λE Q q=>hlt e res hR prog w E Q q
        wp_walk using hri
        exact⟨_,rfl,by simpa using h⟩
  case fin=>
   rintro⟨b1,b2⟩ s' ⟨hb',rfl,vs,ws,xs',ys',hz,hC',hlen,hR⟩;simp only at hb';subst hb';have hv:res=decide (items2.size<=items.size):=by
    cases xs' with
    |nil=>
     rw[dU] at hR;have:=Option.some.inj hR;rw[<-this];simp only[List.length_nil] at hlen;simp only[kY.nat]
     congr 1
     simp only[eq_iff_iff];lia
    |cons x0 xs'=>
     cases ys' with
     |nil=>
      rw[dU] at hR;have:=Option.some.inj hR;rw[<-this];simp only[List.length_nil,List.length_cons] at hlen;simp only[kY.nat,List.length_cons]
      congr 1
      simp only[eq_iff_iff];lia
     |cons y0 ys'=>
      exfalso;cases vs with
      |nil=>exact absurd hC'.1 (by simp)
      |cons v vs=>
       cases ws with
       |nil=>exact absurd hC'.2.1 (by simp)
       |cons w' ws=>rw[List.zip_cons_cons] at hz;cases hz
   rw[hv] at h
   wp_walk
   exact⟨_,rfl,by simpa[Builtin.Tuple.tupleCompareSizes] using h⟩
  case h=>
   exact⟨rfl,rfl,items.toList,items2.toList,xs,ys,rfl,hC,by lia,hr⟩
theorem J9.aFo(hl:s.heap.IsTuple l items)(hb:s.heap.IsTuple b items2)(hC:C2 .ge A.in1 s items.toList items2.toList xs ys)(hr:dU .ge xs ys=some res)(hu:A.units<cLine) :
  J9 .GtE A s (.ref l) (.ref b) res:=λprog w E Q h=>by
 obtain⟨⟨cls,dd,data,sl⟩,ho,hc,n,hd⟩:=id hl;obtain⟨⟨cls2,dd2,data2,sl2⟩,ho2,hc2,n2,hd2⟩:=id hb;simp only at hc hd hc2 hd2;subst hc hd hc2 hd2;exact richCompare_meets_room (op:=.GtE) ⟨_,ho,rfl⟩ ⟨_,ho2,rfl⟩ PySem.F.slot_tuple_ge PySem.F.entry_tuple_ge (PySem.F.args_tuple_ge_2 _ _) (O4 l b items items2 n n2 dd dd2 sl sl2 xs ys res hr)
  ⟨ho,ho2,hC,show Value.bool res≠Value.notImplemented/\Q (.bool res) s from ⟨(λx=>nomatch x),h⟩⟩ hu
section
variable {X:Cx} {pins:List (Addr×Obj)} {σ:St} {H:Hp} {s:Shared}
theorem aBy(I:Inv X pins σ H s)(o:kY):∀(n:Nat)(A:Around){x y:V}{a b:D}{u v:Value}{k:Bool},A.units+n<cLine->a.eN n=true->b.eN n=true->Rep All H x a->Rep All H y b->RelV x u->RelV y v->
  n_ o a b=some k->J9 o.op A s u v k:=by
 intro n;induction n with
 |zero=>
  intro A x y a b u v k hu ha hb rx ry ru rv hk;cases a with
  |int i=>
   cases b with
   |int j=>
    cases rx;cases ry;obtain⟨t,rfl⟩:=ru;obtain⟨t',rfl⟩:=rv;rw[n_] at hk;have:=Option.some.inj hk;subst this;cases o with
    |lt=>exact λprog w E Q h=>(PyProof.Rows.lt_int h:wpAny (model prog w) A (compareOp .Lt (.int i t) (.int j t')) Q E s)
    |le=>exact λprog w E Q h=>(PyProof.Rows.le_int h:wpAny (model prog w) A (compareOp .LtE (.int i t) (.int j t')) Q E s)
    |gt=>exact λprog w E Q h=>(PyProof.Rows.gt_int h:wpAny (model prog w) A (compareOp .Gt (.int i t) (.int j t')) Q E s)
    |ge=>exact λprog w E Q h=>(PyProof.Rows.ge_int h:wpAny (model prog w) A (compareOp .GtE (.int i t) (.int j t')) Q E s)
   |_=>exact nx0 hk
  |str i=>
   cases b with
   |str j=>
    cases rx;cases ry;obtain⟨t,rfl⟩:=ru;obtain⟨t',rfl⟩:=rv;rw[n_] at hk;have:=Option.some.inj hk;subst this;cases o with
    |lt=>exact λprog w E Q h=>(PyProof.Rows.lt_str h:wpAny (model prog w) A (compareOp .Lt (.str i t) (.str j t')) Q E s)
    |le=>exact λprog w E Q h=>(PySem.P.le_str h:wpAny (model prog w) A (compareOp .LtE (.str i t) (.str j t')) Q E s)
    |gt=>exact λprog w E Q h=>(PySem.P.gt_str h:wpAny (model prog w) A (compareOp .Gt (.str i t) (.str j t')) Q E s)
    |ge=>exact λprog w E Q h=>(PySem.P.ge_str h:wpAny (model prog w) A (compareOp .GtE (.str i t) (.str j t')) Q E s)
   |_=>exact nx0 hk
  |tup _=>exact fx0 ha
  |_=>cases b<;>exact nx0 hk
 |succ n ih=>
  intro A x y a b u v k hu ha hb rx ry ru rv hk;have hu0:A.units<cLine:=by lia
  have hu1:A.in1.units+n<cLine:=by show A.units+1+n<cLine;lia
  cases a with
  |int i=>
   cases b with
   |int j=>
    cases rx;cases ry;obtain⟨t,rfl⟩:=ru;obtain⟨t',rfl⟩:=rv;rw[n_] at hk;have:=Option.some.inj hk;subst this;cases o with
    |lt=>exact λprog w E Q h=>(PyProof.Rows.lt_int h:wpAny (model prog w) A (compareOp .Lt (.int i t) (.int j t')) Q E s)
    |le=>exact λprog w E Q h=>(PyProof.Rows.le_int h:wpAny (model prog w) A (compareOp .LtE (.int i t) (.int j t')) Q E s)
    |gt=>exact λprog w E Q h=>(PyProof.Rows.gt_int h:wpAny (model prog w) A (compareOp .Gt (.int i t) (.int j t')) Q E s)
    |ge=>exact λprog w E Q h=>(PyProof.Rows.ge_int h:wpAny (model prog w) A (compareOp .GtE (.int i t) (.int j t')) Q E s)
   |_=>exact nx0 hk
  |str i=>
   cases b with
   |str j=>
    cases rx;cases ry;obtain⟨t,rfl⟩:=ru;obtain⟨t',rfl⟩:=rv;rw[n_] at hk;have:=Option.some.inj hk;subst this;cases o with
    |lt=>exact λprog w E Q h=>(PyProof.Rows.lt_str h:wpAny (model prog w) A (compareOp .Lt (.str i t) (.str j t')) Q E s)
    |le=>exact λprog w E Q h=>(PySem.P.le_str h:wpAny (model prog w) A (compareOp .LtE (.str i t) (.str j t')) Q E s)
    |gt=>exact λprog w E Q h=>(PySem.P.gt_str h:wpAny (model prog w) A (compareOp .Gt (.str i t) (.str j t')) Q E s)
    |ge=>exact λprog w E Q h=>(PySem.P.ge_str h:wpAny (model prog w) A (compareOp .GtE (.str i t) (.str j t')) Q E s)
   |_=>exact nx0 hk
  |tup ds=>
   cases b with
   |tup es=>
    obtain⟨p,xs,rfl,e1,r1⟩:=rx.eX;cases ru;obtain⟨its1,vr1,h1⟩:=gH I e1;obtain⟨q,ys,rfl,e2,r2⟩:=ry.eX;cases rv;obtain⟨its2,vr2,h2⟩:=gH I e2;rw[D.eN] at ha hb;rw[n_] at hk;have hC:∀o',o'=o->C2 o' A.in1 s its1.toArray.toList its2.toArray.toList ds es:=by
     rintro o' rfl;refine⟨by rw[List.toList_toArray,<-vr1.length,r1.length],by rw[List.toList_toArray,<-vr2.length,r2.length],λj v w x y a1 a2 a3 a4=>?_⟩;rw[List.toList_toArray] at a1 a2;obtain⟨v1,w1,rr1⟩:=r1.get a3;obtain⟨v2,w2,rr2⟩:=r2.get a4;obtain⟨u1,k1,l1⟩:=vr1.get w1;obtain⟨u2,k2,l2⟩:=vr2.get w2;rw[a1] at k1;cases k1;rw[a2] at k2;cases k2;have g1:x.eN n=true:=by
      have:=gJ (j:=j) ha (List.getElem?_eq_some_iff.mp a3).1;rwa [List.getD_eq_getElem?_getD,a3] at this
     have g2:y.eN n=true:=by
      have:=gJ (j:=j) hb (List.getElem?_eq_some_iff.mp a4).1;rwa [List.getD_eq_getElem?_getD,a4] at this
     exact⟨(zG I n A.in1 hu1 g1 g2 rr1 rr2 l1 l2).2.2,λ_ k hk=>ih A.in1 hu1 g1 g2 rr1 rr2 l1 l2 hk⟩
    cases o with
    |lt=>exact J9.aFl h1 h2 (hC .lt rfl) hk hu0
    |le=>exact J9.aFm h1 h2 (hC .le rfl) hk hu0
    |gt=>exact J9.aFn h1 h2 (hC .gt rfl) hk hu0
    |ge=>exact J9.aFo h1 h2 (hC .ge rfl) hk hu0
   |_=>exact nx0 hk
  |_=>cases b<;>exact nx0 hk
end
end Mi
namespace TS
open PySem PyProof.Rows
theorem wL(ho:s.heap.get? a=some (seqObj "list" vs.toArray n))(hn:vs.length<=sizeLine)
 (hk:2<=vs.length->∃κ U blt,Ord U blt/\n6 U (pairsOf vs)/\
   (∀Q:SortKind->Shared->Prop,Q κ {s with heap:=((s.heap.update a (Obj.mapSeq λ_=>(#[]:Array Value))).push (seqObj "tuple" vs.toArray 0)).push (seqObj "list" #[] 0)}->wpAny (model prog w) A (keyKind' vs.toArray) Q E {s with heap:=((s.heap.update a (Obj.mapSeq λ_=>(#[]:Array Value))).push (seqObj "tuple" vs.toArray 0)).push (seqObj "list" #[] 0)})/\
   NQ prog w A E {s with heap:=((s.heap.update a (Obj.mapSeq λ_=>(#[]:Array Value))).push (seqObj "tuple" vs.toArray 0)).push (seqObj "list" #[] 0)} κ U blt/\
   ∀arr:Array Keyed,arr.Perm (pairsOf vs)->Srt blt arr 0 (pairsOf vs).size->P (.done (.ret .none)) {s with heap:=sortedHeap s.heap a vs (arr.map (·.2))})
 (h1:vs.length<2->P (.done (.ret .none)) {s with heap:=sortedHeap s.heap a vs ((pairsOf vs).map (·.2))}) :
  wpAny (model prog w) A (Builtin.«list.sort» ⟨[.ref a],[]⟩) P E s:=by
 rw[list_sort_plain];have ha:a<s.heap.objs.size:=Heap.lt_size ho;refine wpAny_bind (listItems_at ho rfl ?_);refine wpAny_bind (listUpdate_at ho rfl ?_ (by rw[List.size_toArray];exact hn) (Nat.zero_le _));obtain⟨e1,ho1⟩:∃e1,(s.heap.update a (Obj.mapSeq λ_=>(#[]:Array Value))).get? a=some (seqObj "list" #[] e1):=⟨_,get?_update_seq ho (λ_=>#[])⟩
 refine wpAny_bind (seqEpoch_at ho1 rfl ?_);refine wpAny_bind (wpAny_newTuple ?_ (by show vs.length<=_;exact hn));refine wpAny_bind (wpAny_newList ?_ (Nat.zero_le _));refine wpAny_holding ?_;have ho6:(((s.heap.update a (Obj.mapSeq λ_=>(#[]:Array Value))).push (seqObj "tuple" vs.toArray 0)).push (seqObj "list" #[] 0)).get? a=some (seqObj "list" #[] e1):=by
  rw[Heap.get?_push_ne _ _ _ (by rw[size_push',Heap.size_update];exact Nat.ne_of_lt (Nat.lt_succ_of_lt ha)),Heap.get?_push_ne _ _ _ (by rw[Heap.size_update];exact Nat.ne_of_lt ha)];exact ho1
 show wpAny (model prog w) A _ P E {s with heap:=((s.heap.update a (Obj.mapSeq λ_=>(#[]:Array Value))).push (seqObj "tuple" vs.toArray 0)).push (seqObj "list" #[] 0)};dsimp only;have hsz:vs.toArray.size=vs.length:=by simp
 by_cases h2:vs.toArray.size<2
 ·rw[if_pos h2,if_pos h2];refine wpAny_bind (wpAny_pure ?_);rw[StateT.run_pure];refine wpAny_bind (wpAny_pure ?_);dsimp only;refine wpAny_bind (seqEpoch_at ho6 rfl ?_);refine wpAny_bind (listUpdate_at ho6 rfl ?_ (Nat.zero_le _) (hsz2:=by rw[Array.size_map];show(pairsOf vs).size<=_;rw[pairsOf_size];exact Nat.le_succ_of_le hn));simp only[bne_self_eq_false,Bool.false_eq_true,if_false];exact wpAny_pure (h1 (by lia))
 ·rw[if_neg h2,if_neg h2];obtain⟨κ,U,blt,O,hU,hkk,hL,fin⟩:=hk (by lia);refine wpAny_bind (hkk _ ?_);refine wpAny_bind (wpAny_mono (wpS_sortRuns (a₀:=pairsOf vs) (st:=SortSt.mk' κ (vs.toArray.zip vs.toArray) #[] 7 none)
   (Q:=λ_ st'=>(arrOf st').Perm (pairsOf vs)/\failedOf st'=none/\Srt blt (arrOf st') 0 (pairsOf vs).size) O hL hU ⟨rfl,rfl,Array.Perm.refl _⟩ rfl (by rw[pairsOf_size];lia) λst' b z=>⟨b.pm,b.fl,z⟩) ?_ λ_ _ e=>e)
  rintro⟨⟨⟩,st'⟩ s' ⟨rfl,hp,hf,hs⟩;dsimp only;refine wpAny_bind (seqEpoch_at ho6 rfl ?_);refine wpAny_bind (listUpdate_at ho6 rfl ?_ (Nat.zero_le _) (hsz2:=by refine Nat.le_trans (Nat.le_of_eq ((Array.size_map ..).trans (hp.size_eq.trans (pairsOf_size _)))) ?_;exact Nat.le_succ_of_le hn));rw[hf];simp only[bne_self_eq_false,Bool.false_eq_true,if_false];exact wpAny_pure (fin (arrOf st') hp hs)
noncomputable def aE6(h:Heap)(vs:List Value):Heap:=
 (((h.push (seqObj "list" vs.toArray 0)).update h.objs.size (Obj.mapSeq λ_=>(#[]:Array Value))).push (seqObj "tuple" vs.toArray 0)).push (seqObj "list" #[] 0)
theorem YK(hb:h.get? b=some o):(aE6 h vs).get? b=some o:=by
 have hlt:b<h.objs.size:=Heap.lt_size hb;unfold aE6;refine Heap.get?_push_of_some _ (Heap.get?_push_of_some _ ?_);rw[Heap.get?_update_ne _ _ _ _ (Nat.ne_of_lt hlt)];exact Heap.get?_push_of_some _ hb
noncomputable def aE7(h:Heap)(vs:List Value)(out:Array Value):Heap:=sortedHeap (h.push (seqObj "list" vs.toArray 0)) h.objs.size vs out
theorem YL(hb:h.get? b=some o):(aE7 h vs out).get? b=some o:=by
 have hlt:b<h.objs.size:=Heap.lt_size hb;unfold aE7;rw[sortedHeap_old (Nat.ne_of_lt hlt) (by rw[size_push'];exact Nat.lt_succ_of_lt hlt)];exact Heap.get?_push_of_some _ hb
theorem aBz(h:Heap)(vs:List Value)(out:Array Value):∃e,(aE7 h vs out).get? h.objs.size=some (seqObj "list" out e):=sortedHeap_at (n:=0) (Heap.get?_push_size _ rfl)
theorem O5(hn:vs.length<=sizeLine)
 (hcol:∀(Q':List Value->Shared->Prop) (E':Value->Shared->Prop),(∀h1 tk,(∀b o,s.heap.get? b=some o->h1.get? b=some o)->s.heap.objs.size<=h1.objs.size->Q' vs {s with heap:=h1,toks:=tk})->wpAny (model prog w) A.in1 (collect v) Q' E' s)
 (hk:∀h1 tk,(∀b o,s.heap.get? b=some o->h1.get? b=some o)->s.heap.objs.size<=h1.objs.size->2<=vs.length->∃κ U blt,Ord U blt/\n6 U (pairsOf vs)/\
   (∀Q:SortKind->Shared->Prop,Q κ {s with heap:=aE6 h1 vs,toks:=tk}->wpAny (model prog w) A.in1.in1 (keyKind' vs.toArray) Q (λ_ _=>False) {s with heap:=aE6 h1 vs,toks:=tk})/\
   NQ prog w A.in1.in1 (λ_ _=>False) {s with heap:=aE6 h1 vs,toks:=tk} κ U blt/\
   ∀arr:Array Keyed,arr.Perm (pairsOf vs)->Srt blt arr 0 (pairsOf vs).size->Q (.ref h1.objs.size) {s with heap:=aE7 h1 vs (arr.map (·.2)),toks:=tk})
 (h1:∀h1 tk,(∀b o,s.heap.get? b=some o->h1.get? b=some o)->s.heap.objs.size<=h1.objs.size->vs.length<2->Q (.ref h1.objs.size) {s with heap:=aE7 h1 vs ((pairsOf vs).map (·.2)),toks:=tk}) :
  wpAny (model prog w) A (call (.builtin "sorted") [v]) Q E s:=by
 refine Calls.call_function_entry kind_sorted plain_sorted entry_sorted (args_sorted1 _) ?_;unfold Builtin.«sorted»;refine wpAny_bind (m:=checkCount "sorted" 1 1 _) (wpAny_pure ?_);refine wpAny_bind (hcol _ _ λhh tk kp hle=>?_);refine wpAny_bind (wpAny_newList ?_ hn);have hoL:(hh.push (seqObj "list" vs.toArray 0)).get? hh.objs.size=some (seqObj "list" vs.toArray 0):=Heap.get?_push_size _ rfl;show wpAny _ _ _ _ _ {s with heap:=hh.push (seqObj "list" vs.toArray 0),toks:=tk};refine wpAny_bind (wpAny_holding (wpAny_call_entry slot_list_sort ⟨_,hoL,rfl⟩ entry_list_sort ?body (args_list_sort _)))
 case body=>
  refine wpAny_mono (wL (s:={s with heap:=hh.push (seqObj "list" vs.toArray 0),toks:=tk}) (E:=λ_ _=>False) (P:=λf s'=>∃v,f=.done (.ret v)/\v=Value.none/\Q (.ref hh.objs.size) s') hoL hn (λh2=>?_) (λh2=>⟨_,rfl,rfl,h1 hh tk kp hle h2⟩)) (λf s' h=>?_) λ_ _ z=>False.elim z
  ·obtain⟨κ,U,blt,O,hU,hkk,hL,fin⟩:=hk hh tk kp hle h2;exact⟨κ,U,blt,O,hU,hkk,hL,λarr p z=>⟨_,rfl,rfl,fin arr p z⟩⟩
  ·obtain⟨v,rfl,rfl,q⟩:=h;exact⟨_,rfl,wpAny_pure ⟨_,rfl,q⟩⟩
end TS
namespace Mi
open PySem L2 PySem.SeqAt
open PyProof.Rows (Keyed lt' keyLt' oneLt' SortKind SortSt kindOf tuples' oneType' pairsOf wpS wpS_bind wpS_pure wpS_get wpS_lift keyKind')
variable [KFrag]
def lF(H:Hp)(u:Value):D:=by
 classical
 exact if h:∃d,d.plain=true/\d.eN aY=true/\∃v,RelV v u/\Rep All H v d then Classical.choose h else .non
theorem rM(hp:d.plain=true)(hq:d.eN aY=true)(rv:RelV v u)(r:Rep All H v d):lF H u=d:=by
 unfold lF;have h:∃d,d.plain=true/\d.eN aY=true/\∃v,RelV v u/\Rep All H v d:=⟨d,hp,hq,v,rv,r⟩
 rw[dif_pos h];obtain⟨h1,h2,v',rv',r'⟩:=Classical.choose_spec h;have:=rv'.inj rv;subst this;exact Rep.inj aY h2 hq r' r
theorem eE(h:dF ds=true)(ha:a∈ds):a.plain=true/\a.eN aY=true/\fM a≠0/\fM a=fM (ds.headD .non)/\∀b∈ds,∃k,n_ .lt a b=some k:=by
 unfold dF at h;have:=List.all_eq_true.mp h a ha;simp only[Bool.and_eq_true,bne_iff_ne,beq_iff_eq] at this;obtain⟨⟨⟨⟨h1,h2⟩,h3⟩,h4⟩,h5⟩:=this;refine⟨h1,h2,h3,h4,λb hb=>Option.isSome_iff_exists.mp (List.all_eq_true.mp h5 b hb)⟩
theorem aFp(h:dF ds=true)(ha:a∈ds)(hb:b∈ds):n_ .lt a b=some (decide (enc a<enc b)):=by
 obtain⟨p1,_,_,_,q⟩:=eE h ha;obtain⟨p2,_⟩:=eE h hb;obtain⟨k,hk⟩:=q b hb;rw[hk,SX a b k p1 p2 hk]
def sU(H:Hp)(ds:List D)(k:Keyed):Prop:=∃v d,RelV v k.1/\Rep All H v d/\d∈ds
def sLt(H:Hp)(x y:Keyed):Bool:=decide (enc (lF H x.1)<enc (lF H y.1))
theorem aK0(H:Hp)(ds:List D):TS.Ord (sU H ds) (sLt H):=by
 refine⟨λx _=>?_,λx y z _ _ _ h1 h2=>?_,λx y z _ _ _ h=>?_⟩
 ·simp[sLt,List.lt_irrefl]
 ·simp only[sLt,decide_eq_true_eq] at *;exact List.lt_trans h1 h2
 ·simp only[sLt,decide_eq_true_eq] at *;by_cases q:enc (lF H x.1)<enc (lF H y.1)
  ·exact .inl q
  ·exact .inr (List.lt_of_le_of_lt (List.not_lt.mp q) h)
section
variable {X:Cx} {pins:List (Addr×Obj)} {σ:L2.St} {H:Hp} {s:Shared}
open PySem.W in
theorem wM:∀(vs ws:List Value)(xs ys:List D)(i:Nat),(b&&i==0)=false->C2 .lt A s vs ws xs ys->dU .lt xs ys=some k->xs.length+n2=ys.length+n1->Q k s->
  KatLex prog w A b (decide (n1<n2)) Q (vs.zip ws) i s
 |[],ws,xs,ys,i,_,hC,hk,hf,q=>by
  have:xs=[]:=List.eq_nil_of_length_eq_zero hC.1.symm;subst this;rw[List.zip_nil_left];rw[dU] at hk;have e:k=decide (n1<n2):=by
   rw[<-Option.some.inj hk];simp only[kY.nat,List.length_nil] at hf ⊢
   congr 1
   simp only[eq_iff_iff];lia
  rw[<-e];exact q
 |v::vs,[],xs,ys,i,_,hC,hk,hf,q=>by
  have:ys=[]:=List.eq_nil_of_length_eq_zero hC.2.1.symm;subst this;rw[List.zip_nil_right];cases xs with
  |nil=>exact absurd hC.1 (by simp)
  |cons x xs=>
   rw[dU] at hk;have e:k=decide (n1<n2):=by
    rw[<-Option.some.inj hk];simp only[kY.nat,List.length_nil,List.length_cons] at hf ⊢
    congr 1
    simp only[eq_iff_iff];lia
   rw[<-e];exact q
 |v::vs,w'::ws,[],ys,i,_,hC,hk,hf,q=>absurd hC.1 (by simp)
 |v::vs,w'::ws,x::xs,[],i,_,hC,hk,hf,q=>absurd hC.2.1 (by simp)
 |v::vs,w'::ws,x::xs,y::ys,i,hi,hC,hk,hf,q=>by
  rw[List.zip_cons_cons];obtain⟨he,hlt⟩:=hC.2.2 0 _ _ _ _ rfl rfl rfl rfl;rw[dU] at hk;refine kat_cons (he prog w _ _ ?_);cases e:eqD x y with
  |true=>
   rw[e,if_pos rfl] at hk;exact kat_yes (wM vs ws xs ys (i+1) (by simp) hC.tail hk (by simp only[List.length_cons] at hf;lia) q)
  |false=>
   rw[e,if_neg (by simp)] at hk;refine kat_no ?_;rw[hi];exact kat_one _ _ (hlt e k hk prog w _ _ q)
theorem aI6(I:Inv X pins σ H s)(hu:A.units+n<cLine)(ha:D.eQ n ds=true)(hb:D.eQ n es=true)(r1:bR All H xs ds)(r2:bR All H ys es)(vr1:Vals xs its1)(vr2:Vals ys its2) :
  C2 .lt A s its1 its2 ds es:=by
 refine⟨by rw[<-vr1.length,r1.length],by rw[<-vr2.length,r2.length],λj v w x y a1 a2 a3 a4=>?_⟩;obtain⟨v1,w1,rr1⟩:=r1.get a3;obtain⟨v2,w2,rr2⟩:=r2.get a4;obtain⟨u1,k1,l1⟩:=vr1.get w1;obtain⟨u2,k2,l2⟩:=vr2.get w2;rw[a1] at k1;cases k1;rw[a2] at k2;cases k2;have g1:x.eN n=true:=by
  have:=gJ (j:=j) ha (List.getElem?_eq_some_iff.mp a3).1;rwa [List.getD_eq_getElem?_getD,a3] at this
 have g2:y.eN n=true:=by
  have:=gJ (j:=j) hb (List.getElem?_eq_some_iff.mp a4).1;rwa [List.getD_eq_getElem?_getD,a4] at this
 exact⟨(zG I n A hu g1 g2 rr1 rr2 l1 l2).2.2,λ_ k hk=>aBy I .lt n A hu g1 g2 rr1 rr2 l1 l2 hk⟩
theorem kind_le(d:D):fM d<=5:=by
 unfold fM;split<;>lia
theorem aC0(h:fM d=1):∃i,d=.int i:=by
 unfold fM at h;split at h<;>first|lia|exact⟨_,rfl⟩
theorem aC1(h:fM d=2):∃i,d=.str i:=by
 unfold fM at h;split at h<;>first|lia|exact⟨_,rfl⟩
theorem YM(h:fM d=3):∃i r,d=.tup (.int i::r):=by
 unfold fM at h;split at h<;>first|lia|exact⟨_,_,rfl⟩
theorem YQ(h:fM d=4):∃i r,d=.tup (.str i::r):=by
 unfold fM at h;split at h<;>first|lia|exact⟨_,_,rfl⟩
theorem aFq(h:fM d=5):∃i r,d=.tup (.tup i::r):=by
 unfold fM at h;split at h<;>first|lia|exact⟨_,_,rfl⟩
theorem J_(r:bR All H xs ds)(vr:Vals xs its)(hu:u∈its):∃v d,RelV v u/\Rep All H v d/\d∈ds:=by
 obtain⟨j,hj,e⟩:=List.getElem_of_mem hu;have hj':j<ds.length:=by rw[<-r.length,vr.length];exact hj
 obtain⟨v,h1,h2⟩:=r.get (i:=j) (d:=ds[j]) (by simp[hj']);obtain⟨u',h3,h4⟩:=vr.get h1;rw[List.getElem?_eq_getElem hj,e] at h3;cases h3;exact⟨v,_,h4,h2,List.getElem_mem _⟩
open PySem.W in
theorem wN(I:Inv X pins σ H s){F:D->Prop}(hF:∀(d:D) (v:V) (u:Value),F d->RelV v u->Rep All H v d->Looks (model X.prog X.w) s.heap (typeOf u) T) :
  ∀{xs:List V}{ds:List D}{its:List Value},bR All H xs ds->Vals xs its->(∀d∈ds,∃f r,d=.tup (f::r)/\F f)->∃fs,KatTups s.heap its fs/\fs.length=its.length/\∀f∈fs,Looks (model X.prog X.w) s.heap (typeOf f) T
 |_,_,_,.nil,.nil,_=>⟨[],.nil,rfl,λ_ h=>by simp at h⟩
 |_,_,_,.cons r t,.cons v vt,h=>by
  obtain⟨fs,h1,h2,h3⟩:=wN I hF t vt λd hd=>h d (List.mem_cons_of_mem _ hd)
  obtain⟨f,rr,rfl,hf⟩:=h _ (List.mem_cons_self ..);obtain⟨a,ys,rfl,e,rs⟩:=r.eX;cases v;obtain⟨its2,vr2,o,ho,hc,n,hd⟩:=gH I e;cases rs with
  |cons r0 rs=>
   cases vr2 with
   |cons v0 vr2=>
    refine⟨_::fs,.cons ho hc hd rfl h1,by simp[h2],λg hg=>?_⟩;rcases List.mem_cons.mp hg with rfl|hg
    ·exact hF _ _ _ hf v0 r0
    ·exact h3 g hg
open PySem.W in
theorem TF(I:Inv X pins σ H s)(hu:A.units+aY<cLine)(hc:dF ds=true)(r:bR All H xs ds)(vr:Vals xs its)(h2:2<=its.length) :
  ∃κ:SortKind,(∀Q:SortKind->Shared->Prop,Q κ s->wpAny (model X.prog X.w) A (keyKind' its.toArray) Q (λ_ _=>False) s)/\
   ∀(x y:Keyed)(Q:Bool->Shared->Prop),sU H ds x->sU H ds y->Q (sLt H x y) s->wpAny (model X.prog X.w) A (keyLt' κ x.1 y.1) Q (λ_ _=>False) s:=by
 have hlen:ds.length=its.length:=by rw[<-r.length,vr.length]
 have hkind:∀d∈ds,fM d=fM (ds.headD .non):=λd hd=>(eE hc hd).2.2.2.1
 have hne:fM (ds.headD .non)≠0:=by
  have hd:ds.headD .non∈ds:=by
   cases ds with
   |nil=>simp at hlen;lia
   |cons d ds=>simp
  exact(eE hc hd).2.2.1
 have lty:∀{x y:Keyed}{v v':V}{d d':D},RelV v x.1->Rep All H v d->d∈ds->RelV v' y.1->Rep All H v' d'->d'∈ds->n_ .lt d d'=some (sLt H x y):=λ{x y v v' d d'} rv rp hd rv' rp' hd'=>by
  have e1:=rM (eE hc hd).1 (eE hc hd).2.1 rv rp;have e2:=rM (eE hc hd').1 (eE hc hd').2.1 rv' rp';rw[aFp hc hd hd'];unfold sLt;rw[e1,e2]
 -- two tuples whose first items are told by a rule of their own,or by the common one
 have tupl:∀(b:Bool)(x y:Keyed)(Q:Bool->Shared->Prop),sU H ds x->sU H ds y->(∀d∈ds,∃f r,d=.tup (f::r))->
   (b=true->∀(f g:D)(v v':V)(u u':Value)(k:Bool)(Q:Bool->Shared->Prop),(∃r,D.tup (f::r)∈ds)->(∃r,D.tup (g::r)∈ds)->RelV v u->Rep All H v f->RelV v' u'->Rep All H v' g->n_ .lt f g=some k->Q k s->wpAny (model X.prog X.w) A (oneLt' true u u') Q (λ_ _=>False) s)->
   Q (sLt H x y) s->wpAny (model X.prog X.w) A (keyLt' (tuples' b) x.1 y.1) Q (λ_ _=>False) s:=by
  rintro b ⟨x1,x2⟩ ⟨y1,y2⟩ Q ⟨v,d,rv,rp,hd⟩ ⟨v',d',rv',rp',hd'⟩ htup hone q;have hk:=lty rv rp hd rv' rp' hd';have q1:=(eE hc hd).2.1;have q2:=(eE hc hd').2.1;obtain⟨f,rr,rfl⟩:=htup d hd;obtain⟨g,rr',rfl⟩:=htup d' hd';obtain⟨a,ys,rfl,e,rs⟩:=rp.eX;obtain⟨a',ys',rfl,e',rs'⟩:=rp'.eX;cases rv;cases rv';obtain⟨i1,vr1,o1,ho1,hc1,n1,hd1⟩:=gH I e;obtain⟨i2,vr2,o2,ho2,hc2,n2,hd2⟩:=gH I e';rw[n_] at hk;have q1':D.eQ 11 (f::rr)=true:=by rw[show aY=11+1 from rfl,D.eN] at q1;exact q1
  have q2':D.eQ 11 (g::rr')=true:=by rw[show aY=11+1 from rfl,D.eN] at q2;exact q2
  have hu':A.units+11<cLine:=by have:A.units+12<cLine:=hu;lia
  have C:=aI6 I hu' q1' q2' rs rs' vr1 vr2;refine kat_lt ho1 hd1 ho2 hd2 ?_;have z1:i1.toArray.size=(f::rr).length:=by rw[List.size_toArray,<-vr1.length,rs.length]
  have z2:i2.toArray.size=(g::rr').length:=by rw[List.size_toArray,<-vr2.length,rs'.length]
  rw[List.toList_toArray,List.toList_toArray,z1,z2];cases b with
  |false=>exact wM i1 i2 (f::rr) (g::rr') 0 rfl C hk (by lia) q
  |true=>
   cases rs with
   |cons r0 rs=>
    cases rs' with
    |cons r0' rs'=>
     cases vr1 with
     |cons v0 vr1=>
      cases vr2 with
      |cons v0' vr2=>
       rw[List.zip_cons_cons];obtain⟨he,_⟩:=C.2.2 0 _ _ _ _ rfl rfl rfl rfl;rw[dU] at hk;refine kat_cons (he X.prog X.w _ _ ?_);cases e0:eqD f g with
       |true=>
        rw[e0,if_pos rfl] at hk;exact kat_yes (wM _ _ rr rr' 1 (by simp) C.tail hk (by simp only[List.length_cons];lia) q)
       |false=>
        rw[e0,if_neg (by simp)] at hk;refine kat_no ?_;exact hone rfl f g _ _ _ _ _ Q ⟨_,hd⟩ ⟨_,hd'⟩ v0 r0 v0' r0' hk q
 have h5:=kind_le (ds.headD .non);have cases5:fM (ds.headD .non)=1\/fM (ds.headD .non)=2\/fM (ds.headD .non)=3\/fM (ds.headD .non)=4\/fM (ds.headD .non)=5:=by lia
 rcases cases5 with c|c|c|c|c
 ·refine⟨oneType',λQ q=>kas_kind (T:=.type "int") h2 (λu hm=>?_) (by decide) (by decide) q,λx y Q hx hy q=>?_⟩
  ·obtain⟨v,d,rv,rp,hd⟩:=J_ r vr hm;obtain⟨i,rfl⟩:=aC0 ((hkind d hd).trans c);cases rp.inv;obtain⟨t,rfl⟩:=rv;exact Looks.of_pure rfl
  ·obtain⟨v,d,rv,rp,hd⟩:=hx;obtain⟨v',d',rv',rp',hd'⟩:=hy;have hk:=lty rv rp hd rv' rp' hd';obtain⟨i,rfl⟩:=aC0 ((hkind d hd).trans c);obtain⟨j,rfl⟩:=aC0 ((hkind d' hd').trans c);cases rp.inv;cases rp'.inv;obtain⟨t,e1⟩:=rv;obtain⟨t',e2⟩:=rv';rw[n_] at hk;rw[<-Option.some.inj hk] at q;rw[e1,e2,PyProof.Rows.keyLt'_oneType];exact PyProof.Rows.oneLt_int q
 ·refine⟨oneType',λQ q=>kas_kind (T:=.type "str") h2 (λu hm=>?_) (by decide) (by decide) q,λx y Q hx hy q=>?_⟩
  ·obtain⟨v,d,rv,rp,hd⟩:=J_ r vr hm;obtain⟨i,rfl⟩:=aC1 ((hkind d hd).trans c);cases rp.inv;obtain⟨t,rfl⟩:=rv;exact Looks.of_pure rfl
  ·obtain⟨v,d,rv,rp,hd⟩:=hx;obtain⟨v',d',rv',rp',hd'⟩:=hy;have hk:=lty rv rp hd rv' rp' hd';obtain⟨i,rfl⟩:=aC1 ((hkind d hd).trans c);obtain⟨j,rfl⟩:=aC1 ((hkind d' hd').trans c);cases rp.inv;cases rp'.inv;obtain⟨t,e1⟩:=rv;obtain⟨t',e2⟩:=rv';rw[n_] at hk;rw[<-Option.some.inj hk] at q;rw[e1,e2,PyProof.Rows.keyLt'_oneType];exact PyProof.Rows.oneLt_str q
 ·obtain⟨fs,t1,t2,t3⟩:=wN I (T:=.type "int") (F:=λf=>∃i,f=.int i) (λd v u hf rv rp=>by
   obtain⟨i,rfl⟩:=hf;cases rp.inv;obtain⟨t,rfl⟩:=rv;exact Looks.of_pure rfl) r vr (λd hd=>by
   obtain⟨i,rr,rfl⟩:=YM ((hkind d hd).trans c);exact⟨_,_,rfl,i,rfl⟩)
  refine⟨tuples' true,λQ q=>kat_kind (T:=.type "int") t1 (by lia) t3 (by decide) q,λx y Q hx hy q=>tupl true x y Q hx hy (λd hd=>?_) (λ_ f g v v' u u' k Q hf hg rv rp rv' rp' hk q=>?_) q⟩
  ·obtain⟨i,rr,rfl⟩:=YM ((hkind d hd).trans c);exact⟨_,_,rfl⟩
  ·obtain⟨r1,hf⟩:=hf;obtain⟨r2,hg⟩:=hg;obtain⟨i,rr,e1⟩:=YM ((hkind _ hf).trans c);obtain⟨j,rr',e2⟩:=YM ((hkind _ hg).trans c);cases e1;cases e2;cases rp.inv;cases rp'.inv;obtain⟨t,rfl⟩:=rv;obtain⟨t',rfl⟩:=rv';rw[n_] at hk;rw[<-Option.some.inj hk] at q;exact PyProof.Rows.oneLt_int q
 ·obtain⟨fs,t1,t2,t3⟩:=wN I (T:=.type "str") (F:=λf=>∃i,f=.str i) (λd v u hf rv rp=>by
   obtain⟨i,rfl⟩:=hf;cases rp.inv;obtain⟨t,rfl⟩:=rv;exact Looks.of_pure rfl) r vr (λd hd=>by
   obtain⟨i,rr,rfl⟩:=YQ ((hkind d hd).trans c);exact⟨_,_,rfl,i,rfl⟩)
  refine⟨tuples' true,λQ q=>kat_kind (T:=.type "str") t1 (by lia) t3 (by decide) q,λx y Q hx hy q=>tupl true x y Q hx hy (λd hd=>?_) (λ_ f g v v' u u' k Q hf hg rv rp rv' rp' hk q=>?_) q⟩
  ·obtain⟨i,rr,rfl⟩:=YQ ((hkind d hd).trans c);exact⟨_,_,rfl⟩
  ·obtain⟨r1,hf⟩:=hf;obtain⟨r2,hg⟩:=hg;obtain⟨i,rr,e1⟩:=YQ ((hkind _ hf).trans c);obtain⟨j,rr',e2⟩:=YQ ((hkind _ hg).trans c);cases e1;cases e2;cases rp.inv;cases rp'.inv;obtain⟨t,rfl⟩:=rv;obtain⟨t',rfl⟩:=rv';rw[n_] at hk;rw[<-Option.some.inj hk] at q;exact PyProof.Rows.oneLt_str q
 ·obtain⟨fs,t1,t2,t3⟩:=wN I (T:=.type "tuple") (F:=λf=>∃i,f=.tup i) (λd v u hf rv rp=>by
   obtain⟨i,rfl⟩:=hf;obtain⟨a,ys,rfl,e,rs⟩:=rp.eX;cases rv;obtain⟨i1,vr1,o1,ho1,hc1,n1,hd1⟩:=gH I e;have:=(show Looks (model X.prog X.w) s.heap (typeOf (.ref a)) o1.cls from (Looks.ld ho1).andThen .now)
   rwa [hc1] at this) r vr (λd hd=>by
   obtain⟨i,rr,rfl⟩:=aFq ((hkind d hd).trans c);exact⟨_,_,rfl,i,rfl⟩)
  refine⟨tuples' false,λQ q=>kat_kind (T:=.type "tuple") t1 (by lia) t3 (by decide) q,λx y Q hx hy q=>tupl false x y Q hx hy (λd hd=>?_) (λh=>by cases h) q⟩;obtain⟨i,rr,rfl⟩:=aFq ((hkind d hd).trans c);exact⟨_,_,rfl⟩
theorem aC2(I:Inv X pins σ H s)(h:∀(x y:Keyed) (Q:Bool->Shared->Prop),sU H ds x->sU H ds y->Q (sLt H x y) s->wpAny (model X.prog X.w) A (keyLt' κ x.1 y.1) Q (λ_ _=>False) s) :
  TS.NQ X.prog X.w A (λ_ _=>False) s κ (sU H ds) (sLt H):=by
 intro x y st Q hx hy hk q;rw[PyProof.Rows.lt'_eq];refine wpS_bind (wpS_get ?_);rw[hk];refine wpS_bind (wpS_lift (wpAny_attempt (wpAny_mono (h x y (λb s'=>s'=s/\b=sLt H x y) hx hy ⟨rfl,rfl⟩) (λb s' ⟨e1,e2⟩=>⟨e1,?_⟩) λ_ _ z=>False.elim z)));subst e2;exact wpS_pure q
theorem G6(I:Inv X pins σ H s)(hu:X.A.units+20<cLine)(vr:Vals xs its)(hn:its.length<=sizeLine)(r:bR All H xs ds)(hc:dF ds=true)
 (hcol:∀(Q':List Value->Shared->Prop) (E':Value->Shared->Prop),(∀h1 tk,(∀b o,s.heap.get? b=some o->h1.get? b=some o)->s.heap.objs.size<=h1.objs.size->Q' its {s with heap:=h1,toks:=tk})->wpAny (model X.prog X.w) X.A.in1 (collect v) Q' E' s)
 (q:∀p xs',H p=none->bR All H xs' (zB ds)->Q (.ref p) (upd H p (.lst xs'))):wpAny (model X.prog X.w) X.A (call (.builtin "sorted") [v]) (EP X pins σ Q) X.xe s:=by
 have hz:xs.length<=sizeLine:=by rw[vr.length];exact hn
 -- what comes,told by its data
 have fin:∀(h1:Heap)(tk:Nat),(∀b o,s.heap.get? b=some o->h1.get? b=some o)->s.heap.objs.size<=h1.objs.size->∀arr:Array Keyed,arr.Perm (pairsOf its)->(∀i j,i<=j->j<arr.size->leE (lF H (TS.gt arr i).1) (lF H (TS.gt arr j).1)=true)->EP X pins σ Q (.ref h1.objs.size) {s with heap:=TS.aE7 h1 its (arr.map (·.2)),toks:=tk}:=by
  intro h1' tk kp hle arr hp hs;have hpl:arr.toList.Perm (its.zip its):=by rw[<-PyProof.Rows.pairsOf_toList];exact Array.perm_iff_toList_perm.mp hp
  have hmem:∀p∈arr.toList,p.1=p.2/\p.1∈its:=λp hp'=>PyProof.Rows.mem_zip_self (hpl.mem_iff.mp hp')
  have e1:(arr.map (·.2)).toList=arr.toList.map (·.1):=by
   rw[Array.toList_map];exact List.map_congr_left λp hp'=>(hmem p hp').1.symm
  -- the values and their data
  have all:∀l:List Keyed,(∀p∈l,p∈arr.toList)->∃ys,Vals ys (l.map (·.1))/\bR All H ys (l.map λp=>lF H p.1):=by
   intro l;induction l with
   |nil=>intro _;exact⟨[],.nil,.nil⟩
   |cons p l ih=>
    intro h;obtain⟨ys,h1,h2⟩:=ih λp hp'=>h p (List.mem_cons_of_mem _ hp')
    obtain⟨v,d,rv,rp,hd⟩:=J_ r vr (hmem p (h p (List.mem_cons_self ..))).2;refine⟨v::ys,.cons rv h1,?_⟩;rw[List.map_cons,rM (eE hc hd).1 (eE hc hd).2.1 rv rp];exact .cons rp h2
  obtain⟨ys,h1,h2⟩:=all arr.toList λ_ h=>h
  have dats:its.map (lF H)=ds:=by
   clear all h1 h2 hp hs hpl hmem e1;have:∀{xs:List V}{es:List D}{us:List Value},bR All H xs es->Vals xs us->(∀d∈es,d∈ds)->us.map (lF H)=es:=by
    intro xs es us r;induction us generalizing xs es with
    |nil=>intro v _;cases v;cases r;rfl
    |cons u us ih=>
     intro v hsub;cases v with
     |cons v0 vt=>
      cases r with
      |cons r0 rt=>
       have hd:=hsub _ (List.mem_cons_self ..);rw[List.map_cons,ih rt vt λd hd=>hsub d (List.mem_cons_of_mem _ hd),rM (eE hc hd).1 (eE hc hd).2.1 v0 r0]
   exact this r vr λ_ h=>h
  have hperm:(arr.toList.map λp=>lF H p.1).Perm ds:=by
   have:=hpl.map λp=>lF H p.1
   have e2:(its.zip its).map (λp=>lF H p.1)=ds:=by
    have:(its.zip its).map (λp=>lF H p.1)=((its.zip its).map Prod.fst).map (lF H):=by rw[List.map_map];rfl
    rw[this,List.map_fst_zip (Nat.le_refl _),dats]
   rwa [e2] at this
  have hsorted:(arr.toList.map λp=>lF H p.1).Pairwise λa b=>leE a b=true:=by
   rw[List.pairwise_map,List.pairwise_iff_getElem];intro i j hi hj hij;have:=hs i j (Nat.le_of_lt hij) (by simpa using hj);have g:∀k (hk:k<arr.toList.length),TS.gt arr k=arr.toList[k]:=λk hk=>by
    unfold TS.gt;have hk':k<arr.size:=by simpa using hk
    simp[Array.getD,hk']
   rwa [g i hi,g j hj] at this
  have eq:(arr.toList.map λp=>lF H p.1)=zB ds:=by
   refine S7 (λd hd=>?_) (hperm.trans (mJ ds).symm) hsorted (zF ds);exact(eE hc (hperm.mem_iff.mp hd)).1
  rw[eq] at h2;rw[<-e1] at h1;have hfr:H h1'.objs.size=none:=I.hok.fresh hle;obtain⟨ee,he⟩:=TS.aBz h1' its (arr.map (·.2));refine⟨.ref h1'.objs.size,_,I.laid (t':=tk) (λb o e=>TS.YL (kp b o e)) hle ?_,rfl,q _ ys hfr h2⟩;refine⟨?_,(arr.map (·.2)).toList,ee,h1,by rw[he]⟩;rw[h2.length,(mJ ds).length_eq,<-r.length];exact hz
 refine TS.O5 hn hcol (λhh tk kp hle h2=>?_) (λhh tk kp hle h2=>?_)
 ·have I':Inv X pins σ H {s with heap:=TS.aE6 hh its,toks:=tk}:=I.kept (t':=tk) λb o e=>TS.YK (kp b o e)
  have hu2:X.A.in1.in1.units+aY<cLine:=by show X.A.units+1+1+12<cLine;lia
  obtain⟨κ,k1,k2⟩:=TF I' hu2 hc r vr h2;refine⟨κ,sU H ds,sLt H,aK0 H ds,λi hi=>?_,k1,aC2 I' k2,λarr p z=>fin hh tk kp hle arr p λi j a1 a2=>?_⟩
  ·rw[PyProof.Rows.pairsOf_size] at hi;have e:TS.gt (pairsOf its) i=(its[i],its[i]):=by
    unfold TS.gt pairsOf;simp[Array.getD,hi]
   rw[e];exact J_ r vr (List.getElem_mem hi)
  ·have:=z i j (Nat.zero_le _) a1 (by rw[<-p.size_eq];exact a2);unfold leE;unfold sLt at this;rw[this];rfl
 ·refine fin hh tk kp hle _ (Array.Perm.refl _) λi j a1 a2=>?_
  rw[PyProof.Rows.pairsOf_size] at a2;rw[show i=j by lia];simp[leE,List.lt_irrefl]
theorem O6(I:Inv X pins σ H s)(hu:X.A.units+20<cLine)(hl:SqL X.K H l xs)(r:bR All H xs ds)(hc:dF ds=true)
 (q:∀p xs',H p=none->bR All H xs' (zB ds)->Q (.ref p) (upd H p (.lst xs'))):wpAny (model X.prog X.w) X.A (call (.builtin "sorted") [.ref l]) (EP X pins σ Q) X.xe s:=by
 obtain⟨its,vr,pl,hz⟩:=I.list hl;have hn:its.length<=sizeLine:=by rw[<-vr.length];exact hz
 refine G6 I hu vr hn r hc (λQ' E' h=>PyProof.Rows.collect_list pl.isList (h _ s.toks (λb o e=>?_) ?_) hn) q
 ·rw[Heap.get?_update_ne _ _ _ _ (Nat.ne_of_lt (Heap.lt_size e))];exact Heap.get?_push_of_some _ e
 ·rw[Heap.size_update,PyProof.Rows.size_push'];exact Nat.le_succ _
end
end Mi
namespace Mi
open PySem L2 PySem.SeqAt PySem.Spec PyProof.Rows
variable [KFrag]
def kR(H:Hp)(d:D)(fr:Bool)(Q:VK):Prop:=∀v H',cL H H'->Rep All H' v d->(fr=true->Rep (New H) H' v d)->Q v H'
noncomputable def gE(f:FE)(fr:Bool):TE:=λσ H Q=>∃ρ d,ER H σ ρ/\f ρ=.ok d/\kR H d fr Q
noncomputable def gT(f:FT):TT:=λσ H Q=>∃ρ b,ER H σ ρ/\f ρ=.ok b/\∀H',cL H H'->Q b H'
noncomputable def gA(f:FA)(fr:Bool):TA:=λσ H Q=>∃ρ ds,ER H σ ρ/\f ρ=.ok ds/\∀vs H',cL H H'->bR All H' vs ds->(fr=true->bR (New H) H' vs ds)->Q vs H'
theorem kR.self(q:kR H d fr Q)(r:Rep All H v d)(r2:fr=true->Rep (New H) H v d):Q v H:=q v H (cL.refl H) r r2
theorem kR.imp(q:kR H d fr Q)(s:cL H H')(h:fr=true->fr'=true):kR H' d fr' Q:=λv H2 s2 r n=>q v H2 (s.trans s2) r λhf=>(n (h hf)).mono (cL.new s)
theorem kR.int(q:kR H (.int i) fr Q):Q (.int i) H:=q.self (.int i) λ_=>.int i
theorem kR.bl(q:kR H (.bl i) fr Q):Q (.bl i) H:=q.self (.bl i) λ_=>.bl i
theorem kR.str(q:kR H (.str i) fr Q):Q (.str i) H:=q.self (.str i) λ_=>.str i
theorem kR.non(q:kR H .non fr Q):Q .non H:=q.self .non λ_=>.non
noncomputable def r2(f:D->D->Res D)(fr:Bool):R2:=λx y H Q=>∃a b d,Rep All H x a/\Rep All H y b/\f a b=.ok d/\kR H d fr Q
def r1(f:D->Res D)(fr:Bool):V->Hp->VK->Prop:=λx H Q=>∃a d,Rep All H x a/\f a=.ok d/\kR H d fr Q
def rs(f:List D->Res D)(fr:Bool):List V->Hp->VK->Prop:=λxs H Q=>∃ds d,bR All H xs ds/\f ds=.ok d/\kR H d fr Q
def rm(f:D->List D->Res D)(fr:Bool):V->List V->Hp->VK->Prop:=λx xs H Q=>∃a ds d,Rep All H x a/\bR All H xs ds/\f a ds=.ok d/\kR H d fr Q
theorem bD{f:α->Res β}(h:(do let x <- m;f x)=.ok b):∃a,m=.ok a/\f a=.ok b:=Res.aBr h
section
variable {X:Cx} {a b e:Expr} {pos:Pos} {fa fb fe:FE} {ra rb re:Bool} {ga:FT}
theorem ER.var(E:ER H σ ρ)(h:fV i ρ=.ok d):∃v,σ[i]?=some (some v)/\Rep All H v d/\ρ.getD i .uD=d:=by
 have:ρ.getD i .uD=d/\d≠.uD:=by
  unfold fV at h;split at h
  ·exact bx h
  ·cases h;refine⟨rfl,λz=>?_⟩;rename_i q;exact q z
 obtain⟨e1,e2⟩:=this;obtain⟨v,h1,h2⟩:=E i (by rw[e1];exact e2);exact⟨v,h1,by rw[e1] at h2;exact h2,e1⟩
theorem aC(hN:X.N[i]?=some x:=by exact rfl)(hv:Vis X.env.scope x:=by trivial)(hd:nDb x:=by decide)(hcd:nCd x:=by decide):PE X (.Name x pos) (gE (fV i) false):=
 PE.imp (kW hN hv hd hcd) λσ H Q ⟨ρ,d,E,h,q⟩=>by
  obtain⟨v,h1,h2,_⟩:=E.var h;exact⟨v,h1,q.self h2 (λz=>by cases z)⟩
theorem aF{i j}:PE X (.Constant (.int i) j pos) (gE (bC (.int i)) true):=PE.imp aEi λσ H Q ⟨ρ,d,E,h,q⟩=>by cases h;exact q.int
theorem G7{i j}:PE X (.Constant (.bool i) j pos) (gE (bC (.bl i)) true):=PE.imp aHk λσ H Q ⟨ρ,d,E,h,q⟩=>by cases h;exact q.bl
theorem vG{i j}:PE X (.Constant (.str i) j pos) (gE (bC (.str i)) true):=PE.imp aEj λσ H Q ⟨ρ,d,E,h,q⟩=>by cases h;exact q.str
theorem two(h:gE (b2 f fa fb) fr σ H Q):tOp (r2 f fr) (gE fa ra) (gE fb rb) σ H Q:=by
 obtain⟨ρ,d,E,h,q⟩:=h;obtain⟨x,h1,h⟩:=bD h;obtain⟨y,h2,h⟩:=bD h;refine⟨ρ,x,E,h1,λv H1 s1 rp1 _=>⟨ρ,y,E.same s1,h2,λu H2 s2 rp2 _=>⟨x,y,d,rp1.same s2,rp2,h,q.imp (s1.trans s2) id⟩⟩⟩
theorem aZ(ho:OpR X (binaryOp o) (r2 f fr))(ha:PE X a (gE fa ra))(hb:PE X b (gE fb rb)):PE X (.BinOp a o b pos) (gE (b2 f fa fb) fr):=PE.imp (aHt ho ha hb) λ_ _ _=>two
theorem KC(ho:OpR X (compareOp o) (r2 f fr))(ha:PE X a (gE fa ra))(hb:PE X b (gE fb rb))(hm:behindInMarks o b=false):PE X (.Compare a [o] [b] pos) (gE (b2 f fa fb) fr):=PE.imp (aB9 ho ha hb hm) λ_ _ _=>two
theorem cV(ho:OpR X (compareOp o) (r2 f fr))(ha:PE X a (gE fa ra))(hb:PE X b (gE fb rb))(hm:behindInMarks o b=false):PT X (.Compare a [o] [b] pos) (gT (bTB (b2 f fa fb))):=
 PT.imp (Q9 ho ha hb hm) λσ H Q ⟨ρ,k,E,h,q⟩=>by
  obtain⟨d,h1,h2⟩:=bD h;refine two ⟨ρ,d,E,h1,λv H' s r _=>?_⟩;cases d<;>simp only[asB] at h2<;>cases h2
  cases r.inv;exact⟨_,rfl,q H' s⟩
theorem aFr(ho:UnR X (unaryOp o) (r1 f fr))(ha:PE X a (gE fa ra)):PE X (.UnaryOp o a pos) (gE (b1 f fa) fr):=
 PE.imp (aHu ho ha) λσ H Q ⟨ρ,d,E,h,q⟩=>by
  obtain⟨x,h1,h⟩:=bD h;exact⟨ρ,x,E,h1,λv H1 s1 rp1 _=>⟨x,d,rp1,h,q.imp s1 id⟩⟩
theorem aI7(ho:IxR X (r2 f fr))(ha:PE X a (gE fa ra))(hb:PE X b (gE fb rb))(hs:vX b):PE X (.Subscript a b pos) (gE (b2 f fa fb) fr):=PE.imp (aF6 ho ha hb hs) λ_ _ _=>two
theorem aK1(r:Rep All H v d)(h:aJ4 d=.ok k)(hd:∀kvs,d≠.dct kvs)(hs:∀xs,d≠.scr xs):aHx X.K v H k:=by
 cases r with
 |non=>cases h;rfl
 |bl b=>cases h;rfl
 |int i=>cases h;rfl
 |str x=>
  replace h:(if decide (x.length<=lim) then Res.ok ((x.length:Int)!=0) else .bad)=.ok k:=h;split at h
  ·rename_i hl;cases h;exact⟨Nat.le_trans (of_decide_eq_true hl) (by rw[sizeLine_eq];decide),rfl⟩
  ·exact bx h
 |tup e rr=>cases h;exact .inr (.inl ⟨_,.of e,by cases rr<;>rfl⟩)
 |lst e p rr=>cases h;exact .inl ⟨_,.of e,by cases rr<;>rfl⟩
 |frz e rr=>exact absurd rfl (hs _)
 |dK e p rr n=>exact absurd rfl (hd _)
 |dT e p rr n=>exact absurd rfl (hd _)
 |fdK e rr n=>exact bx h
 |fdT e rr n=>exact bx h
 |exc n e q=>exact bx h
 |ins n e q=>exact bx h
 |cel e p rr=>exact bx h
theorem vH(ha:PE X a (gE fa ra))(he:∀whole,isTrue a X.env whole=(do let v <- whole;standAt a.pos;holding [v] (truthy v)):=by intro _;rfl):PT X a (gT (bTr fa)):=
 PT.imp (XS ha he) λσ H Q ⟨ρ,k,E,h,q⟩=>by
  obtain⟨d,h1,h2⟩:=bD h;refine⟨ρ,d,E,h1,λv H' s r _=>⟨k,aK1 r ?_ ?_ ?_,q H' s⟩⟩
  ·cases d<;>first|exact h2|exact bx h2
  ·rintro kvs rfl;exact bx h2
  ·rintro kvs rfl;exact bx h2
theorem TJ(ha:PT X a (gT ga)):PT X (.UnaryOp .Not a pos) (gT (YG ga)):=PT.imp (aEn ha) λσ H Q ⟨ρ,k,E,h,q⟩=>by
  obtain⟨d,h1,h2⟩:=bD h;cases h2;exact⟨ρ,d,E,h1,λH' s=>q H' s⟩
theorem aFs{op}(ha:PE X a (gE fa ra)):PE X (.BoolOp op [a] pos) (gE fa ra):=aEo ha
theorem aAi(h:asB d=.ok k):d=.bl k:=by cases d<;>simp only[asB] at h<;>cases h;rfl
theorem aFt(h:asI d=.ok k):d=.int k:=by cases d<;>simp only[asI] at h<;>cases h;rfl
theorem aFu(ha:PE X a (gE fa ra))(hb:PE X (.BoolOp .And (b::rest) pos) (gE fb rb)):PE X (.BoolOp .And (a::b::rest) pos) (gE (R8 fa fb) rb):=PE.imp (aEp ha hb) λσ H Q ⟨ρ,k,E,h,q⟩=>by
  obtain⟨d,h1,h⟩:=bD h;obtain⟨z,h2,h3⟩:=bD h;cases aAi h2;refine⟨ρ,_,E,h1,λv H' s r _=>?_⟩;cases r.inv;refine⟨_,rfl,?_⟩;cases z with
  |true=>rw[if_pos rfl];rw[if_pos rfl] at h3;exact⟨ρ,k,E.same s,h3,q.imp s id⟩
  |false=>rw[if_neg (by simp)];rw[if_neg (by simp)] at h3;cases h3;exact(q.imp s id).bl
theorem aH:PA X [] (gA aM true):=PA.imp mY λσ H Q ⟨ρ,ds,E,h,q⟩=>by cases h;exact q [] H (cL.refl H) .nil λ_=>.nil
theorem aB(he:PE X e (gE fe re))(hes:PA X es (gA f r))(hs:starEach (e::es) X.env=(false,eval e X.env)::starEach es X.env:=by rfl):PA X (e::es) (gA (aA fe f) (re&&r)):=PA.imp (gY he hes hs) λσ H Q ⟨ρ,ds,E,h,q⟩=>by
  obtain⟨x,h1,h⟩:=bD h;obtain⟨xs,h2,h⟩:=bD h;cases h;refine⟨ρ,x,E,h1,λv H1 s1 r1 n1=>⟨ρ,xs,E.same s1,h2,λvs H2 s2 r2 n2=>q _ _ (s1.trans s2) (.cons (r1.same s2) r2) λhf=>?_⟩⟩;obtain⟨f1,f2⟩:=(Bool.and_eq_true _ _▸hf:re=true/\r=true)
  exact .cons ((n1 f1).same s2) ((n2 f2).mono (cL.new s1))
theorem cG{x1}(h:PA X es (gA f r)):PE X (.Tuple es x1 pos) (gE (cU f) r):=PE.imp (aF1 h) λσ H Q ⟨ρ,d,E,h,q⟩=>by
  obtain⟨xs,h1,h⟩:=bD h;split at h
  ·rename_i hl;cases h;refine⟨ρ,xs,E,h1,λvs H1 s1 r1 n1=>⟨?_,λp hp=>?_⟩⟩
   ·rw[r1.length];exact Nat.le_trans (of_decide_eq_true hl) (by rw[sizeLine_eq];decide)
   ·have sp:cL H1 (upd H1 p (.tup vs)):=cL.upd hp;exact q _ _ (s1.trans sp) (.tup aO (r1.same sp)) λhf=>.tup aO ((n1 hf).same sp)
  ·exact bx h
theorem iU(h:PA X es (gA f r)):PE X (.List es pos) (gE (nQ f) r):=PE.imp (Q_ h) λσ H Q ⟨ρ,d,E,h,q⟩=>by
  obtain⟨xs,h1,h⟩:=bD h;split at h
  ·rename_i hl;cases h;refine⟨ρ,xs,E,h1,λvs H1 s1 r1 n1=>⟨?_,λp hp=>?_⟩⟩
   ·rw[r1.length];exact Nat.le_trans (of_decide_eq_true hl) (by rw[sizeLine_eq];decide)
   ·have sp:cL H1 (upd H1 p (.lst vs)):=cL.upd hp;exact q _ _ (s1.trans sp) (.lst aO trivial (r1.same sp)) λhf=>.lst aO (s1.free hp) ((n1 hf).same sp)
  ·exact bx h
theorem rN:PE X (.Dict [] [] pos) (gE (bC (.dct [])) true):=PE.imp X7 λσ H Q ⟨ρ,d,E,h,q⟩=>by
  cases h;exact λp hp=>q _ _ (cL.upd hp) (.dK aO trivial .nil List.nodup_nil) λ_=>.dK aO hp .nil List.nodup_nil
end
section
variable {X:Cx} {a b e:Expr} {pos:Pos} {ga gb:FT}
theorem mK(h:decide (n<=lim)=true):n<=sizeLine:=Nat.le_trans (of_decide_eq_true h) (by rw[sizeLine_eq];decide)
theorem TQ(h:decide (n<lim)=true):n<sizeLine:=Nat.lt_of_lt_of_le (of_decide_eq_true h) (by rw[sizeLine_eq];decide)
theorem Rep.aFv(r:Rep P H v (.lst ds)):∃a xs,v=.ref a/\Rd H a (.lst xs)/\bR P H xs ds:=by
 cases r with
 |lst e p rr=>exact⟨_,_,rfl,.inl e,rr⟩
theorem PW.imp(h:PW X e t)(i:∀σ H Q,t' σ H Q->t σ H Q):PW X e t':=λwh pins s σ H Q I q=>h wh pins s σ H Q I (i σ H Q q)
theorem G8(ha:PT X a (gT ga)):PW X (.BoolOp .And [a] pos) (gT ga):=aB5 ha
theorem zH(ha:PT X a (gT ga)):PW X (.BoolOp .Or [a] pos) (gT ga):=aEk ha
theorem TV(ha:PT X a (gT ga))(hb:PW X (.BoolOp .And (b::rest) pos) (gT gb)):PW X (.BoolOp .And (a::b::rest) pos) (gT (QM ga gb)):=PW.imp (aEm ha hb) λσ H Q ⟨ρ,k,E,h,q⟩=>by
 obtain⟨z,h1,h3⟩:=bD h;refine⟨ρ,z,E,h1,λH' s=>?_⟩;cases z with
 |true=>rw[if_pos rfl];rw[if_pos rfl] at h3;exact⟨ρ,k,E.same s,h3,λH2 s2=>q H2 (s.trans s2)⟩
 |false=>rw[if_neg (by simp)];rw[if_neg (by simp)] at h3;cases h3;exact q H' s
theorem O7(ha:PT X a (gT ga))(hb:PW X (.BoolOp .Or (b::rest) pos) (gT gb)):PW X (.BoolOp .Or (a::b::rest) pos) (gT (bOr ga gb)):=PW.imp (aHl ha hb) λσ H Q ⟨ρ,k,E,h,q⟩=>by
 obtain⟨z,h1,h3⟩:=bD h;refine⟨ρ,z,E,h1,λH' s=>?_⟩;cases z with
 |true=>rw[if_pos rfl];rw[if_pos rfl] at h3;cases h3;exact q H' s
 |false=>rw[if_neg (by simp)];rw[if_neg (by simp)] at h3;exact⟨ρ,k,E.same s,h3,λH2 s2=>q H2 (s.trans s2)⟩
theorem b7:OpR X (binaryOp .Add) (r2 (aW .add) true):=by
 intro pins s σ H x y v u Q I rx ry h;obtain⟨a,b,d,p,q,e,k⟩:=h;cases p with
 |int i=>
  cases q with
  |int j=>cases e;exact aEt pins s σ H _ _ v u Q I rx ry ⟨i,j,rfl,rfl,k.int⟩
  |_=>exact bx e
 |str i=>
  cases q with
  |str j=>
   replace e:(if decide (i.length+j.length<=lim) then Res.ok (D.str (i++j)) else .bad)=.ok d:=e;split at e
   ·rename_i hl;cases e;exact M6 pins s σ H _ _ v u Q I rx ry ⟨i,j,rfl,rfl,mK hl,k.str⟩
   ·exact bx e
  |_=>exact bx e
 |non=>exact bx e
 |bl _=>exact bx e
 |tup _ _=>exact bx e
 |dK _ _ _ _=>exact bx e
 |dT _ _ _ _=>exact bx e
 |fdK _ _ _=>exact bx e
 |fdT _ _ _=>exact bx e
 |exc _ _ _=>exact bx e
 |ins _ _ _=>exact bx e
 |cel _ _ _=>exact bx e
 |@lst a1 xs ds e1 p1 r1=>
  have hR:Rep All H (.ref a1) (.lst ds):=.lst e1 p1 r1;cases b with
  |lst es=>
   replace e:(if decide (ds.length+es.length<=lim)&&D.bA ds&&D.bA es then Res.ok (D.lst (ds++es)) else .bad)=.ok d:=e;split at e
   ·rename_i hl;cases e;rw[Bool.and_eq_true,Bool.and_eq_true] at hl;obtain⟨⟨hl,hp1⟩,hp2⟩:=hl;obtain⟨l1,xs1,e1',rd1,rr1⟩:=hR.aFv;obtain⟨l2,xs2,rfl,rd2,rr2⟩:=q.aFv;cases e1';cases rx;cases ry;obtain⟨z,its,n,vr1,ee1⟩:=rd1.ok I.hok;obtain⟨z2,its2,n2,vr2,ee2⟩:=rd2.ok I.hok;have hz:xs1.length+xs2.length<=sizeLine:=by rw[rr1.length,rr2.length];exact mK hl
    have t1:=vr1.length;have t2:=vr2.length;refine PySem.P.add_list ee1 ee2 ?_ (by rw[List.size_toArray,List.size_toArray];lia);have ea:its.toArray++its2.toArray=(its++its2).toArray:=by simp
    rw[ea];refine⟨.ref _,_,I.aJu (t':=s.toks) (vr1.append vr2) (by rw[List.length_append];lia),rfl,?_⟩;have sp:cL H (upd H s.heap.objs.size (.lst (xs1++xs2))):=cL.upd I.fresh;exact k _ _ sp (.lst aO trivial ((rr1.append rr2).same sp)) λ_=>.lst aO I.fresh (((rr1.bO hp1).append (rr2.bO hp2)).same sp)
   ·exact bx e
  |_=>exact bx e
 |frz _ _=>exact bx e
theorem wO(h:OpR X f (rI C g))
 (hi:∀i j d,op (.int i) (.int j)=.ok d->C i j/\∃k,d=.int k/\g i j=.int k)(hn:∀a b d,op a b=.ok d->(∃i,a=.int i)/\∃j,b=.int j):OpR X f (r2 op true):=by
 intro pins s σ H x y v u Q I rx ry ⟨a,b,d,p,q,e,k⟩;obtain⟨⟨i,rfl⟩,⟨j,rfl⟩⟩:=hn a b d e;cases p.inv;cases q.inv;obtain⟨hc,m,rfl,hm⟩:=hi i j d e;exact h pins s σ H _ _ v u Q I rx ry ⟨i,j,rfl,rfl,hc,by rw[hm];exact k.int⟩
theorem oG(ho:o≠.add){a b d:D}(e:aW o a b=.ok d):(∃i,a=.int i)/\∃j,b=.int j:=by
 cases a with
 |int i=>
  cases b with
  |int j=>exact⟨⟨i,rfl⟩,j,rfl⟩
  |_=>cases o<;>first|exact bx e|exact absurd rfl ho
 |_=>cases o<;>first|exact bx e|exact absurd rfl ho
theorem TX:OpR X (binaryOp .Sub) (r2 (aW .sub) true):=by
 intro pins s σ H x y v u Q I rx ry ⟨a,b,d,p,q,e,k⟩;obtain⟨⟨i,rfl⟩,j,rfl⟩:=oG (by decide) e;cases p.inv;cases q.inv;cases e;exact aEu pins s σ H _ _ v u Q I rx ry ⟨_,_,rfl,rfl,k.int⟩
theorem aFw:OpR X (binaryOp .Mult) (r2 (aW .mul) true):=by
 refine wO aEv (λi j d e=>?_) λa b d e=>oG (by decide) e
 ·replace e:(if jR i||jR j then Res.ok (D.int (i*j)) else .bad)=.ok d:=e;split at e
  ·rename_i hl;cases e;refine⟨?_,_,rfl,rfl⟩;simp only[jR,Bool.or_eq_true,Bool.and_eq_true,decide_eq_true_eq] at hl;exact hl
  ·exact bx e
theorem fB:OpR X (binaryOp .FloorDiv) (r2 (aW .fdiv) true):=by
 refine wO aB8 (λi j d e=>?_) λa b d e=>oG (by decide) e
 ·replace e:(if decide (0<j)&&decide (j<1073741824) then Res.ok (D.int (i / j)) else .bad)=.ok d:=e;split at e
  ·rename_i hl;cases e;refine⟨?_,_,rfl,rfl⟩;simp only[Bool.and_eq_true,decide_eq_true_eq] at hl;exact hl
  ·exact bx e
theorem b_:OpR X (binaryOp .Mod) (r2 (aW .mod) true):=by
 refine wO aEw (λi j d e=>?_) λa b d e=>oG (by decide) e
 ·replace e:(if decide (0<j) then Res.ok (D.int (i % j)) else .bad)=.ok d:=e;split at e
  ·rename_i hl;cases e;refine⟨?_,_,rfl,rfl⟩;simp only[Bool.and_eq_true,decide_eq_true_eq] at hl;exact hl
  ·exact bx e
theorem aFx:OpR X (binaryOp .Pow) (r2 (aW .pow) true):=by
 refine wO aEx (λi j d e=>?_) λa b d e=>oG (by decide) e
 ·replace e:(if decide (0<=j)&&decide (j<=1000000)&&decide (i.natAbs<2 ^ 64) then Res.ok (D.int (i ^ j.toNat)) else .bad)=.ok d:=e;split at e
  ·rename_i hl;cases e;refine⟨?_,_,rfl,rfl⟩;simp only[Bool.and_eq_true,decide_eq_true_eq] at hl;exact⟨hl.1.1,hl.1.2,hl.2⟩
  ·exact bx e
theorem aAj:UnR X (unaryOp .USub) (r1 aFj true):=by
 intro pins s σ H x v Q I rx ⟨a,d,p,e,k⟩;cases a<;>try exact bx e
 cases e;cases p.inv;exact aEy pins s σ H _ v Q I rx ⟨_,rfl,k.int⟩
theorem rE(hu:X.A.units+20<cLine):OpR X (compareOp .Eq) (r2 (d9 .eq) true):=by
 intro pins s σ H x y v u Q I rx ry ⟨a,b,d,p,q,e,k⟩;replace e:(if a.eN aY&&b.eN aY then Res.ok (D.bl (eqD a b)) else .bad)=.ok d:=e;split at e
 ·rename_i hl;cases e;rw[Bool.and_eq_true] at hl;exact(zG I aY X.A (by have:aY=12:=rfl;lia) hl.1 hl.2 p q rx ry).1 X.prog X.w X.xe _ ⟨.bl _,H,I,rfl,k.bl⟩
 ·exact bx e
theorem G9(hu:X.A.units+20<cLine):OpR X (compareOp .NotEq) (r2 (d9 .ne) true):=by
 intro pins s σ H x y v u Q I rx ry ⟨a,b,d,p,q,e,k⟩;replace e:(if a.eN aY&&b.eN aY then Res.ok (D.bl (!eqD a b)) else .bad)=.ok d:=e;split at e
 ·rename_i hl;cases e;rw[Bool.and_eq_true] at hl;exact(zG I aY X.A (by have:aY=12:=rfl;lia) hl.1 hl.2 p q rx ry).2.1 X.prog X.w X.xe _ ⟨.bl _,H,I,rfl,k.bl⟩
 ·exact bx e
end
theorem TY(k q:Key):eqD (kD k) (kD q)=decide (k=q):=by
 cases k<;>cases q<;>simp[kD,eqD,Bool.beq_eq_decide_eq]
theorem aAk:∀(k q:List Key),uN (k.map kD) (q.map kD)=decide (k=q)
 |[],[]=>by simp[uN]
 |[],_::_=>by simp[uN]
 |_::_,[]=>by simp[uN]
 |a::k,b::q=>by
  rw[List.map_cons,List.map_cons,uN,TY,aAk k q];by_cases h:a=b<;>by_cases h':k=q<;>simp[h,h']
theorem aC3(k q:List Key):eqD (.tup (k.map kD)) (.tup (q.map kD))=decide (k=q):=by rw[eqD,aAk]
theorem aC4:∀{kvs:List (Key×V)}{ds:List (D×D)},jF P H kvs ds->(∃v d,vB kvs k=some v/\dO ds (kD k)=some d/\Rep P H v d)\/(vB kvs k=none/\dO ds (kD k)=none)
 |_,_,.nil=>.inr ⟨rfl,rfl⟩
 |_,_,.cons (k:=k') r t=>by
  by_cases h:k'=k
  ·subst h;exact .inl ⟨_,_,nW rfl,by rw[dO,TY,if_pos (by simp)],r⟩
  ·rw[dO,TY,if_neg (by simpa using h),nY (p:=(k',_)) h];exact aC4 t
theorem aC5:∀{kvs:List (List Key×V)}{ds:List (D×D)},oF P H kvs ds->(∃v d,vB kvs k=some v/\dO ds (.tup (k.map kD))=some d/\Rep P H v d)\/(vB kvs k=none/\dO ds (.tup (k.map kD))=none)
 |_,_,.nil=>.inr ⟨rfl,rfl⟩
 |_,_,.cons (k:=k') r t=>by
  by_cases h:k'=k
  ·subst h;exact .inl ⟨_,_,nW rfl,by rw[dO,aC3,if_pos (by simp)],r⟩
  ·rw[dO,aC3,if_neg (by simpa using h),nY (p:=(k',_)) h];exact aC5 t
theorem wQ(h:j5 d=true)(r:Rep All H v d):∃k,v=kV k/\d=kD k:=by
 cases r<;>simp[j5] at h
 ·exact⟨.inl _,rfl,rfl⟩
 ·exact⟨.inr _,rfl,rfl⟩
theorem flat_keys:∀{vs:List V}{ds:List D},ds.all j5=true->bR All H vs ds->∃ks:List Key,vs=ks.map kV/\ds=ks.map kD
 |_,_,_,.nil=>⟨[],rfl,rfl⟩
 |_,_,h,.cons r t=>by
  rw[List.all_cons,Bool.and_eq_true] at h;obtain⟨k,rfl,rfl⟩:=wQ h.1 r;obtain⟨ks,rfl,rfl⟩:=flat_keys h.2 t;exact⟨k::ks,rfl,rfl⟩
theorem jT(h:keyOk k=true)(r:Rep All H y k):(∃q,y=kV q/\k=kD q)\/∃(b:Addr)(ks:List Key),y=.ref b/\H b=some (.tup (ks.map kV))/\k=.tup (ks.map kD):=by
 cases k<;>simp[keyOk] at h
 ·exact .inl (wQ rfl r)
 ·exact .inl (wQ rfl r)
 ·obtain⟨a,xs,rfl,e,rr⟩:=r.eX;obtain⟨ks,rfl,rfl⟩:=flat_keys (List.all_eq_true.mpr h) rr;exact .inr ⟨a,ks,rfl,e,rfl⟩
theorem mL(k:Key):isTup (kD k)=false:=by cases k<;>rfl
section
variable {X:Cx} {pins:List (Addr×Obj)} {σ:L2.St} {H:Hp} {s:Shared} {a:Addr}
theorem KD(e:H a=some o):upd (upd H a o') a o=H:=by
 rw[DR]
 funext b
 by_cases h:b=a
 ·subst h;rw[aO,e]
 ·rw[bL h]
theorem qF(I:Inv X pins σ H s)(e:H a=some (.dK [])):Inv X pins σ (upd H a (.dT [])) s:=by
 obtain⟨z,hd,vs,rel,o,es,ep,h1,h2,h3,h4,h5,h6⟩:=NB I.hok e;cases rel;refine I.write (t':=s.toks) (x:=a) (e:=a) (h':=s.heap) (by rw[e];trivial) (.inl rfl) (λ_ _ _ q=>q) ⟨o,h1⟩ ?_;refine⟨Nat.zero_le _,hd,[],.nil,o,es,ep,h1,h2,h3,?_,List.nodup_nil⟩;cases h5':es.toList with
 |nil=>rfl
 |cons _ _=>rw[h5'] at h5;cases h5
theorem mO(I:Inv X pins σ H s)(e:H a=some (.dT [])):Inv X pins σ (upd H a (.dK [])) s:=by
 obtain⟨z,hd,vs,rel,o,es,ep,h1,h2,h3,h4,h5,h6⟩:=aBh I.hok e;cases rel;refine I.write (t':=s.toks) (x:=a) (e:=a) (h':=s.heap) (by rw[e];trivial) (.inl rfl) (λ_ _ _ q=>q) ⟨o,h1⟩ ?_;have h0:es.toList=[]:=h4;refine⟨Nat.zero_le _,hd,[],.nil,o,es,ep,h1,h2,h3,?_,?_,List.nodup_nil⟩
 ·intro x hx;have:x∈es.toList:=by simpa using hx
  rw[h0] at this;cases this
 ·rw[h0];exact .nil
theorem KH:∀{kvs:List (Key×V)}{ds:List (D×D)},jF P H kvs ds->∀p∈ds,isTup p.1=false
 |_,_,.nil,_,h=>by cases h
 |_,_,.cons r t,p,h=>by
  rcases List.mem_cons.mp h with rfl|h
  ·exact mL _
  ·exact KH t p h
theorem KJ:∀{kvs:List (List Key×V)}{ds:List (D×D)},oF P H kvs ds->∀p∈ds,isTup p.1=true
 |_,_,.nil,_,h=>by cases h
 |_,_,.cons r t,p,h=>by
  rcases List.mem_cons.mp h with rfl|h
  ·rfl
  ·exact KJ t p h
theorem T3(I:Inv X pins σ H s)(rd:Rep All H x (.dct ds))(rk:Rep All H y k)(hk:wC ds k=true) :
  ∃H1 a o,x=.ref a/\Inv X pins σ H1 s/\(∀s',Inv X pins σ H1 s'->Inv X pins σ H s')/\NK H1 a y o/\((o=none/\dO ds k=none)\/∃v d,o=some v/\dO ds k=some d/\Rep All H v d):=by
 unfold wC at hk;rw[Bool.and_eq_true] at hk;obtain⟨h1,h2⟩:=hk;cases rd with
 |@dK a kvs ds e _ r n=>
  rcases jT h1 rk with ⟨q,rfl,rfl⟩|⟨b,ks,rfl,eb,rfl⟩
  ·refine⟨H,a,_,rfl,I,λ_ h=>h,.k e,?_⟩;rcases aC4 (k:=q) r with ⟨v,d,g1,g2,g3⟩|⟨g1,g2⟩
   ·exact .inr ⟨v,d,g1,g2,g3⟩
   ·exact .inl ⟨g1,g2⟩
  ·cases r with
   |nil=>
    have e2:=KD (o':=.dT []) e;refine⟨upd H a (.dT []),a,none,rfl,qF I e,λs' I'=>?_,.t (k:=ks) aO (by rw[bL (aB1 eb e (by intro z;cases z))];exact eb),.inl ⟨rfl,rfl⟩⟩;have:=mO I' aO;rwa [e2] at this
   |cons r t=>
    rw[List.all_cons,mL] at h2;simp[isTup] at h2
 |@dT a kvs ds e _ r n=>
  rcases jT h1 rk with ⟨q,rfl,rfl⟩|⟨b,ks,rfl,eb,rfl⟩
  ·cases r with
   |nil=>
    have e2:=KD (o':=.dK []) e;refine⟨upd H a (.dK []),a,none,rfl,mO I e,λs' I'=>?_,.k (k:=q) aO,.inl ⟨rfl,rfl⟩⟩;have:=qF I' aO;rwa [e2] at this
   |cons r t=>
    rw[List.all_cons,mL] at h2;simp[isTup] at h2
  ·refine⟨H,a,_,rfl,I,λ_ h=>h,.t e eb,?_⟩;rcases aC5 (k:=ks) r with ⟨v,d,g1,g2,g3⟩|⟨g1,g2⟩
   ·exact .inr ⟨v,d,g1,g2,g3⟩
   ·exact .inl ⟨g1,g2⟩
theorem YS(rd:Rep All H x (.dct ds))(hk:keyOk k=true)(h:dO ds k=some d):wC ds k=true:=by
 have one:∀{ds:List (D×D)},dO ds k=some d->∃p∈ds,eqD p.1 k=true:=by
  intro ds;induction ds with
  |nil=>intro h;cases h
  |cons p ds ih=>
   intro h;obtain⟨p1,p2⟩:=p;rw[dO] at h;by_cases hq:eqD p1 k=true
   ·exact⟨_,List.mem_cons_self ..,hq⟩
   ·rw[if_neg hq] at h;obtain⟨p,hp,e⟩:=ih h;exact⟨p,List.mem_cons_of_mem _ hp,e⟩
 obtain⟨p,hp,he⟩:=one h;unfold wC;rw[hk,Bool.true_and,List.all_eq_true];intro q hq;have same:isTup p.1=isTup k:=by
  obtain⟨p1,p2⟩:=p;cases p1<;>cases k<;>simp[eqD,keyOk,isTup] at he hk ⊢
 cases rd with
 |dK e _ r n=>rw[KH r q hq,<-same,KH r p hp];rfl
 |dT e _ r n=>rw[KJ r q hq,<-same,KJ r p hp];rfl
end
section
variable {X:Cx} {a b c e:Expr} {pos:Pos} {fa fb:FE} {ra rb:Bool}
def C_(H:Hp)(u:Value):D:=by
 classical
 exact if h:∃d,d.eN aY=true/\∃v,RelV v u/\Rep All H v d then Classical.choose h else .non
theorem T5(hq:d.eN aY=true)(rv:RelV v u)(r:Rep All H v d):C_ H u=d:=by
 unfold C_;have h:∃d,d.eN aY=true/\∃v,RelV v u/\Rep All H v d:=⟨d,hq,v,rv,r⟩
 rw[dif_pos h];obtain⟨h2,v',rv',r'⟩:=Classical.choose_spec h;have:=rv'.inj rv;subst this;exact Rep.inj aY h2 hq r' r
theorem tG{a:D}:∀{xs:List V}{ds:List D}{its:List Value},D.eQ aY ds=true->bR All H xs ds->Vals xs its->(its.any λu=>eqD (C_ H u) a)=ds.any λy=>eqD y a
 |_,_,_,_,.nil,.nil=>rfl
 |_,_,_,h,.cons r t,.cons v vt=>by
  rw[D.eQ,Bool.and_eq_true] at h;rw[List.any_cons,List.any_cons,T5 h.1 v r,tG h.2 t vt]
theorem wR{s:Shared}(I:Inv X pins σ H s)(hu:X.A.units+20<cLine){a:D}{x:V}{v:Value}(ha:a.eN aY=true)(rx:Rep All H x a)(rv:RelV x v)
 {xs:List V}{ds:List D}{its:List Value}(h:D.eQ aY ds=true)(r:bR All H xs ds)(vr:Vals xs its)(u:Value)(hm:u∈its):EqAt X.A.in1 s u v (eqD (C_ H u) a):=by
 obtain⟨j,hj,e⟩:=List.getElem_of_mem hm;have hj':j<ds.length:=by rw[<-r.length,vr.length];exact hj
 obtain⟨w,h1,h2⟩:=r.get (i:=j) (d:=ds[j]) (by simp[hj']);obtain⟨u',h3,h4⟩:=vr.get h1;rw[List.getElem?_eq_getElem hj,e] at h3;cases h3;have hd:ds[j].eN aY=true:=by
  have:=gJ (j:=j) h hj';rwa [List.getD_eq_getElem?_getD,List.getElem?_eq_getElem hj'] at this
 rw[T5 hd h4 h2];exact(zG I aY X.A.in1 (by show X.A.units+1+12<cLine;lia) hd ha h2 rx h4 rv).2.2
theorem aI8(hu:X.A.units+20<cLine):OpR X (compareOp .In) (r2 (d9 .isin) true):=by
 intro pins s σ H x y v u Q I rx ry ⟨a,b,d,p,q,e,k⟩;cases b with
 |tup ys=>
  replace e:(if a.eN aY&&D.eQ aY ys then Res.ok (D.bl (ys.any λy=>eqD y a)) else .bad)=.ok d:=e;split at e
  ·rename_i hl;cases e;rw[Bool.and_eq_true] at hl;obtain⟨l,xs,rfl,ee,rr⟩:=q.eX;cases ry;obtain⟨its,vr,pl⟩:=gH I ee;refine in_tupleAt (λu=>eqD (C_ H u) a) pl (λw hw=>wR I hu hl.1 p rx hl.2 rr vr w (by simpa using hw)) ⟨.bl _,H,I,rfl,?_⟩;rw[show its.toArray.any (λu=>eqD (C_ H u) a)=its.any (λu=>eqD (C_ H u) a) by simp,tG hl.2 rr vr];exact k.bl
  ·cases e
 |lst ys=>
  replace e:(if a.eN aY&&D.eQ aY ys then Res.ok (D.bl (ys.any λy=>eqD y a)) else .bad)=.ok d:=e;split at e
  ·rename_i hl;cases e;rw[Bool.and_eq_true] at hl;obtain⟨l,xs,rfl,ee,rr⟩:=q.lE (K:=X.K);cases ry;obtain⟨its,vr,pl⟩:=mZ I ee;refine in_listAt (λu=>eqD (C_ H u) a) pl (λw hw=>wR I hu hl.1 p rx hl.2 rr vr w (by simpa using hw)) ⟨.bl _,H,I,rfl,?_⟩;rw[show its.toArray.any (λu=>eqD (C_ H u) a)=its.any (λu=>eqD (C_ H u) a) by simp,tG hl.2 rr vr];exact k.bl
  ·cases e
 |dct kvs=>
  replace e:(if wC kvs a then Res.ok (D.bl ((dO kvs a).isSome)) else .bad)=.ok d:=e;split at e
  ·rename_i hl;cases e;obtain⟨H1,a1,o,rfl,I1,bk,g,hc⟩:=T3 I q p hl;cases ry;refine aJw (by lia) I1 g rx λs' I'=>⟨.bl _,H,bk s' I',rfl,?_⟩
   rcases hc with ⟨rfl,h2⟩|⟨w,dd,rfl,h2,_⟩
   ·rw[h2] at k;exact k.bl
   ·rw[h2] at k;exact k.bl
  ·cases e
 |_=>exact bx e
theorem YT(hu:X.A.units+20<cLine):OpR X (compareOp .NotIn) (r2 (d9 .notin) true):=by
 intro pins s σ H x y v u Q I rx ry ⟨a,b,d,p,q,e,k⟩;cases b with
 |tup ys=>
  replace e:(if a.eN aY&&D.eQ aY ys then Res.ok (D.bl (!(ys.any λy=>eqD y a))) else .bad)=.ok d:=e;split at e
  ·rename_i hl;cases e;rw[Bool.and_eq_true] at hl;obtain⟨l,xs,rfl,ee,rr⟩:=q.eX;cases ry;obtain⟨its,vr,pl⟩:=gH I ee;refine notIn_tupleAt (λu=>eqD (C_ H u) a) pl (λw hw=>wR I hu hl.1 p rx hl.2 rr vr w (by simpa using hw)) ⟨.bl _,H,I,rfl,?_⟩;rw[show its.toArray.any (λu=>eqD (C_ H u) a)=its.any (λu=>eqD (C_ H u) a) by simp,tG hl.2 rr vr];exact k.bl
  ·cases e
 |lst ys=>
  replace e:(if a.eN aY&&D.eQ aY ys then Res.ok (D.bl (!(ys.any λy=>eqD y a))) else .bad)=.ok d:=e;split at e
  ·rename_i hl;cases e;rw[Bool.and_eq_true] at hl;obtain⟨l,xs,rfl,ee,rr⟩:=q.lE (K:=X.K);cases ry;obtain⟨its,vr,pl⟩:=mZ I ee;refine notIn_listAt (λu=>eqD (C_ H u) a) pl (λw hw=>wR I hu hl.1 p rx hl.2 rr vr w (by simpa using hw)) ⟨.bl _,H,I,rfl,?_⟩;rw[show its.toArray.any (λu=>eqD (C_ H u) a)=its.any (λu=>eqD (C_ H u) a) by simp,tG hl.2 rr vr];exact k.bl
  ·cases e
 |dct kvs=>
  replace e:(if wC kvs a then Res.ok (D.bl (!((dO kvs a).isSome))) else .bad)=.ok d:=e;split at e
  ·rename_i hl;cases e;obtain⟨H1,a1,o,rfl,I1,bk,g,hc⟩:=T3 I q p hl;cases ry;refine aBi (by lia) I1 g rx λs' I'=>⟨.bl _,H,bk s' I',rfl,?_⟩
   rcases hc with ⟨rfl,h2⟩|⟨w,dd,rfl,h2,_⟩
   ·rw[h2] at k;exact k.bl
   ·rw[h2] at k;exact k.bl
  ·cases e
 |_=>exact bx e
theorem aFy(xs:List α)(i:Int):L2.atI xs i=(ixD xs.length i).bind λj=>xs[j]?:=rfl
theorem bR.atI(r:bR P H xs ds)(h:((ixD ds.length i).bind λj=>ds[j]?)=some d):∃v,L2.atI xs i=some v/\Rep P H v d:=by
 rw[aFy,r.length];cases hi:ixD ds.length i with
 |none=>rw[hi] at h;cases h
 |some j=>
  rw[hi] at h;obtain⟨v,h1,h2⟩:=r.get h;exact⟨v,h1,h2⟩
theorem zJ{a:Addr}{y v':V}{u:Value}{Q:VK}(hu:X.A.units+20<cLine)(I:Inv X pins σ H s)(g:NK H a y (some v'))(ry:RelV y u){H':Hp}
 (hs:subscripted slice false (.ref a) u=operate [.ref a,u] (getItem (.ref a) u))(bk:∀s',Inv X pins σ H s'->Inv X pins σ H' s')(q:Q v' H') :
  wpAny (model X.prog X.w) X.A (subscriptTail value slice (.ref a) u) (EP X pins σ Q) X.xe s:=by
 have hT:=FN I g;unfold subscriptTail;refine wpAny_bind ?_;rw[getitemInPython_of_ne hT.not_modules];refine wpAny_bind (wpAny_specialOf hT PySem.F.slot_dict_getitem.lookup ?_);have fin:wpAny (model X.prog X.w) X.A (subscripted slice false (.ref a) u) (λr s₃=>wpAny (model X.prog X.w) X.A (letTemporaryGo value (.ref a) r >>= λ_=>pure r) (EP X pins σ Q) X.xe s₃) X.xe s:=by
  rw[hs];exact wpAny_operating (RN (by lia) I g ry λw' s3 I3 rw'=>wpAny_bind (wpAny_letTemporaryGo (wpAny_pure ⟨v',H',bk s3 I3,rw',q⟩)))
 first
  |exact wpAny_pure (wpAny_bind fin)
  |exact wpAny_bind (wpAny_pure (wpAny_bind fin))
  |exact wpAny_bind fin
theorem KN:∀{ds:List (D×D)},keyOk k=true->dO ds k=some d->∃p∈ds,isTup p.1=isTup k
 |[],_,h=>by cases h
 | (p1,p2)::ds,hk,h=>by
  rw[dO] at h;by_cases hq:eqD p1 k=true
  ·refine⟨_,List.mem_cons_self ..,?_⟩;cases p1<;>cases k<;>simp[eqD,keyOk,isTup] at hq hk ⊢
  ·rw[if_neg hq] at h;obtain⟨p,hp,e⟩:=KN hk h;exact⟨p,List.mem_cons_of_mem _ hp,e⟩
theorem aI9(rd:Rep All H x (.fdc ds))(rk:Rep All H y k)(hk:keyOk k=true)(h:dO ds k=some d):∃a v,x=.ref a/\NK H a y (some v)/\Rep All H v d:=by
 obtain⟨p,hp,et⟩:=KN hk h;cases rd with
 |@fdK a o kvs ds e r n=>
  rcases jT hk rk with ⟨q,rfl,rfl⟩|⟨b,ks,rfl,eb,rfl⟩
  ·rcases aC4 (k:=q) r with ⟨v,d',g1,g2,g3⟩|⟨g1,g2⟩
   ·rw[g2] at h;cases h;exact⟨a,v,rfl,.inl ⟨kvs,q,.inr ⟨o,e⟩,rfl,g1.symm⟩,g3⟩
   ·rw[g2] at h;cases h
  ·rw[KH r p hp] at et;cases et
 |@fdT a o kvs ds e r n=>
  rcases jT hk rk with ⟨q,rfl,rfl⟩|⟨b,ks,rfl,eb,rfl⟩
  ·rw[KJ r p hp,mL] at et;cases et
  ·rcases aC5 (k:=ks) r with ⟨v,d',g1,g2,g3⟩|⟨g1,g2⟩
   ·rw[g2] at h;cases h;exact⟨a,v,rfl,.inr ⟨kvs,ks,b,.inr ⟨o,e⟩,rfl,eb,g1.symm⟩,g3⟩
   ·rw[g2] at h;cases h
theorem aFz(hK:KFrag.K=X.K)(hu:X.A.units+20<cLine):IxR X (r2 getD false):=by
 intro value slice pins s σ H x y v u Q I rx ry ⟨a,b,d,p,q,e,k⟩ hs;cases a with
 |tup ys=>
  cases b<;>try exact bx e
  have e':=Res.j4 e;obtain⟨l,xs,rfl,ee,rr⟩:=p.eX;cases q;obtain⟨w,h1,h2⟩:=rr.atI e';exact aF7 value slice pins s σ H _ _ v u Q I rx ry ⟨l,xs,_,w,rfl,rfl,.of ee,h1,k.self h2 λz=>by cases z⟩ hs
 |lst ys=>
  cases b<;>try exact bx e
  have e':=Res.j4 e;obtain⟨l,xs,rfl,ee,rr⟩:=p.lE (K:=X.K);cases q;obtain⟨w,h1,h2⟩:=rr.atI e';exact D_ value slice pins s σ H _ _ v u Q I rx ry ⟨l,xs,_,w,rfl,rfl,ee,h1,k.self h2 λz=>by cases z⟩ hs
 |cel ca ys=>
  cases b<;>try exact bx e
  have e':=Res.j4 e;cases p with
  |cel ee pp rr=>
   cases q;obtain⟨w,h1,h2⟩:=rr.atI e';exact D_ value slice pins s σ H _ _ v u Q I rx ry ⟨_,_,_,w,rfl,rfl,.inl (.inl ee),h1,k.self h2 λz=>by cases z⟩ hs
 |scr ys=>
  cases b<;>try exact bx e
  have e':=Res.j4 e;cases p with
  |frz ee rr=>
   cases q;obtain⟨w,h1,h2⟩:=rr.atI e';exact D_ value slice pins s σ H _ _ v u Q I rx ry ⟨_,_,_,w,rfl,rfl,ee.sq hK,h1,k.self h2 λz=>by cases z⟩ hs
 |str z=>
  cases b<;>try exact bx e
  rename_i i;replace e:(if decide (z.length<=lim) then Res.ofOpt (((ixD z.cps.toList.length i).bind λj=>z.cps.toList[j]?).map λc=>D.str ⟨#[c]⟩) else .bad)=.ok d:=e;split at e
  ·rename_i hl;have e':=Res.j4 e;obtain⟨cc,h1,h2⟩:=Option.map_eq_some_iff.mp e';subst h2;cases p;cases q;exact aF8 value slice pins s σ H _ _ v u Q I rx ry ⟨z,_,cc,rfl,rfl,mK hl,h1,k.str⟩ hs
  ·cases e
 |dct kvs=>
  have e':keyOk b=true/\dO kvs b=some d:=by
   replace e:(if keyOk b then Res.ofOpt (dO kvs b) else .bad)=.ok d:=by cases b<;>exact e
   split at e
   ·rename_i hl;exact⟨hl,Res.j4 e⟩
   ·exact bx e
  obtain⟨H1,a1,o,rfl,I1,bk,g,hc⟩:=T3 I p q (YS p e'.1 e'.2);cases rx;rcases hc with ⟨rfl,h2⟩|⟨w,dd,rfl,h2,h3⟩
  ·rw[h2] at e';cases e'.2
  ·rw[h2] at e';cases e'.2;exact zJ hu I1 g ry hs bk (k.self h3 λz=>by cases z)
 |fdc kvs=>
  have e':keyOk b=true/\dO kvs b=some d:=by
   replace e:(if keyOk b then Res.ofOpt (dO kvs b) else .bad)=.ok d:=by cases b<;>exact e
   split at e
   ·rename_i hl;exact⟨hl,Res.j4 e⟩
   ·exact bx e
  obtain⟨a1,w,rfl,g,h3⟩:=aI9 p q e'.1 e'.2;cases rx;exact zJ hu I g ry hs (λ_ h=>h) (k.self h3 λz=>by cases z)
 |_=>cases b<;>exact bx e
theorem bK(ha:PE X a (gE fa ra))(hb:PE X b (gE fb rb))(hK:KFrag.K=X.K:=by assumption)(hu:X.A.units+20<cLine:=by assumption)(hs:vX b:=by exact λ_ _=>rfl):PE X (.Subscript a b pos) (gE (b2 getD fa fb) false):=aI7 (aFz hK hu) ha hb hs
noncomputable def gO(f:List D->Res (Option Int)):TO:=λσ H Q=>∃ρ i,ER H σ ρ/\f ρ=.ok i/\∀H',cL H H'->Q i H'
theorem PO.imp{X:Cx}{e:Option PySem.Expr}{t t':TO}(h:PO X e t)(i:∀σ H Q,t' σ H Q->t σ H Q):PO X e t':=λpins s σ H Q I q=>h pins s σ H Q I (i σ H Q q)
theorem T6:PO X none (gO GK):=PO.imp aBc λσ H Q ⟨ρ,i,E,h,q⟩=>by cases h;exact q H (cL.refl H)
theorem T7(ha:PE X a (gE fa ra)):PO X (some a) (gO (GJ fa)):=PO.imp (RJ ha) λσ H Q ⟨ρ,i,E,h,q⟩=>by
 obtain⟨x,h1,h⟩:=bD h;obtain⟨j,h2,h⟩:=bD h;cases h;have e:=aFt h2;subst e;exact⟨ρ,_,E,h1,λv H' s r _=>by cases r;exact⟨j,rfl,q H' s⟩⟩
theorem aAl(n d:Nat)(o:Option Int):HT.sIx n d o=aE3 n d o:=by
 cases o with
 |none=>rfl
 |some v=>
  show(if v<0 then (v+(n:Int)).toNat else min v.toNat n)=(if v<0 then (max (v+(n:Int)) 0).toNat else (min v (n:Int)).toNat);split<;>lia
theorem bR.cut(r:bR P H xs ds)(lo hi:Option Int):bR P H (RK xs lo hi) (cutD ds lo hi):=by
 unfold RK cutD;rw[r.length];simp only[aAl];exact(r.drop _).take _
theorem iV:D.bA ds=true↔∀d∈ds,d.pure=true:=by
 induction ds with
 |nil=>simp[D.bA]
 |cons d ds ih=>rw[D.bA,Bool.and_eq_true,ih];simp
def rSl:V->Option Int->Option Int->Hp->VK->Prop:=λx lo hi H Q=>∃a d,Rep All H x a/\aE5 a lo hi=.ok d/\kR H d true Q
theorem aIa(hK:KFrag.K=X.K):SlR X rSl:=by
 intro pins s σ H x v vl vu lo hi sl Q I rx hs pl pu ⟨a,d,p,e,k⟩;cases a<;>simp only[aE5] at e<;>(try (cases e;done))
 ·split at e
  ·cases e
  ·rename_i hw;cases e;obtain⟨l,xs,rfl,ee,rr⟩:=p.eX;refine aF5 pins s σ H _ v vl vu lo hi sl Q I rx hs pl pu ⟨l,xs,rfl,.of ee,?_,λp hp=>?_⟩
   ·simp only[aAl,rr.length];simp only[Bool.not_eq_true',Bool.or_eq_true,not_or,Bool.not_eq_false',decide_eq_true_eq] at hw;exact hw.2
   ·have sp:cL H (upd H p (.tup (RK xs lo hi))):=cL.upd hp;have hp2:D.bA ‹List D›=true:=by
     simp only[Bool.or_eq_true,not_or,Bool.not_eq_true'] at hw;simpa using hw.1
    exact k _ _ sp (.tup aO ((rr.cut lo hi).same sp)) λz=>.tup aO (((rr.bO hp2).cut lo hi).same sp)
 ·split at e
  ·rename_i hl;cases e;obtain⟨l,xs,rfl,ee,rr⟩:=p.lE (K:=X.K);refine RL pins s σ H _ v vl vu lo hi sl Q I rx hs pl pu ⟨l,xs,rfl,ee,λp hp=>?_⟩;have sp:cL H (upd H p (.lst (RK xs lo hi))):=cL.upd hp;exact k _ _ sp (.lst aO trivial ((rr.cut lo hi).same sp)) λz=>.lst aO hp (((rr.bO hl).cut lo hi).same sp)
  ·cases e
 ·split at e
  ·rename_i hl;cases e;cases p with
   |@frz l xs ds ee rr=>
    refine RL pins s σ H _ v vl vu lo hi sl Q I rx hs pl pu ⟨l,xs,rfl,ee.sq hK,λp hp=>?_⟩;have sp:cL H (upd H p (.lst (RK xs lo hi))):=cL.upd hp;exact k _ _ sp (.lst aO trivial ((rr.cut lo hi).same sp)) λz=>.lst aO hp (((rr.bO hl).cut lo hi).same sp)
  ·cases e
end
end Mi
namespace Mi
open PySem L2 PySem.SeqAt PySem.Spec PyProof.Rows
variable [KFrag]
section
variable {X:Cx} {a b e:Expr} {es:List Expr} {pos p:Pos} {fa:FE} {ra:Bool} {fs:FA} {rr:Bool} {x:Str} {id T:String}
theorem k_(r:bR P H xs [d])(vr:Vals xs us):∃v u,xs=[v]/\us=[u]/\Rep P H v d/\RelV v u:=by
 cases r with
 |cons r t=>
  cases t;cases vr with
  |cons v vt=>
   cases vt;exact⟨_,_,rfl,rfl,r,v⟩
theorem KQ(h:gE (aL f fs) fr σ H Q):tCB (rs f fr) (gA fs rr) σ H Q:=by
 obtain⟨ρ,d,E,h,q⟩:=h;obtain⟨ds,h1,h2⟩:=bD h;exact⟨ρ,ds,E,h1,λvs H1 s1 r1 _=>⟨ds,d,r1,h2,q.imp s1 id⟩⟩
theorem bG(hc:mX X (.builtin id) (rs f fr))(hg:Gl X x)(hm:X.mg x=none)(hv:bootBuiltins x=some (.builtin id))(ha:PA X (e::es) (gA fs rr))(hn:x ≠ "__name__":=by decide)(hdb:nDb x:=by decide)
 (he:starEach (e::es) X.env=(false,eval e X.env)::starEach es X.env:=by rfl)(hpl:(backTo pos (starEach es X.env)).any (·.1)=false:=by rfl):PE X (.Call (.Name x p) (e::es) [] pos) (gE (aL f fs) fr):=
 PE.imp (vW hc hg hm hv ha hn hdb he hpl) λ_ _ _=>KQ
theorem dM(hc:mX X (.type T) (rs f fr))(hg:Gl X x)(hm:X.mg x=none)(hv:bootBuiltins x=some (.type T))(ha:PA X (e::es) (gA fs rr))(hn:x ≠ "__name__":=by decide)(hdb:nDb x:=by decide)
 (he:starEach (e::es) X.env=(false,eval e X.env)::starEach es X.env:=by rfl)(hpl:(backTo pos (starEach es X.env)).any (·.1)=false:=by rfl):PE X (.Call (.Name x p) (e::es) [] pos) (gE (aL f fs) fr):=
 PE.imp (yR hc hg hm hv ha hn hdb he hpl) λ_ _ _=>KQ
theorem cW(hK:KFrag.K=X.K):mX X (.builtin "len") (rs dJ true):=by
 intro pins s σ H xs us Q I vr ⟨ds,d,r,e,k⟩;unfold dJ at e;split at e
 ·cases e;obtain⟨vv,uu,rfl,rfl,r,v⟩:=k_ r vr;obtain⟨l,ys,rfl,hl,rr⟩:=r.eX;cases v;exact jJ pins s σ H [.ref l] [.ref l] Q I (.cons rfl .nil) ⟨l,ys,rfl,.inr (.of hl),by rw[rr.length];exact k.int⟩
 ·cases e;obtain⟨vv,uu,rfl,rfl,r,v⟩:=k_ r vr;obtain⟨l,ys,rfl,hl,rr⟩:=r.lE (K:=X.K);cases v;exact jJ pins s σ H [.ref l] [.ref l] Q I (.cons rfl .nil) ⟨l,ys,rfl,.inl hl,by rw[rr.length];exact k.int⟩
 ·cases e;obtain⟨vv,uu,rfl,rfl,r,v⟩:=k_ r vr;cases r with
  |@frz l xs ds ee rr=>
   cases v;exact jJ pins s σ H [.ref l] [.ref l] Q I (.cons rfl .nil) ⟨l,xs,rfl,.inl (ee.sq hK),by rw[rr.length];exact k.int⟩
 ·cases e;obtain⟨vv,uu,rfl,rfl,r,v⟩:=k_ r vr;cases r with
  |cel ee pp rr=>
   cases v;exact jJ pins s σ H [.ref _] [.ref _] Q I (.cons rfl .nil) ⟨_,_,rfl,.inl (.inl (.inl ee)),by rw[rr.length];exact k.int⟩
 ·split at e
  ·rename_i hl;cases e;obtain⟨vv,uu,rfl,rfl,r,v⟩:=k_ r vr;cases r.inv;exact yU pins s σ H _ _ Q I (.cons v .nil) ⟨_,rfl,mK hl,k.int⟩
  ·exact bx e
 ·exact bx e
theorem e_:mX X (.type "tuple") (rs dH false):=by
 intro pins s σ H xs us Q I vr ⟨ds,d,r,e,k⟩;unfold dH at e;split at e
 ·cases e;obtain⟨vv,uu,rfl,rfl,r,v⟩:=k_ r vr;obtain⟨l,ys,rfl,hl',rr⟩:=r.eX;cases v;exact nU pins s σ H [.ref l] [.ref l] Q I (.cons rfl .nil) ⟨l,ys,rfl,.inr ⟨.of hl',k.self (.tup hl' rr) λz=>by cases z⟩⟩
 ·cases e;obtain⟨vv,uu,rfl,rfl,r,v⟩:=k_ r vr;obtain⟨l,ys,rfl,hl',rr⟩:=r.lE (K:=X.K);cases v;refine nU pins s σ H [.ref l] [.ref l] Q I (.cons rfl .nil) ⟨l,ys,rfl,.inl ⟨hl',λp hp=>?_⟩⟩;have sp:cL H (upd H p (.tup ys)):=cL.upd hp;exact k _ _ sp (.tup aO (rr.same sp)) λz=>by cases z
 ·exact bx e
mutual
theorem vI:∀(d:D),d.plain=true->d.pure=true
 |.tup xs,h=>by rw[D.plain] at h;rw[D.pure];exact qT xs h
 |.int _,_=>rfl
 |.str _,_=>rfl
 |.uD,h=>by simp[D.plain] at h
 |.non,_=>rfl
 |.bl _,_=>rfl
 |.lst _,h=>by simp[D.plain] at h
 |.dct _,h=>by simp[D.plain] at h
 |.scr _,h=>by simp[D.plain] at h
 |.fdc _,h=>by simp[D.plain] at h
 |.exc _ _,h=>by simp[D.plain] at h
 |.ins _ _,h=>by simp[D.plain] at h
 |.cel _ _,h=>by simp[D.plain] at h
theorem qT:∀(ds:List D),D.iR ds=true->D.bA ds=true
 |[],_=>rfl
 |x::xs,h=>by rw[D.iR,Bool.and_eq_true] at h;rw[D.bA,Bool.and_eq_true];exact⟨vI x h.1,qT xs h.2⟩
end
theorem G_(h:dF ds=true):D.bA (zB ds)=true:=iV.mpr λd hd=>vI d (eE h ((mJ ds).mem_iff.mp hd)).1
theorem tH(hu:X.A.units+20<cLine):mX X (.builtin "sorted") (rs d_ true):=by
 intro pins s σ H xs us Q I vr ⟨ds,d,r,e,k⟩;unfold d_ at e;split at e
 ·split at e
  ·rename_i hl;cases e;obtain⟨vv,uu,rfl,rfl,r,v⟩:=k_ r vr;obtain⟨l,ys,rfl,hl',rr⟩:=r.lE (K:=X.K);cases v;refine O6 I hu hl' rr hl λp xs' hp r'=>?_
   have sp:cL H (upd H p (.lst xs')):=cL.upd hp;exact k _ _ sp (.lst aO trivial (r'.same sp)) λ_=>.lst aO hp ((r'.bO (G_ hl)).same sp)
  ·exact bx e
 ·exact bx e
theorem isi(I:Inv X pins σ H s)(r:Rep All H v d)(ru:RelV v u)(h:aI4 t d=.ok k)
 (q:∀tk,Q (.bool k) {s with toks:=tk}):wpAny (model X.prog X.w) X.A (call (.builtin "isinstance") [u,.type t.nm]) Q X.xe s:=by
 have q0:Q (.bool k) s:=q s.toks;cases r with
 |non=>cases ru;cases t<;>cases h<;>first|exact IsiPair.NoneType_int (q _)|exact IsiPair.NoneType_str (q _)|exact IsiPair.NoneType_bool (q _)|exact IsiPair.NoneType_list (q _)|exact IsiPair.NoneType_tuple (q _)|exact IsiPair.NoneType_dict (q _)
 |bl b=>cases ru;cases t<;>cases h<;>first|exact IsiPair.bool_int q0|exact IsiPair.bool_str (q _)|exact IsiPair.bool_bool q0|exact IsiPair.bool_list (q _)|exact IsiPair.bool_tuple (q _)|exact IsiPair.bool_dict (q _)
 |int b=>obtain⟨tt,rfl⟩:=ru;cases t<;>cases h<;>first|exact IsiPair.int_int q0|exact IsiPair.int_str (q _)|exact IsiPair.int_bool (q _)|exact IsiPair.int_list (q _)|exact IsiPair.int_tuple (q _)|exact IsiPair.int_dict (q _)
 |str b=>obtain⟨tt,rfl⟩:=ru;cases t<;>cases h<;>first|exact IsiPair.str_int (q _)|exact IsiPair.str_str q0|exact IsiPair.str_bool (q _)|exact IsiPair.str_list (q _)|exact IsiPair.str_tuple (q _)|exact IsiPair.str_dict (q _)
 |tup e rr=>
  cases ru;obtain⟨its,vr,o,ho,hc,_⟩:=gH I e;cases t<;>cases h<;>first|exact IsiPair.tuple_int ho hc (q _)|exact IsiPair.tuple_str ho hc (q _)|exact IsiPair.tuple_bool ho hc (q _)|exact IsiPair.tuple_list ho hc (q _)|exact IsiPair.tuple_tuple ho hc q0|exact IsiPair.tuple_dict ho hc (q _)
 |lst e p rr=>
  cases ru;obtain⟨its,vr,o,ho,hc,_⟩:=mZ I (.of e);cases t<;>cases h<;>first|exact IsiPair.list_int ho hc (q _)|exact IsiPair.list_str ho hc (q _)|exact IsiPair.list_bool ho hc (q _)|exact IsiPair.list_list ho hc q0|exact IsiPair.list_tuple ho hc (q _)|exact IsiPair.list_dict ho hc (q _)
 |frz e rr=>cases t<;>exact bx h
 |fdK e rr n=>cases t<;>exact bx h
 |fdT e rr n=>cases t<;>exact bx h
 |exc n e q=>cases t<;>exact bx h
 |ins n e q=>cases t<;>exact bx h
 |cel e p rr=>cases t<;>exact bx h
 |dK e p rr n=>
  cases ru;obtain⟨_,_,_,_,o,_,_,ho,hx,_⟩:=NB I.hok e;have hc:=hx.1;cases t<;>cases h<;>first|exact IsiPair.dict_int ho hc (q _)|exact IsiPair.dict_str ho hc (q _)|exact IsiPair.dict_bool ho hc (q _)|exact IsiPair.dict_list ho hc (q _)|exact IsiPair.dict_tuple ho hc (q _)|exact IsiPair.dict_dict ho hc q0
 |dT e p rr n=>
  cases ru;obtain⟨_,_,_,_,o,_,_,ho,hx,_⟩:=aBh I.hok e;have hc:=hx.1;cases t<;>cases h<;>first|exact IsiPair.dict_int ho hc (q _)|exact IsiPair.dict_str ho hc (q _)|exact IsiPair.dict_bool ho hc (q _)|exact IsiPair.dict_list ho hc (q _)|exact IsiPair.dict_tuple ho hc (q _)|exact IsiPair.dict_dict ho hc q0
def aK2(t:Ty):List V->Hp->VK->Prop:=λxs H Q=>∃v d k,xs=[v,.ty t.nm]/\Rep All H v d/\aI4 t d=.ok k/\Q (.bl k) H
theorem aG0(t:Ty):mX X (.builtin "isinstance") (aK2 t):=by
 intro pins s σ H xs us Q I vr ⟨v,d,k,e,r,h,q⟩;subst e;cases vr with
 |cons rv vt=>
  cases vt with
  |cons rt vt=>
   cases vt;cases rt;exact isi I r rv h λtk=>⟨.bl k,H,I.tok tk,rfl,q⟩
theorem aAm(t:Ty)(ha:PE X a (gE fa ra))(hg:Gl X "isinstance")(hm:X.mg "isinstance"=none)(hv:bootBuiltins "isinstance"=some (.builtin "isinstance"))(gy:Gl X y)(my:X.mg y=none)(vy:bootBuiltins y=some (.type t.nm))
 (hy:y ≠ "__name__":=by decide)(hyd:(y==("__debug__" : Str))=false:=by decide)
 (he:starEach [a,.Name y p2] X.env=(false,eval a X.env)::starEach [.Name y p2] X.env:=by rfl)(he2:starEach [.Name y p2] X.env=(false,eval (.Name y p2) X.env)::starEach [] X.env:=by rfl)
 (hpl:(backTo pos (starEach [.Name y p2] X.env)).any (·.1)=false:=by rfl):PE X (.Call (.Name "isinstance" p) [a,.Name y p2] [] pos) (gE (b1 (R9 t) fa) true):=
 PE.imp (vW (aG0 t) hg hm hv (gY ha (gY (aB4 gy my vy (v:=.ty t.nm) rfl hy hyd) mY he2) he) (by decide) (by decide) he hpl) λσ H Q ⟨ρ,d,E,h,q⟩=>by
  obtain⟨x,h1,h⟩:=bD h;obtain⟨k,h2,h⟩:=bD h;cases h;exact⟨ρ,x,E,h1,λv H1 s1 r1 _=>⟨v,x,k,rfl,r1,h2,(q.imp s1 id).bl⟩⟩
theorem aIb(pa:PlainAttrs T)(slot:Slot T name id)(hty:typeOf (.builtin id)=pure (.type "method_descriptor"))(hm:MtR X id (rm f fr))(ho:PE X o (gE fo ro))(ha:PA X (e::es) (gA fs rr))
 (hT:∀(d:D) (ds:List D) (r:D) (v:V) (H:Hp),f d ds=.ok r->Rep All H v d->tyV X.K T v H)
 (hbase:attributeBase o name X.env (eval o X.env)=eval o X.env:=by rfl)
 (hfew:((backTo cpos (starEach (e::es) X.env)).all (λx=>!x.1)&&(backToKw cpos (keywordEach [] X.env)).all (λx=>x.1.isSome)
  &&decide ((e::es).length+([]:List Keyword).length+(if ([]:List Keyword).isEmpty then 0 else 1)<30))=true:=by rfl)
 (hline:(apos.endLine==cpos.line)=true:=by rfl)(hs:starEach (e::es) X.env=(false,eval e X.env)::starEach es X.env:=by rfl)(hplain:(backTo cpos (starEach es X.env)).any (·.1)=false:=by rfl) :
  PE X (.Call (.Attribute o name apos) (e::es) [] cpos) (gE (bM f fo fs) fr):=
 PE.imp (M9 pa slot hty hm ho ha hbase hfew hline hs hplain) λσ H Q ⟨ρ,d,E,h,q⟩=>by
  obtain⟨x,h1,h⟩:=bD h;obtain⟨ds,h2,h⟩:=bD h;exact⟨ρ,x,E,h1,λv H1 s1 r1 _=>⟨hT x ds d v H1 h r1,ρ,ds,E.same s1,h2,λvs H2 s2 r2 _=>⟨x,ds,d,r1.same s2,r2,h,q.imp (s1.trans s2) λz=>z⟩⟩⟩
theorem aC6(h:aBu d ds=.ok r)(rp:Rep All H v d):tyV X.K "dict" v H:=by
 have:∃kvs,d=.dct kvs:=by
  unfold aBu at h;split at h
  ·exact⟨_,rfl⟩
  ·exact⟨_,rfl⟩
  ·exact bx h
 obtain⟨kvs,rfl⟩:=this;cases rp with
 |dK e _ _ _=>exact .inr (.inr (.inl ⟨rfl,.inl ⟨_,e⟩⟩))
 |dT e _ _ _=>exact .inr (.inr (.inl ⟨rfl,.inr ⟨_,e⟩⟩))
theorem aG1(hu:X.A.units+20<cLine):MtR X "dict.get" (rm aBu false):=by
 intro pins s σ H x xs v us Q I rv vr ⟨a,ds,d,ra,rs,h,k⟩;unfold aBu at h;split at h
 ·split at h
  ·rename_i hf;cases h;obtain⟨vv,uu,rfl,rfl,r,rk⟩:=k_ rs vr;obtain⟨H1,a1,o,rfl,I1,bk,g,hc⟩:=T3 I ra r hf;cases rv;refine aFf (by lia) I1 g rk λw' s' I' rw'=>⟨_,H,bk s' I',rw',?_⟩
   rcases hc with ⟨rfl,h2⟩|⟨w,dd,rfl,h2,h3⟩
   ·rw[h2] at k;exact k.non
   ·rw[h2] at k;exact k.self h3 λz=>by cases z
  ·exact bx h
 ·split at h
  ·rename_i hf;cases h;cases rs with
   |cons r t=>
    cases t with
    |cons r' t=>
     cases t;cases vr with
     |cons rk vt=>
      cases vt with
      |cons rk' vt=>
       cases vt;obtain⟨H1,a1,o,rfl,I1,bk,g,hc⟩:=T3 I ra r hf;cases rv;refine aFg (by lia) I1 g rk rk' λw' s' I' rw'=>⟨_,H,bk s' I',rw',?_⟩
       rcases hc with ⟨rfl,h2⟩|⟨w,dd,rfl,h2,h3⟩
       ·rw[h2] at k;exact k.self r' λz=>by cases z
       ·rw[h2] at k;exact k.self h3 λz=>by cases z
  ·exact bx h
 ·exact bx h
noncomputable def spD(f:List D->Res D)(n:Nat):Sp:=λvs H Q _=>∃ds d,ds.length=n/\bR All H vs ds/\f ds=.ok d/\kR H d true Q
theorem T8(h:spD f n vs H Q E):vs.length=n:=by
 obtain⟨ds,d,h1,r,_⟩:=h;rw[r.length,h1]
theorem aC7(F:DX X.prog X.w X.K X.mg X.base CX0 k fad fd ps (spD f n))(hr:rH k X.A)(hg:Gl X x)(hm:X.mg x=some (.ref fad))(hk:PySem.W.keepIn X.K (.ref fad)=true)(hb:Binds X.K fd ps [])
 (ha:PA X (e::es) (gA fs rr))(hdb:nDb x:=by decide)(he:starEach (e::es) X.env=(false,eval e X.env)::starEach es X.env:=by rfl)(hpl:(backTo pos (starEach es X.env)).any (·.1)=false:=by rfl) :
  PE X (.Call (.Name x p) (e::es) [] pos) (gE (aL (bW n f) fs) true):=
 PE.imp (RC F hr hg hm hk hb .nil aFh ha hdb he hpl) λσ H Q ⟨ρ,d,E,h,q⟩=>by
  obtain⟨ds,h1,h⟩:=bD h;unfold bW at h;split at h
  ·rename_i hl;exact⟨ρ,ds,E,h1,λvs H1 s1 r1 _=>⟨ds,d,of_decide_eq_true hl,by rw[List.append_nil];exact r1,h,q.imp s1 id⟩⟩
  ·exact bx h
end
end Mi
namespace Mi
open PySem L2 PySem.SeqAt PySem.Spec PyProof.Rows
noncomputable def zK(x:Str):List D:=x.cps.toList.map λc=>D.str ⟨#[c]⟩
noncomputable def zL(xs:List D):List D:=xs.zipIdx.map λp=>.tup [.int p.2,p.1]
variable [KFrag]
def aIc(x:Str):It:=⟨λi _=>i<x.cps.size,λi H v H'=>H'=H/\∃c,x.cps[i]?=some c/\v=.str ⟨#[c]⟩,λi _=>x.cps.size<=i⟩
theorem YW{i:Nat}:(zL xs)[i]?=(xs[i]?).map λd=>.tup [.int i,d]:=by
 unfold zL;rw[List.getElem?_map,List.getElem?_zipIdx,Nat.zero_add];cases xs[i]?<;>rfl
theorem T9(xs:List D):(zL xs).length=xs.length:=by simp[zL]
structure ItQ(K:PySem.W.Frag)(P:Addr->Prop)(J:It)(H:Hp)(items:List D):Prop where
 it:∀(P':Addr->Prop)(H':Hp),J6 P H H'->(∀a o,H a=some o->P a->P' a)->(∀i,items.length<=i->J.stop i H')/\∀i d,items[i]?=some d->J.go i H'/\∀x H'',J.yld i H' x H''->cL H' H''/\Rep P' H'' x d
section
variable {K:PySem.W.Frag} {P P':Addr->Prop} {J:It} {H H':Hp} {items:List D}
theorem ItQ.keep'(h:ItQ K P J H items)(k:J6 P H H')(m:∀a o,H a=some o->P a->P' a):ItQ K P' J H' items:=
 ⟨λP2 H2 k2 m2=>h.it P2 H2 (λa o e hp=>k2 a o (k a o e hp) (hp.imp (m a o e) id)) λa o e hp=>m2 a o (k a o e (.inl hp)) (m a o e hp)⟩
theorem ItQ.keep(h:ItQ K P J H items)(k:J6 P H H')(m:∀a,P a->P' a):ItQ K P' J H' items:=h.keep' k λa _ _=>m a
theorem ItQ.stop(h:ItQ K P J H items)(hi:items.length<=i):J.stop i H:=(h.it P H (λ_ _ e _=>e) λ_ _ _ hp=>hp).1 i hi
theorem ItQ.go(h:ItQ K P J H items)(hi:items[i]?=some d):J.go i H/\∀x H',J.yld i H x H'->cL H H'/\Rep P H' x d:=(h.it P H (λ_ _ e _=>e) λ_ _ _ hp=>hp).2 i d hi
theorem ItQ.lst(a:Addr)(e:J=Itl K a)(r:Rep P H (.ref a) (.lst items)):ItQ K P J H items:=by
 refine⟨λP H kk mm=>?_⟩;have r:=r.YH kk mm;refine⟨λi hi=>?_,λi d hi=>?_⟩
 ·subst e;obtain⟨a',xs,e,hq,rr⟩:=r.lE (K:=K);cases e;exact⟨xs,hq,by rw[rr.length];exact hi⟩
 ·subst e;obtain⟨a',xs,e,hq,rr⟩:=r.lE (K:=K);cases e;obtain⟨v,h1,h2⟩:=rr.get hi;refine⟨⟨xs,v,hq,h1⟩,λx H' ⟨e,hy⟩=>?_⟩;subst e;refine⟨cL.refl _,?_⟩;have:=hy xs hq;rw[h1] at this;cases this;exact h2
theorem ItQ.tup(a:Addr)(e:J=Itt K a)(r:Rep P H (.ref a) (.tup items)):ItQ K P J H items:=by
 refine⟨λP H kk mm=>?_⟩;have r:=r.YH kk mm;refine⟨λi hi=>?_,λi d hi=>?_⟩
 ·subst e;obtain⟨a',xs,e,hq,rr⟩:=r.eX;cases e;exact⟨xs,.of hq,by rw[rr.length];exact hi⟩
 ·subst e;obtain⟨a',xs,e,hq,rr⟩:=r.eX;cases e;obtain⟨v,h1,h2⟩:=rr.get hi;refine⟨⟨xs,v,.of hq,h1⟩,λx H' ⟨e,hy⟩=>?_⟩;subst e;refine⟨cL.refl _,?_⟩;have:=hy xs (.of hq);rw[h1] at this;cases this;exact h2
theorem ItQ.rng(lo:Int)(n:Nat)(e:J=Itr lo n)(r:items=(List.range n).map λ(k:Nat)=>D.int (lo+k)):ItQ K P J H items:=by
 refine⟨λP H k m=>?_⟩;refine⟨λi hi=>?_,λi d hi=>?_⟩
 ·subst e r;show n<=i;simpa using hi
 ·subst e r;have hlt:i<n:=by
   have:=(List.getElem?_eq_some_iff.mp hi).1;simpa using this
  refine⟨hlt,λx H' ⟨e,hy⟩=>?_⟩;subst e;have e2:D.int (lo+(i:Int))=d:=by simpa[hlt] using hi
  rw[hy,<-e2];exact⟨cL.refl _,.int _⟩
theorem ItQ.chs(z:Str)(e:J=aIc z)(r:items=zK z):ItQ K P J H items:=by
 refine⟨λP H k m=>?_⟩;refine⟨λi hi=>?_,λi d hi=>?_⟩
 ·subst e r;show z.cps.size<=i;simpa[zK] using hi
 ·subst e r;have hlt:i<z.cps.size:=by
   have:=(List.getElem?_eq_some_iff.mp hi).1;simpa[zK] using this
  refine⟨hlt,λx H' ⟨e,c,hc,hv⟩=>?_⟩;subst e hv;refine⟨cL.refl _,?_⟩;have e2:D.str ⟨#[c]⟩=d:=by
   unfold zK at hi;rw[List.getElem?_map,Array.getElem?_toList,hc] at hi;simpa using hi
  rw[<-e2];exact .str _
end
noncomputable def gI(K:PySem.W.Frag)(f:FI):TI:=λσ H R=>∃ρ items k,ER H σ ρ/\f ρ=.ok (items,k)/\∀J H1,cL H H1->ItQ K All J H1 items->(k=true->ItQ K (New H) J H1 items)->R J H1
def gIV(K:PySem.W.Frag)(i:Nat):TI:=λσ H R=>∃v d items,σ[i]?=some (some v)/\Rep All H v d/\tB d=.ok items/\∀J,(∀P:Addr->Prop,Rep P H v d->ItQ K P J H items)->R J H
section
variable {X:Cx} {tg l a b:Expr} {rr:Bool} {fs:FA} {p pos:Pos}
theorem KR(I1:Inv X pins σ H1 s1)(r:Rep All H1 v d)(ru:RelV v u)(hi:tB d=.ok items)
 (q:∀J,(∀P:Addr->Prop,Rep P H1 v d->ItQ X.K P J H1 items)->R J H1):wpAny (model X.prog X.w) X.A (pyIter u) (PIE X pins σ tg R) X.xe s1:=by
 cases d<;>simp only[tB] at hi<;>cases hi
 ·obtain⟨a,xs,rfl,e,rr⟩:=r.eX;cases ru;obtain⟨its,rv,p,hz⟩:=I1.tuple (.of e);refine wpAny_pyIter_tuple (show s1.heap.IsTuple a its.toArray from p) ?_;refine⟨s1.heap.objs.size,[s1.heap.objs.size],_,_,H1,rfl,I1.kept (t':=s1.toks) λb o e=>Heap.get?_push_of_some _ e,M3 a _,⟨_,Heap.get?_push_size _ rfl,rfl,rfl⟩,λb hb=>?_,q _ λP r=>.tup a rfl r⟩;have e:b=s1.heap.objs.size:=by simpa using hb
  subst e;exact I1.aA9 (Nat.le_refl _) (I1.hok.fresh (Nat.le_refl _))
 ·obtain⟨a,xs,rfl,e,rr⟩:=r.lE (K:=X.K);cases ru;obtain⟨its,rv,p,hz⟩:=I1.list e;refine wpAny_pyIter_list p.isList ?_;refine⟨s1.heap.objs.size,[s1.heap.objs.size],_,_,H1,rfl,I1.kept (t':=s1.toks) λb o e=>Heap.get?_push_of_some _ e,Q4 a _,⟨_,Heap.get?_push_size _ rfl,rfl,rfl⟩,λb hb=>?_,q _ λP r=>.lst a rfl r⟩;have e:b=s1.heap.objs.size:=by simpa using hb
  subst e;exact I1.aA9 (Nat.le_refl _) (I1.hok.fresh (Nat.le_refl _))
theorem aG2(hN:X.N[i]?=some x)(hv:Vis X.env.scope x)(hd:nDb x:=by decide)(hcd:nCd x:=by decide):PI X tg (.Name x pos) (gIV X.K i):=by
 intro pins s σ H R I ⟨v,d,items,hσ,r,hi,q⟩;exact thn (kW hN hv hd hcd pins s σ H (λw H1=>w=v/\H1=H) I ⟨v,hσ,rfl,rfl⟩) λu s1 ⟨w,H1,I1,ru,e1,e2⟩=>by
  subst e1 e2;exact KR I1 r ru hi q
theorem qG(h:iT i=true):-(2 ^ 62)<=i/\i<2 ^ 62:=by
 simp only[iT,Bool.and_eq_true,decide_eq_true_eq] at h;exact h
theorem PI.imp(h:PI X tg l w)(i:∀σ H R,w' σ H R->w σ H R):PI X tg l w':=λpins s σ H R I q=>h pins s σ H R I (i σ H R q)
theorem nF(hg:Gl X "range")(hm:X.mg "range"=none)(ha:PA X [a] (gA fs rr))(hs:starEach [a] X.env=[(false,eval a X.env)]:=by rfl):PI X tg (.Call (.Name "range" p) [a] [] pos) (gI X.K (gG fs lQ)):=
 PI.imp (Q5 hg hm ha hs) λσ H R ⟨ρ,items,k,E,h,q⟩=>by
  obtain⟨xs,h1,h⟩:=bD h;unfold lQ at h;split at h
  ·split at h
   ·rename_i hb;cases h;obtain⟨b1,b2⟩:=qG hb;refine⟨ρ,_,E,h1,λvs H1 s1 r1 _=>?_⟩;cases r1 with
    |cons r t=>
     cases t;cases r.inv;exact⟨_,rfl,b1,b2,q _ H1 s1 (.rng 0 _ rfl rfl) λ_=>.rng 0 _ rfl rfl⟩
   ·exact bx h
  ·exact bx h
theorem aC8(hg:Gl X "range")(hm:X.mg "range"=none)(ha:PA X [a,b] (gA fs rr))(hs:starEach [a,b] X.env=[(false,eval a X.env),(false,eval b X.env)]:=by rfl)(hs2:starEach [b] X.env=[(false,eval b X.env)]:=by rfl):PI X tg (.Call (.Name "range" p) [a,b] [] pos) (gI X.K (gG fs N7)):=
 PI.imp (Q6 hg hm ha hs hs2) λσ H R ⟨ρ,items,k,E,h,q⟩=>by
  obtain⟨xs,h1,h⟩:=bD h;unfold N7 at h;split at h
  ·split at h
   ·rename_i hb;cases h;rw[Bool.and_eq_true] at hb;obtain⟨b1,b2⟩:=qG hb.1;obtain⟨b3,b4⟩:=qG hb.2;refine⟨ρ,_,E,h1,λvs H1 s1 r1 _=>?_⟩;cases r1 with
    |cons r t=>
     cases t with
     |cons r' t=>
      cases t;cases r.inv;cases r'.inv;exact⟨_,_,rfl,⟨b1,b2,b3,b4⟩,q _ H1 s1 (.rng _ _ rfl rfl) λ_=>.rng _ _ rfl rfl⟩
   ·exact bx h
  ·exact bx h
end
theorem YX(n:Nat)(ρ bs:List D)(i:Nat)(h:i<n):(GP n ρ++bs).getD i .uD=ρ.getD i .uD:=by
 rw[List.getD_eq_getElem?_getD,List.getElem?_append_left (by simp[GP];exact h)];simp[GP,h]
theorem KY(n:Nat)(ρ:List D):(GP n ρ).length=n:=by simp[GP]
def TgC(g:TG)(t:D->Res (List D))(n m:Nat):Prop:=∀(v:V)(d:D)(bs:List D)(σ:L2.St)(H:Hp)(Q:L2.St->Hp->Prop),σ.length=n->Rep All H v d->t d=.ok bs->
 (∀σ2,Ext (σ++List.replicate m none) σ2->(∀j b,bs[j]?=some b->∃w,σ2[n+j]?=some (some w)/\Rep All H w b)->Q σ2 H)->g v (σ++List.replicate m none) H Q
theorem ER.ext(E:ER H σ ρ)(hn:σ.length=n)(x:Ext (σ++List.replicate m none) σ2)(hb:∀j b,bs[j]?=some b->∃w,σ2[n+j]?=some (some w)/\Rep All H w b):ER H σ2 (GP n ρ++bs):=by
 intro i hi;by_cases h:i<n
 ·rw[YX n ρ bs i h] at hi ⊢;obtain⟨v,h1,h2⟩:=E i hi;exact⟨v,x.2 i v (by rw[List.getElem?_append_left (by rw[hn];exact h)];exact h1),h2⟩
 ·have e:(GP n ρ++bs).getD i .uD=bs.getD (i-n) .uD:=by
   rw[List.getD_eq_getElem?_getD,List.getElem?_append_right (by rw[KY];lia),KY,<-List.getD_eq_getElem?_getD]
  rw[e] at hi ⊢;cases hq:bs[i-n]? with
  |none=>rw[List.getD_eq_getElem?_getD,hq] at hi;exact absurd rfl hi
  |some b=>
   obtain⟨w,h1,h2⟩:=hb (i-n) b hq;rw[List.getD_eq_getElem?_getD,hq];exact⟨w,by rw[<-h1];congr 1;lia,h2⟩
theorem oH{K:PySem.W.Frag}{c:FT}{f:FE}{k:Bool}{n m:Nat}{g:TG}{tc:TT}(tg:TgC g t n m)(hc:∀σ H Q,gT c σ H Q->tc σ H Q){σ:L2.St}{H:Hp}{Q:VK}(hn:σ.length=n)(h:gE (c7 n it t c f k) true σ H Q) :
  G4 (gI K it) g tc (gE f k) m σ H Q:=by
 obtain⟨ρ,d,E,h,q⟩:=h;obtain⟨⟨items,kk⟩,h1,h⟩:=bD h;split at h
 ·rename_i hlim;obtain⟨ys,h2,h⟩:=bD h;cases h;refine⟨ρ,items,kk,E,h1,λJ H1 s1 hJ _ p hp=>?_⟩;have hp0:H p=none:=s1.free hp;refine⟨λi n' vs H'=>n'=items.length-i/\i<=items.length/\H' p=some (.lst vs)/\cL H1 H'/\∃acc,acc.length<=i/\bR (λa=>H a=none/\a≠p) H' vs acc/\gZ (iB n t c f k ρ) acc (items.drop i)=.ok ys,⟨items.length,?_⟩,?_⟩
  ·exact⟨rfl,Nat.zero_le _,aO,cL.upd hp,[],Nat.zero_le _,.nil,h2⟩
  ·rintro i n' vs H' ⟨rfl,hi,hH,sm,acc,hal,racc,hf⟩;refine⟨hH,?_⟩;have hJ':ItQ K All J H' items:=hJ.keep (.same sm) λ_ z=>z
   rcases Nat.lt_or_ge i items.length with hlt|hge
   ·refine .inr ?_;have e:items[i]?=some items[i]:=List.getElem?_eq_getElem hlt;obtain⟨g1,g2⟩:=hJ'.go e;have hl1:items.length<=lim:=of_decide_eq_true hlim;refine⟨g1,?_,λx H2 hy=>?_⟩
    ·rw[racc.length];exact Nat.lt_of_le_of_lt hal (Nat.lt_of_lt_of_le hlt (Nat.le_trans hl1 (by rw[sizeLine_eq];decide)))
    ·obtain⟨sH,rx⟩:=g2 x H2 hy;have hH:=sH p _ hH;have sm:=sm.trans sH;have racc:=racc.same sH;rw[List.drop_eq_getElem_cons hlt] at hf;obtain⟨acc2,hs,hf⟩:=bD hf;obtain⟨bs,hb,hs⟩:=bD hs;obtain⟨ok,hok,hs⟩:=bD hs;refine tg x items[i] bs σ H2 _ hn rx hb λσ2 hx hbs=>⟨hx,hc _ _ _ ?_⟩
     have E2:ER H2 σ2 (GP n ρ++bs):=(E.same (s1.trans sm)).ext hn hx hbs;refine⟨_,ok,E2,hok,λH4 s4=>?_⟩;cases ok with
     |true=>
      rw[if_pos rfl];rw[if_pos rfl] at hs;obtain⟨y,hy2,hs⟩:=bD hs;split at hs
      ·rename_i hk;cases hs;refine⟨_,y,E2.same s4,hy2,λw H5 s5 r5 n5=>⟨s5 p _ (s4 p _ hH),items.length-(i+1),by lia,rfl,hlt,aO,?_,acc++[y],?_,?_,hf⟩⟩
       ·exact λb o e=>by
         rw[bL (dN e hp)];exact s5 b o (s4 b o (sm b o e))
       ·rw[List.length_append,List.length_singleton];lia
       ·have hp5:H5 p=some (.lst vs):=s5 p _ (s4 p _ hH);have ry:Rep (λa=>H a=none/\a≠p) H5 w y:=by
         rw[Bool.or_eq_true] at hk;rcases hk with hk|hk
         ·exact(n5 hk).mono λa ha=>⟨((s1.trans sm).trans s4).free ha,λz=>by subst z;have h0:=s4 _ _ hH;rw[show H4 _=none from ha] at h0;cases h0⟩
         ·exact r5.bO hk
        have all:bR (λa=>H a=none/\a≠p) H5 (vs++[w]) (acc++[y]):=(racc.same (s4.trans s5)).snoc ry;refine all.keep (λb o e hb=>?_) λ_ z=>z
        rw[bL]
        ·exact e
        ·rcases hb with hb|hb
         ·exact hb.2
         ·intro z;subst z;rw[hp5] at e;cases e;cases hb
      ·exact bx hs
     |false=>
      rw[if_neg (by simp)];rw[if_neg (by simp)] at hs;cases hs;exact⟨items.length-(i+1),by lia,rfl,hlt,s4 p _ hH,sm.trans s4,acc,by lia,racc.same s4,hf⟩
   ·refine .inl ⟨hJ'.stop hge,?_⟩;rw[List.drop_eq_nil_of_le hge] at hf;cases hf;exact q _ _ (s1.trans sm) (.lst hH trivial racc.all) λ_=>.lst hH hp0 (racc.mono λa z=>z.1)
 ·exact bx h
def gIx:List Nat->TGs
 |[]=>aJ2
 |i::is=>aEr (rB i) (gIx is)
noncomputable def lR:List Nat->List V->L2.St->L2.St
 |i::is,v::vs,σ=>lR is vs (σ.set i (some v))
 |_,_,σ=>σ
theorem HB:∀(is:List Nat)(vs:List V)(σ:L2.St),vs.length=is.length->Q (lR is vs σ) H->gIx is vs σ H Q
 |[],[],σ,_,q=>⟨rfl,q⟩
 |i::is,v::vs,σ,h,q=>⟨v,vs,rfl,HB is vs (σ.set i (some v)) (by simpa using h) q⟩
 |[],_::_,_,h,_=>by simp at h
 |_::_,[],_,h,_=>by simp at h
theorem zM:∀(is:List Nat)(vs:List V)(σ:L2.St),(lR is vs σ).length=σ.length
 |[],_,_=>by simp[lR]
 |_::_,[],_=>by simp[lR]
 |i::is,v::vs,σ=>by rw[lR,zM is vs];simp
theorem tK:∀(is:List Nat)(vs:List V)(σ:L2.St)(k:Nat),k∉is->(lR is vs σ)[k]?=σ[k]?
 |[],_,_,_,_=>by simp[lR]
 |_::_,[],_,_,_=>by simp[lR]
 |i::is,v::vs,σ,k,h=>by
  rw[List.mem_cons,not_or] at h;rw[lR,tK is vs _ k h.2,List.getElem?_set_ne (Ne.symm h.1)]
theorem KZ:∀(is:List Nat)(vs:List V)(σ:L2.St)(j i:Nat)(v:V),is.Nodup->(∀i∈is,i<σ.length)->is[j]?=some i->vs[j]?=some v->(lR is vs σ)[i]?=some (some v)
 |[],_,_,_,_,_,_,_,h,_=>by simp at h
 |_::_,[],_,_,_,_,_,_,_,h=>by simp at h
 |a::is,w::vs,σ,0,i,v,hn,hl,h1,h2=>by
  have e1:a=i:=by simpa using h1
  have e2:w=v:=by simpa using h2
  subst e1 e2;rw[lR,tK is vs _ a (List.nodup_cons.mp hn).1,List.getElem?_set_self (hl a (List.mem_cons_self ..))]
 |a::is,w::vs,σ,j+1,i,v,hn,hl,h1,h2=>by
  rw[lR];exact KZ is vs _ j i v (List.nodup_cons.mp hn).2 (λi hi=>by rw[List.length_set];exact hl i (List.mem_cons_of_mem _ hi)) (by simpa using h1) (by simpa using h2)
theorem fJ(n:Nat):TgC (rB n) h_ n 1:=by
 intro v d bs σ H Q hn r h q;cases h;have hl:(σ++List.replicate 1 (none:Option V)).length=n+1:=by simp[hn]
 refine q _ ⟨by simp,λi w hi=>?_⟩ λj b hj=>?_
 ·have:i≠n:=λz=>by
   subst z;rw[List.getElem?_append_right (by lia)] at hi;simp[hn] at hi
  rw[List.getElem?_set_ne (Ne.symm this)];exact hi
 ·have e:j=0:=by
   have:=(List.getElem?_eq_some_iff.mp hj).1;simp at this;exact this
  subst e;have e:d=b:=by simpa using hj
  subst e;exact⟨v,by rw[Nat.add_zero,List.getElem?_set_self (by lia)],r⟩
theorem aC9(K:PySem.W.Frag)(n m:Nat):TgC (aHp K m (gIx (List.range' n m))) (aFk m) n m:=by
 intro v d bs σ H Q hn r h q;cases d<;>simp only[aFk] at h<;>(try (exact bx h;done))
 split at h
 ·rename_i hm;cases h;have hm':=of_decide_eq_true hm;obtain⟨a,xs,rfl,e,rr⟩:=r.eX;refine⟨a,xs,rfl,.of e,by rw[rr.length];exact hm',HB _ _ _ (by rw[rr.length,hm'];simp) ?_⟩;refine q _ ⟨by rw[zM],λi w hi=>?_⟩ λj b hj=>?_
  ·rw[tK]
   ·exact hi
   ·intro hmem;have:=List.mem_range'_1.mp hmem;rw[List.getElem?_append_right (by lia)] at hi;rw[List.getElem?_replicate] at hi;split at hi<;>cases hi
  ·obtain⟨w,h1,h2⟩:=rr.get hj;have hjm:j<m:=by rw[<-hm'];exact(List.getElem?_eq_some_iff.mp hj).1
   refine⟨w,KZ _ _ _ j (n+j) w (List.nodup_range' ..) (λi hi=>?_) ?_ h1,h2⟩
   ·have:=List.mem_range'_1.mp hi;simp[hn];lia
   ·rw[List.getElem?_range' hjm];simp
 ·exact bx h
section
variable {X:Cx} {scope:Scope} {ownN:List Str} {elt iter tg c:Expr} {it:FI} {t:D->Res (List D)} {g:TG} {gc:FT} {fe:FE} {re:Bool} {pos:Pos}
theorem aCa(S:cH X.N X.env.scope scope ownN)(hn:X.N.length=n)(hm:ownN.length=m)(hcalm:X.calm=true)(hi:PI X tg iter (gI X.K it))(ht:TgC g t n m)(hg:∀X',cO X X' scope ownN->PG X' tg g)(he:∀X',cO X X' scope ownN->PE X' elt (gE fe re))
 (hs:∀x,foldedSetIterable iter X.env x=pure x):PE X (.ListComp elt [⟨tg,iter,[],0⟩] scope pos) (gE (c7 n it t dZ fe re) true):=by
 intro pins s σ H Q I h;subst hm;exact YJ S hcalm hi hg he hs pins s σ H Q I (oH ht (λσ H Q h=>by obtain⟨ρ,b,E,h,q⟩:=h;cases h;exact q H (cL.refl H)) (I.len.trans hn) h)
theorem T_(S:cH X.N X.env.scope scope ownN)(hn:X.N.length=n)(hm:ownN.length=m)(hcalm:X.calm=true)(hi:PI X tg iter (gI X.K it))(ht:TgC g t n m)(hg:∀X',cO X X' scope ownN->PG X' tg g)(hc:∀X',cO X X' scope ownN->PT X' c (gT gc))(he:∀X',cO X X' scope ownN->PE X' elt (gE fe re))
 (hs:∀x,foldedSetIterable iter X.env x=pure x):PE X (.ListComp elt [⟨tg,iter,[c],0⟩] scope pos) (gE (c7 n it t gc fe re) true):=by
 intro pins s σ H Q I h;subst hm;exact S_ S hcalm hi hg hc he hs pins s σ H Q I (oH ht (λσ H Q h=>h) (I.len.trans hn) h)
end
theorem jF.bO:∀{v:List (Key×V)}{d:List (D×D)},jF P H v d->D.bA (d.map (·.2))=true->jF P' H v d
 |_,_,.nil,_=>.nil
 |_,_,.cons r t,h=>by
  rw[List.map_cons,D.bA,Bool.and_eq_true] at h;exact .cons (r.bO h.1) (t.bO h.2)
theorem oF.bO:∀{v:List (List Key×V)}{d:List (D×D)},oF P H v d->D.bA (d.map (·.2))=true->oF P' H v d
 |_,_,.nil,_=>.nil
 |_,_,.cons r t,h=>by
  rw[List.map_cons,D.bA,Bool.and_eq_true] at h;exact .cons (r.bO h.1) (t.bO h.2)
theorem Rep.aJ5(r:Rep P H (.ref a) d)(h:inner d=true)(hp:P' a):Rep P' H (.ref a) d:=by
 cases r with
 |tup e r=>cases h
 |lst e p r=>exact .lst e hp (r.bO h)
 |cel e p r=>exact .cel e hp (r.bO h)
 |frz e r=>cases h
 |dK e p r n=>exact .dK e hp (r.bO h) n
 |dT e p r n=>exact .dT e hp (r.bO h) n
 |fdK e r n=>cases h
 |fdT e r n=>cases h
 |exc n e q=>cases h
 |ins n e q=>cases h
def Own(own:Nat->Bool)(σ:L2.St)(a:Addr):Prop:=∃i,own i=true/\σ[i]?=some (some (.ref a))
structure ES(own:Nat->Bool)(H:Hp)(σ:L2.St)(ρ:List D):Prop where
 len:σ.length=ρ.length
 at_:∀i,ρ.getD i .uD≠.uD->∃v,σ[i]?=some (some v)/\(own i=false->Rep (λa=>¬Own own σ a) H v (ρ.getD i .uD))
 own:∀i v,own i=true->σ[i]?=some (some v)->∃a o,v=.ref a/\Rep All H v (ρ.getD i .uD)/\inner (ρ.getD i .uD)=true/\H a=some o/\N8 o=true/\∀j,own j=true->σ[j]?=some (some (.ref a))->j=i
variable {own:Nat->Bool}
theorem ES.er(e:ES own H σ ρ):ER H σ ρ:=λi hi=>by
 obtain⟨v,h1,h2⟩:=e.at_ i hi;cases ho:own i with
 |false=>exact⟨v,h1,(h2 ho).all⟩
 |true=>
  obtain⟨a,o,_,h3,_⟩:=e.own i v ho h1;exact⟨v,h1,h3⟩
theorem ES.live(e:ES own H σ ρ)(h:Own own σ a):∃o,H a=some o/\N8 o=true:=by
 obtain⟨i,hi,hs⟩:=h;obtain⟨b,o,eb,_,_,h3,h4,_⟩:=e.own i _ hi hs;cases eb;exact⟨o,h3,h4⟩
theorem ES.same(e:ES own H σ ρ)(s:cL H H'):ES own H' σ ρ:=by
 refine⟨e.len,λi hi=>?_,λi v hi hv=>?_⟩
 ·obtain⟨v,h1,h2⟩:=e.at_ i hi;exact⟨v,h1,λho=>(h2 ho).same s⟩
 ·obtain⟨a,o,h1,h2,h3,h4,h5,h6⟩:=e.own i v hi hv;exact⟨a,o,h1,h2.same s,h3,s _ _ h4,h5,h6⟩
def KU(own:Nat->Bool)(σ:L2.St)(H:Hp)(σ':L2.St)(H':Hp):Prop:=∀a o,H a=some o->¬Own own σ a->H' a=some o/\¬Own own σ' a
theorem KU.trans(a:KU own σ H σ1 H1)(b:KU own σ1 H1 σ2 H2):KU own σ H σ2 H2:=λc o e n=>let ⟨e1,n1⟩:=a c o e n;b c o e1 n1
theorem KU.same(s:cL H H'):KU own σ H σ H':=λa o e n=>⟨s a o e,n⟩
theorem KU.keep(k:KU own σ H σ' H')(e:ES own H σ ρ):J6 (λa=>¬Own own σ a) H H':=λa o h hp=>by
 by_cases ho:Own own σ a
 ·obtain⟨o',h1,h2⟩:=e.live ho;rw[h] at h1;cases h1;rcases hp with hp|hp
  ·exact absurd ho hp
  ·rw[h2] at hp;cases hp
 ·exact(k a o h ho).1
theorem KU.rep(k:KU own σ H σ' H')(e:ES own H σ ρ)(r:Rep (λa=>¬Own own σ a) H v d):Rep (λa=>¬Own own σ' a) H' v d:=r.YH (k.keep e) λa o h n=>(k a o h n).2
def kRt(own:Nat->Bool)(D:Ends)(σ:L2.St)(H:Hp)(d:Mi.D):Prop:=if own rtX=true then ∃d0 ρ',d=.tup (d0::ρ')/\∀v σ' H',KU own σ H σ' H'->ES own H' σ' ρ'->Rep (λa=>(Own own σ a\/H a=none)/\∀i b xs,ρ'.getD i .uD=.cel b xs->a≠b) H' v d0->D.rt v H'
  else ∀v H',(∀a o,H a=some o->¬Own own σ a->H' a=some o)->Rep (λa=>Own own σ a\/H a=none) H' v d->D.rt v H'
theorem kRt.old{D:Ends}(h:kRt own D σ H d)(hx:own rtX=false):∀v H',(∀a o,H a=some o->¬Own own σ a->H' a=some o)->Rep (λa=>Own own σ a\/H a=none) H' v d->D.rt v H':=by
 unfold kRt at h;rw[if_neg (by rw[hx];simp)] at h;exact h
theorem kRt.mk{D:Ends}(hx:own rtX=false)(h:∀v H',(∀a o,H a=some o->¬Own own σ a->H' a=some o)->Rep (λa=>Own own σ a\/H a=none) H' v d->D.rt v H'):kRt own D σ H d:=by
 unfold kRt;rw[if_neg (by rw[hx];simp)];exact h
def kS(own:Nat->Bool)(D:Ends)(σ:L2.St)(H:Hp):Fl->Prop
 |.nx ρ=>∀σ' H',KU own σ H σ' H'->ES own H' σ' ρ->D.nx σ' H'
 |.bk ρ=>∀σ' H',KU own σ H σ' H'->ES own H' σ' ρ->D.bk σ' H'
 |.ct ρ=>∀σ' H',KU own σ H σ' H'->ES own H' σ' ρ->D.ct σ' H'
 |.rt d=>kRt own D σ H d
theorem kS.step{D:Ends}{σ σ':L2.St}{H H':Hp}{fl:Fl}(k:KU own σ H σ' H')(h:kS own D σ H fl):kS own D σ' H' fl:=by
 cases fl with
 |nx ρ=>exact λσ2 H2 k2 e=>h σ2 H2 (k.trans k2) e
 |bk ρ=>exact λσ2 H2 k2 e=>h σ2 H2 (k.trans k2) e
 |ct ρ=>exact λσ2 H2 k2 e=>h σ2 H2 (k.trans k2) e
 |rt d=>
  have old:∀a,(Own own σ' a\/H' a=none)->Own own σ a\/H a=none:=λa ha=>by
   cases q:H a with
   |none=>exact .inr rfl
   |some o=>
    refine .inl (Classical.byContradiction λn=>?_);obtain⟨e1,n1⟩:=k a o q n;rcases ha with ha|ha
    ·exact n1 ha
    ·rw[e1] at ha;cases ha
  have h:kRt own D σ H d:=h;show kRt own D σ' H' d;unfold kRt at h ⊢;by_cases hx:own rtX=true
  ·rw[if_pos hx] at h ⊢;obtain⟨d0,ρ',e,g⟩:=h;exact⟨d0,ρ',e,λv σ2 H2 k2 E2 r=>g v σ2 H2 (k.trans k2) E2 (r.mono λa ha=>⟨old a ha.1,ha.2⟩)⟩
  ·rw[if_neg hx] at h ⊢;exact λv H2 hk r=>h v H2 (λa o e n=>let ⟨e1,n1⟩:=k a o e n;hk a o e1 n1) (r.mono λa ha=>old a ha)
noncomputable def tS(own:Nat->Bool)(f:FS):TS:=λD σ H=>∃ρ fl,ES own H σ ρ/\f ρ=.ok fl/\kS own D σ H fl
theorem PS.imp{st:Stmt}(h:PS X st t)(i:∀D σ H,t' D σ H->t D σ H):PS X st t':=λpins s σ H D I q=>h pins s σ H D I (i D σ H q)
theorem PSs.imp{st:List Stmt}{t t':TS}(h:PSs X st t)(i:∀D σ H,t' D σ H->t D σ H):PSs X st t':=λpins s σ H D I q=>h pins s σ H D I (i D σ H q)
section
variable {X:Cx} {a b c e:Expr} {pos pos':Pos} {fe:FE} {re:Bool} {gc:FT} {f g:FS} {st:Stmt} {rest s1 s2:List Stmt}
theorem eG:PSs X [] (tS own o6):=PSs.imp aB6 λD σ H ⟨ρ,fl,E,h,q⟩=>by
 cases h;exact q σ H (λa o e n=>⟨e,n⟩) E
theorem aCb{D:Ends}(h:tS own (bF f g) D σ H):aJ1 (tS own f) (tS own g) D σ H:=by
 obtain⟨ρ,fl,E,h,q⟩:=h;obtain⟨r,h1,h2⟩:=bD h;refine⟨ρ,r,E,h1,?_⟩;cases r with
 |nx ρ'=>exact λσ' H' k E'=>⟨ρ',fl,E',h2,q.step k⟩
 |bk ρ'=>cases h2;exact q
 |ct ρ'=>cases h2;exact q
 |rt d=>cases h2;exact q
theorem aG(h1:PS X st (tS own f))(h2:PSs X rest (tS own g)):PSs X (st::rest) (tS own (bF f g)):=PSs.imp (XQ h1 h2) λ_ _ _=>aCb
theorem aX(h1:PS X st (tS own f)):PSs X [st] (tS own f):=aB7 h1
theorem lG(hc:PT X c (gT gc))(ha:PSs X s1 (tS own f))(hb:PSs X s2 (tS own g)):PS X (.If c s1 s2 pos) (tS own (sIf gc f g)):=PS.imp (aEq hc ha hb) λD σ H ⟨ρ,fl,E,h,q⟩=>by
 obtain⟨k,h1,h2⟩:=bD h;refine⟨ρ,k,E.er,h1,λH' s=>?_⟩;cases k with
 |true=>rw[if_pos rfl];rw[if_pos rfl] at h2;exact⟨ρ,fl,E.same s,h2,q.step (.same s)⟩
 |false=>rw[if_neg (by simp)];rw[if_neg (by simp)] at h2;exact⟨ρ,fl,E.same s,h2,q.step (.same s)⟩
theorem fQ(he:PE X e (gE fe re))(hx:own rtX=false:=by rfl):PS X (.Return (some e) pos) (tS own (nR fe re)):=PS.imp (aA8 he) λD σ H ⟨ρ,fl,E,h,q⟩=>by
 obtain⟨d,h1,h2⟩:=bD h;split at h2
 ·rename_i hk;cases h2;refine⟨ρ,d,E.er,h1,λv H' s r n=>q.old hx v H' (λa o e _=>s a o e) ?_⟩;rw[Bool.or_eq_true] at hk;rcases hk with hk|hk
  ·exact(n hk).mono λa ha=>.inr ha
  ·exact r.bO hk
 ·exact bx h2
theorem wU(ho:own i=true)(hN:X.N[i]?=some x)(hv:Vis X.env.scope x)(hd:nDb x:=by decide)(hcd:nCd x:=by decide)(hx:own rtX=false:=by rfl):PS X (.Return (some (.Name x pos')) pos) (tS own (R_ i)):=
 PS.imp (aA8 (kW hN hv hd hcd)) λD σ H ⟨ρ,fl,E,h,q⟩=>by
 obtain⟨d,h1,h2⟩:=bD h;cases h2;obtain⟨v,hv,r,e⟩:=E.er.var h1;obtain⟨a,o,rfl,r2,hin,_⟩:=E.own i v ho hv;rw[e] at hin;exact⟨_,hv,q.old hx _ H (λa o e _=>e) (r.aJ5 hin (.inl ⟨i,ho,hv⟩))⟩
theorem aCc(he:PE X e (gE fe re))(hs:swapsWith e none pos.line X.env=pure false:=by rfl):PS X (.Expr e pos) (tS own (aBv fe)):=PS.imp (vV he hs) λD σ H ⟨ρ,fl,E,h,q⟩=>by
 obtain⟨d,h1,h2⟩:=bD h;cases h2;exact⟨ρ,d,E.er,h1,λv H' s r n=>q σ H' (.same s) (E.same s)⟩
theorem nG(ho:own i=false)(a:Addr):Own own (σ.set i (some v)) a↔Own own σ a:=by
 constructor
 ·rintro⟨j,hj,e⟩;have:i≠j:=λz=>by subst z;rw[ho] at hj;cases hj
  rw[List.getElem?_set_ne this] at e;exact⟨j,hj,e⟩
 ·rintro⟨j,hj,e⟩;have:i≠j:=λz=>by subst z;rw[ho] at hj;cases hj
  exact⟨j,hj,by rw[List.getElem?_set_ne this];exact e⟩
theorem d7{ρ:List D}:(ρ.set i d).getD j .uD=if i=j/\i<ρ.length then d else ρ.getD j .uD:=by
 rw[List.getD_eq_getElem?_getD,List.getD_eq_getElem?_getD,List.getElem?_set];by_cases h:i=j
 ·subst h;by_cases h2:i<ρ.length
  ·simp[h2]
  ·simp[h2]
 ·simp[h]
theorem ES.set(E:ES own H σ ρ)(ho:own i=false)(r:Rep (λa=>¬Own own σ a) H v d):ES own H (σ.set i (some v)) (ρ.set i d):=by
 have hO:(λa=>¬Own own (σ.set i (some v)) a)=λa=>¬Own own σ a:=funext λa=>by rw[nG ho]
 refine⟨by simp[E.len],λj hj=>?_,λj w hj hw=>?_⟩
 ·rw[d7] at hj ⊢;rw[hO];by_cases h:i=j/\i<ρ.length
  ·rw[if_pos h];obtain⟨rfl,hl⟩:=h;exact⟨v,by rw[List.getElem?_set_self (by rw[E.len];exact hl)],λ_=>r⟩
  ·rw[if_neg h] at hj ⊢;obtain⟨w,h1,h2⟩:=E.at_ j hj;by_cases hij:i=j
   ·subst hij;have:i<σ.length:=(List.getElem?_eq_some_iff.mp h1).1;rw[E.len] at this;exact absurd ⟨rfl,this⟩ h
   ·exact⟨w,by rw[List.getElem?_set_ne hij];exact h1,h2⟩
 ·have hij:i≠j:=λz=>by subst z;rw[ho] at hj;cases hj
  rw[List.getElem?_set_ne hij] at hw;rw[d7,if_neg λz=>hij z.1];obtain⟨a,o,h1,h2,h3,h4,h5,h6⟩:=E.own j w hj hw;refine⟨a,o,h1,h2,h3,h4,h5,λk hk hs=>h6 k hk ?_⟩;have hik:i≠k:=λz=>by subst z;rw[ho] at hk;cases hk
  rwa [List.getElem?_set_ne hik] at hs
theorem ES.aK3{i:Nat}{a:Addr}{o:HO}{d:D}(E:ES own H σ ρ)(s:cL H H')(ho:own i=true)(hn:H a=none)(r:Rep All H' (.ref a) d)(hin:inner d=true)(ha:H' a=some o)(hm:N8 o=true) :
  ES own H' (σ.set i (some (.ref a))) (ρ.set i d)/\KU own σ H (σ.set i (some (.ref a))) H':=by
 have hO:∀b,H b≠none->¬Own own σ b->¬Own own (σ.set i (some (.ref a))) b:=λb hb n ⟨j,hj,e⟩=>by
  by_cases hij:i=j
  ·subst hij;by_cases hl:i<σ.length
   ·rw[List.getElem?_set_self hl] at e;cases e;exact hb hn
   ·rw[List.getElem?_set,if_pos rfl,if_neg hl] at e;cases e
  ·rw[List.getElem?_set_ne hij] at e;exact n ⟨j,hj,e⟩
 refine⟨⟨by simp[E.len],λj hj=>?_,λj w hj hw=>?_⟩,λb ob e n=>⟨s b ob e,hO b (by rw[e];simp) n⟩⟩
 ·rw[d7] at hj ⊢;by_cases h:i=j/\i<ρ.length
  ·rw[if_pos h];obtain⟨rfl,hl⟩:=h;exact⟨.ref a,by rw[List.getElem?_set_self (by rw[E.len];exact hl)],λz=>by rw[ho] at z;cases z⟩
  ·rw[if_neg h] at hj ⊢;obtain⟨w,h1,h2⟩:=E.at_ j hj;by_cases hij:i=j
   ·subst hij;have:i<σ.length:=(List.getElem?_eq_some_iff.mp h1).1;rw[E.len] at this;exact absurd ⟨rfl,this⟩ h
   ·exact⟨w,by rw[List.getElem?_set_ne hij];exact h1,λhj=>((h2 hj).dom.same s).mono λb ⟨n,hb⟩=>hO b hb n⟩
 ·by_cases hij:i=j
  ·subst hij;have hl:i<σ.length:=by
    have:=(List.getElem?_eq_some_iff.mp hw).1;simpa using this
   rw[List.getElem?_set_self hl] at hw;cases hw;rw[d7,if_pos ⟨rfl,by rw[<-E.len];exact hl⟩];refine⟨a,o,rfl,r,hin,ha,hm,λk hk hs=>?_⟩;by_cases hik:i=k
   ·exact hik.symm
   ·rw[List.getElem?_set_ne hik] at hs;obtain⟨o',h1,_⟩:=E.live ⟨k,hk,hs⟩;rw[hn] at h1;cases h1
  ·rw[List.getElem?_set_ne hij] at hw;rw[d7,if_neg λz=>hij z.1];obtain⟨b,ob,h1,h2,h3,h4,h5,h6⟩:=E.own j w hj hw;refine⟨b,ob,h1,h2.same s,h3,s _ _ h4,h5,λk hk hs=>?_⟩;by_cases hik:i=k
   ·subst hik;by_cases hl:i<σ.length
    ·rw[List.getElem?_set_self hl] at hs;cases hs;rw[hn] at h4;cases h4
    ·rw[List.getElem?_set,if_pos rfl,if_neg hl] at hs;cases hs
   ·rw[List.getElem?_set_ne hik] at hs;exact h6 k hk hs
theorem aAn(r:Rep P H v d)(hin:inner d=true):∃a o,v=.ref a/\P a/\H a=some o/\N8 o=true:=by
 cases r with
 |lst e p r=>exact⟨_,_,rfl,p,e,rfl⟩
 |cel e p r=>exact⟨_,_,rfl,p,e,rfl⟩
 |dK e p r n=>exact⟨_,_,rfl,p,e,rfl⟩
 |dT e p r n=>exact⟨_,_,rfl,p,e,rfl⟩
 |fdK e r n=>cases hin
 |fdT e r n=>cases hin
 |_=>cases hin
theorem UG(E:ES own H σ ρ)(r:Rep (New H) H' v d):Rep (λa=>¬Own own σ a) H' v d:=r.mono λa ha ho=>by
 obtain⟨o,h1,_⟩:=E.live ho;rw[show H a=none from ha] at h1;cases h1
theorem wV(ho:own i=o)(h:tS own (bN o i fe re) D' σ H):aE1 (gE fe re) (rB i) D' σ H:=by
 obtain⟨ρ,fl,E,h,q⟩:=h;obtain⟨d,h1,h2⟩:=bD h;cases o with
 |true=>
  simp only[if_true] at h2;split at h2
  ·rename_i hk;cases h2;refine⟨ρ,d,E.er,h1,λv H' s r n=>?_⟩;rw[Bool.and_eq_true] at hk;obtain⟨a,ob,rfl,hn,ha,hm⟩:=aAn (n hk.1) hk.2;obtain⟨E2,k⟩:=E.aK3 s ho hn r hk.2 ha hm;exact q _ H' k E2
  ·exact bx h2
 |false=>
  simp only[Bool.false_eq_true,if_false] at h2;split at h2
  ·rename_i hk;cases h2;refine⟨ρ,d,E.er,h1,λv H' s r n=>?_⟩;rw[Bool.or_eq_true] at hk;have r2:Rep (λa=>¬Own own σ a) H' v d:=by
    rcases hk with hk|hk
    ·exact UG E (n hk)
    ·exact r.bO hk
   exact q _ H' (λa ob e hn=>⟨s a ob e,by rw[nG ho];exact hn⟩) ((E.same s).set ho r2)
  ·exact bx h2
theorem aG3(ho:own i=o)(hN:X.N.Nodup)(hi:X.N[i]?=some x)(hx:Loc X.env.scope x)(he:PE X e (gE fe re))(hs:swapsWith e (some (.Name x pos')) pos.line X.env=pure false:=by rfl)(hf:X.fn x=true\/X.env.scope.names.lookup x=some .local:=by first|exact .inl rfl|exact .inr rfl|assumption) :
  PS X (.Assign [.Name x pos'] e pos) (tS own (bN o i fe re)):=PS.imp (Q3 hN hi hx he hs hf) λ_ _ _=>wV ho
theorem bU(he:PE X e (gE fe re))(ho:own i=o:=by rfl)(hN:X.N.Nodup:=by assumption)(hi:X.N[i]?=some x:=by exact rfl)(hx:Loc X.env.scope x:=by trivial)(hs:swapsWith e (some (.Name x pos')) pos.line X.env=pure false:=by rfl)(hf:X.fn x=true\/X.env.scope.names.lookup x=some .local:=by first|exact .inl rfl|exact .inr rfl|assumption):PS X (.Assign [.Name x pos'] e pos) (tS own (bN o i fe re)):=aG3 ho hN hi hx he hs hf
theorem ES.mut{i:Nat}{a:Addr}{o:HO}{d:D}(E:ES own H σ ρ)(ho:own i=true)(hi:σ[i]?=some (some (.ref a)))(hm:N8 o=true)(r:Rep All (upd H a o) (.ref a) d)(hin:inner d=true) :
  ES own (upd H a o) σ (ρ.set i d)/\KU own σ H σ (upd H a o):=by
 have hOa:Own own σ a:=⟨i,ho,hi⟩
 obtain⟨a',oa,ea,_,_,hHa,hma,huq⟩:=E.own i _ ho hi;cases ea;have k:KU own σ H σ (upd H a o):=λb ob e n=>⟨by rw[bL (λz=>by subst z;exact n hOa)];exact e,n⟩
 have hl:i<ρ.length:=by rw[<-E.len];exact(List.getElem?_eq_some_iff.mp hi).1
 refine⟨⟨by simp[E.len],λj hj=>?_,λj w hj hw=>?_⟩,k⟩
 ·rw[d7] at hj ⊢;by_cases h:i=j/\i<ρ.length
  ·obtain⟨rfl,_⟩:=h;exact⟨_,hi,λz=>by rw[ho] at z;cases z⟩
  ·rw[if_neg h] at hj ⊢;obtain⟨w,h1,h2⟩:=E.at_ j hj;exact⟨w,h1,λhj=>k.rep E (h2 hj)⟩
 ·by_cases hij:i=j
  ·subst hij;rw[hi] at hw;cases hw;rw[d7,if_pos ⟨rfl,hl⟩];exact⟨a,o,rfl,r,hin,aO,hm,huq⟩
  ·rw[d7,if_neg λz=>hij z.1];obtain⟨b,ob,h1,h2,h3,h4,h5,h6⟩:=E.own j w hj hw;subst h1;have hba:b≠a:=λz=>by subst z;exact hij (h6 i ho hi)
   refine⟨b,ob,rfl,?_,h3,by rw[bL hba];exact h4,h5,h6⟩;refine(h2.aJ5 (P':=λc=>c=b) h3 rfl).keep (λc oc hc hp=>?_) λ_ _=>trivial
   rw[bL]
   ·exact hc
   ·intro z;subst z;rcases hp with hp|hp
    ·exact hba hp.symm
    ·rw[hHa] at hc;cases hc;rw[hma] at hp;cases hp
theorem ES.ownAt(E:ES own H σ ρ)(ho:own i=true)(hd:ρ.getD i .uD≠.uD):∃a o,σ[i]?=some (some (.ref a))/\Rep All H (.ref a) (ρ.getD i .uD)/\inner (ρ.getD i .uD)=true/\H a=some o/\N8 o=true:=by
 obtain⟨v,h1,_⟩:=E.at_ i hd;obtain⟨a,o,rfl,h2,h3,h4,h5,_⟩:=E.own i v ho h1;exact⟨a,o,h1,h2,h3,h4,h5⟩
theorem tL{a:Addr}(r:Rep All H (.ref a) (.lst xs)):∃vs,H a=some (.lst vs)/\bR All H vs xs:=by
 cases r with
 |lst e _ r=>exact⟨_,e,r⟩
theorem bR.upd{a:Addr}{vs:List V}{xs:List D}{o:HO}{ob:HO}(r:bR All H vs xs)(hp:D.bA xs=true)(ha:H a=some ob)(hm:N8 ob=true):bR All (upd H a o) vs xs:=by
 refine(r.bO (P':=λ_=>False) hp).keep (λc oc hc h=>?_) λ_ h=>h.elim
 rw[bL]
 ·exact hc
 ·intro z;subst z;rcases h with h|h
  ·exact h
  ·rw[ha] at hc;cases hc;rw[hm] at h;cases h
theorem oJ:D.bA (xs++ys)=(D.bA xs&&D.bA ys):=by
 induction xs with
 |nil=>simp[D.bA]
 |cons x xs ih=>rw[List.cons_append,D.bA,D.bA,ih,Bool.and_assoc]
theorem lA(ho:own i=true)(hN:X.N[i]?=some x)(hv:Vis X.env.scope x)(he:PE X e (gE fe re))(hd:nDb x:=by decide)(hcd:nCd x:=by decide)
 (hbase:attributeBase (.Name x p1) "append" X.env (eval (.Name x p1) X.env)=eval (.Name x p1) X.env:=by rfl)
 (hs1:starEach [e] X.env=(false,eval e X.env)::starEach [] X.env:=by rfl)
 (hfew:((backTo cpos (starEach [e] X.env)).all (λx=>!x.1)&&(backToKw cpos (keywordEach [] X.env)).all (λx=>x.1.isSome)
  &&decide (([e]:List Expr).length+([]:List Keyword).length+(if ([]:List Keyword).isEmpty then 0 else 1)<30))=true:=by rfl)
 (hline:(apos.endLine==cpos.line)=true:=by rfl)
 (hs:swapsWith (.Call (.Attribute (.Name x p1) "append" apos) [e] [] cpos) none pos.line X.env=pure false:=by rfl) :
  PS X (.Expr (.Call (.Attribute (.Name x p1) "append" apos) [e] [] cpos) pos) (tS own (o7 i fe)):=
 PS.imp (vV (M9 PySem.F.plainAttrs_list PySem.F.slot_list_append PySem.F.type_list_append sE (kW hN hv hd hcd) (gY he mY hs1) hbase hfew hline hs1 rfl) hs) λD' σ H ⟨ρ,fl,E,h,q⟩=>by
 obtain⟨d,h1,h2⟩:=bD h;split at h2
 ·rename_i xs hx;split at h2
  ·rename_i hk;cases h2;rw[Bool.and_eq_true] at hk;obtain⟨a,o,hσ,r,hin,ha,hm⟩:=E.ownAt ho (by rw[hx];intro z;cases z);rw[hx] at r hin;obtain⟨vs,hl,rr⟩:=tL r;refine⟨_,hσ,.inl ⟨rfl,vs,.of hl⟩,ρ,d,E.er,h1,λv H' s rv _=>⟨a,vs,v,rfl,rfl,s _ _ hl,by rw[rr.length];exact TQ hk.1,?_⟩⟩;have E':=E.same s;have hl':=s _ _ hl;obtain⟨E2,k2⟩:=E'.mut (o:=.lst (vs++[v])) (d:=.lst (xs++[d])) ho hσ rfl (.lst aO trivial (((rr.same s).snoc rv).upd (by rw[oJ];simp only[Bool.and_eq_true];exact⟨hin,by simp[D.bA,hk.2]⟩) hl' rfl)) (by show D.bA (xs++[d])=true;rw[oJ];simp only[Bool.and_eq_true];exact⟨hin,by simp[D.bA,hk.2]⟩);exact q _ _ ((KU.same s).trans k2) E2
  ·exact bx h2
 ·exact bx h2
end
end Mi
namespace L2
open PySem PySem.Spec PyProof.Rows
section
variable {X:Cx} {scope:Scope} {own:List Str}
theorem YZ(hNn:X.N.Nodup)(hiy:X.N[iy]?=some y)(hxy:Loc X.env.scope y)(hfy:X.fn y=true\/X.env.scope.names.lookup y=some .local)(f:Inv X pins σ H5 s6)(k:QL X pins H5 C)(n:s6.heap.Ns C m6)(q:rB iy (.ref p) σ H5 D.nx):compPost (model X.prog X.w) X.A X.xe (some (assign (.Name y py) X.env)) (λ_ s'=>SP X pins D .next s') (.ref p) C (.ok .next) s6:=by
 obtain⟨oC,esC,epC,hoC,hdC,_⟩:=id n;have finP:=f.DW (pins':=pins++[(C,oC)]) λp hp=>(List.mem_append.mp hp).elim (λz=>f.pin p (List.mem_append_right _ z)) λz=>by
  have z':p=(C,oC):=by simpa using z
  subst z';exact⟨hoC,k.1,k.2.1,k.2.2.1,λv z=>by rw[hdC] at z;cases z⟩
 refine thn (bI (pos:=py) hNn hiy hxy hfy _ _ σ H5 (.ref p) (.ref p) D.nx finP rfl q) λ_ s7 ⟨σ7,H7,I7,q7⟩=>?_
 obtain⟨g7,hC7,_⟩:=I7.pin (C,oC) (List.mem_append_right _ (List.mem_append_right _ (by simp)));refine⟨m6,n.at' λo e=>?_,λh' sb=>⟨σ7,H7,Inv.turned (t':=s7.toks) I7.nT (λb o hb e=>sb.extBut b o hb e) hC7 k.2.1 k.2.2.2.1 k.2.2.2.2.1 k.2.2.2.2.2,q7⟩⟩;rw[hoC] at e;cases e;exact g7
theorem aG4(S:cH X.N X.env.scope scope own)(hcalm:X.calm=true)(hi:PI X tg iter wi)
 (hg:∀X',cO X X' scope own->PG X' tg g)(hc:(ifs=[]/\tc=λ_ H Q=>Q true H)\/∃c,ifs=[c]/\∀X',cO X X' scope own->PT X' c tc)(he:∀X',cO X X' scope own->PE X' elt te)
 (hs:∀x,foldedSetIterable iter X.env x=pure x)(hNn:X.N.Nodup)(hiy:X.N[iy]?=some y)(hxy:Loc X.env.scope y)(hfy:X.fn y=true\/X.env.scope.names.lookup y=some .local)(hsw:swapsWith (.ListComp elt [⟨tg,iter,ifs,0⟩] scope pos) (some (.Name y py)) pos2.line X.env=pure true):PS X (.Assign [.Name y py] (.ListComp elt [⟨tg,iter,ifs,0⟩] scope pos) pos2) (aE1 (G4 wi g tc te own.length) (rB iy)):=by
 intro pins s σ H D I h;rw[exec_Assign_Name_used _ _ _ _ hsw];refine wpAny_bind (wpAny_standAt (wpAny_bind ?_));show wpAny _ X.A (do let _ <- comprehension (.ListComp elt [⟨tg,iter,ifs,0⟩] scope pos) scope X.env _ (newList []) false (eval iter X.env) (some (assign (.Name y py) X.env))) _ _ s;exact wpAny_bind (wpAny_mono (G5 (QQ:=λ_ s'=>SP X pins D .next s') S hcalm hi hg hc he hs I h (YZ hNn hiy hxy hfy)) (λ_ s' hq=>wpAny_pure (wpAny_pure hq)) λ_ _ e=>e)
theorem zN(S:cH X.N X.env.scope scope own)(hcalm:X.calm=true)(hi:PI X tg iter wi)
 (hg:∀X',cO X X' scope own->PG X' tg g)(hc:∀X',cO X X' scope own->PT X' c tc)(he:∀X',cO X X' scope own->PE X' elt te)
 (hs:∀x,foldedSetIterable iter X.env x=pure x)(hNn:X.N.Nodup)(hiy:X.N[iy]?=some y)(hxy:Loc X.env.scope y)(hfy:X.fn y=true\/X.env.scope.names.lookup y=some .local)(hsw:swapsWith (.ListComp elt [⟨tg,iter,[c],0⟩] scope pos) (some (.Name y py)) pos2.line X.env=pure true):PS X (.Assign [.Name y py] (.ListComp elt [⟨tg,iter,[c],0⟩] scope pos) pos2) (aE1 (G4 wi g tc te own.length) (rB iy)):=
 aG4 S hcalm hi hg (.inr ⟨c,rfl,hc⟩) he hs hNn hiy hxy hfy hsw
theorem Y0(S:cH X.N X.env.scope scope own)(hcalm:X.calm=true)(hi:PI X tg iter wi)
 (hg:∀X',cO X X' scope own->PG X' tg g)(he:∀X',cO X X' scope own->PE X' elt te)
 (hs:∀x,foldedSetIterable iter X.env x=pure x)(hNn:X.N.Nodup)(hiy:X.N[iy]?=some y)(hxy:Loc X.env.scope y)(hfy:X.fn y=true\/X.env.scope.names.lookup y=some .local)(hsw:swapsWith (.ListComp elt [⟨tg,iter,[],0⟩] scope pos) (some (.Name y py)) pos2.line X.env=pure true):PS X (.Assign [.Name y py] (.ListComp elt [⟨tg,iter,[],0⟩] scope pos) pos2) (aE1 (G4 wi g (λ_ H Q=>Q true H) te own.length) (rB iy)):=
 aG4 S hcalm hi hg (.inl ⟨rfl,rfl⟩) he hs hNn hiy hxy hfy hsw
end
end L2
namespace Mi
open PySem L2 PySem.SeqAt PySem.Spec PyProof.Rows
variable [KFrag]
variable {own:Nat->Bool}
section
variable {X:Cx} {a b c e:Expr} {pos pos':Pos} {fb fe:FE} {re:Bool} {gc:FT} {f g:FS} {st:Stmt} {s1 s2:List Stmt}
variable {scope:Scope} {ownN:List Str} {elt iter tg:Expr} {it:FI} {t:D->Res (List D)} {gt:TG}
theorem aCd(S:cH X.N X.env.scope scope ownN)(hn:X.N.length=n)(hm:ownN.length=m)(hcalm:X.calm=true)(hi:PI X tg iter (gI X.K it))(ht:TgC gt t n m)(hg:∀X',cO X X' scope ownN->PG X' tg gt)(he:∀X',cO X X' scope ownN->PE X' elt (gE fe re))
 (hs:∀x,foldedSetIterable iter X.env x=pure x)(ho:own iy=o)(hNn:X.N.Nodup)(hiy:X.N[iy]?=some y)(hxy:Loc X.env.scope y)(hfy:X.fn y=true\/X.env.scope.names.lookup y=some .local)(hsw:swapsWith (.ListComp elt [⟨tg,iter,[],0⟩] scope pos) (some (.Name y py)) pos2.line X.env=pure true) :
  PS X (.Assign [.Name y py] (.ListComp elt [⟨tg,iter,[],0⟩] scope pos) pos2) (tS own (bN o iy (c7 n it t dZ fe re) true)):=by
 intro pins s σ H D I h;subst hm;refine Y0 S hcalm hi hg he hs hNn hiy hxy hfy hsw pins s σ H D I ?_;exact oH ht (λσ H Q h=>by obtain⟨ρ,b,E,h,q⟩:=h;cases h;exact q H (cL.refl H)) (I.len.trans hn) (wV ho h)
theorem UJ(S:cH X.N X.env.scope scope ownN)(hn:X.N.length=n)(hm:ownN.length=m)(hcalm:X.calm=true)(hi:PI X tg iter (gI X.K it))(ht:TgC gt t n m)(hg:∀X',cO X X' scope ownN->PG X' tg gt)(hc:∀X',cO X X' scope ownN->PT X' c (gT gc))(he:∀X',cO X X' scope ownN->PE X' elt (gE fe re))
 (hs:∀x,foldedSetIterable iter X.env x=pure x)(ho:own iy=o)(hNn:X.N.Nodup)(hiy:X.N[iy]?=some y)(hxy:Loc X.env.scope y)(hfy:X.fn y=true\/X.env.scope.names.lookup y=some .local)(hsw:swapsWith (.ListComp elt [⟨tg,iter,[c],0⟩] scope pos) (some (.Name y py)) pos2.line X.env=pure true) :
  PS X (.Assign [.Name y py] (.ListComp elt [⟨tg,iter,[c],0⟩] scope pos) pos2) (tS own (bN o iy (c7 n it t gc fe re) true)):=by
 intro pins s σ H D I h;subst hm;refine zN S hcalm hi hg hc he hs hNn hiy hxy hfy hsw pins s σ H D I ?_;exact oH ht (λσ H Q h=>h) (I.len.trans hn) (wV ho h)
theorem wW[DecidableEq κ]{k:κ}{v:V}(e:p.1=k)(h:k∉r.map (·.1)):putK (p::r) k v=(k,v)::r:=by
 unfold putK;rw[if_pos (by simp[e]),List.map_cons,if_pos e,e]
 congr 1
 have:∀q∈r,(λkv:κ×V=>if kv.1=k then (kv.1,v) else kv) q=id q:=λq hq=>by
  have:q.1≠k:=λz=>h (List.mem_map.mpr ⟨q,hq,z⟩)
  simp[this]
 rw[List.map_congr_left this,List.map_id]
theorem wX[DecidableEq κ]{k:κ}{v:V}(e:¬p.1=k):putK (p::r) k v=p::putK r k v:=by
 unfold putK;rw[List.any_cons,decide_eq_false e,Bool.false_or];split
 ·rw[List.map_cons,if_neg e]
 ·rfl
theorem iW[DecidableEq κ]:∀{kvs:List (κ×V)},(kvs.map (·.1)).Nodup->((putK kvs k v).map (·.1)).Nodup:=λ{kvs} h=>by
 by_cases hk:vB kvs k=none
 ·exact aBm v h hk
 ·unfold putK;rw[if_pos (by rw[nZ];exact Option.isSome_iff_ne_none.mpr hk),List.map_map];have:(λx:κ×V=>x.1) ∘ (λkv:κ×V=>if kv.1=k then (kv.1,v) else kv)=λx=>x.1:=by
   funext q
   simp only[Function.comp];split<;>rfl
  rw[this];exact h
theorem rO(rv:Rep P H v d):∀{kvs:List (Key×V)}{ds:List (D×D)},jF P H kvs ds->(kvs.map (·.1)).Nodup->jF P H (putK kvs k v) (putD ds (kD k) d)
 |_,_,.nil,_=>.cons rv .nil
 |_,_,.cons (k:=k') (v:=v') (r:=rs) r t,hn=>by
  rw[List.map_cons] at hn;obtain⟨h1,h2⟩:=List.nodup_cons.mp hn;rw[putD,TY];by_cases h:k'=k
  ·subst h;rw[if_pos (by simp),wW rfl h1];exact .cons rv t
  ·rw[if_neg (by simpa using h),wX (p:=(k',v')) h];exact .cons r (rO rv t h2)
theorem wY(rv:Rep P H v d):∀{kvs:List (List Key×V)}{ds:List (D×D)},oF P H kvs ds->(kvs.map (·.1)).Nodup->oF P H (putK kvs k v) (putD ds (.tup (k.map kD)) d)
 |_,_,.nil,_=>.cons rv .nil
 |_,_,.cons (k:=k') (v:=v') (r:=rs) r t,hn=>by
  rw[List.map_cons] at hn;obtain⟨h1,h2⟩:=List.nodup_cons.mp hn;rw[putD,aC3];by_cases h:k'=k
  ·subst h;rw[if_pos (by simp),wW rfl h1];exact .cons rv t
  ·rw[if_neg (by simpa using h),wX (p:=(k',v')) h];exact .cons r (wY rv t h2)
theorem jF.length:∀{kvs:List (Key×V)}{ds:List (D×D)},jF P H kvs ds->kvs.length=ds.length
 |_,_,.nil=>rfl
 |_,_,.cons _ t=>by rw[List.length_cons,List.length_cons,jF.length t]
theorem oF.length:∀{kvs:List (List Key×V)}{ds:List (D×D)},oF P H kvs ds->kvs.length=ds.length
 |_,_,.nil=>rfl
 |_,_,.cons _ t=>by rw[List.length_cons,List.length_cons,oF.length t]
theorem wZ{a:Addr}(ha:H a=some ob)(hm:N8 ob=true):J6 (λ_=>False) H (L2.upd H a o):=λc oc hc h=>by
 rw[bL]
 ·exact hc
 ·intro z;subst z;rcases h with h|h
  ·exact h.elim
  ·rw[ha] at hc;cases hc;rw[hm] at h;cases h
theorem mQ(hd:d.pure=true):∀{ds:List (D×D)},D.bA (ds.map (·.2))=true->D.bA ((putD ds k d).map (·.2))=true
 |[],_=>by simp[putD,D.bA,hd]
 | (q,w)::r,h=>by
  rw[List.map_cons,D.bA,Bool.and_eq_true] at h;rw[putD];split
  ·rw[List.map_cons,D.bA,Bool.and_eq_true];exact⟨hd,h.2⟩
  ·rw[List.map_cons,D.bA,Bool.and_eq_true];exact⟨h.1,mQ hd h.2⟩
theorem aIe{ad:Addr}{y v:V}{ds:List (D×D)}{k d:D}(I:Inv X pins σ H s)(rd:Rep All H (.ref ad) (.dct ds))(hin:D.bA (ds.map (·.2))=true)(rk:Rep All H y k)(hk:wC ds k=true)(hl:ds.length<sizeLine)(rv:Rep All H v d)(hd:d.pure=true) :
  ∃H1 o,Inv X pins σ H1 s/\aAc H1 ad y v (L2.upd H ad o)/\N8 o=true/\Rep All (L2.upd H ad o) (.ref ad) (.dct (putD ds k d)):=by
 unfold wC at hk;rw[Bool.and_eq_true] at hk;obtain⟨h1,h2⟩:=hk;have rv':Rep (λ_=>False) H v d:=rv.bO hd;cases rd with
 |@dK _ kvs ds e _ r n=>
  have hlen:=r.length;rcases jT h1 rk with ⟨q,rfl,rfl⟩|⟨b,ks,rfl,eb,rfl⟩
  ·refine⟨H,.dK (putK kvs q v),I,.k e (by lia),rfl,.dK aO trivial ?_ (iW n)⟩;exact(rO rv' (r.bO hin) n).keep (wZ e rfl) λ_ z=>z.elim
  ·cases r with
   |nil=>
    refine⟨L2.upd H ad (.dT []),.dT (putK [] ks v),qF I e,?_,rfl,.dT aO trivial ?_ (iW List.nodup_nil)⟩
    ·have:=aAc.t (H:=L2.upd H ad (.dT [])) (a:=ad) (b:=b) (kvs:=[]) (k:=ks) (v:=v) aO (by rw[bL (aB1 eb e (by intro z;cases z))];exact eb) hl;rwa [DR] at this
    ·exact(wY (k:=ks) rv' .nil List.nodup_nil).keep (wZ e rfl) λ_ z=>z.elim
   |cons r t=>
    rw[List.all_cons,mL] at h2;simp[isTup] at h2
 |@dT _ kvs ds e _ r n=>
  have hlen:=r.length;rcases jT h1 rk with ⟨q,rfl,rfl⟩|⟨b,ks,rfl,eb,rfl⟩
  ·cases r with
   |nil=>
    refine⟨L2.upd H ad (.dK []),.dK (putK [] q v),mO I e,?_,rfl,.dK aO trivial ?_ (iW List.nodup_nil)⟩
    ·have:=aAc.k (H:=L2.upd H ad (.dK [])) (a:=ad) (kvs:=[]) (k:=q) (v:=v) aO hl;rwa [DR] at this
    ·exact(rO (k:=q) rv' .nil List.nodup_nil).keep (wZ e rfl) λ_ z=>z.elim
   |cons r t=>
    rw[List.all_cons,mL] at h2;simp[isTup] at h2
  ·refine⟨H,.dT (putK kvs ks v),I,.t e eb (by lia),rfl,.dT aO trivial ?_ (iW n)⟩;exact(wY rv' (r.bO hin) n).keep (wZ e rfl) λ_ z=>z.elim
theorem vJ(hu:X.A.units+20<cLine)(ho:own i=true)(hN:X.N[i]?=some x)(hvi:Vis X.env.scope x)(hk:PE X k (gE fk rk))(hv:PE X value (gE fv rv))
 (hs:swapsWith value (some (.Subscript (.Name x p1) k pos')) pos.line X.env=pure false:=by rfl)(hd:nDb x:=by decide)(hcd:nCd x:=by decide) :
  PS X (.Assign [.Subscript (.Name x p1) k pos'] value pos) (tS own (GQ i fk fv)):=by
 intro pins s σ H D' I ⟨ρ,fl,E,h,q⟩;obtain⟨d,h0,h⟩:=bD h;obtain⟨kd,h1,h2⟩:=bD h;split at h2
 ·rename_i kvs hx;split at h2
  ·rename_i hg;cases h2;simp only[Bool.and_eq_true] at hg;obtain⟨⟨hg1,hg2⟩,hg3⟩:=hg;obtain⟨a,o,hσ,r,hin,ha,hm⟩:=E.ownAt ho (by rw[hx];intro z;cases z);rw[hx] at r hin;refine wpAny_Assign_Subscript (thn (hv pins s σ H (λv H1=>cL H H1/\Rep All H1 v d) I ⟨ρ,d,E.er,h0,λv H1 s1 r1 _=>⟨s1,r1⟩⟩) λrr s1 ⟨v,H1,I1,rv1,sm1,rp1⟩=>
    thn (kW hN hvi hd hcd pins s1 σ H1 (λw H2=>w=.ref a/\H2=H1) I1 ⟨_,hσ,rfl,rfl⟩) λu s2 ⟨xx,H2,I2,rx,ex,eH⟩=>
    thn (hk pins s2 σ H2 (λw H3=>cL H2 H3/\Rep All H3 w kd) I2 ⟨ρ,kd,by rw[eH];exact E.er.same sm1,h1,λv H1 s1 r1 _=>⟨s1,r1⟩⟩) λiv s3 ⟨y,H3,I3,ry,sm3,rp3⟩=>?_) hs
   subst ex eH;obtain rfl:u=Value.ref a:=rx;have sm:=sm1.trans sm3;obtain⟨H4,o4,I4,g,hmo,rp⟩:=aIe I3 (r.same sm) hin rp3 hg2 (TQ hg1) (rp1.same sm3) hg3;obtain⟨E2,k2⟩:=(E.same sm).mut ho hσ hmo rp (mQ hg3 hin);exact RP (by lia) I4 g ry rv1 λs4 I5=>⟨σ,_,I5,q _ _ ((KU.same sm).trans k2) E2⟩
  ·exact bx h2
 ·exact bx h2
def TgS(own:Nat->Bool)(g:TG)(t:D->List D->Res (List D)):Prop:=∀(v:V)(d:D)(ρ ρ':List D)(σ:L2.St)(H:Hp)(Q:L2.St->Hp->Prop),ES own H σ ρ->Rep (λa=>¬Own own σ a) H v d->t d ρ=.ok ρ'->
 (∀σ',ES own H σ' ρ'->(∀a,Own own σ' a↔Own own σ a)->Q σ' H)->g v σ H Q
theorem j8(ho:own i=false):TgS own (rB i) (tg1 i):=λv d ρ ρ' σ H Q E r h q=>by
 cases h;exact q _ (E.set ho r) λa=>nG ho a
theorem ES.sets:∀{is:List Nat}{vs:List V}{ds:List D}{σ:L2.St}{ρ:List D},(∀i∈is,own i=false)->ES own H σ ρ->bR (λa=>¬Own own σ a) H vs ds->ES own H (lR is vs σ) (SJ is ds ρ)/\∀a,Own own (lR is vs σ) a↔Own own σ a
 |[],_,_,_,_,_,E,_=>by simp only[lR,SJ];exact⟨E,λ_=>trivial⟩
 |i::is,_,_,σ,ρ,h,E,.nil=>by simp only[lR,SJ];exact⟨E,λ_=>trivial⟩
 |i::is,_,_,σ,ρ,h,E,.cons (v:=v) r t=>by
  have ho:=h i (List.mem_cons_self ..);have hO:(λa=>¬Own own (σ.set i (some v)) a)=λa=>¬Own own σ a:=funext λa=>by rw[nG ho]
  obtain⟨h1,h2⟩:=ES.sets (is:=is) (λj hj=>h j (List.mem_cons_of_mem _ hj)) (E.set ho r) (by rw[hO];exact t);exact⟨h1,λa=>(h2 a).trans (nG ho a)⟩
theorem tM(K:PySem.W.Frag)(ho:∀i∈is,own i=false):TgS own (aHp K is.length (gIx is)) (tgN is):=λv d ρ ρ' σ H Q E r h q=>by
 cases d<;>simp only[tgN] at h<;>(try (exact bx h;done))
 split at h
 ·rename_i hl;cases h;have hl':=of_decide_eq_true hl;obtain⟨a,xs,rfl,e,rr⟩:=r.eX;obtain⟨h1,h2⟩:=E.sets ho rr;exact⟨a,xs,rfl,.of e,by rw[rr.length];exact hl',HB _ _ _ (by rw[rr.length];exact hl') (q _ h1 h2)⟩
 ·exact bx h
theorem ItQ.ku{K:PySem.W.Frag}(h:ItQ K (λa=>¬Own own σ a) J H items)(k:KU own σ H σ' H')(E:ES own H σ ρ):ItQ K (λa=>¬Own own σ' a) J H' items:=h.keep' (k.keep E) λa o e n=>(k a o e n).2
theorem K3{K:PySem.W.Frag}{g:TG}{t:D->List D->Res (List D)}{body:FS}{D':Ends}{J:It}{items:List D}{σ:L2.St}{H1:Hp}{ρ:List D}{fl:Fl}(tg:TgS own g t)(E:ES own H1 σ ρ)(hJ:ItQ K (λa=>¬Own own σ a) J H1 items)(hf:rK t body items ρ=.ok fl)(q:kS own D' σ H1 fl) :
  ∃W:Nat->Nat->L2.St->Hp->Prop,(∃m,W 0 m σ H1)/\∀i m σ H,W i m σ H->
   (J.stop i H/\D'.nx σ H)\/(J.go i H/\∃N:L2.St->Hp->Prop,(∀σ' H',N σ' H'->∃m',m'<m/\W (i+1) m' σ' H')/\∀x H',J.yld i H x H'->g x σ H' λσ2 H2=>tS own body {D' with nx:=N,ct:=N,bk:=D'.nx} σ2 H2):=by
 refine⟨λi m σ' H'=>m=items.length-i/\i<=items.length/\ItQ K (λa=>¬Own own σ' a) J H' items/\∃ρ',ES own H' σ' ρ'/\rK t body (items.drop i) ρ'=.ok fl/\kS own D' σ' H' fl,⟨items.length,rfl,Nat.zero_le _,hJ,ρ,E,hf,q⟩,?_⟩;rintro i m σ' H' ⟨rfl,hi,hJ',ρ',E',hf',q'⟩;rcases Nat.lt_or_ge i items.length with hlt|hge
 ·refine .inr ?_;have e:items[i]?=some items[i]:=List.getElem?_eq_getElem hlt;obtain⟨g1,g2⟩:=hJ'.go e;rw[List.drop_eq_getElem_cons hlt] at hf';obtain⟨ρ1,h1,hf2⟩:=bD hf';obtain⟨r,h2,hf3⟩:=bD hf2;refine⟨g1,λσ2 H2=>ItQ K (λa=>¬Own own σ2 a) J H2 items/\∃ρ',ES own H2 σ2 ρ'/\rK t body (items.drop (i+1)) ρ'=.ok fl/\kS own D' σ2 H2 fl,λσ2 H2 ⟨n1,n2⟩=>⟨items.length-(i+1),by lia,rfl,hlt,n1,n2⟩,λx H2 hy=>?_⟩;obtain⟨sH,rx⟩:=g2 x H2 hy;have ks:KU own σ' H' σ' H2:=λa o e n=>⟨sH a o e,n⟩
  have hJ':=hJ'.ku ks E';have q':=q'.step ks;have E':=E'.same sH;refine tg x items[i] ρ' ρ1 σ' H2 _ E' rx h1 λσ2 E2 hO=>?_
  have k0:KU own σ' H2 σ2 H2:=λa o e n=>⟨e,by rw[hO];exact n⟩
  have hJ2:=hJ'.ku k0 E';have q2:=q'.step k0;refine⟨ρ1,r,E2,h2,?_⟩;cases r with
  |nx ρ2=>exact λσ3 H3 k3 E3=>⟨hJ2.ku k3 E2,ρ2,E3,hf3,q2.step k3⟩
  |ct ρ2=>exact λσ3 H3 k3 E3=>⟨hJ2.ku k3 E2,ρ2,E3,hf3,q2.step k3⟩
  |bk ρ2=>cases hf3;exact λσ3 H3 k3 E3=>q2 σ3 H3 k3 E3
  |rt d=>cases hf3;exact q2
 ·refine .inl ⟨hJ'.stop hge,?_⟩;rw[List.drop_eq_nil_of_le hge] at hf';cases hf';exact q' σ' H' (λa o e n=>⟨e,n⟩) E'
theorem lU{tg iter:Expr}{body:List Stmt}{g:TG}{t:D->List D->Res (List D)}{it:FI}{fb:FS}(hp:PassesOwn (model X.prog X.w) X.A X.env X.xe)(hc:X.calm=true)(hi:PI X tg iter (gI X.K it))(ht:TgS own g t)(hg:PG X tg g)(hb:PSs X body (tS own fb))
 (hs:∀x,foldedSetIterable iter X.env x=pure x:=by intro _;rfl):PS X (.For tg iter body [] pos) (tS own (vD it t fb)):=PS.imp (aAa hp hc hi hg hb hs) λD' σ H ⟨ρ,fl,E,h,q⟩=>by
 obtain⟨⟨items,k⟩,h1,h2⟩:=bD h;split at h2
 ·rename_i hk;exact⟨ρ,items,k,E.er,h1,λJ H1 s1 _ hJ=>K3 ht (E.same s1) ((hJ hk).keep (λ_ _ e _=>e) λa ha ho=>by
   obtain⟨o,e1,_⟩:=E.live ho;rw[show H a=none from ha] at e1;cases e1) h2 (q.step (.same s1))⟩
 ·exact bx h2
theorem HD{g:TG}{t:D->List D->Res (List D)}{i:Nat}{x:Str}{px:Pos}{fb:FS}(ho:own i=false)(hp:PassesOwn (model X.prog X.w) X.A X.env X.xe)(hc:X.calm=true)(hN:X.N[i]?=some x)(hv:Vis X.env.scope x)(ht:TgS own g t)(hg:PG X tg g)(hb:PSs X body (tS own fb))
 (hs:∀z,foldedSetIterable (.Name x px) X.env z=pure z:=by intro _;rfl)(hd:nDb x:=by decide)(hcd:nCd x:=by decide):PS X (.For tg (.Name x px) body [] pos) (tS own (GR i t fb)):=PS.imp (aAa hp hc (aG2 hN hv hd hcd) hg hb hs) λD' σ H ⟨ρ,fl,E,h,q⟩=>by
 obtain⟨d,h1,h⟩:=bD h;obtain⟨items,h2,h3⟩:=bD h;obtain⟨v,hv,r,e⟩:=E.er.var h1;have hne:ρ.getD i .uD≠.uD:=λz=>by
  rw[z] at e;subst e;exact Rep.uD r
 obtain⟨w,hw,hr⟩:=E.at_ i hne;rw[hv] at hw;cases hw;have r2:=hr ho;rw[e] at r2;exact⟨v,d,items,hv,r,h2,λJ hJ=>K3 ht E (hJ _ r2) h3 q⟩
theorem Y4{N ps:List Str}(hst:start N vs=vs.map some++List.replicate (N.length-ps.length) none)(hl:ds.length=ps.length)(r:bR All H vs ds)(hown:∀i,i<ps.length->own i=false)(noown:∀a,¬Own own (start N vs) a):ES own H (start N vs) (ds++List.replicate (N.length-ps.length) .uD):=by
 refine⟨by rw[hst];simp[r.length],λi hi=>?_,λi v hi hv=>?_⟩
 ·have hlt:i<ds.length:=Nat.lt_of_not_le λhge=>hi (by
   rw[List.getD_eq_getElem?_getD,List.getElem?_append_right hge,List.getElem?_replicate];split<;>rfl)
  have e:(ds++List.replicate (N.length-ps.length) D.uD).getD i .uD=ds[i]:=by
   rw[List.getD_eq_getElem?_getD,List.getElem?_append_left hlt,List.getElem?_eq_getElem hlt];rfl
  obtain⟨v,g1,g2⟩:=r.get (i:=i) (d:=ds[i]) (by simp[hlt]);refine⟨v,by rw[hst,List.getElem?_append_left (by simp[r.length,hlt])];simp[g1],λ_=>?_⟩;rw[e];exact g2.mono λa _=>noown a
 ·exfalso;rw[hst] at hv;by_cases h:i<ps.length
  ·rw[hown i h] at hi;cases hi
  ·rw[List.getElem?_append_right (by simp[r.length,hl];lia)] at hv;rw[List.getElem?_replicate] at hv;split at hv<;>cases hv
theorem UL{own:Nat->Bool}{N ps:List Str}{f:FS}{vs:List V}{H:Hp}{Q:VK}{E:XK}(hx:own rtX=false)(hown:∀i,i<ps.length->own i=false)(h0:spD (fnS ps.length N.length f) ps.length vs H Q E):tS own f {nx:=λ_ H'=>Q .non H',rt:=Q} (start N vs) H:=by
 obtain⟨ds,d,hl,r,h,q⟩:=h0
 ·obtain⟨fl,h1,h2⟩:=bD h;have hst:start N vs=vs.map some++List.replicate (N.length-ps.length) none:=by
   show vs.map some++List.replicate (N.length-vs.length) none=_;rw[r.length,hl]
  have noown:∀a,¬Own own (start N vs) a:=λa ⟨i,hi,e⟩=>by
   rw[hst] at e;by_cases h:i<ps.length
   ·rw[hown i h] at hi;cases hi
   ·rw[List.getElem?_append_right (by simp[r.length,hl];lia)] at e;rw[List.getElem?_replicate] at e;split at e<;>cases e
  have E0:ES own H (start N vs) (ds++List.replicate (N.length-ps.length) .uD):=Y4 hst hl r hown noown;refine⟨_,fl,E0,h1,?_⟩;have sm:∀{σ':L2.St}{H':Hp},KU own (start N vs) H σ' H'->cL H H':=λk a o e=>(k a o e (noown a)).1
  cases fl with
  |nx ρ'=>cases h2;exact λσ' H' k E'=>q .non H' (sm k) .non λ_=>.non
  |rt d'=>
   cases h2;refine kRt.mk hx λv H' hk rp=>q v H' (λa o e=>hk a o e (noown a)) rp.all λ_=>rp.mono λa ha=>?_
   rcases ha with ha|ha
   ·exact absurd ha (noown a)
   ·exact ha
  |bk ρ'=>exact bx h2
  |ct ρ'=>exact bx h2
theorem aG5{w:World}{K:PySem.W.Frag}{mg:Str->Option Value}{base:Heap}{x qual:Str}{st:Stmt}{fad:Addr}{fd:FuncData}{N ps:List Str}{k:Nat}{f:FS}(F:Fun K x qual st fad fd)(S:cF N ps (aQ st))(own:Nat->Bool)(hown:∀i,i<ps.length->own i=false)(hNl:ps.length<=N.length)
 (hbody:∀(cdv:Value) (A:Around) (outer:List Env) (s:Shared) (H:Hp) (E:XK),rH k (A.deeper (envOfC qual (aQ st) s.heap.objs.size fad cdv))->PSs (XX CX0 P w K mg base N qual (aQ st) fad cdv A outer s H E).nox (fU st) (tS own f))(hx:own rtX=false:=by rfl):DX P w K mg base CX0 (k+1) fad fd ps (spD (fnS ps.length N.length f) ps.length):=
 F.ok S (λvs H Q E h=>T8 h) λcdv A outer s H vs Q E hr h=>⟨_,hbody cdv A outer s H E hr,UL hx hown h⟩
end
structure aIf where
 s₀:Shared
 H₀:Hp
 env:Env
 outer:List Env
 stack:List Env
 ex:List Addr
 fn:Str->Bool
 pn:List (Addr×Obj)
abbrev mkC(X:Cx)(scope:Scope)(ownN:List Str)(y:aIf):Cx:=
 {X with N:=X.N.map (g8 ownN)++ownN,s₀:=y.s₀,H₀:=y.H₀,env:={y.env with scope:=relabel scope X.env},outer:=y.outer,stack:=y.stack,ex:=y.ex,fn:=y.fn,pn:=y.pn,xe:=λ_ _=>False}
theorem jU(cc:cO X X' scope ownN):∃y,X'=mkC X scope ownN y:=by
 refine⟨⟨X'.s₀,X'.H₀,X'.env,X'.outer,X'.stack,X'.ex,X'.fn,X'.pn⟩,?_⟩;obtain⟨h1,h2,h3,h4,h5,h6,h7,h8,h9,h10⟩:=cc;cases X' with
 |mk a b c d e f g h i j k l m n o p q=>
  cases j;dsimp only at *;subst h1 h2 h3 h4 h5 h6 h7 h8 h9 h10;rfl
section
variable {own:Nat->Bool} {X:Cx} {scope:Scope} {ownN:List Str} {elt iter tg c:Expr} {it:FI} {t:D->Res (List D)} {g:TG} {gc:FT} {fe:FE} {re:Bool} {pos:Pos} {n m:Nat}
theorem jL(S:cH X.N X.env.scope scope ownN)(hn:X.N.length=n)(hm:ownN.length=m)(hcalm:X.calm=true)(hi:PI X tg iter (gI X.K it))(ht:TgC g t n m)(hg:∀y,PG (mkC X scope ownN y) tg g)(he:∀y,PE (mkC X scope ownN y) elt (gE fe re))
 (hs:∀x,foldedSetIterable iter X.env x=pure x):PE X (.ListComp elt [⟨tg,iter,[],0⟩] scope pos) (gE (c7 n it t dZ fe re) true):=
 aCa S hn hm hcalm hi ht (λX' cc=>by obtain⟨y,rfl⟩:=jU cc;exact hg y) (λX' cc=>by obtain⟨y,rfl⟩:=jU cc;exact he y) hs
theorem vK(S:cH X.N X.env.scope scope ownN)(hn:X.N.length=n)(hm:ownN.length=m)(hcalm:X.calm=true)(hi:PI X tg iter (gI X.K it))(ht:TgC g t n m)(hg:∀y,PG (mkC X scope ownN y) tg g)(hc:∀y,PT (mkC X scope ownN y) c (gT gc))(he:∀y,PE (mkC X scope ownN y) elt (gE fe re))
 (hs:∀x,foldedSetIterable iter X.env x=pure x):PE X (.ListComp elt [⟨tg,iter,[c],0⟩] scope pos) (gE (c7 n it t gc fe re) true):=
 T_ S hn hm hcalm hi ht (λX' cc=>by obtain⟨y,rfl⟩:=jU cc;exact hg y) (λX' cc=>by obtain⟨y,rfl⟩:=jU cc;exact hc y) (λX' cc=>by obtain⟨y,rfl⟩:=jU cc;exact he y) hs
theorem K4(S:cH X.N X.env.scope scope ownN)(hn:X.N.length=n)(hm:ownN.length=m)(hcalm:X.calm=true)(hi:PI X tg iter (gI X.K it))(ht:TgC g t n m)(hg:∀y,PG (mkC X scope ownN y) tg g)(he:∀y,PE (mkC X scope ownN y) elt (gE fe re))
 (hs:∀x,foldedSetIterable iter X.env x=pure x)(ho:own iy=o)(hNn:X.N.Nodup)(hiy:X.N[iy]?=some y)(hxy:Loc X.env.scope y)(hfy:X.fn y=true\/X.env.scope.names.lookup y=some .local)(hsw:swapsWith (.ListComp elt [⟨tg,iter,[],0⟩] scope pos) (some (.Name y py)) pos2.line X.env=pure true) :
  PS X (.Assign [.Name y py] (.ListComp elt [⟨tg,iter,[],0⟩] scope pos) pos2) (tS own (bN o iy (c7 n it t dZ fe re) true)):=
 aCd S hn hm hcalm hi ht (λX' cc=>by obtain⟨y,rfl⟩:=jU cc;exact hg y) (λX' cc=>by obtain⟨y,rfl⟩:=jU cc;exact he y) hs ho hNn hiy hxy hfy hsw
theorem vL(S:cH X.N X.env.scope scope ownN)(hn:X.N.length=n)(hm:ownN.length=m)(hcalm:X.calm=true)(hi:PI X tg iter (gI X.K it))(ht:TgC g t n m)(hg:∀y,PG (mkC X scope ownN y) tg g)(hc:∀y,PT (mkC X scope ownN y) c (gT gc))(he:∀y,PE (mkC X scope ownN y) elt (gE fe re))
 (hs:∀x,foldedSetIterable iter X.env x=pure x)(ho:own iy=o)(hNn:X.N.Nodup)(hiy:X.N[iy]?=some y)(hxy:Loc X.env.scope y)(hfy:X.fn y=true\/X.env.scope.names.lookup y=some .local)(hsw:swapsWith (.ListComp elt [⟨tg,iter,[c],0⟩] scope pos) (some (.Name y py)) pos2.line X.env=pure true) :
  PS X (.Assign [.Name y py] (.ListComp elt [⟨tg,iter,[c],0⟩] scope pos) pos2) (tS own (bN o iy (c7 n it t gc fe re) true)):=
 UJ S hn hm hcalm hi ht (λX' cc=>by obtain⟨y,rfl⟩:=jU cc;exact hg y) (λX' cc=>by obtain⟨y,rfl⟩:=jU cc;exact hc y) (λX' cc=>by obtain⟨y,rfl⟩:=jU cc;exact he y) hs ho hNn hiy hxy hfy hsw
end
noncomputable def QR:FS:=λ_=>.bad
theorem tO{st:Stmt}:PS X st (tS own QR):=λpins s σ H D I h=>by
 obtain⟨_,_,_,h,_⟩:=h;exact bx h
def cJ(P:Program)(w:World)(K:PySem.W.Frag)(mg:Str->Option Value)(base:Heap)(k:Nat)(x:Str)(n:Nat)(f:List D->Res D):Prop:=
 ∃(fad:Addr)(fd:FuncData)(ps:List Str),DX P w K mg base CX0 k fad fd ps (spD f n)/\mg x=some (.ref fad)/\PySem.W.keepIn K (.ref fad)=true/\Binds K fd ps []
section
variable {X:Cx} {e:Expr} {es:List Expr} {pos p:Pos} {fs:FA} {rr:Bool} {x:Str} {k n:Nat} {f:List D->Res D}
theorem aV(C:cJ X.prog X.w X.K X.mg X.base k x n f)(hr:rH k' X.A)(hkk:k<=k')(hg:Gl X x)(ha:PA X (e::es) (gA fs rr))(hdb:nDb x:=by decide)(he:starEach (e::es) X.env=(false,eval e X.env)::starEach es X.env:=by rfl)(hpl:(backTo pos (starEach es X.env)).any (·.1)=false:=by rfl) :
  PE X (.Call (.Name x p) (e::es) [] pos) (gE (aL (bW n f) fs) true):=by
 obtain⟨fad,fd,ps,F,hm,hk,hb⟩:=C;exact aC7 F (hr.mono hkk) hg hm hk hb ha hdb he hpl
theorem gK{P:Program}{w:World}{K:PySem.W.Frag}{mg:Str->Option Value}{base:Heap}{st:Stmt}{fad:Addr}{fd:FuncData}{N ps:List Str}{fs:FS}(F:Fun K x x st fad fd)(hm:mg x=some (.ref fad))(hb:Binds K fd ps [])(S:cF N ps (aQ st))(own:Nat->Bool)(hown:∀i,i<ps.length->own i=false)(hNl:ps.length<=N.length)
 (hbody:∀(cdv:Value) (A:Around) (outer:List Env) (s:Shared) (H:Hp) (E:XK),rH k (A.deeper (envOfC x (aQ st) s.heap.objs.size fad cdv))->PSs (XX CX0 P w K mg base N x (aQ st) fad cdv A outer s H E).nox (fU st) (tS own fs))(hx:own rtX=false:=by rfl):cJ P w K mg base (k+1) x ps.length (fnS ps.length N.length fs):=
 ⟨fad,fd,ps,aG5 F S own hown hNl hbody hx,hm,F.kp,hb⟩
end
theorem xF(hr:rH k A):A.units+20<cLine:=Nat.lt_of_le_of_lt (Nat.add_le_add_left (by decide:20<=64) _) hr.units
structure Bt(mg:Str->Option Value):Prop where
 len:mg "len"=none
 min:mg "min"=none
 max:mg "max"=none
 list:mg "list"=none
 tuple:mg "tuple"=none
 sorted:mg "sorted"=none
 range:mg "range"=none
 isi:mg "isinstance"=none
 int:mg "int"=none
 bool:mg "bool"=none
 str:mg "str"=none
 dict:mg "dict"=none
 all:mg "all"=none
 enum:mg "enumerate"=none
 sum:mg "sum"=none
 zip:mg "zip"=none
 abs:mg "abs"=none
 reversed:mg "reversed"=none
theorem cX:bootBuiltins "len"=some (.builtin "len"):=by decide +kernel
theorem UT:bootBuiltins "max"=some (.builtin "max"):=by decide +kernel
theorem tQ:bootBuiltins "sorted"=some (.builtin "sorted"):=by decide +kernel
theorem oK:bootBuiltins "isinstance"=some (.builtin "isinstance"):=by decide +kernel
theorem aCe:bootBuiltins "list"=some (.type "list"):=by decide +kernel
theorem d8:bootBuiltins "tuple"=some (.type "tuple"):=by decide +kernel
theorem aG6:bootBuiltins "int"=some (.type "int"):=by decide +kernel
theorem aG7:bootBuiltins "str"=some (.type "str"):=by decide +kernel
theorem ints_rep:∀ns:List Int,bR P H (ns.map V.int) (ns.map D.int)
 |[]=>.nil
 |n::ns=>.cons (.int n) (ints_rep ns)
end Mi
namespace Mi
open PySem L2
theorem UV{ns:List Int}{E:XK}(main:∀ns:List Int,ns.length<=63->f [.scr (ns.map D.int)]=.ok (.bl true))(hl:ns.length<=63)(hO:Only H)(hS:SqL K H a (ns.map V.int)):@spD ⟨K⟩ f 1 [.ref a] H (λv _=>v=.bl true) E:=by
 letI:KFrag:=⟨K⟩
 refine⟨[.scr (ns.map D.int)],.bl true,rfl,.cons (.frz ?_ (ints_rep ns)) .nil,main ns hl,λv H' s r n=>by cases r.inv;rfl⟩;rcases hS with (h|⟨o,h⟩)|h
 ·rcases hO a with z|⟨o,xs,z⟩
  ·rw[h] at z;cases z
  ·rw[h] at z;cases z
 ·exact .inl ⟨o,h⟩
 ·exact .inr h
end Mi
namespace Mi
open PySem L2 PySem.SeqAt PySem.Spec PyProof.Rows
def j9:D->D->Res D
 |.str x,.int n=>if decide (0<=n)&&decide (n<=100000)&&decide (x.length*n.toNat<=lim) then .ok (.str (Txt.mul x n)) else .bad
 |a,b=>aW .mul a b
def inX:D->D->Res D
 |.str c,.str x=>.ok (.bl (!(Builtin.Str.occurrences x c 0 x.length 1).isEmpty))
 |a,b=>d9 .isin a b
def aE8:D->Option Int->Option Int->Res D
 |.str x,lo,hi=>if decide (x.length<=lim) then .ok (.str (Txt.slice x lo hi)) else .bad
 |d,lo,hi=>aE5 d lo hi
def aCf(a:FE)(lo hi:List D->Res (Option Int)):FE:=λρ=>do let x <- a ρ;let l <- lo ρ;let h <- hi ρ;aE8 x l h
def zO:D->Res (List D)
 |.str x=>if decide (x.length<=lim) then .ok (zK x) else .bad
 |d=>tB d
def bV(a:FE)(fr:Bool):FI:=λρ=>do let x <- a ρ;let xs <- zO x;pure (xs,fr||x.pure)
variable [KFrag]
section
variable {X:Cx}
theorem fX:OpR X (binaryOp .Mult) (r2 j9 true):=by
 intro pins s σ H x y v u Q I rx ry ⟨a,b,d,p,q,e,k⟩;by_cases hs:∃z n,a=.str z/\b=.int n
 ·obtain⟨z,n,rfl,rfl⟩:=hs;simp only[j9] at e;split at e
  ·rename_i hl;cases e;simp only[Bool.and_eq_true,decide_eq_true_eq] at hl;obtain⟨⟨h0,h1⟩,h2⟩:=hl;cases p.inv;cases q.inv;obtain⟨t,rfl⟩:=rx;obtain⟨t',rfl⟩:=ry;have hz:z.length*n.toNat<=sizeLine:=Nat.le_trans h2 (by rw[sizeLine_eq];decide);refine SB.mul ⟨?_,λh3 _=>?_,λ_ _=>?_⟩ λt2 k2=>⟨.str _,H,I.tok k2,⟨t2,rfl⟩,k.str⟩
   ·rw[decide_eq_false (by lia),decide_eq_false (by lia)];rfl
   ·have hn:0<n:=by lia
    have h4:(z.length:Int)*n<=2 ^ 63-1:=by
     have h5:((z.length*n.toNat:Nat):Int)<=1000000:=by
      have:lim=1000000:=by unfold lim;exact Eq.refl _
      lia
     rw[Int.natCast_mul,Int.toNat_of_nonneg h0] at h5;lia
    have h6:=(Int.le_ediv_iff_mul_le hn).mpr h4;lia
   ·unfold Builtin.Str.tooLong;exact decide_eq_false (by lia)
  ·exact bx e
 ·have he:j9 a b=aW .mul a b:=by
   unfold j9;split
   ·exact absurd ⟨_,_,rfl,rfl⟩ hs
   ·rfl
  rw[he] at e;exact aFw pins s σ H x y v u Q I rx ry ⟨a,b,d,p,q,e,k⟩
theorem K5(hu:X.A.units+20<cLine):OpR X (compareOp .In) (r2 inX true):=by
 intro pins s σ H x y v u Q I rx ry ⟨a,b,d,p,q,e,k⟩;by_cases hs:∃z n,a=.str z/\b=.str n
 ·obtain⟨z,n,rfl,rfl⟩:=hs;cases e;cases p.inv;cases q.inv;exact Q8 pins s σ H _ _ v u Q I rx ry ⟨_,_,rfl,rfl,k.bl⟩
 ·have he:inX a b=d9 .isin a b:=by
   unfold inX;split
   ·exact absurd ⟨_,_,rfl,rfl⟩ hs
   ·rfl
  rw[he] at e;exact aI8 hu pins s σ H x y v u Q I rx ry ⟨a,b,d,p,q,e,k⟩
theorem part_of(h:IsPart v o):∃l:Option (Int×Tok),partValue l=v/\l.map (·.1)=o:=by
 cases h with
 |none=>exact⟨none,rfl,rfl⟩
 |int i t=>exact⟨some (i,t),rfl,rfl⟩
theorem aG8(hK:KFrag.K=X.K):SlR X (λx lo hi H Q=>∃a d,Rep All H x a/\aE8 a lo hi=.ok d/\kR H d true Q):=by
 intro pins s σ H x v vl vu lo hi sl Q I rx hs pl pu ⟨a,d,p,e,k⟩;by_cases hz:∃z,a=.str z
 ·obtain⟨z,rfl⟩:=hz;simp only[aE8] at e;split at e
  ·rename_i hl;cases e;cases p.inv;obtain⟨t,rfl⟩:=rx;obtain⟨l,e1,e2⟩:=part_of pl;obtain⟨m,e3,e4⟩:=part_of pu;subst e1 e2 e3 e4;refine⟨"str",_,F.slot_str_getitem.lookup,typeIs_str _ _ _,?_⟩;obtain⟨o,ho,hc,hd⟩:=hs;refine wpAny_getItem_str_slice (l:=l) (u:=m) (st:=none) ⟨o,ho,hc,hd⟩ rfl ?_;have hle:(Txt.slice z (l.map (·.1)) (m.map (·.1))).length<=sizeLine:=Nat.le_trans (Txt.slice_le ..) (mK hl);have q:∀(t':Tok)(k2:Nat),EP X pins σ Q (.str (Txt.slice z (l.map (·.1)) (m.map (·.1))) t') {s with toks:=k2}:=λt' k2=>⟨.str _,H,I.tok k2,⟨t',rfl⟩,k.str⟩
   show Made.post (if ((1:Int)==1&&(Builtin.Str.strSliceIndices (l.map (·.1)) (m.map (·.1)) 1 z.length).length==z.length)=true then .val (.str z t) else .str ⟨((Builtin.Str.strSliceIndices (l.map (·.1)) (m.map (·.1)) 1 z.length).filterMap (z.cps[·]?)).toArray⟩) _ s;unfold Txt.slice at hle q;split
   ·rename_i hh;have:=q t s.toks;rw[if_pos hh] at this;exact this
   ·rename_i hh;rw[if_neg hh] at hle;have:=q s.toks (s.toks+1);rw[if_neg hh] at this;exact⟨hle,this⟩
  ·exact bx e
 ·have he:aE8 a lo hi=aE5 a lo hi:=by
   unfold aE8;split
   ·exact absurd ⟨_,rfl⟩ hz
   ·rfl
  rw[he] at e;exact aIa hK pins s σ H x v vl vu lo hi sl Q I rx hs pl pu ⟨a,d,p,e,k⟩
theorem aAo{lo hi:Option Expr}{p2:Pos}{fl fh:List D->Res (Option Int)}(hK:KFrag.K=X.K)(he:PE X e (gE fe re))(hl:PO X lo (gO fl))(hh:PO X hi (gO fh)):PE X (.Subscript e (.Slice lo hi none p2) pos) (gE (aCf fe fl fh) true):=
 PE.imp (X4 (aG8 hK) he hl hh) λσ H Q ⟨ρ,d,E,h,q⟩=>by
  obtain⟨x,h1,h⟩:=bD h;obtain⟨l,h2,h⟩:=bD h;obtain⟨u,h3,h⟩:=bD h;exact⟨ρ,x,E,h1,λv H1 s1 r1 _=>⟨ρ,l,E.same s1,h2,λH2 s2=>⟨ρ,u,E.same (s1.trans s2),h3,λH3 s3=>⟨x,d,r1.same (s2.trans s3),h,q.imp ((s1.trans s2).trans s3) id⟩⟩⟩⟩
theorem Y5{K:PySem.W.Frag}(x:Str)(t:Tok)(it:Addr):Turn P w K tg (aIc x) [it] it (λi h=>h.IsStrIter it (strIterType x) x t i) where
 mem:=by simp
 obj:=λi h st b hb=>by
  have e:b=it:=by simpa using hb
  subst e;obtain⟨o,e,c,d⟩:=st;exact⟨o,e,λv z=>by rw[d] at z;cases z⟩
 keep:=λi h h' st k=>by
  obtain⟨o,e,r⟩:=st;exact⟨o,k it (by simp) o e,r⟩
 item:=by
  intro Y hP hw hK hc i pins s σ H E I hf st hg;subst hP hw hK;obtain⟨f0,f1,f2,f3,f4,f5⟩:=hf it (by simp);have hx:x.cps[i]?=some x.cps[i]:=Array.getElem?_eq_getElem hg;have fin:∀(h':Heap)(ty:String),(["enumerate","zip","dict_itemiterator","dict_reverseitemiterator","odict_iterator","itertools.zip_longest","itertools.pairwise"].contains ty=false)->strIterType x=ty->h'.IsStrIter it ty x t (i+1)->Heap.SameBut it s.heap h'->
    ∃u,some (Value.str ⟨#[x.cps[i]]⟩ s.toks)=some u/\wpAny (model Y.prog Y.w) Y.A (letOwnedTupleGo tg (.ref it) u) (λ_ s2=>∃v H',Inv Y pins σ H' s2/\RelV v u/\(aIc x).yld i H v H'/\s2.heap.IsStrIter it (strIterType x) x t (i+1)/\∀b∈[it],H' b=none) E {s with heap:=h',toks:=s.toks+1}:=by
   intro h' ty hn hty st' sb;have I1:Inv Y pins σ H {s with heap:=h',toks:=s.toks+1}:=I.turned (λb o hb e=>(sb.2 b hb).trans e) f0 f1 f3 f4 f5;obtain⟨o,e,c,d⟩:=id st';exact⟨_,rfl,MT (s:={s with heap:=h',toks:=s.toks+1}) e c d hn ⟨.str ⟨#[x.cps[i]]⟩,H,I1,⟨_,rfl⟩,⟨rfl,_,hx,rfl⟩,by rw[hty];exact st',λb hb=>(hf b hb).1⟩⟩
  cases ha:x.cps.all (·<128)
  ·have hty:strIterType x="str_iterator":=by simp[strIterType,ha]
   rw[hty] at st;exact wpAny_pyNext_wide_item st hx λh' st' sb=>fin h' _ (by decide) hty st' sb
  ·have hty:strIterType x="str_ascii_iterator":=by simp[strIterType,ha]
   rw[hty] at st;exact wpAny_pyNext_ascii_item st hx λh' st' sb=>fin h' _ (by decide) hty st' sb
 done:=by
  intro Y hP hw hK hc i pins s σ H E I hf st hg;subst hP hw hK;obtain⟨f0,f1,f2,f3,f4,f5⟩:=hf it (by simp);have hx:x.cps[i]?=none:=Array.getElem?_eq_none hg;cases ha:x.cps.all (·<128)
  ·have hty:strIterType x="str_iterator":=by simp[strIterType,ha]
   rw[hty] at st;exact wpAny_pyNext_wide_end (I.ok.hd hc) st hx λh' eb=>⟨rfl,I.turned (t':=s.toks) (λb o hb e=>eb b o hb e) f0 f1 f3 f4 f5⟩
  ·have hty:strIterType x="str_ascii_iterator":=by simp[strIterType,ha]
   rw[hty] at st;exact wpAny_pyNext_ascii_end (I.ok.hd hc) st hx λh' eb=>⟨rfl,I.turned (t':=s.toks) (λb o hb e=>eb b o hb e) f0 f1 f3 f4 f5⟩
 self:=λ_ _ _ _ _ st h=>by
  cases ha:x.cps.all (·<128)
  ·have hty:strIterType x="str_iterator":=by simp[strIterType,ha]
   rw[hty] at st;exact wpAny_pyIter_striter_wide st h
  ·have hty:strIterType x="str_ascii_iterator":=by simp[strIterType,ha]
   rw[hty] at st;exact wpAny_pyIter_striter_ascii st h
section
variable {tg l a:Expr} {fl:FE} {rl:Bool}
theorem UW(I1:Inv X pins σ H1 s1)(r:Rep All H1 v d)(ru:RelV v u)(hi:zO d=.ok items)
 (q:∀J,(∀P:Addr->Prop,Rep P H1 v d->ItQ X.K P J H1 items)->R J H1):wpAny (model X.prog X.w) X.A (pyIter u) (PIE X pins σ tg R) X.xe s1:=by
 by_cases hz:∃z,d=.str z
 ·obtain⟨z,rfl⟩:=hz;simp only[zO] at hi;split at hi
  ·cases hi;cases r.inv;obtain⟨t,rfl⟩:=ru;refine wpAny_pyIter_strU ?_;refine⟨s1.heap.objs.size,[s1.heap.objs.size],_,_,H1,rfl,I1.kept (t':=s1.toks) λb o e=>Heap.get?_push_of_some _ e,Y5 z t _,⟨_,Heap.get?_push_size _ rfl,rfl,rfl⟩,λb hb=>?_,q _ λP r=>.chs z rfl rfl⟩;have e:b=s1.heap.objs.size:=by simpa using hb
   subst e;exact I1.aA9 (Nat.le_refl _) (I1.hok.fresh (Nat.le_refl _))
  ·exact bx hi
 ·have he:zO d=tB d:=by
   unfold zO;split
   ·exact absurd ⟨_,rfl⟩ hz
   ·rfl
  rw[he] at hi;exact KR I1 r ru hi q
theorem fC(hl:PE X l (gE fl rl)):PI X tg l (gI X.K (bV fl rl)):=by
 intro pins s σ H R I ⟨ρ,items,k,E,h,q⟩;obtain⟨d,h1,h⟩:=bD h;obtain⟨its,h2,h⟩:=bD h;cases h;refine thn (hl pins s σ H _ I ⟨ρ,d,E,h1,λv H1 s1 r1 n1=>(show(∃d',Rep All H1 v d/\d'=d/\∀J,(∀P:Addr->Prop,Rep P H1 v d->ItQ X.K P J H1 items)->R J H1) from ⟨d,r1,rfl,λJ hJ=>q J H1 s1 (hJ _ r1) λhk=>hJ _ ?_⟩)⟩) λu s1 ⟨v,H1,I1,ru,d',r1,e,q1⟩=>UW I1 r1 ru h2 q1
 rw[Bool.or_eq_true] at hk;rcases hk with hk|hk
 ·exact n1 hk
 ·exact r1.bO hk
theorem HF{ch:List Addr}{a:Addr}{o:HO}(I:Inv X pins σ H s)(k:∀b u,b∉ch->s.heap.get? b=some u->h'.get? b=some u)(hf:∀b∈ch,QL X pins H b)(hp:s.heap.objs.size<=a)
 (new:jG X.prog X.w (upd H a o) h' a o):Inv X pins σ (upd H a o) {s with heap:=h',toks:=t'}:=by
 have hn:H a=none:=I.hok.fresh hp;have nch:∀b u,H b=some u->b∉ch:=λb u e z=>by rw[(hf b z).1] at e;cases e
 have kU:∀b u,H b=some u->upd H a o b=some u:=λb u e=>by rw[bL (dN e hn)];exact e
 refine I.step (g':=s.gens) (d':=s.drawn) (ch:=ch) (λb hb=>?_) (λb u _ _ hc e _=>k b u hc e) (λb u _ _ hc e _=>⟨u.slots,k b u hc e⟩) (λb u _ e n=>?_)
  (λb u hc e=>⟨u,k b u hc e⟩) (λb xs e=>kU b _ e) (λb u v e=>kU b _ e) (λb ps e=>⟨#[],by rw[kU b _ e];simp⟩) (λm hm=>?_) (λb u e=>?_) I.bare
 ·obtain⟨_,f1,_,f3,f4,f5⟩:=hf b hb;exact⟨f3,f1,f4,f5⟩
 ·rw[bL (λz=>absurd (Nat.lt_of_lt_of_le (Heap.lt_size e) hp) (by rw[z];exact Nat.lt_irrefl _))];exact n
 ·obtain⟨u,es,ep,hu,r⟩:=hm;exact⟨u,es,ep,k _ u (λz=>(hf _ z).2.1 rfl) hu,r⟩
 ·by_cases hb:b=a
  ·subst hb;rw[aO] at e;cases e;exact new
  ·rw[bL hb] at e;refine(I.hok b u e).stay (λc v hc q=>k c v ?_ q) (λc q=>kU c _ q) λc xs q=>kU c _ q
   rcases hc with z|z
   ·rw[z];exact nch b u e
   ·exact nch c _ z
end
end
end Mi
namespace Mi
open PySem L2
theorem aG9(b:Bool):asB (.bl b)=.ok b:=rfl
theorem eY:lim=1000000:=by unfold lim;exact Eq.refl _
theorem zP(h:ρ.length=n):GP n ρ=ρ:=by
 subst h;apply List.ext_getElem
 ·simp[GP]
 ·intro i h1 h2;simp[GP,h2]
theorem dR(h:ds.length=n):bW n f ds=f ds:=by
 unfold bW;rw[if_pos (by simp[h])]
theorem aK(h1:a ρ=.ok x)(h2:b ρ=.ok y)(h3:f x y=.ok z):b2 f a b ρ=.ok z:=by
 unfold b2;rw[h1,Res.bB,h2,Res.bB,h3]
theorem bZ(h:f ρ=.ok d):bN false i f true ρ=.ok (.nx (ρ.set i d)):=by
 unfold bN;rw[h,Res.bB];rfl
theorem iY(h:f ρ=.ok d)(hp:d.pure=true):bN false i f false ρ=.ok (.nx (ρ.set i d)):=by
 unfold bN;rw[h,Res.bB];simp only[hp,Bool.false_or,Bool.false_eq_true,if_false,if_true]
theorem dG(h:f ρ=.ok d)(hp:inner d=true):bN true i f true ρ=.ok (.nx (ρ.set i d)):=by
 unfold bN;rw[h,Res.bB];simp only[hp,Bool.and_self,if_true]
theorem aP(h1:f ρ=.ok (.nx ρ'))(h2:g ρ'=r):bF f g ρ=r:=by
 unfold bF;rw[h1,Res.bB];exact h2
theorem aGa(h1:c ρ=.ok k)(h2:(if k then f ρ else g ρ)=r):sIf c f g ρ=r:=by
 unfold sIf;rw[h1,Res.bB];exact h2
theorem XH(h1:c ρ=.ok true)(h2:f ρ=r):sIf c f g ρ=r:=aGa h1 (by rw[if_pos rfl];exact h2)
theorem uO(h1:c ρ=.ok false)(h2:g ρ=r):sIf c f g ρ=r:=aGa h1 (by rw[if_neg (by simp)];exact h2)
theorem eZ(h1:f ρ=.ok (.bl k)):bTB f ρ=.ok k:=by
 unfold bTB;rw[h1,Res.bB];rfl
theorem U0(h1:a ρ=.ok true)(h2:b ρ=r):QM a b ρ=r:=by
 unfold QM;rw[h1,Res.bB,if_pos rfl,h2]
theorem aCg(h1:a ρ=.ok false):QM a b ρ=.ok false:=by
 unfold QM;rw[h1,Res.bB,if_neg (by simp)];rfl
theorem aD(h1:a ρ=.ok x)(h2:b ρ=.ok xs):aA a b ρ=.ok (x::xs):=by
 unfold aA;rw[h1,Res.bB,h2,Res.bB];rfl
theorem aR(h1:a ρ=.ok xs)(h2:f xs=.ok d):aL f a ρ=.ok d:=by
 unfold aL;rw[h1,Res.bB,h2]
theorem cY(h:a ρ=.ok xs)(hl:xs.length<=lim):cU a ρ=.ok (.tup xs):=by
 unfold cU;rw[h,Res.bB,if_pos (decide_eq_true hl)];rfl
theorem iZ(h:f ρ=.ok d)(hp:(k||d.pure)=true):nR f k ρ=.ok (.rt d):=by
 unfold nR;rw[h,Res.bB,if_pos hp]
theorem tR(h1:it ρ=.ok (xs,true))(h2:rK t body xs ρ=r):vD it t body ρ=r:=by
 unfold vD;rw[h1,Res.bB];exact h2
theorem HH(h1:fV i ρ=.ok d)(h2:tB d=.ok xs)(h3:rK t body xs ρ=r):GR i t body ρ=r:=by
 unfold GR;rw[h1,Res.bB,h2,Res.bB];exact h3
theorem vM(h:f ρ=.ok [.int n])(h1:0<=n)(h2:n<=1000000):gG f lQ ρ=.ok ((List.range n.toNat).map λ(k:Nat)=>D.int (0+(k:Int)),true):=by
 unfold gG;rw[h,Res.bB];have:iT n=true:=by
  simp only[iT,Bool.and_eq_true,decide_eq_true_eq];lia
 simp only[lQ,this,if_true]
theorem vN(h1:g ρ=.ok d)(h2:f ρ=.ok k)(h3:ρ.getD i .uD=.dct kvs)(h4:kvs.length<lim)(h5:wC kvs k=true)(h6:d.pure=true):GQ i f g ρ=.ok (.nx (ρ.set i (.dct (putD kvs k d)))):=by
 unfold GQ;rw[h1,Res.bB,h2,Res.bB,h3];simp only[decide_eq_true h4,h5,h6,Bool.and_self,if_true]
theorem lB(h1:f ρ=.ok d)(h3:ρ.getD i .uD=.lst xs)(h4:xs.length<lim)(h5:d.pure=true):o7 i f ρ=.ok (.nx (ρ.set i (.lst (xs++[d])))):=by
 unfold o7;rw[h1,Res.bB,h3];simp only[decide_eq_true h4,h5,Bool.and_self,if_true]
theorem dX(h1:t x ρ=.ok ρ1)(h2:body ρ1=.ok (.nx ρ2))(h3:rK t body xs ρ2=r):rK t body (x::xs) ρ=r:=by
 rw[rK,h1,Res.bB,h2,Res.bB];exact h3
theorem HJ(L:List D)(i:Int)(h0:0<=i)(h1:i<L.length):∃(h:i.toNat<L.length),getD (.lst L) (.int i)=.ok L[i.toNat]:=by
 have hlt:i.toNat<L.length:=by lia
 refine⟨hlt,?_⟩;show Res.ofOpt ((ixD L.length i).bind λj=>L[j]?)=_;unfold ixD;rw[if_pos h0,if_pos h1];simp only[Option.bind_some];rw[List.getElem?_eq_getElem hlt];rfl
theorem i_(L:List D):dJ [.lst L]=.ok (.int L.length):=rfl
theorem jA(h1:it ρ=.ok (xs,kk))(h2:xs.length<=lim)(h3:gZ (iB n t c f k ρ) [] xs=.ok ys):c7 n it t c f k ρ=.ok (.lst ys):=by
 unfold c7;rw[h1,Res.bB];simp only[decide_eq_true h2,if_true];rw[h3];rfl
theorem gM(hρ:ρ.length=n)(h1:c (ρ++[x])=.ok b)(h2:b=true->f (ρ++[x])=.ok y/\(k||y.pure)=true):iB n h_ c f k ρ acc x=.ok (if b then acc++[y] else acc):=by
 unfold iB;show(do let ok <- c (GP n ρ++[x]);_)=_;rw[zP hρ,h1,Res.bB];cases b with
 |true=>
  obtain⟨e1,e2⟩:=h2 rfl;rw[if_pos rfl,e1,Res.bB,if_pos e2,if_pos rfl];rfl
 |false=>
  rw[if_neg (by simp),if_neg (by simp)];rfl
theorem fK(g:List D->D->Res (List D))(d:α->D)(p:α->Bool)(y:α->D)(h:∀acc a,g acc (d a)=.ok (if p a then acc++[y a] else acc)):∀(xs:List α)(acc:List D),gZ g acc (xs.map d)=.ok (acc++(xs.filter p).map y)
 |[],acc=>by simp[gZ]
 |x::xs,acc=>by
  rw[List.map_cons,gZ,h];show gZ g _ _=_;rw[fK g d p y h xs];by_cases hp:p x
  ·simp[hp]
  ·simp[hp]
theorem cZ(a b:Int):aW .add (.int a) (.int b)=.ok (.int (a+b)):=rfl
theorem aAp(a b:Int):aW .sub (.int a) (.int b)=.ok (.int (a-b)):=rfl
theorem U3(a b:Int)(h:jR b=true):aW .mul (.int a) (.int b)=.ok (.int (a*b)):=by
 show(if jR a||jR b then Res.ok (D.int (a*b)) else .bad)=_;rw[h,Bool.or_true,if_pos rfl]
theorem qH(a b:Int)(h:jR a=true):aW .mul (.int a) (.int b)=.ok (.int (a*b)):=by
 show(if jR a||jR b then Res.ok (D.int (a*b)) else .bad)=_;rw[h,Bool.true_or,if_pos rfl]
theorem fD(a b:Int)(h1:0<b)(h2:b<1073741824):aW .fdiv (.int a) (.int b)=.ok (.int (a / b)):=by
 show(if decide (0<b)&&decide (b<1073741824) then Res.ok (D.int (a / b)) else .bad)=_;rw[decide_eq_true h1,decide_eq_true h2,Bool.and_self,if_pos rfl]
theorem cD(a b:Int)(h1:0<b):aW .mod (.int a) (.int b)=.ok (.int (a % b)):=by
 show(if decide (0<b) then Res.ok (D.int (a % b)) else .bad)=_;rw[decide_eq_true h1,if_pos rfl]
theorem sV(a b:Str)(h:a.length+b.length<=lim):aW .add (.str a) (.str b)=.ok (.str (a++b)):=by
 show(if decide (a.length+b.length<=lim) then Res.ok (D.str (a++b)) else .bad)=_;rw[decide_eq_true h,if_pos rfl]
theorem str_len(a b:Str):(a++b).length=a.length+b.length:=by
 show(a.cps++b.cps).size=_;rw[Array.size_append];rfl
theorem nH(a b:List D)(h:a.length+b.length<=lim)(ha:D.bA a=true)(hb:D.bA b=true):aW .add (.lst a) (.lst b)=.ok (.lst (a++b)):=by
 show(if decide (a.length+b.length<=lim)&&D.bA a&&D.bA b then Res.ok (D.lst (a++b)) else .bad)=_;rw[decide_eq_true h,ha,hb,Bool.and_self,Bool.and_self,if_pos rfl]
theorem aGb(n:Nat)(h:n<=1000):aW .pow (.int 10) (.int n)=.ok (.int (10 ^ n)):=by
 have h1:decide ((0:Int)<=(n:Int))=true:=by simp
 have h2:decide ((n:Int)<=1000000)=true:=by simp;lia
 have h3:decide ((10:Int).natAbs<2 ^ 64)=true:=by decide
 show(if decide ((0:Int)<=(n:Int))&&decide ((n:Int)<=1000000)&&decide ((10:Int).natAbs<2 ^ 64) then Res.ok (D.int (10 ^ ((n:Int).toNat))) else .bad)=_;rw[h1,h2,h3,Bool.and_self,Bool.and_self,if_pos rfl,Int.toNat_natCast]
end Mi
namespace Mi
open PySem L2 PySem.W PySem.SeqAt PySem.Spec PyProof.Rows
variable [KFrag]
def nJ(a:FA):FE:=λρ=>do let xs <- a ρ;if decide (xs.length<=lim)&&D.bA xs then pure (.lst xs) else .bad
theorem tU(h:PA X es (gA f r)):PE X (.List es pos) (gE (nJ f) true):=PE.imp (Q_ h) λσ H Q ⟨ρ,d,E,h,q⟩=>by
  obtain⟨xs,h1,h⟩:=bD h;split at h
  ·rename_i hl;rw[Bool.and_eq_true] at hl;cases h;refine⟨ρ,xs,E,h1,λvs H1 s1 r1 n1=>⟨?_,λp hp=>?_⟩⟩
   ·rw[r1.length];exact Nat.le_trans (of_decide_eq_true hl.1) (by rw[sizeLine_eq];decide)
   ·have sp:cL H1 (upd H1 p (.lst vs)):=cL.upd hp;exact q _ _ (s1.trans sp) (.lst aO trivial (r1.same sp)) λ_=>.lst aO (s1.free hp) ((r1.bO hl.2).same sp)
  ·exact bx h
end Mi
namespace Mi
open PySem L2 PySem.SeqAt PySem.Spec PyProof.Rows
variable [KFrag]
def DV(H:Hp)(a:Addr)(kvs:List (Key×V)):Prop:=H a=some (.dK kvs)\/(kvs=[]/\H a=some (.dT []))
theorem aAq:∀{kvs:List (κ×V)}{vs:List (κ×Value)}{i:Nat}{p:κ×V},KV kvs vs->kvs[i]?=some p->∃u,vs[i]?=some (p.1,u)/\RelV p.2 u
 |_,_,_,_,.nil,h=>by simp at h
 |_,_,0,_,.cons r _,h=>by
  simp at h;subst h;exact⟨_,by simp[r.1],r.2⟩
 |_,_,i+1,_,.cons _ t,h=>by
  obtain⟨u,h1,h2⟩:=aAq t (by simpa using h);exact⟨u,by simpa using h1,h2⟩
section
variable {X:Cx} {pins:List (Addr×Obj)} {σ:L2.St} {H:Hp} {s:Shared} {a:Addr} {kvs:List (Key×V)}
theorem aGc(hu:DV H a kvs):L2.Mut (H a):=by
 rcases hu with h|⟨_,h⟩<;>rw[h]<;>trivial
theorem U4(I:Inv X pins σ H s)(hu:DV H a kvs):kvs.length<=sizeLine/\(a==sysModules)=false/\∃vs,KV kvs vs/\s.heap.DictOf (bY X.prog X.w) a vs:=by
 rcases hu with h|⟨rfl,h⟩
 ·exact NB I.hok h
 ·exact NB (mO I h).hok aO
theorem aGd(I:Inv X pins σ H s)(hu:DV H a kvs)(ho:s.heap.get? a=some o):∃u,H a=some u/\∀(H':Hp)(h:Heap),h.get? a=some o->jG X.prog X.w H' h a u:=by
 rcases hu with h|⟨_,h⟩
 ·obtain⟨z,hs,vs,rel,o',es,ep,ho',c⟩:=I.hok a _ h;rw[ho] at ho';cases ho';exact⟨_,h,λH' h' e=>⟨z,hs,vs,rel,o,es,ep,e,c⟩⟩
 ·obtain⟨z,hs,xs,rel,o',es,ep,ho',c⟩:=I.hok a _ h;rw[ho] at ho';cases ho';cases rel;exact⟨_,h,λH' h' e=>⟨z,hs,[],.nil,o,es,ep,e,c⟩⟩
end
noncomputable def aE9:HO->Bool
 |.tup _=>false
 |.frz _ (.lst _)=>false
 |_=>true
mutual
theorem rP{P:Addr->Prop}{H:Hp}{a:Addr}{u:HO}(ea:∀ob,H a=some ob->aE9 ob=true):∀{v:V}{d:D},Rep P H v d->d.pure=true->Rep P (upd H a u) v d
 |_,_,.non,_=>.non
 |_,_,.bl b,_=>.bl b
 |_,_,.int i,_=>.int i
 |_,_,.str x,_=>.str x
 |_,_,.tup (a:=b) e r,h=>.tup (by rw[bL (λz=>by rw[z] at e;have:=ea _ e;cases this)];exact e) (lV ea r (by rw[D.pure] at h;exact h))
 |_,_,.lst _ _ _,h=>by rw[D.pure] at h;cases h
 |_,_,.frz e r,h=>.frz (e.imp (λ⟨o,e⟩=>⟨o,by rw[bL (λz=>by rw[z] at e;have:=ea _ e;cases this)];exact e⟩) id) (lV ea r (by rw[D.pure] at h;exact h))
 |_,_,.cel _ _ _,h=>by rw[D.pure] at h;cases h
 |_,_,.dK _ _ _ _,h=>by rw[D.pure] at h;cases h
 |_,_,.dT _ _ _ _,h=>by rw[D.pure] at h;cases h
 |_,_,.fdK _ _ _,h=>by rw[D.pure] at h;cases h
 |_,_,.fdT _ _ _,h=>by rw[D.pure] at h;cases h
 |_,_,.exc _ _ _,h=>by rw[D.pure] at h;cases h
 |_,_,.ins _ _ _,h=>by rw[D.pure] at h;cases h
theorem lV{P:Addr->Prop}{H:Hp}{a:Addr}{u:HO}(ea:∀ob,H a=some ob->aE9 ob=true):∀{v:List V}{d:List D},bR P H v d->D.bA d=true->bR P (upd H a u) v d
 |_,_,.nil,_=>.nil
 |_,_,.cons r t,h=>by
  rw[D.bA,Bool.and_eq_true] at h;exact .cons (rP ea r h.1) (lV ea t h.2)
end
theorem qI:∀{acc:List D}{y:D},D.bA acc=true->y.pure=true->D.bA (acc++[y])=true
 |[],y,_,h=>by show(y.pure&&true)=true;rw[h];rfl
 |x::acc,y,h,hy=>by
  rw[D.bA,Bool.and_eq_true] at h;show(x.pure&&D.bA (acc++[y]))=true;rw[h.1,qI h.2 hy];rfl
theorem zQ:∀{kvs:List (Key×V)}{ds:List (D×D)},jF P H kvs ds->bR P H (kvs.map (·.2)) (ds.map (·.2))
 |_,_,.nil=>.nil
 |_,_,.cons r t=>.cons r (zQ t)
end Mi
namespace Mi
open PySem L2 PySem.SeqAt PySem.Spec PyProof.Rows
variable [KFrag]
structure aIg(K:PySem.W.Frag)(x qual:Str)(st:Stmt)(f:Addr)(fd:FuncData)(T:Addr)(its:Array Value):Prop where
 ex:∃(oc:Value)(od:Option Addr)(kV doc pm:Value)(an:Option Addr)(cdv ct:Value)(osl:Array (Option Value)),
  fd=PySem.W.fnOf x qual (jZ st) (fU st) (aQ st) (.ref T) kV doc pm an cdv ct/\K.lookup f=some ⟨oc,od,.func fd,osl⟩/\PySem.W.codeIn K cdv qual=true
 kp:PySem.W.keepIn K (.ref f)=true
 df:∃(tc:Value)(td:Option Addr)(tn:Nat)(tl:Array (Option Value)),K.lookup T=some ⟨tc,td,.seq its tn,tl⟩
section
variable {P:Program} {w:World} {K:PySem.W.Frag} {mg:Str->Option Value} {base:Heap} {x qual:Str} {st:Stmt} {fad T:Addr} {its:Array Value} {fd:FuncData} {N ps:List Str} {k:Nat} {f:FS}
theorem aGe(F:aIg K x qual st fad fd T its)(S:cF N ps (aQ st))(own:Nat->Bool)(hown:∀i,i<ps.length->own i=false)
 (hbody:∀(cdv:Value) (A:Around) (outer:List Env) (s:Shared) (H:Hp) (E:XK),rH k (A.deeper (envOfC qual (aQ st) s.heap.objs.size fad cdv))->PSs (XX CX0 P w K mg base N qual (aQ st) fad cdv A outer s H E).nox (fU st) (tS own f))(hx:own rtX=false:=by rfl):DX P w K mg base CX0 (k+1) fad fd ps (spD (fnS ps.length N.length f) ps.length):=by
 obtain⟨oc,od,kV,doc,pm,an,cdv,ct,osl,rfl,lk,hcd⟩:=F.ex;exact aF3 lk hcd S (λvs H Q E h=>T8 h) λA outer s H vs Q E hr h=>⟨_,(hbody cdv A outer s H E hr).nox,UL hx hown h⟩
end
structure aEa(P:Program)(w:World)(K:PySem.W.Frag)(mg:Str->Option Value)(base:Heap)(k:Nat)(x kw:Str)(n:Nat)(df:D)(f:List D->Res D):Prop where
 ex:∃(fad:Addr)(fd:FuncData)(ps:List Str)(u:Value)(v:V),DX P w K mg base CX0 k fad fd ps (spD f (n+1))/\mg x=some (.ref fad)/\PySem.W.keepIn K (.ref fad)=true/\Binds K fd ps []/\Binds K fd ps [u]/\RelV v u/\(∀H:Hp,Rep All H v df)/\
  ∀(s:Shared)(us:List Value)(y:Value),K.In s.heap->us.length=n->BindsTo s fd ⟨us,[(kw,y)]⟩ (ps.zip (us++[y]))
theorem aEa.cal{K:PySem.W.Frag}{mg:Str->Option Value}{base:Heap}{k:Nat}{x kw:Str}{n:Nat}{df:D}{f:List D->Res D}(C:aEa P w K mg base k x kw n df f):cJ P w K mg base k x (n+1) f:=by
 obtain⟨fad,fd,ps,u,v,F,hm,hk,hb,_⟩:=C.ex;exact⟨fad,fd,ps,F,hm,hk,hb⟩
section
variable {X:Cx} {e:Expr} {es:List Expr} {pos p:Pos} {fs:FA} {rr:Bool} {x kw:Str} {k k' n:Nat} {df:D} {f:List D->Res D}
theorem U5(C:aEa X.prog X.w X.K X.mg X.base k x kw n df f)(hr:rH k' X.A)(hkk:k<=k')(hg:Gl X x)(ha:PA X (e::es) (gA fs rr))(hdb:nDb x:=by decide)(he:starEach (e::es) X.env=(false,eval e X.env)::starEach es X.env:=by rfl)(hpl:(backTo pos (starEach es X.env)).any (·.1)=false:=by rfl) :
  PE X (.Call (.Name x p) (e::es) [] pos) (gE (aL (λds=>bW (n+1) f (ds++[df])) fs) true):=by
 obtain⟨fad,fd,ps,u,v,F,hm,hk,hb,hb1,ru,rv,_⟩:=C.ex;refine PE.imp (RC F (hr.mono hkk) hg hm hk hb1 (.cons ru .nil) aFh ha hdb he hpl) λσ H Q h0=>?_
 obtain⟨ρ,d,E,h,q⟩:=h0;obtain⟨ds,h1,h⟩:=bD h;unfold bW at h;split at h
 ·rename_i hl;exact⟨ρ,ds,E,h1,λvs H1 s1 r1 _=>⟨ds++[df],d,of_decide_eq_true hl,r1.append (.cons (rv H1) .nil),h,q.imp s1 id⟩⟩
 ·exact bx h
end
end Mi
namespace Mi
open PySem L2 PySem.SeqAt PySem.Spec PyProof.Rows
def DG:D->D->Res D
 |.tup a,.tup b=>if decide (a.length+b.length<=lim) then .ok (.tup (a++b)) else .bad
 |_,_=>.bad
def aAr:D->Res D
 |.lst xs=>if D.bA xs then .ok (.lst xs.reverse) else .bad
 |_=>.bad
def qU:List D->List D->List (D×D)->List (D×D)
 |k::ks,v::vs,m=>qU ks vs (putD m k v)
 |_,_,m=>m
def tV:List D->Res D
 |[.tup xs,.tup ys]=>if decide (xs.length<=1000)&&decide (ys.length=xs.length)&&xs.all j5&&D.bA ys then .ok (.dct (qU xs ys [])) else .bad
 |_=>.bad
noncomputable def U6(c:FT)(body:FS):Nat->List D->Res Fl
 |0,_=>.bad
 |n+1,ρ=>do
  let k <- c ρ
  if k then (do
   let r <- body ρ
   match r with
   |.nx ρ'=>U6 c body n ρ'
   |.ct ρ'=>U6 c body n ρ'
   |.bk ρ'=>.ok (.nx ρ')
   |.rt d=>.ok (.rt d))
  else .ok (.nx ρ)
def aGf(c:FT)(body:FS):FS:=λρ=>U6 c body 1000 ρ
noncomputable def Y6(i j:Nat)(f:FE):FS:=λρ=>do
 let k <- f ρ
 match ρ.getD i .uD,k with
 |.lst xs,.int k=>if decide (0<=k)&&decide (k<=1000000) then (match xs[k.toNat]? with|some x=>.ok (.nx ((ρ.set i (.lst (xs.eraseIdx k.toNat))).set j x))|none=>.bad) else .bad
 |_,_=>.bad
def aEb:List D->Res D
 |[.dct kvs]=>if kvs.all (λp=>!isTup p.1) then .ok (.int kvs.length) else .bad
 |ds=>dJ ds
noncomputable def fzD(i:Nat)(kvs:List (D×D))(ρ:List D):List D:=(ρ.map λd=>if d.pure then d else .uD).set i (.fdc kvs)
def K6(n i:Nat)(t:D->Res (List D))(c:FT)(f:FE):FE:=λρ=>do
 let d <- fV i ρ
 match d with
 |.dct kvs=>if decide (kvs.length<=lim)&&(kvs.all (λp=>!isTup p.1)&&D.bA (kvs.map (·.2))) then (do
   let ys <- gZ (iB n t c f false (fzD i kvs ρ)) [] (oE kvs)
   pure (.lst ys)) else .bad
 |_=>.bad
variable [KFrag]
section
variable {X:Cx} {pos:Pos}
theorem xG:OpR X (binaryOp .Add) (r2 DG false):=by
 intro pins s σ H x y v u Q I rx ry h;obtain⟨a,b,d,p,q,e,k⟩:=h;unfold DG at e;split at e
 ·rename_i da db;split at e
  ·rename_i hl;cases e;cases p with
   |@tup l1 xs1 _ e1 r1=>
    cases q with
    |@tup l2 xs2 _ e2 r2=>
     cases rx;cases ry;have hz:xs1.length+xs2.length<=sizeLine:=by rw[r1.length,r2.length];exact mK hl
     obtain⟨its,w1,p1,_⟩:=I.tuple (.of e1);obtain⟨its2,w2,p2,_⟩:=I.tuple (.of e2);obtain⟨⟨cls,dd,data,sl⟩,ho,hc,n,hd⟩:=id p1;obtain⟨⟨cls2,dd2,data2,sl2⟩,ho2,hc2,n2,hd2⟩:=id p2;simp only at hc hd hc2 hd2;by_cases hv:its=[]
     ·have:xs1=[]:=w1.rZ.mp hv;subst this;cases r1;refine concat_meets ⟨_,ho,hc⟩ ⟨_,ho2,hc2⟩ noFill_tuple_add seq_tuple_add PySem.F.slot_tuple_add PySem.F.entry_tuple_add (PySem.F.args_tuple_add_2 _ _)
       (tuple_addW0 l1 l2 its.toArray its2.toArray n n2 dd dd2 sl sl2 (by simp[hv])) ⟨by subst hc hd;exact ho,by subst hc2 hd2;exact ho2,.ref l2,H,I,rfl,?_⟩
      exact k.self (.tup e2 r2) (λz=>by cases z)
     ·refine aBd pins s σ H (.ref l1) (.ref l2) _ _ Q I rfl rfl ⟨l1,l2,xs1,xs2,rfl,rfl,.of e1,.of e2,λz=>hv (w1.rZ.mpr z),hz,λz=>?_,λz p hp=>?_⟩
      ·subst z;cases r2;rw[List.append_nil] at k;exact k.self (.tup e1 r1) (λz=>by cases z)
      ·have sp:cL H (upd H p (.tup (xs1++xs2))):=cL.upd hp;exact k _ _ sp (.tup aO ((r1.append r2).same sp)) λz=>by cases z
  ·exact bx e
 ·exact bx e
theorem aCh(hK:KFrag.K=X.K):mX X (.builtin "len") (rs aEb true):=by
 intro pins s σ H xs us Q I vr ⟨ds,d,r,e,k⟩;unfold aEb at e;split at e
 ·rename_i ds;split at e
  ·rename_i hb;cases e;obtain⟨vv,uu,rfl,rfl,r,v⟩:=k_ r vr;obtain⟨a,kvs,rfl,hu,rl⟩:∃a kvs,vv=.ref a/\DV H a kvs/\kvs.length=ds.length:=by
    cases r with
    |dK e _ rk _=>exact⟨_,_,rfl,.inl e,by have:=(zQ rk).length;simpa using this⟩
    |dT e _ rt _=>
     cases rt with
     |nil=>exact⟨_,[],rfl,.inr ⟨rfl,e⟩,rfl⟩
     |cons r t=>simp[isTup] at hb
   cases v;obtain⟨z,hs,vs,rel,dd⟩:=U4 I hu;refine call_len_dict hs dd (by rw[<-rel.length];rw[sizeLine_eq] at z;lia) ?_;rw[<-rel.length,rl];exact⟨.int _,H,I.tok _,⟨_,rfl⟩,k.int⟩
  ·exact bx e
 ·exact cW hK pins s σ H xs us Q I vr ⟨_,d,r,e,k⟩
theorem aAs(hp:PassesOwn (model X.prog X.w) X.A X.env X.xe)(hc:PT X c (gT gc))(hb:PSs X body (tS own fb)):PS X (.While c body [] pos) (tS own (aGf gc fb)):=
 PS.imp (XR hp hc hb) λD σ H ⟨ρ,fl,E,h,q⟩=>by
 refine⟨λm σ' H'=>∃ρ' ,ES own H' σ' ρ'/\U6 gc fb m ρ'=.ok fl/\kS own D σ' H' fl,⟨1000,ρ,E,h,q⟩,?_⟩;rintro m σ H ⟨ρ,E,h,q⟩;cases m with
 |zero=>exact bx h
 |succ m=>
  rw[U6] at h;obtain⟨k,h1,h2⟩:=bD h;refine⟨ρ,k,E.er,h1,λH1 s=>?_⟩;cases k with
  |true=>
   rw[if_pos rfl];rw[if_pos rfl] at h2;obtain⟨r,h3,h4⟩:=bD h2;refine⟨λσ' H'=>∃ρ',ES own H' σ' ρ'/\U6 gc fb m ρ'=.ok fl/\kS own D σ' H' fl,λσ' H' w=>⟨m,Nat.lt_succ_self m,w⟩,ρ,r,E.same s,h3,?_⟩;have q1:=q.step (.same s);cases r with
   |nx ρ'=>exact λσ' H' ku E'=>⟨ρ',E',h4,q1.step ku⟩
   |ct ρ'=>exact λσ' H' ku E'=>⟨ρ',E',h4,q1.step ku⟩
   |bk ρ'=>cases h4;exact λσ' H' ku E'=>q1 σ' H' ku E'
   |rt d=>cases h4;exact q1
  |false=>
   rw[if_neg (by simp)];rw[if_neg (by simp)] at h2;cases h2;exact(q.step (.same s)) σ H1 (λa o e n=>⟨e,n⟩) (E.same s)
end
section
variable {X:Cx} {own:Nat->Bool} {e:Expr} {fe:FE} {re:Bool} {pos:Pos}
theorem aCi(ho:own i=true)(hN:X.N[i]?=some x)(hv:Vis X.env.scope x)(hnd:X.N.Nodup)(hj:X.N[j]?=some y)(hy:Loc X.env.scope y)(hoj:own j=false)(he:PE X e (gE fe re))(hd:nDb x:=by decide)(hcd:nCd x:=by decide)
 (hbase:attributeBase (.Name x p1) "pop" X.env (eval (.Name x p1) X.env)=eval (.Name x p1) X.env:=by rfl)
 (hs1:starEach [e] X.env=(false,eval e X.env)::starEach [] X.env:=by rfl)
 (hfew:((backTo cpos (starEach [e] X.env)).all (λx=>!x.1)&&(backToKw cpos (keywordEach [] X.env)).all (λx=>x.1.isSome)
  &&decide (([e]:List Expr).length+([]:List Keyword).length+(if ([]:List Keyword).isEmpty then 0 else 1)<30))=true:=by rfl)
 (hline:(apos.endLine==cpos.line)=true:=by rfl)
 (hs:swapsWith (.Call (.Attribute (.Name x p1) "pop" apos) [e] [] cpos) (some (.Name y py)) pos.line X.env=pure false:=by rfl)(hf:X.fn y=true\/X.env.scope.names.lookup y=some .local:=by first|exact .inl rfl|exact .inr rfl|assumption) :
  PS X (.Assign [.Name y py] (.Call (.Attribute (.Name x p1) "pop" apos) [e] [] cpos) pos) (tS own (Y6 i j fe)):=
 PS.imp (Q3 hnd hj hy (M9 PySem.F.plainAttrs_list PySem.F.slot_list_pop PySem.F.type_list_pop JQ (kW hN hv hd hcd) (gY he mY hs1) hbase hfew hline hs1 rfl) hs hf) λD' σ H ⟨ρ,fl,E,h,q⟩=>by
 obtain⟨d,h1,h2⟩:=bD h;split at h2
 ·rename_i xs k hx;split at h2
  ·rename_i hk;rw[Bool.and_eq_true,decide_eq_true_eq,decide_eq_true_eq] at hk;split at h2
   ·rename_i dx hdx;cases h2;obtain⟨a,o,hσ,r,hin,ha,hm⟩:=E.ownAt ho (by rw[hx];intro z;cases z);rw[hx] at r hin;obtain⟨vs,hl,rr⟩:=tL r;obtain⟨v,hvx,rv⟩:=rr.get hdx;refine⟨_,hσ,.inl ⟨rfl,vs,.of hl⟩,ρ,_,E.er,h1,λu H' s ru _=>?_⟩;cases ru.inv;have hlt:k.toNat<vs.length:=(List.getElem?_eq_some_iff.mp hvx).1;refine⟨a,vs,k,k.toNat,v,rfl,rfl,s _ _ hl,by lia,by lia,?_,hvx,?_⟩
    ·unfold seqIndex?;have h3:¬k<0:=by lia
     have h4:k<vs.length:=by lia
     first
      | (simp only[h3,if_false,hk.1,h4,and_self,if_true];done)
      | (simp[h3,hk.1,h4];done)
      | (simp[h3,hk.1,h4,hlt])
    ·have E':=E.same s;have hl':=s _ _ hl;have hin':D.bA xs=true:=hin;have pall:∀y∈xs,y.pure=true:=λy hy=>iV.mp hin' y hy
     have pdx:dx.pure=true:=pall dx (List.mem_of_getElem? hdx);have pe:D.bA (xs.eraseIdx k.toNat)=true:=iV.mpr λy hy=>pall y (List.mem_of_mem_eraseIdx hy)
     have er:∀{vs:List V}{ds:List D}(n:Nat),bR All H' vs ds->bR All H' (vs.eraseIdx n) (ds.eraseIdx n):=by
      intro vs ds n r;induction n generalizing vs ds with
      |zero=>cases r with
       |nil=>exact .nil
       |cons _ t=>exact t
      |succ n ih=>cases r with
       |nil=>exact .nil
       |cons r t=>exact .cons r (ih t)
     obtain⟨E2,k2⟩:=E'.mut (o:=.lst (vs.eraseIdx k.toNat)) (d:=.lst (xs.eraseIdx k.toNat)) ho hσ rfl (.lst aO trivial ((er k.toNat (rr.same s)).upd pe hl' rfl)) pe;have r1:=(bR.cons (rv.same s) .nil).upd (o:=.lst (vs.eraseIdx k.toNat)) (by rw[D.bA,pdx];rfl) hl' rfl;cases r1 with
     |cons r1 _=>
      have E3:=E2.set hoj (v:=v) (d:=dx) (r1.bO pdx);exact q _ _ (((KU.same s).trans k2).trans λb ob eb nb=>⟨eb,by rw[nG hoj];exact nb⟩) E3
   ·exact bx h2
  ·exact bx h2
 ·exact bx h2
theorem xH:∀l:List α,(∀a∈l,f a=g a)->l.filterMap f=l.filterMap g
 |[],_=>rfl
 |a::l,h=>by rw[List.filterMap_cons,List.filterMap_cons,h a (List.mem_cons_self ..),xH l λb hb=>h b (List.mem_cons_of_mem _ hb)]
theorem K7:∀its:List Value,(List.range its.length).filterMap (λk=>its[its.length-1-k]?)=its.reverse
 |[]=>rfl
 |a::r=>by
  rw[List.length_cons,List.range_succ,List.filterMap_append,List.reverse_cons];have e1:(List.range r.length).filterMap (λk=>(a::r)[r.length+1-1-k]?)=(List.range r.length).filterMap (λk=>r[r.length-1-k]?):=by
   apply xH;intro k hk;have hk:=List.mem_range.mp hk;have:r.length+1-1-k=(r.length-1-k)+1:=by lia
   rw[this,List.getElem?_cons_succ]
  rw[e1,K7 r]
  congr 1
  simp
theorem xJ(its:List Value):slicePick its.toArray none none (some (-1))=its.reverse.toArray:=by
 have hr:sliceRange ((its.length:Int)-1) (-1) (-1)=(List.range its.length).map λk=>its.length-1-k:=picked_rev its.length
 have hb:sliceBounds none none (some (-1)) its.toArray.size=(((its.length:Int)-1),-1,-1):=rfl;unfold slicePick;rw[hb];show((sliceRange ((its.length:Int)-1) (-1) (-1)).filterMap (its.toArray[·]?)).toArray=_;rw[hr,List.filterMap_map,<-K7 its];exact congrArg List.toArray (xH _ λk _=>by simp)
theorem aGg(he:PE X e (gE fe re)):PE X (.Subscript e (.Slice none none (some (.UnaryOp .USub (.Constant (.int 1) j p1) p3)) p2) pos) (gE (b1 aAr fe) true):=by
 intro pins s σ H Q I ⟨ρ,d,E,h,q⟩;obtain⟨x,h1,h2⟩:=bD h;refine Subscript_ (thn (he pins s σ H (λv H1=>cL H H1/\Rep All H1 v x) I ⟨ρ,x,E,h1,λv H1 s1 r1 _=>⟨s1,r1⟩⟩) λv s1 ⟨xv,H1,I1,r1,sm,rx⟩=>?_);refine wpAny_Slice ?_;rw[evalPart_none];refine wpAny_pure (wpAny_pure ?_);refine thn (RJ (aFr aAj (aF (X:=X) (i:=1) (j:=j) (pos:=p1))) pins s1 σ H1 (λst H2=>st=some (-1)/\cL H1 H2) I1 ⟨ρ,.int (-1),E.same sm,rfl,λv H2 s2 r2 _=>by cases r2.inv;exact⟨-1,rfl,rfl,s2⟩⟩) λvs s2 ⟨st,H2,I2,ps,est,sm2⟩=>?_
 subst est;have I4:Inv X pins σ H2 {s2 with heap:=s2.heap.push {cls:=.type "slice",data:=.fields #[.none,.none,vs]}}:=I2.kept (t':=s2.toks) λb ob q=>Heap.get?_push_of_some _ q
 unfold aAr at h2;split at h2
 ·rename_i ds;split at h2
  ·rename_i hp;cases h2;obtain⟨l,xs,rfl,hl,rr⟩:=(rx.same sm2).lE (K:=X.K);cases r1;obtain⟨its,r,ht,hz⟩:=I4.list hl;have hlen:=r.length;refine tail_any (ops:=[.ref l,.ref s2.heap.objs.size]) (T:= "list") ht.isList.typeIs slot_list_getitem.lookup ?_ (by with_unfolding_all rfl);refine wpAny_getItem_list_slice ht.isList (Heap.IsSliceOf.new ..) .none .none ps (by simp) ?_ (by rw[List.size_toArray]<;>lia);rw[xJ];refine⟨.ref _,_,I4.laid (t':=s2.toks) (o:=.lst xs.reverse) (λb ob q=>Heap.get?_push_of_some _ q) (Nat.le_refl _) ⟨by rw[List.length_reverse];exact hz,_,0,r.reverse,Heap.get?_push_size _ rfl⟩,rfl,?_⟩;have hfr:H2 (s2.heap.push {cls:=.type "slice",data:=.fields #[.none,.none,vs]}).objs.size=none:=I4.hok.fresh (Nat.le_refl _);have sp:=cL.upd (o:=.lst xs.reverse) hfr;have rev:∀{P:Addr->Prop}{vs:List V}{ds:List D},bR P H2 vs ds->bR P H2 vs.reverse ds.reverse:=by
    intro P vs ds r;induction vs generalizing ds with
    |nil=>cases r;exact .nil
    |cons v vs ih=>cases r with
     |cons r t=>
      rw[List.reverse_cons,List.reverse_cons];exact(ih t).snoc r
   refine q _ _ ((sm.trans sm2).trans sp) (.lst aO trivial ((rev rr).same sp)) λ_=>.lst aO ?_ ((rev (rr.bO hp)).same sp)
   exact(sm.trans sm2).free hfr
  ·exact bx h2
 ·exact bx h2
end
def Itk(a:Addr)(o:Obj)(u:HO)(kvs:List (Key×V)):It where
 go:=λi H=>H a=some (.frz o u)/\∃p,kvs[i]?=some p
 yld:=λi H x H'=>H'=H/\∃p,kvs[i]?=some p/\x=kV p.1
 stop:=λi H=>H a=some (.frz o u)/\kvs.length<=i
theorem aGh(h:(bY P w).is k v=true):RelV (kV k) v:=by
 have h:DN k v=true:=h;rcases cR h with ⟨i,t,rfl,rfl⟩|⟨x,t,rfl,rfl⟩
 ·exact⟨t,rfl⟩
 ·exact⟨t,rfl⟩
theorem U7{K:PySem.W.Frag}{tg:Expr}{a it:Addr}{o:Obj}{u:HO}{kvs:List (Key×V)}{vs:List (Key×Value)}{ep:Nat}(hd:∀h:Heap,h.get? a=some o->h.DictAt (bY P w) a vs ep)(rel:KV kvs vs) :
  Turn P w K tg (Itk a o u kvs) [it] it (λi h=>h.IsKeyIter it a i vs.length ep) where
 mem:=by simp
 obj:=λi h st b hb=>by
  have e:b=it:=by simpa using hb
  subst e;obtain⟨o,e,c,d⟩:=st;exact⟨o,e,λv z=>by rw[d] at z;cases z⟩
 keep:=λi h h' st k=>st.at λo e=>k it (by simp) o e
 item:=by
  intro X hP hw hK hc i pins s σ H E I hf st hg;subst hP hw hK;obtain⟨ea,⟨k,x⟩,hx⟩:=hg;obtain⟨px,_⟩:=I.hok a _ ea;obtain⟨v,hv,rv⟩:=aAq rel hx;obtain⟨f0,f1,f2,f3,f4,f5⟩:=hf it (by simp);refine wpAny_pyNext_dict_item st (hd _ px) hv λkey h' hk st' sb=>?_
  have I1:Inv X pins σ H {s with heap:=h'}:=I.turned (t':=s.toks) (λb o hb e=>(sb.2 b hb).trans e) f0 f1 f3 f4 f5;obtain⟨o',e,c,d⟩:=id st';exact⟨key,rfl,MT (s:={s with heap:=h'}) e c d (by decide) ⟨kV k,H,I1,aGh hk,⟨rfl,_,hx,rfl⟩,st',λb hb=>(hf b hb).1⟩⟩
 done:=by
  intro X hP hw hK hc i pins s σ H E I hf st hg;subst hP hw hK;obtain⟨ea,hx⟩:=hg;obtain⟨px,_⟩:=I.hok a _ ea;obtain⟨f0,f1,f2,f3,f4,f5⟩:=hf it (by simp);have hl:kvs.length=vs.length:=Paired.length rel;exact wpAny_pyNext_dict_end (I.ok.hd hc) st (hd _ px) (List.getElem?_eq_none_iff.mpr (by lia)) λh' eb=>⟨rfl,I.turned (t':=s.toks) (λb o hb e=>eb b o hb e) f0 f1 f3 f4 f5⟩
 self:=λ_ _ _ _ _ st h=>wpAny_pyIter_keyiter st h
section
variable {X:Cx} {pins:List (Addr×Obj)} {σ:L2.St} {H:Hp} {s:Shared} {a:Addr} {kvs:List (Key×V)}
theorem Y7(I:Inv X pins σ H s)(e:H a=some (.frz o u))(hn:∀o u,X.H₀ a≠some (.frz o u)):Inv X pins σ (upd H a u) s:=by
 have ne:∀b,H b=none->b≠a:=λb h z=>by subst z;rw[e] at h;cases h
 have keepT:∀b xs,H b=some (.tup xs)->upd H a u b=some (.tup xs):=λb xs h=>by
  rw[bL (λz=>by subst z;rw[e] at h;cases h)];exact h
 have keepO:∀b x,H b=some (.own x)->upd H a u b=some (.own x):=λb x h=>by
  rw[bL (λz=>by subst z;rw[e] at h;cases h)];exact h
 refine⟨I.ok,I.os,I.bare,⟨I.base.keep,I.base.slot,λb o h1 h2 h3=>?_,I.base.there,λb xs h=>?_,λb o' u' h=>?_,λb ps h=>?_⟩,I.loc,I.cell,?_,λx c h=>?_,λp hp=>?_,λb ob h=>?_,I.len⟩
 ·have:=I.base.free b o h1 h2 h3;rw[bL (ne b this)];exact this
 ·exact keepT b xs (I.base.tups b xs h)
 ·have:=I.base.frzs b o' u' h;rw[bL (λz=>by subst z;exact hn _ _ h)];exact this
 ·obtain⟨more,h1⟩:=I.base.tbls b ps h;refine⟨more,?_⟩;rw[bL (λz=>by subst z;rw[e] at h1;cases h1)];exact h1
 ·rw[bL (ne _ I.free)];exact I.free
 ·have:=I.freeC x c h;rw[bL (ne _ this)];exact this
 ·obtain⟨h1,h2,h3⟩:=I.pin p hp;exact⟨h1,by rw[bL (ne _ h2)];exact h2,h3⟩
 ·by_cases hb:b=a
  ·subst hb;rw[aO] at h;cases h;obtain⟨_,h2⟩:=I.hok b _ e;exact h2.stay (λ_ _ _ q=>q) (λc hc=>keepO c b hc) keepT
  ·rw[bL hb] at h;exact(I.hok b _ h).stay (λ_ _ _ q=>q) (λc hc=>keepO c b hc) keepT
theorem Y8(I:Inv X pins σ H s)(hu:DV H a kvs):∀o u,X.H₀ a≠some (.frz o u):=λo u h=>by
 have:=I.base.frzs a o u h;rcases hu with h|⟨_,h⟩<;>(rw[h] at this;cases this)
theorem aCj{i:Nat}{np:Pos}(hN:X.N[i]?=some x)(hv:Vis X.env.scope x)(hd:nDb x:=by decide)(hcd:nCd x:=by decide) :
  PI X tg (.Name x np) (λσ H R=>∃a kvs u,σ[i]?=some (some (.ref a))/\DV H a kvs/\H a=some u/\∀o,R (Itk a o u kvs) (upd H a (.frz o u))):=by
 intro pins s σ H R I ⟨a,kvs,u,hσ,hu,hua,q⟩;refine thn (kW (pos:=np) hN hv hd hcd pins s σ H (λv H1=>v=.ref a/\H1=H) I ⟨_,hσ,rfl,rfl⟩) λv s1 ⟨w,H1,I1,r1,e1,e2⟩=>?_
 subst e1 e2;cases r1;obtain⟨z,hs,vs,rel,dd⟩:=U4 I1 hu;obtain⟨ep,da⟩:=dd.dictAt;obtain⟨o,es,ho,r⟩:=id da;have hda:∀h:Heap,h.get? a=some o->h.DictAt (bY X.prog X.w) a vs ep:=λh e=>⟨o,es,e,r⟩
 obtain⟨u',hu2,fu⟩:=aGd I1 hu ho;rw[hua] at hu2;cases hu2;have If:Inv X pins σ (upd H1 a (.frz o u)) s1:=I1.write (t':=s1.toks) (x:=a) (e:=a) (h':=s1.heap) (o:=.frz o u) (aGc hu) (.inl rfl) (λ_ _ _ q=>q) ⟨o,ho⟩ ⟨ho,fu _ _ ho⟩;refine wpAny_pyIter_dict hs da ?_;have I2:Inv X pins σ (upd H1 a (.frz o u)) {s1 with heap:=s1.heap.push {cls:=.type "dict_keyiterator",data:=.fields #[.ref a,.int 0 0,.int vs.length 0,.int ep 0]}}:=If.kept (t':=s1.toks) λb o e=>Heap.get?_push_of_some _ e
 refine⟨s1.heap.objs.size,[s1.heap.objs.size],λi h=>h.IsKeyIter s1.heap.objs.size a i vs.length ep,Itk a o u kvs,_,rfl,I2,U7 hda rel,⟨_,Heap.get?_push_size _ rfl,rfl,rfl⟩,λb hb=>?_,q o⟩;have e:b=s1.heap.objs.size:=by simpa using hb
 subst e;exact If.aA9 (Nat.le_refl _) (If.hok.fresh (Nat.le_refl _))
end
theorem aGi(r:Rep P H (.ref a) (.dct ds))(hua:H a=some u)(hp:D.bA (ds.map (·.2))=true):Rep P' (upd H a (.frz o u)) (.ref a) (.fdc ds):=by
 have hna:∀ob,H a=some ob->aE9 ob=true:=λxs z=>by
  cases r with
  |dK e _ _ _=>rw[e] at z;cases z;rfl
  |dT e _ _ _=>rw[e] at z;cases z;rfl
 have goK:∀{kvs:List (Key×V)}{ds:List (D×D)},jF P H kvs ds->D.bA (ds.map (·.2))=true->jF P' (upd H a (.frz o u)) kvs ds:=by
  intro kvs ds r;induction kvs generalizing ds with
  |nil=>cases r;intro _;exact .nil
  |cons p kvs ih=>cases r with
   |cons r t=>
    intro h;rw[List.map_cons,D.bA,Bool.and_eq_true] at h;exact .cons ((rP hna r h.1).bO h.1) (ih t h.2)
 have goT:∀{kvs:List (List Key×V)}{ds:List (D×D)},oF P H kvs ds->D.bA (ds.map (·.2))=true->oF P' (upd H a (.frz o u)) kvs ds:=by
  intro kvs ds r;induction kvs generalizing ds with
  |nil=>cases r;intro _;exact .nil
  |cons p kvs ih=>cases r with
   |cons r t=>
    intro h;rw[List.map_cons,D.bA,Bool.and_eq_true] at h;exact .cons ((rP hna r h.1).bO h.1) (ih t h.2)
 cases r with
 |dK e _ r n=>rw[e] at hua;cases hua;exact .fdK aO (goK r hp) n
 |dT e _ r n=>rw[e] at hua;cases hua;exact .fdT aO (goT r hp) n
theorem aIh(r:Rep P H v (.dct ds))(hb:ds.all (λp=>!isTup p.1)=true):∃a kvs u,v=.ref a/\DV H a kvs/\H a=some u/\N8 u=true/\∀{P'},∀H',bR P' H' (kvs.map λp=>kV p.1) (oE ds):=by
 cases r with
 |dK e _ rk _=>
  refine⟨_,_,_,rfl,.inl e,e,rfl,λ{P'} H'=>?_⟩;clear e;rename_i n;clear n;have go:∀{kvs:List (Key×V)}{ds:List (D×D)},jF P H kvs ds->bR P' H' (kvs.map λp=>kV p.1) (oE ds):=by
   intro kvs ds r;induction kvs generalizing ds with
   |nil=>cases r;exact .nil
   |cons p kvs ih=>cases r with
    |@cons k v d r ds h t=>exact .cons (by cases k<;>first|exact .int _|exact .str _) (ih t)
  exact go rk
 |dT e _ rt _=>
  cases rt with
  |nil=>exact⟨_,[],_,rfl,.inr ⟨rfl,e⟩,e,rfl,λH'=>.nil⟩
  |cons r t=>simp[isTup] at hb
theorem Y9{ρ:List D}{f:D->D}(h:f .uD=.uD)(j:Nat):(ρ.map f).getD j .uD=f (ρ.getD j .uD):=by
 rw[List.getD_eq_getElem?_getD,List.getD_eq_getElem?_getD,List.getElem?_map];cases ρ[j]? with
 |none=>exact h.symm
 |some d=>rfl
theorem aIi(E:ER H σ ρ)(hσ:σ[i]?=some (some (.ref a)))(r:Rep All H (.ref a) (.dct ds))(hua:H a=some u)(hmu:N8 u=true)(hp:D.bA (ds.map (·.2))=true):ER (upd H a (.frz o u)) σ (fzD i ds ρ):=by
 have hna:∀ob,H a=some ob->aE9 ob=true:=λxs z=>by rw[hua] at z;cases z;cases u<;>first|rfl|cases hmu
 intro j hj;unfold fzD at hj ⊢;rw[d7] at hj ⊢;by_cases h:i=j/\i<(ρ.map λd=>if d.pure then d else .uD).length
 ·rw[if_pos h];obtain⟨rfl,_⟩:=h;exact⟨_,hσ,aGi r hua hp⟩
 ·rw[if_neg h] at hj ⊢;rw[Y9 (by rfl)] at hj ⊢;by_cases hpu:(ρ.getD j .uD).pure=true
  ·rw[if_pos hpu] at hj ⊢;obtain⟨v,h1,h2⟩:=E j hj;exact⟨v,h1,rP hna h2 hpu⟩
  ·rw[if_neg hpu] at hj;exact absurd rfl hj
section
variable {X:Cx} {scope:Scope} {own:Nat->Bool} {x c y:Str} {i n iy:Nat} {elt cnd:Expr} {fe:FE} {gc:FT} {re o:Bool} {np cpos pos py pos2:Pos}
theorem Y_(S:cH X.N X.env.scope scope [c])(hn:X.N.length=n)(hcalm:X.calm=true)(hN:X.N[i]?=some x)(hv:Vis X.env.scope x)(hg:∀y,PG (mkC X scope [c] y) (.Name c cpos) (rB n))(hc:∀y,PT (mkC X scope [c] y) cnd (gT gc))(he:∀y,PE (mkC X scope [c] y) elt (gE fe re))
 (hs:∀z,foldedSetIterable (.Name x np) X.env z=pure z)(ho:own iy=o)(hNn:X.N.Nodup)(hiy:X.N[iy]?=some y)(hxy:Loc X.env.scope y)(hfy:X.fn y=true\/X.env.scope.names.lookup y=some .local)(hsw:swapsWith (.ListComp elt [⟨.Name c cpos,.Name x np,[cnd],0⟩] scope pos) (some (.Name y py)) pos2.line X.env=pure true)
 (hd:nDb x:=by decide)(hcd:nCd x:=by decide) :
  PS X (.Assign [.Name y py] (.ListComp elt [⟨.Name c cpos,.Name x np,[cnd],0⟩] scope pos) pos2) (tS own (bN o iy (K6 n i h_ gc fe) true)):=by
 intro pins s σ H Dn I h;obtain⟨ρ,d,E,hcomp,q⟩:=wV ho h;obtain⟨d0,h1,h2⟩:=bD hcomp;obtain⟨v,hσ,r,ed⟩:=E.var h1;split at h2
 ·rename_i ds;split at h2
  ·rename_i hb;rw[Bool.and_eq_true,Bool.and_eq_true] at hb;obtain⟨ys,h3,h4⟩:=bD h2;cases h4;obtain⟨a,kvs,u,rfl,hu,hua,hmu,rk⟩:=aIh r hb.2.1;have hlen:kvs.length=(oE ds).length:=by have:=(rk (P':=All) H).length;simpa using this
   have hlim:(oE ds).length<=lim:=by unfold oE;rw[List.length_map];exact of_decide_eq_true hb.1
   have hno:=Y8 I hu;have hσl:σ.length=n:=I.len.trans hn;have tg:=fJ n;refine thn (zN S hcalm (aCj (tg:=.Name c cpos) (np:=np) hN hv hd hcd) (λX' cc=>by obtain⟨y,rfl⟩:=jU cc;exact hg y) (λX' cc=>by obtain⟨y,rfl⟩:=jU cc;exact hc y) (λX' cc=>by obtain⟨y,rfl⟩:=jU cc;exact he y) hs hNn hiy hxy hfy hsw pins s σ H
    {Dn with nx:=λσ' H'=>∃o,H' a=some (.frz o u)/\Dn.nx σ' (upd H' a u)} I ⟨a,kvs,u,hσ,hu,hua,λo p hp=>?_⟩) λf s' hq=>?_
   ·have hpa:p≠a:=λz=>by subst z;rw[aO] at hp;cases hp
    have hp0:H p=none:=by rw[bL hpa] at hp;exact hp
    have EF:ER (upd H a (.frz o u)) σ (fzD i ds ρ):=aIi E hσ r hua hmu hb.2.2;refine⟨λi' n' vs H'=>n'=kvs.length-i'/\i'<=kvs.length/\H' p=some (.lst vs)/\cL (upd H a (.frz o u)) H'/\∃acc,acc.length<=i'/\D.bA acc=true/\bR All H' vs acc/\gZ (iB n h_ gc fe false (fzD i ds ρ)) acc ((oE ds).drop i')=.ok ys,⟨kvs.length,rfl,Nat.zero_le _,aO,cL.upd hp,[],Nat.zero_le _,rfl,.nil,h3⟩,?_⟩;rintro i' n' vs H' ⟨rfl,hi,hH,sm,acc,hal,pacc,racc,hf⟩;have ea:H' a=some (.frz o u):=sm a _ aO;refine⟨hH,?_⟩;rcases Nat.lt_or_ge i' kvs.length with hlt|hge
    ·refine .inr ⟨⟨ea,_,List.getElem?_eq_getElem hlt⟩,?_,λx H2 hy=>?_⟩
     ·rw[racc.length];exact Nat.lt_of_le_of_lt hal (Nat.lt_of_lt_of_le (hlen▸hlt) (Nat.le_trans hlim (by rw[sizeLine_eq];decide)))
     ·obtain⟨rfl,pr,hx,rfl⟩:=hy;have hlt2:i'<(oE ds).length:=hlen▸hlt;obtain⟨dx,hdx,rx⟩:=(rk (P':=All) H2).at (i:=i') (v:=kV pr.1) (by simp[hx]);have edx:(oE ds)[i']=dx:=by
       have:=List.getElem?_eq_getElem hlt2;rw[hdx] at this;exact(Option.some.inj this).symm
      rw[List.drop_eq_getElem_cons hlt2,edx] at hf;obtain⟨acc2,hs,hf⟩:=bD hf;obtain⟨bs,hbs,hs⟩:=bD hs;obtain⟨ok,hok,hs⟩:=bD hs;refine tg (kV pr.1) dx bs σ H2 _ hσl rx hbs λσ2 hx2 hbs2=>⟨hx2,?_⟩
      have E2:ER H2 σ2 (GP n (fzD i ds ρ)++bs):=(EF.same sm).ext hσl hx2 hbs2;refine⟨_,ok,E2,hok,λH4 s4=>?_⟩;cases ok with
      |true=>
       rw[if_pos rfl];rw[if_pos rfl] at hs;obtain⟨yy,hy2,hs⟩:=bD hs;split at hs
       ·rename_i hk;cases hs;have py:yy.pure=true:=by simpa using hk
        refine⟨_,yy,E2.same s4,hy2,λw H5 s5 r5 n5=>⟨s5 p _ (s4 p _ hH),kvs.length-(i'+1),by lia,rfl,hlt,aO,?_,acc++[yy],?_,qI pacc py,?_,hf⟩⟩
        ·exact λb ob e=>by
          rw[bL (dN e hp)];exact s5 b ob (s4 b ob (sm b ob e))
        ·rw[List.length_append,List.length_singleton];lia
        ·have hp5:H5 p=some (.lst vs):=s5 p _ (s4 p _ hH);have hpn:∀ob,H5 p=some ob->aE9 ob=true:=λxs z=>by rw[hp5] at z;cases z;rfl
         exact lV hpn ((racc.same (s4.trans s5)).snoc r5) (qI pacc py)
       ·exact bx hs
      |false=>
       rw[if_neg (by simp)];rw[if_neg (by simp)] at hs;cases hs;exact⟨kvs.length-(i'+1),by lia,rfl,hlt,s4 p _ hH,sm.trans s4,acc,by lia,pacc,racc.same s4,hf⟩
    ·refine .inl ⟨⟨ea,hge⟩,o,ea,?_⟩;rw[List.drop_eq_nil_of_le (by lia)] at hf;cases hf;have hna:∀ob,H' a=some ob->aE9 ob=true:=λxs z=>by rw[ea] at z;cases z;rcases hu with h|⟨_,h⟩<;>(rw[hua] at h;cases h;rfl)
     have sF:cL H (upd H' a u):=λb ob e=>by
      by_cases hba:b=a
      ·subst hba;rw[aO,<-hua];exact e
      ·rw[bL hba];exact sm b ob (by rw[bL hba];exact e)
     have hpF:upd H' a u p=some (.lst vs):=by rw[bL hpa];exact hH
     have rF:∀{P:Addr->Prop},bR P (upd H' a u) vs ys:=λ{P}=>(lV hna racc pacc).bO pacc
     exact q _ _ sF (.lst hpF trivial rF) λ_=>.lst hpF hp0 rF
   ·cases f with
    |next=>
     obtain⟨σ',H',I',o,ea,q'⟩:=hq;exact⟨σ',_,Y7 I' ea hno,q'⟩
    |brk=>exact hq
    |cont=>exact hq
    |ret u=>exact hq
  ·exact bx h2
 ·exact bx h2
end
end Mi
namespace Wz
open PySem PySem.Spec
noncomputable abbrev itO(t:Addr)(i:Nat):Obj:={cls:=.type "tuple_iterator",data:=.fields #[.ref t,.int i 0]}
noncomputable abbrev tuO(xs:Array Value)(n:Nat)(dd:Option Addr)(sl:Array (Option Value)):Obj:={cls:=.type "tuple",dict:=dd,data:=.seq xs n,slots:=sl}
abbrev zpO(f0 f1:Value)(TI TO:Addr):Obj:={cls:=.type "zip",data:=.fields #[f0,f1,.bool false,.ref TI,.ref TO]}
noncomputable abbrev prO(a b:Value):Obj:={cls:=.type "tuple",data:=.seq #[a,b]}
theorem O8(it t:Addr)(i:Nat)(xs:Array Value)(n:Nat)(dd:Option Addr)(sl:Array (Option Value))(x:Value)(hx:xs[i]?=some x) :
  Meets (Builtin.«tuple_iterator.__next__» ⟨[.ref it],[]⟩) (λ_ R s=>s.heap.get? it=some (itO t i)/\s.heap.get? t=some (tuO xs n dd sl)/\R (.ok (.ret x)) {s with heap:=s.heap.update it (Obj.mapFields (·.setIfInBounds 1 (rawInt (i+1))))}):=.of_wp λprog w A R s hs=>by
 obtain⟨hp,g,d,tk,os⟩:=s;obtain⟨e1,e2,hq⟩:=hs
 wp_walk
 rw[Int.toNat_natCast,hx]
 wp_walk
 exact⟨_,rfl,hq⟩
theorem O9(it t:Addr)(i:Nat)(xs:Array Value)(n:Nat)(dd:Option Addr)(sl:Array (Option Value))(hx:xs[i]?=none) :
  Meets (Builtin.«tuple_iterator.__next__» ⟨[.ref it],[]⟩) (λA R s=>A.handled=none/\s.heap.get? it=some (itO t i)/\s.heap.get? t=some (tuO xs n dd sl)/\∀h' e,Heap.ExtBut it s.heap h'->(∃o,h'.get? e=some o/\o.cls=.type "StopIteration")->R (.error (.ref e)) {s with heap:=h'}):=.of_wp λprog w A R s hs=>by
 obtain⟨hp,g,d,tk,os⟩:=s;obtain⟨hh,e1,e2,hq⟩:=hs
 wp_walk
 rw[Int.toNat_natCast,hx]
 wp_walk
 have hh1:A.in1.handled=none:=hh;unfold raiseNew
 wp_walk
 exact hq _ _ (((Heap.SameBut.update ..).extBut.push _).push _) ⟨_,Heap.get?_push_size _ rfl,rfl⟩
section
variable {prog:Program} {w:World} {A:Around} {E:Value->Shared->Prop} {s:Shared} {it t:Addr} {i:Nat} {xs:Array Value} {x:Value} {n:Nat} {dd:Option Addr} {sl:Array (Option Value)}
theorem drawn(e1:s.heap.get? it=some (itO t i))(e2:s.heap.get? t=some (tuO xs n dd sl))(hx:xs[i]?=some x)
 (q:∀h',h'.get? it=some (itO t (i+1))->Heap.SameBut it s.heap h'->Q x {s with heap:=h'}):wpAny (model prog w) A (Builtin.SmallTypes.nextOf (.ref it)) Q E s:=by
 have ty:s.TypeIs (.ref it) "tuple_iterator":=⟨_,e1,rfl⟩
 refine wpAny_bind (wpAny_callSpecial?_slot ty F.slot_tuple_iterator_next ?_);refine call_meets F.slot_tuple_iterator_next ty F.entry_tuple_iterator_next (F.args_tuple_iterator_next_1 _) (O8 it t i xs n dd sl x hx) ⟨e1,e2,wpAny_pure (q _ ?_ (Heap.SameBut.update ..))⟩;exact Heap.get?_update_self _ e1 rfl
theorem over(hh:A.handled=none)(e1:s.heap.get? it=some (itO t i))(e2:s.heap.get? t=some (tuO xs n dd sl))(hx:xs[i]?=none)
 (q:∀h' e,Heap.ExtBut it s.heap h'->(∃o,h'.get? e=some o/\o.cls=.type "StopIteration")->E (.ref e) {s with heap:=h'}):wpAny (model prog w) A (Builtin.SmallTypes.nextOf (.ref it)) Q E s:=by
 have ty:s.TypeIs (.ref it) "tuple_iterator":=⟨_,e1,rfl⟩
 refine wpAny_bind (wpAny_callSpecial?_slot ty F.slot_tuple_iterator_next ?_);exact call_meets F.slot_tuple_iterator_next ty F.entry_tuple_iterator_next (F.args_tuple_iterator_next_1 _) (O9 it t i xs n dd sl hx) ⟨hh,e1,e2,λh' e k o=>q h' e k o⟩
end
structure Apart(z TI TO i1 i2 l1 l2:Addr):Prop where
 zTI:z≠TI
 zTO:z≠TO
 z1:z≠i1
 z2:z≠i2
 zl:z≠l1
 zm:z≠l2
 TT:TI≠TO
 T1:TI≠i1
 T2:TI≠i2
 O1:TO≠i1
 O2:TO≠i2
 Ol:TO≠l1
 Om:TO≠l2
 ij:i1≠i2
 il:i1≠l1
 im:i1≠l2
 jl:i2≠l1
 jm:i2≠l2
structure W(z TI TO i1 i2 l1 l2:Addr)(o1 o2:Obj)(f0 f1 a b:Value)(k1 k2:Nat)(h:Heap):Prop where
 z_:h.get? z=some (zpO f0 f1 TI TO)
 ti:h.get? TI=some (prO (.ref i1) (.ref i2))
 to:h.get? TO=some (prO a b)
 j1:h.get? i1=some (itO l1 k1)
 j2:h.get? i2=some (itO l2 k2)
 t1:h.get? l1=some o1
 t2:h.get? l2=some o2
section
variable {z TI TO i1 i2 l1 l2:Addr} {o1 o2:Obj} {f0 f1 g0 g1 a b c d:Value} {k1 k2:Nat} {h h':Heap}
theorem W.onZ(x:W z TI TO i1 i2 l1 l2 o1 o2 f0 f1 a b k1 k2 h)(ap:Apart z TI TO i1 i2 l1 l2)(e:h'.get? z=some (zpO g0 g1 TI TO))(k:Heap.SameBut z h h'):W z TI TO i1 i2 l1 l2 o1 o2 g0 g1 a b k1 k2 h':=
 ⟨e,(k.2 _ ap.zTI.symm).trans x.ti,(k.2 _ ap.zTO.symm).trans x.to,(k.2 _ ap.z1.symm).trans x.j1,(k.2 _ ap.z2.symm).trans x.j2,(k.2 _ ap.zl.symm).trans x.t1,(k.2 _ ap.zm.symm).trans x.t2⟩
theorem W.onT(x:W z TI TO i1 i2 l1 l2 o1 o2 f0 f1 a b k1 k2 h)(ap:Apart z TI TO i1 i2 l1 l2)(e:h'.get? TO=some (prO c d))(k:Heap.SameBut TO h h'):W z TI TO i1 i2 l1 l2 o1 o2 f0 f1 c d k1 k2 h':=
 ⟨(k.2 _ ap.zTO).trans x.z_,(k.2 _ ap.TT).trans x.ti,e,(k.2 _ ap.O1.symm).trans x.j1,(k.2 _ ap.O2.symm).trans x.j2,(k.2 _ ap.Ol.symm).trans x.t1,(k.2 _ ap.Om.symm).trans x.t2⟩
theorem W.on1(x:W z TI TO i1 i2 l1 l2 o1 o2 f0 f1 a b k1 k2 h)(ap:Apart z TI TO i1 i2 l1 l2)(e:h'.get? i1=some (itO l1 k))(s:Heap.SameBut i1 h h'):W z TI TO i1 i2 l1 l2 o1 o2 f0 f1 a b k k2 h':=
 ⟨(s.2 _ ap.z1).trans x.z_,(s.2 _ ap.T1).trans x.ti,(s.2 _ ap.O1).trans x.to,e,(s.2 _ ap.ij.symm).trans x.j2,(s.2 _ ap.il.symm).trans x.t1,(s.2 _ ap.im.symm).trans x.t2⟩
theorem W.on2(x:W z TI TO i1 i2 l1 l2 o1 o2 f0 f1 a b k1 k2 h)(ap:Apart z TI TO i1 i2 l1 l2)(e:h'.get? i2=some (itO l2 k))(s:Heap.SameBut i2 h h'):W z TI TO i1 i2 l1 l2 o1 o2 f0 f1 a b k1 k h':=
 ⟨(s.2 _ ap.z2).trans x.z_,(s.2 _ ap.T2).trans x.ti,(s.2 _ ap.O2).trans x.to,(s.2 _ ap.ij).trans x.j1,e,(s.2 _ ap.jl.symm).trans x.t1,(s.2 _ ap.jm.symm).trans x.t2⟩
theorem W.up(x:W z TI TO i1 i2 l1 l2 o1 o2 f0 f1 a b k1 k2 h)(k:∀c o,c=z\/c=TI\/c=TO\/c=i1\/c=i2\/c=l1\/c=l2->h.get? c=some o->h'.get? c=some o):W z TI TO i1 i2 l1 l2 o1 o2 f0 f1 a b k1 k2 h':=
 ⟨k _ _ (by simp) x.z_,k _ _ (by simp) x.ti,k _ _ (by simp) x.to,k _ _ (by simp) x.j1,k _ _ (by simp) x.j2,k _ _ (by simp) x.t1,k _ _ (by simp) x.t2⟩
end
def ZC(z TO i1 i2:Addr)(h h':Heap):Prop:=∀c o,c≠z->c≠TO->c≠i1->c≠i2->h.get? c=some o->h'.get? c=some o
section
variable {s:Shared} {z TI TO i1 i2 l1 l2:Addr} {f0 f1 a b:Value}
theorem W.ty(hw:W z TI TO i1 i2 l1 l2 o1 o2 f0 f1 a b k1 k2 s.heap):s.TypeIs (.ref z) "zip":=⟨_,hw.z_,rfl⟩
end
noncomputable abbrev nxt(z:Addr):Sem PySem.Fin:=Builtin.«zip.__next__» ⟨[.ref z],[]⟩
abbrev Got(Q:Value->Shared->Prop):PySem.Fin->Shared->Prop:=λr t=>∃v,r=.done (.ret v)/\Q v t
section
variable {prog:Program} {w:World} {A:Around} {E:Value->Shared->Prop} {s:Shared} {z TI TO i1 i2 l1 l2:Addr} {n1 n2:Nat} {d1 d2:Option Addr} {s1 s2:Array (Option Value)} {f0 f1 a b x y:Value} {k:Nat} {xs ys:Array Value}
theorem there(e:s.heap.get? c=some o)(q:Q (some o) s):wpAny (model prog w) A (loadIfAlive c) Q E s:=λΓ p _=>by
 show Sem.wp _ Γ (.loadIfAlive c pure) _ _ p s;rw[Sem.wp_loadIfAlive,e];exact q
theorem keptAt(j:Nat)(v c d:Value)(hw:W z TI TO i1 i2 l1 l2 o1 o2 f0 f1 a b k1 k2 s.heap)(ap:Apart z TI TO i1 i2 l1 l2)(hj:(#[a,b]:Array Value).setIfInBounds j v=#[c,d])
 (q:∀h',W z TI TO i1 i2 l1 l2 o1 o2 f0 f1 c d k1 k2 h'->Heap.SameBut TO s.heap h'->Q () {s with heap:=h'}):wpAny (model prog w) A (updateSeq TO (·.setIfInBounds j v)) Q E s:=
 wpAny_updateSeq_pair hw.to λh' e sb=>q h' (hw.onT ap (by rw[e,hj]) sb) sb
theorem first(ap:Apart z TI TO i1 i2 l1 l2)(hw:W z TI TO i1 i2 l1 l2 (tuO xs n1 d1 s1) (tuO ys n2 d2 s2) .none (.bool false) a b k k s.heap)(hx:xs[k]?=some x)(hy:ys[k]?=some y)
 (q:∀(h':Heap) (p:Addr),W z TI TO i1 i2 l1 l2 (tuO xs n1 d1 s1) (tuO ys n2 d2 s2) (rawInt p) (.bool false) x y (k+1) (k+1) h'->h'.get? p=some (prO x y)->p=s.heap.objs.size->ZC z TO i1 i2 s.heap h'->Q (.ref p) {s with heap:=h'}) :
  wpAny (model prog w) A (nxt z) (Got Q) E s:=by
 refine wpAny_bind (m:=field (.ref z) 2) (wpAny_field hw.z_ rfl (x:=.bool false) rfl (wpAny_bind (m:=field (.ref z) 3) (wpAny_field hw.z_ rfl (x:=.ref TI) rfl (wpAny_bind (wpAny_seqItems hw.ti rfl ?_)))));refine wpAny_bind (m:=Builtin.SmallTypes.ownedTupleIsFree (.ref z)) (wpAny_bind (wpAny_field hw.z_ rfl (x:=.none) rfl (wpAny_pure ?_)));rw[if_pos rfl];refine wpAny_bind (wpAny_rule (wpAny_bind (wpAny_field hw.z_ rfl (x:=.ref TO) rfl (wpAny_bind (wpAny_setField_rec hw.z_ (by simp) λh1 e1 k1=>?_)))));have w1:W z TI TO i1 i2 l1 l2 (tuO xs n1 d1 s1) (tuO ys n2 d2 s2) .ellipsis (.bool false) a b k k h1:=hw.onZ ap e1 k1;simp only[List.zipIdx_cons,List.zipIdx_nil,List.forIn_cons,List.forIn_nil];refine wpAny_bind (wpAny_bind (wpAny_bind (wpAny_onRaise (wpAny_bind (m:=Builtin.SmallTypes.nextOf (.ref i1)) (drawn w1.j1 w1.t1 hx λh2 e2 k2=>wpAny_pure ?_)))));have w2:=w1.on1 ap e2 k2;refine wpAny_bind (wpAny_seqItems w2.to rfl (wpAny_bind (keptAt 0 x x b w2 ap rfl λh3 w3 k3=>wpAny_bind (wpAny_letGo (wpAny_pure ?_)))));refine wpAny_bind (wpAny_bind (wpAny_onRaise (wpAny_bind (m:=Builtin.SmallTypes.nextOf (.ref i2)) (drawn w3.j2 w3.t2 hy λh4 e4 k4=>wpAny_pure ?_))));have w4:=w3.on2 ap e4 k4;refine wpAny_bind (wpAny_seqItems w4.to rfl (wpAny_bind (keptAt 1 y x y w4 ap rfl λh5 w5 k5=>wpAny_bind (wpAny_letGo (wpAny_pure (wpAny_pure ?_))))));have sd:ZC z TO i1 i2 s.heap h5:=λc o c1 c2 c3 c4 e=>(k5.2 c c2).trans ((k4.2 c c4).trans ((k3.2 c c2).trans ((k2.2 c c3).trans ((k1.2 c c1).trans e))))
 have sz:h5.objs.size=s.heap.objs.size:=by rw[k5.1,k4.1,k3.1,k2.1,k1.1]
 refine wpAny_bind (wpAny_seqItems w5.to rfl (wpAny_bind (wpAny_newTuple ?_)));have w6:W z TI TO i1 i2 l1 l2 (tuO xs n1 d1 s1) (tuO ys n2 d2 s2) .ellipsis (.bool false) x y (k+1) (k+1) (h5.push (prO x y)):=w5.up λc o _ e=>Heap.get?_push_of_some _ e
 refine wpAny_bind (m:=Builtin.SmallTypes.ownedTupleHandOut (.ref z) (.ref h5.objs.size)) (wpAny_bind (wpAny_setField_rec w6.z_ (by simp) λh7 e7 k7=>?_));have w7:W z TI TO i1 i2 l1 l2 (tuO xs n1 d1 s1) (tuO ys n2 d2 s2) (rawInt h5.objs.size) (.bool false) x y (k+1) (k+1) h7:=w6.onZ ap e7 k7;refine wpAny_setField_rec w7.z_ (by simp) λh8 e8 k8=>wpAny_pure ⟨_,rfl,?_⟩
 have w8:W z TI TO i1 i2 l1 l2 (tuO xs n1 d1 s1) (tuO ys n2 d2 s2) (rawInt h5.objs.size) (.bool false) x y (k+1) (k+1) h8:=w7.onZ ap e8 k8;have nz:h5.objs.size≠z:=Nat.ne_of_gt (Heap.lt_size w5.z_);exact q h8 _ w8 ((k8.2 _ nz).trans ((k7.2 _ nz).trans (Heap.get?_push_size _ rfl))) sz λc o c1 c2 c3 c4 e=>(k8.2 c c1).trans ((k7.2 c c1).trans (Heap.get?_push_of_some _ (sd c o c1 c2 c3 c4 e)))
theorem ZD(hh:A.handled=none)(ap:Apart z TI TO i1 i2 l1 l2)(hw:W z TI TO i1 i2 l1 l2 (tuO xs n1 d1 s1) (tuO ys n2 d2 s2) .none (.bool false) a b k k s.heap)(hx:xs[k]?=none)
 (q:∀h' e,ZC z TO i1 i2 s.heap h'->(∃o,h'.get? e=some o/\o.cls=.type "StopIteration")->E (.ref e) {s with heap:=h'}) :
  wpAny (model prog w) A (nxt z) Q E s:=by
 refine wpAny_bind (m:=field (.ref z) 2) (wpAny_field hw.z_ rfl (x:=.bool false) rfl (wpAny_bind (m:=field (.ref z) 3) (wpAny_field hw.z_ rfl (x:=.ref TI) rfl (wpAny_bind (wpAny_seqItems hw.ti rfl ?_)))));refine wpAny_bind (m:=Builtin.SmallTypes.ownedTupleIsFree (.ref z)) (wpAny_bind (wpAny_field hw.z_ rfl (x:=.none) rfl (wpAny_pure ?_)));rw[if_pos rfl];refine wpAny_bind (wpAny_rule (wpAny_bind (wpAny_field hw.z_ rfl (x:=.ref TO) rfl (wpAny_bind (wpAny_setField_rec hw.z_ (by simp) λh1 e1 k1=>?_)))));have w1:W z TI TO i1 i2 l1 l2 (tuO xs n1 d1 s1) (tuO ys n2 d2 s2) .ellipsis (.bool false) a b k k h1:=hw.onZ ap e1 k1;simp only[List.zipIdx_cons,List.zipIdx_nil,List.forIn_cons,List.forIn_nil];refine wpAny_bind (wpAny_bind (wpAny_bind (wpAny_onRaise (wpAny_bind (m:=Builtin.SmallTypes.nextOf (.ref i1)) (over hh w1.j1 w1.t1 hx λh2 e k2 he=>?_)))));obtain⟨oe,he,hc⟩:=he;have ez:h2.get? z=some (zpO .ellipsis (.bool false) TI TO):=k2 _ _ ap.z1 w1.z_;have hez:e≠z:=λv=>by
  rw[v,ez] at he;cases he;exact absurd (show Value.type "zip"=Value.type "StopIteration" from hc) (by decide)
 exact wpAny_setField_rec ez (by simp) λh3 _ k3=>q h3 e (λc o c1 _ c3 _ v=>(k3.2 c c1).trans (k2 c o c3 ((k1.2 c c1).trans v))) ⟨oe,(k3.2 e hez).trans he,hc⟩
theorem taken{T:Addr}(ap:Apart z TI TO i1 i2 l1 l2)(hw:W z TI TO i1 i2 l1 l2 o1 o2 (rawInt T) (.bool bb) a b k1 k2 s.heap)(hT:s.heap.get? T=some oT)
 (q:∀h',W z TI TO i1 i2 l1 l2 o1 o2 (rawInt T) (.bool true) a b k1 k2 h'->Heap.SameBut z s.heap h'->Q false {s with heap:=h'}):wpAny (model prog w) A (Builtin.SmallTypes.ownedTupleIsFree (.ref z)) Q E s:=by
 refine wpAny_bind (wpAny_field hw.z_ rfl (x:=rawInt T) rfl (wpAny_bind (m:=loadIfAlive T) (there hT ?_)));refine wpAny_bind (wpAny_field hw.z_ rfl (x:=.bool bb) rfl ?_);cases bb
 ·exact wpAny_bind (wpAny_setField_rec hw.z_ (by simp) λh1 e1 k1=>wpAny_pure (q h1 (hw.onZ ap e1 k1) k1))
 ·exact wpAny_pure (q _ hw (Heap.SameBut.refl _ _))
theorem more{T:Addr}{bb:Bool}{oT:Obj}{Q:Value->Shared->Prop}(ap:Apart z TI TO i1 i2 l1 l2)(hw:W z TI TO i1 i2 l1 l2 (tuO xs n1 d1 s1) (tuO ys n2 d2 s2) (rawInt T) (.bool bb) a b k k s.heap)(hT:s.heap.get? T=some oT)(hx:xs[k]?=some x)(hy:ys[k]?=some y)
 (q:∀h' p,W z TI TO i1 i2 l1 l2 (tuO xs n1 d1 s1) (tuO ys n2 d2 s2) (rawInt T) (.bool true) a b (k+1) (k+1) h'->h'.get? p=some (prO x y)->ZC z TO i1 i2 s.heap h'->Q (.ref p) {s with heap:=h'}) :
  wpAny (model prog w) A (nxt z) (Got Q) E s:=by
 refine wpAny_bind (m:=field (.ref z) 2) (wpAny_field hw.z_ rfl (x:=.bool false) rfl (wpAny_bind (m:=field (.ref z) 3) (wpAny_field hw.z_ rfl (x:=.ref TI) rfl (wpAny_bind (wpAny_seqItems hw.ti rfl ?_)))));refine wpAny_bind (m:=Builtin.SmallTypes.ownedTupleIsFree (.ref z)) (taken ap hw hT λh1 w1 k1=>?_);rw[if_neg Bool.false_ne_true];dsimp only;rw[<-Array.forIn_toList];simp only[List.forIn_cons,List.forIn_nil];refine wpAny_bind (wpAny_bind (wpAny_bind (wpAny_holding (wpAny_bind (m:=Builtin.SmallTypes.nextOf (.ref i1)) (drawn w1.j1 w1.t1 hx λh2 e2 k2=>wpAny_pure (wpAny_pure ?_))))));have w2:=w1.on1 ap e2 k2;refine wpAny_bind (wpAny_bind (wpAny_holding (wpAny_bind (m:=Builtin.SmallTypes.nextOf (.ref i2)) (drawn w2.j2 w2.t2 hy λh3 e3 k3=>wpAny_pure (wpAny_pure (wpAny_pure ?_))))));have w3:=w2.on2 ap e3 k3;refine wpAny_bind (wpAny_newTuple (wpAny_pure ⟨_,rfl,?_⟩) (hsz:=by show(2:Nat)<=sizeLine;decide));exact q _ _ (w3.up λc o _ e=>Heap.get?_push_of_some _ e) (Heap.get?_push_size _ rfl) λc o c1 c2 c3 c4 e=>Heap.get?_push_of_some _ ((k3.2 c c4).trans ((k2.2 c c3).trans ((k1.2 c c1).trans e)))
theorem aCk{T:Addr}(hh:A.handled=none)(ap:Apart z TI TO i1 i2 l1 l2)(hw:W z TI TO i1 i2 l1 l2 (tuO xs n1 d1 s1) (tuO ys n2 d2 s2) (rawInt T) (.bool bb) a b k k s.heap)(hT:s.heap.get? T=some oT)(hx:xs[k]?=none)
 (q:∀h' e,ZC z TO i1 i2 s.heap h'->(∃o,h'.get? e=some o/\o.cls=.type "StopIteration")->E (.ref e) {s with heap:=h'}) :
  wpAny (model prog w) A (nxt z) Q E s:=by
 refine wpAny_bind (m:=field (.ref z) 2) (wpAny_field hw.z_ rfl (x:=.bool false) rfl (wpAny_bind (m:=field (.ref z) 3) (wpAny_field hw.z_ rfl (x:=.ref TI) rfl (wpAny_bind (wpAny_seqItems hw.ti rfl ?_)))));refine wpAny_bind (m:=Builtin.SmallTypes.ownedTupleIsFree (.ref z)) (taken ap hw hT λh1 w1 k1=>?_);rw[if_neg Bool.false_ne_true];dsimp only;rw[<-Array.forIn_toList];simp only[List.forIn_cons,List.forIn_nil];exact wpAny_bind (wpAny_bind (wpAny_bind (wpAny_holding (wpAny_bind (m:=Builtin.SmallTypes.nextOf (.ref i1)) (over hh w1.j1 w1.t1 hx λh2 e k2 he=>q h2 e (λc o c1 _ c3 _ v=>k2 c o c3 ((k1.2 c c1).trans v)) he)))))
end
theorem five(h:Heap)(a b c d e:Obj)(fa:a.isFreed=false)(fb:b.isFreed=false)(fc:c.isFreed=false)(fd:d.isFreed=false)(fe:e.isFreed=false) :
  (((((h.push a).push b).push c).push d).push e).get? h.objs.size=some a/\(((((h.push a).push b).push c).push d).push e).get? (h.objs.size+1)=some b/\(((((h.push a).push b).push c).push d).push e).get? (h.objs.size+2)=some c/\(((((h.push a).push b).push c).push d).push e).get? (h.objs.size+3)=some d/\(((((h.push a).push b).push c).push d).push e).get? (h.objs.size+4)=some e/\
  (∀x o,h.get? x=some o->(((((h.push a).push b).push c).push d).push e).get? x=some o)/\(((((h.push a).push b).push c).push d).push e).objs.size=h.objs.size+5:=by
 have z1:(h.push a).objs.size=h.objs.size+1:=Heap.size_push ..;have z2:((h.push a).push b).objs.size=h.objs.size+2:=(Heap.size_push ..).trans (by rw[z1]);have z3:(((h.push a).push b).push c).objs.size=h.objs.size+3:=(Heap.size_push ..).trans (by rw[z2]);have z4:((((h.push a).push b).push c).push d).objs.size=h.objs.size+4:=(Heap.size_push ..).trans (by rw[z3]);have up:∀{h:Heap}{x:Addr}{o q:Obj},h.get? x=some o->(h.push q).get? x=some o:=λe=>Heap.get?_push_of_some _ e
 have g2:=Heap.get?_push_size (h.push a) (o:=b) fb;have g3:=Heap.get?_push_size ((h.push a).push b) (o:=c) fc;have g4:=Heap.get?_push_size (((h.push a).push b).push c) (o:=d) fd;have g5:=Heap.get?_push_size ((((h.push a).push b).push c).push d) (o:=e) fe;rw[z1] at g2;rw[z2] at g3;rw[z3] at g4;rw[z4] at g5;exact⟨up (up (up (up (Heap.get?_push_size h fa)))),up (up (up g2)),up (up g3),up g4,g5,λx o q=>up (up (up (up (up q)))),(Heap.size_push ..).trans (by rw[z4])⟩
theorem U8(t u:Addr)(xs ys:Array Value) :
  Meets (Builtin.«zip.__new__» ⟨[.type "zip",.ref t,.ref u],[]⟩) (λ_ R s=>s.heap.IsTuple t xs/\s.heap.IsTuple u ys/\∀h' n,n=s.heap.objs.size->h'.get? n=some (itO t 0)->h'.get? (n+1)=some (itO u 0)->h'.get? (n+2)=some (prO (.ref n) (.ref (n+1)))->h'.get? (n+3)=some (prO .none .none)->h'.get? (n+4)=some (zpO .none (.bool false) (n+2) (n+3))->
   (∀x o,s.heap.get? x=some o->h'.get? x=some o)->h'.objs.size=n+5->R (.ok (.ret (.ref (n+4)))) {s with heap:=h'}):=
 .of_wp λprog w A R s hs=>by
  obtain⟨hp,g,d,tk,os⟩:=s;obtain⟨ht,hu,q⟩:=hs;have sub:=sub_zip;have p1:Heap.IsTuple (Shared.heap ⟨hp,g,d,tk,os⟩) t xs:=ht;have p2:Heap.IsTuple (Shared.heap ⟨hp.push {cls:=.type "tuple_iterator",data:=.fields #[.ref t,.int 0 0]},g,d,tk,os⟩) u ys:=Heap.IsTuple.push hu _;have f:=five hp (itO t 0) (itO u 0) (prO (.ref hp.objs.size) (.ref (hp.objs.size+1))) (prO .none .none) (zpO .none (.bool false) (hp.objs.size+2) (hp.objs.size+3)) rfl rfl rfl rfl rfl
  wp_walk using wpAny_pyIter_tuple p1,wpAny_pyIter_tuple p2
  refine⟨_,rfl,?_⟩;have fin:=q _ hp.objs.size rfl f.1 f.2.1 f.2.2.1 f.2.2.2.1 f.2.2.2.2.1 f.2.2.2.2.2.1 f.2.2.2.2.2.2;have gen:∀m1 m2 m3 m4:Nat,m1=hp.objs.size+1->m2=hp.objs.size+2->m3=hp.objs.size+3->m4=hp.objs.size+4->R (.ok (.ret (.ref m4))) ⟨((((hp.push (itO t 0)).push (itO u 0)).push (prO (.ref hp.objs.size) (.ref m1))).push (prO .none .none)).push (zpO .none (.bool false) m2 m3),g,d,tk,os⟩:=by
   intro m1 m2 m3 m4 q1 q2 q3 q4;subst q1 q2 q3 q4;exact fin
  exact gen _ _ _ _ (Heap.size_push ..) ((Heap.size_push ..).trans (congrArg (·+1) (Heap.size_push ..))) ((Heap.size_push ..).trans (congrArg (·+1) ((Heap.size_push ..).trans (congrArg (·+1) (Heap.size_push ..))))) ((Heap.size_push ..).trans (congrArg (·+1) ((Heap.size_push ..).trans (congrArg (·+1) ((Heap.size_push ..).trans (congrArg (·+1) (Heap.size_push ..)))))))
section
variable {prog:Program} {w:World} {A:Around} {E:Value->Shared->Prop} {s:Shared}
theorem aGj(ht:s.heap.IsTuple t xs)(hu:s.heap.IsTuple u ys)
 (q:∀h' n,n=s.heap.objs.size->h'.get? n=some (itO t 0)->h'.get? (n+1)=some (itO u 0)->h'.get? (n+2)=some (prO (.ref n) (.ref (n+1)))->h'.get? (n+3)=some (prO .none .none)->h'.get? (n+4)=some (zpO .none (.bool false) (n+2) (n+3))->
   (∀x o,s.heap.get? x=some o->h'.get? x=some o)->h'.objs.size=n+5->Q (.ref (n+4)) {s with heap:=h'}) :
  wpAny (model prog w) A (call (.type "zip") [.ref t,.ref u]) Q E s:=
 callType_new F.called_zip (by decide) (F.typeCall_zip_2 _ _) (F.newCall_zip_2 _ _) (λobj=>F.args_object_init_3 obj _ _) F.entry_zip_new (U8 t u xs ys)
  ⟨ht,hu,λh' n e a1 a2 a3 a4 a5 k z=>⟨⟨_,a5,rfl⟩,q h' n e a1 a2 a3 a4 a5 k z⟩⟩
end
theorem zR:typeLookup (.type "zip") "keys"=pure none:=by rw[typeLookup_type,builtinLookup_eq_fast];kernel_rfl
theorem noGet:typeLookup (.type "zip") "__getattr__"=pure none:=by rw[typeLookup_type,builtinLookup_eq_fast];kernel_rfl
theorem zT:entryFor table "zip.__getattribute__"=some Builtin.«object.__getattribute__»:=entryFor_alias (id':= "object.__getattribute__") (by kernel_rfl) (by decide +kernel) (by decide +kernel) (by kernel_rfl)
theorem jB(a:Addr)(f0 f1:Value)(TI TO:Addr)(u:Tok):Meets (Builtin.«object.__getattribute__» ⟨[.ref a,.str "keys" u],[]⟩) (λA R s=>s.heap.get? a=some (zpO f0 f1 TI TO)/\raisesAttr (.ref a) "keys" A R s):=.of_wp λprog w A R s hs=>by
 obtain⟨hp,g,d,tk,os⟩:=s;obtain⟨e,hh,q⟩:=hs;have ty:(⟨hp,g,d,tk,os⟩:Shared).TypeIs (.ref a) "zip":=⟨_,e,rfl⟩
 have no:=zR
 wp_walk
 exact wpAny_raiseAttrError hh q (attrMsg_fits (by decide +kernel) (by size_fits))
section
variable {prog:Program} {w:World} {A:Around} {E:Value->Shared->Prop} {hp:Heap} {g:Array GenState} {d:Drawn} {tk:Nat} {os:OsState} {a TI TO:Addr} {f0 f1:Value}
theorem gone(e:hp.get? a=some (zpO f0 f1 TI TO))(hh:A.handled=none)(hk:kw=[])(q:∀h' tk' x,Heap.NewAttrErr hp h' x (.ref a) "keys"->E (.ref x) ⟨h',g,d,tk',os⟩) :
  wpAny (model prog w) A (call (.builtin "zip.__getattribute__") ([.ref a]++[.str "keys" u]) kw) Q E ⟨hp,g,d,tk,os⟩:=by
 subst hk;exact call_meets F.slot_zip_getattribute ⟨_,e,rfl⟩ zT (F.args_zip_getattribute_2 _ _) (jB a f0 f1 TI TO u) ⟨e,hh,λh' tk' x hx=>q h' tk' x hx⟩
theorem lacks(e:hp.get? a=some (zpO f0 f1 TI TO))(hh:A.handled=none)(q:∀h' tk',(∀b o,hp.get? b=some o->h'.get? b=some o)->Q none ⟨h',g,d,tk',os⟩):wpAny (model prog w) A (getAttr? (.ref a) "keys") Q E ⟨hp,g,d,tk,os⟩:=by
 have ty:∀tk',(⟨hp,g,d,tk',os⟩:Shared).TypeIs (.ref a) "zip":=λ_=>⟨_,e,rfl⟩
 have f3:=F.slot_zip_getattribute.lookup;have f4:=F.slot_zip_getattribute.bind (.ref a);have f5:=noGet;have sub:=sub_AttributeError
 wp_walk using gone e hh
 case hk=>rfl
 intro h' tk' x hx;obtain⟨t,u,ex⟩:=hx.there;show wpAny _ _ (getattributeRaised _ _ _ _ _ _ _) _ _ _
 wp_walk
 exact q _ _ hx.keeps
end
def ZS(z TI TO i1 i2 l1 l2:Addr)(o1 o2:Obj)(k:Nat)(h:Heap):Prop:=∃f0 f1 a b,W z TI TO i1 i2 l1 l2 o1 o2 f0 f1 a b k k h/\
 ((f0=.none/\f1=.bool false)\/∃(T:Addr)(bb:Bool)(u v:Value),f0=rawInt T/\f1=.bool bb/\h.get? T=some (prO u v)/\T≠z/\T≠TO/\T≠i1/\T≠i2)
section
variable {prog:Program} {w:World} {A:Around} {E:Value->Shared->Prop} {s:Shared} {z TI TO i1 i2 l1 l2 d:Addr} {n1 n2:Nat} {d1 d2:Option Addr} {s1 s2:Array (Option Value)} {x y:Value} {k:Nat} {xs ys:Array Value}
theorem apart{h:Heap}(e:h.get? c=some o)(hc:o.cls=.type T)(ed:h.get? d=some od)(hd:od.cls=.type "dict")(ne:(Value.type T==Value.type "dict")=false):c≠d:=λq=>by
 subst q;rw[e] at ed;cases ed;rw[hc] at hd;rw[hd] at ne;simp at ne
theorem ZS.keep(Z:ZS z TI TO i1 i2 l1 l2 (tuO xs n1 d1 s1) (tuO ys n2 d2 s2) k h)(ed:h.get? d=some od)(hd:od.cls=.type "dict")(e:∀c o,c≠d->h.get? c=some o->h'.get? c=some o):ZS z TI TO i1 i2 l1 l2 (tuO xs n1 d1 s1) (tuO ys n2 d2 s2) k h':=by
 obtain⟨f0,f1,a,b,hw,hf⟩:=Z;refine⟨f0,f1,a,b,⟨e _ _ (apart hw.z_ rfl ed hd (by decide)) hw.z_,e _ _ (apart hw.ti rfl ed hd (by decide)) hw.ti,e _ _ (apart hw.to rfl ed hd (by decide)) hw.to,e _ _ (apart hw.j1 rfl ed hd (by decide)) hw.j1,e _ _ (apart hw.j2 rfl ed hd (by decide)) hw.j2,e _ _ (apart hw.t1 rfl ed hd (by decide)) hw.t1,e _ _ (apart hw.t2 rfl ed hd (by decide)) hw.t2⟩,?_⟩;rcases hf with hf|⟨T,bb,u,v,h1,h2,h3,h4⟩
 ·exact .inl hf
 ·exact .inr ⟨T,bb,u,v,h1,h2,e _ _ (apart h3 rfl ed hd (by decide)) h3,h4⟩
theorem aCl(ap:Apart z TI TO i1 i2 l1 l2)(Z:ZS z TI TO i1 i2 l1 l2 (tuO xs n1 d1 s1) (tuO ys n2 d2 s2) k s.heap)(hx:xs[k]?=some x)(hy:ys[k]?=some y)
 (q:∀h' p,ZS z TI TO i1 i2 l1 l2 (tuO xs n1 d1 s1) (tuO ys n2 d2 s2) (k+1) h'->h'.get? p=some (prO x y)->ZC z TO i1 i2 s.heap h'->Q (some (.ref p)) {s with heap:=h'}):wpAny (model prog w) A (pyNext (.ref z)) Q E s:=by
 obtain⟨f0,f1,a,b,hw,hf⟩:=Z;refine wpAny_bind (wpAny_attempt (wpAny_callSpecial?_slot hw.ty F.slot_zip_next (wpAny_call_entry F.slot_zip_next hw.ty F.entry_zip_next ?_ (F.args_zip_next_1 _))));rcases hf with ⟨rfl,rfl⟩|⟨T,bb,u,v,rfl,rfl,hT,t1,t2,t3,t4⟩
 ·refine first ap hw hx hy λh' p w' ep pp sd=>wpAny_pure (q h' p ⟨_,_,_,_,w',.inr ⟨p,false,x,y,rfl,rfl,ep,?_⟩⟩ ep sd)
  subst pp;have lt:∀{c o},s.heap.get? c=some o->s.heap.objs.size≠c:=λe=>Nat.ne_of_gt (Heap.lt_size e)
  exact⟨lt hw.z_,lt hw.to,lt hw.j1,lt hw.j2⟩
 ·exact more ap hw hT hx hy λh' p w' ep sd=>wpAny_pure (q h' p ⟨_,_,_,_,w',.inr ⟨T,true,u,v,rfl,rfl,sd _ _ t1 t2 t3 t4 hT,t1,t2,t3,t4⟩⟩ ep sd)
theorem aGk(hh:A.handled=none)(ap:Apart z TI TO i1 i2 l1 l2)(Z:ZS z TI TO i1 i2 l1 l2 (tuO xs n1 d1 s1) (tuO ys n2 d2 s2) k s.heap)(hx:xs[k]?=none)
 (q:∀h',ZC z TO i1 i2 s.heap h'->Q none {s with heap:=h'}):wpAny (model prog w) A (pyNext (.ref z)) Q E s:=by
 obtain⟨f0,f1,a,b,hw,hf⟩:=Z;refine wpAny_bind (wpAny_attempt (wpAny_callSpecial?_slot hw.ty F.slot_zip_next (wpAny_call_entry F.slot_zip_next hw.ty F.entry_zip_next ?_ (F.args_zip_next_1 _))));have stop:∀h' e,ZC z TO i1 i2 s.heap h'->(∃o,h'.get? e=some o/\o.cls=.type "StopIteration")->wpAny (model prog w) A (do if <- isInstance (.ref e) (.type "StopIteration") then pure none else throw (.ref e)) Q E {s with heap:=h'}:=λh' e sd he=>wpAny_bind (wpAny_isInstance (T:= "StopIteration") (b:=true) he isSubtype_stop (wpAny_pure (q h' sd)))
 rcases hf with ⟨rfl,rfl⟩|⟨T,bb,u,v,rfl,rfl,hT,_⟩
 ·exact ZD hh ap hw hx λh' e sd he=>stop h' e sd he
 ·exact aCk hh ap hw hT hx λh' e sd he=>stop h' e sd he
end
theorem jV:entryFor table "dict.update.loop"=some Builtin.«dict.update.loop»:=entryFor_of_tree (by kernel_rfl)
section
variable {prog:Program} {w:World} {K:Type} [DecidableEq K] {knd:KeyKind prog w K} {A:Around} {R:Except Value Flow->Shared->Prop} {z TI TO i1 i2 l1 l2 d:Addr} {n1 n2:Nat} {d1 d2:Option Addr} {s1 s2:Array (Option Value)} {xs ys:Array Value} {ks:List K}
theorem oM(hh:A.handled=none)(ap:Apart z TI TO i1 i2 l1 l2)(hdz:d≠z)(hdT:d≠TO)(hd1:d≠i1)(hd2:d≠i2)(hsz:ys.size=xs.size)(hk:∀(i:Nat) (x:Value),xs[i]?=some x->∃k,ks[i]?=some k/\knd.is k x=true) :
  ∀(m k:Nat)(s:Shared)(kvs:List (K×Value)),k+m=xs.size->kvs.length+m<=sizeLine->ZS z TI TO i1 i2 l1 l2 (tuO xs n1 d1 s1) (tuO ys n2 d2 s2) k s.heap->s.heap.DictOf knd d kvs->
  (∀h' tk,h'.DictOf knd d (merged kvs ((ks.zip ys.toList).drop k))->(∀c o,c≠d->c≠z->c≠TO->c≠i1->c≠i2->s.heap.get? c=some o->h'.get? c=some o)->R (.ok (.ret .none)) {s with heap:=h',toks:=tk})->
  codeAny (model prog w) A (.builtin "dict.update.loop" ⟨[.ref d,.ref z,rawInt k,.none],[]⟩) R s:=by
 intro m;induction m with
 |zero=>
  intro k s kvs hkm hl Z hd q;refine codeAny_builtin jV ?_;rw[Around.under_plainId (show plainId "dict.update.loop"=true by decide +kernel) _];refine wpAny_bind (m:=pyNext (.ref z)) (aGk hh ap Z (Array.getElem?_eq_none (by lia)) λh' kp=>?_);refine wpAny_bind (m:=Builtin.Dict.addKeywords d []) ?_;unfold Builtin.Dict.addKeywords;rw[List.forIn_nil];refine wpAny_bind (wpAny_pure (wpAny_pure (wpAny_pure ?_)));have e:(ks.zip ys.toList).drop k=[]:=List.drop_eq_nil_of_le (by rw[List.length_zip];have:ys.toList.length=ys.size:=Array.length_toList;lia);rw[e] at q;obtain⟨o,es,ep,ho,r⟩:=hd;exact q _ s.toks ⟨o,es,ep,kp d o hdz hdT hd1 hd2 ho,r⟩ λc o _ c1 c2 c3 c4 e=>kp c o c1 c2 c3 c4 e
 |succ m ih=>
  intro k s kvs hkm hl Z hd q;have hlt:k<xs.size:=by lia
  have hlt2:k<ys.size:=by lia
  have hx:xs[k]?=some xs[k]:=Array.getElem?_eq_getElem hlt;have hy:ys[k]?=some ys[k]:=Array.getElem?_eq_getElem hlt2;obtain⟨key,hkey,his⟩:=hk k _ hx;refine codeAny_builtin jV ?_;rw[Around.under_plainId (show plainId "dict.update.loop"=true by decide +kernel) _];refine wpAny_bind (m:=pyNext (.ref z)) (aCl ap Z hx hy λh' p Z' hp kp=>?_);refine wpAny_bind (wpAny_holding (wpAny_bind (wpAny_tryCatch ?_)));refine wpAny_bind (wpAny_typeOf (T:= "tuple") ⟨_,hp,rfl⟩ ?_);rw[if_pos (by decide)];refine wpAny_bind (wpAny_seqItems hp rfl (wpAny_pure ?_));show wpAny _ _ (holding [xs[k],ys[k]] (dictSet d xs[k] ys[k])) _ _ _;have hd':h'.DictOf knd d kvs:=let ⟨o,es,ep,ho,r⟩:=hd;⟨o,es,ep,kp d o hdz hdT hd1 hd2 ho,r⟩
  obtain⟨od,es,ep,ho,hc,_⟩:=id hd';refine wpAny_holding (wpAny_dictSet_pairs his hd' (λh2 hd2' sb=>?_) (by lia));refine wpAny_pure ⟨Code.quiet_builtin _ (by decide +kernel),?_⟩;have ek:(rawInt (k+1):Value)=rawInt ((k+1:Nat):Int):=rfl;rw[ek];have hzip:(ks.zip ys.toList).drop k=(key,ys[k])::(ks.zip ys.toList).drop (k+1):=by
   have hlz:(ks.zip ys.toList)[k]?=some (key,ys[k]):=by
    rw[List.getElem?_zip_eq_some];exact⟨hkey,by rw[Array.getElem?_toList];exact hy⟩
   obtain⟨h1,h2⟩:=List.getElem?_eq_some_iff.mp hlz;rw[List.drop_eq_getElem_cons h1,h2]
  have ls:(stored kvs key ys[k]).length<=kvs.length+1:=by
   unfold stored;split
   ·rw[List.length_map];lia
   ·rw[List.length_append];exact Nat.le_refl _
  refine ih (k+1) _ (stored kvs key ys[k]) (by lia) (by lia) (Z'.keep ho hc.1 λc o hcd e=>(sb.2 c hcd).trans e) hd2' λh3 tk hd3 kp3=>?_
  refine q h3 tk (by rw[hzip];exact hd3) λc o c0 c1 c2 c3 c4 e=>kp3 c o c0 c1 c2 c3 c4 ((sb.2 c c0).trans (kp c o c1 c2 c3 c4 e))
end
section
variable {prog:Program} {w:World} {K:Type} [DecidableEq K] {knd:KeyKind prog w K} {A:Around} {E:Value->Shared->Prop} {hp:Heap} {g:Array GenState} {dr:Drawn} {tk:Nat} {os:OsState} {z TI TO i1 i2 l1 l2:Addr} {n1 n2:Nat} {d1 d2:Option Addr} {s1 s2:Array (Option Value)} {xs ys:Array Value} {ks:List K}
theorem ZF(hh:A.handled=none)(ap:Apart z TI TO i1 i2 l1 l2)(hw:W z TI TO i1 i2 l1 l2 (tuO xs n1 d1 s1) (tuO ys n2 d2 s2) .none (.bool false) a b 0 0 hp)(hsz:ys.size=xs.size)(hxs:xs.size<=1000)(hk:∀(i:Nat) (x:Value),xs[i]?=some x->∃k,ks[i]?=some k/\knd.is k x=true)
 (q:∀h' tk',h'.DictOf knd hp.objs.size (merged [] (ks.zip ys.toList))->ZC z TO i1 i2 hp h'->Q (.ref hp.objs.size) ⟨h',g,dr,tk',os⟩) :
  wpAny (model prog w) A (call (.type "dict") [.ref z]) Q E ⟨hp,g,dr,tk,os⟩:=by
 have hnew:(hp.push {cls:=.type "dict",data:=.dict #[]}).DictOf knd hp.objs.size []:=Heap.DictOf.new hp;have up:∀c o,hp.get? c=some o->(hp.push {cls:=.type "dict",data:=.dict #[]}).get? c=some o:=λc o e=>Heap.get?_push_of_some _ e
 have lt:∀{c o},hp.get? c=some o->hp.objs.size≠c:=λe=>Nat.ne_of_gt (Heap.lt_size e)
 refine callType_codes (Q₁:=λv s₁=>v=.ref hp.objs.size/\s₁=⟨hp.push {cls:=.type "dict",data:=.dict #[]},g,dr,tk,os⟩) F.kt_called_dict (F.kt_typeCall_dict_1 _) F.entry_dict_init (kt_code_dict_new _ ⟨rfl,rfl⟩) λv s₁ hv=>?_
 obtain⟨rfl,rfl⟩:=hv;have ty:(⟨hp.push {cls:=.type "dict",data:=.dict #[]},g,dr,tk,os⟩:Shared).TypeIs (.ref hp.objs.size) "dict":=hnew.typeIs;have ez:=up _ _ hw.z_;have tz:(⟨hp.push {cls:=.type "dict",data:=.dict #[]},g,dr,tk,os⟩:Shared).TypeIs (.ref z) "zip":=⟨_,ez,rfl⟩
 refine⟨ty,F.args_dict_init_2 _ _,wpAny_bind (m:=Builtin.Dict.selfAndRest "__init__" _) (wpAny_bind (wpAny_notOrdered_dict ty (wpAny_pure ?_)))⟩;refine wpAny_bind (m:=typeOf (.ref z)) (wpAny_typeOf tz ?_);rw[if_pos (by decide)];refine wpAny_bind (lacks ez hh λh' tk' kp=>?_);rw[if_pos (show(none:Option Value).isNone=true from rfl)];refine wpAny_bind (wpAny_rule (wpAny_bind (wpAny_pyIter_zip (TI:=TI) (TO:=TO) (f0:=.none) (kp _ _ ez) (wpAny_pure ⟨Code.quiet_builtin _ (by decide +kernel),?_⟩))));have hd':h'.DictOf knd hp.objs.size []:=let ⟨o,es,ep,ho,r⟩:=hnew;⟨o,es,ep,kp _ _ ho,r⟩
 refine oM (A:=A.in1) (ks:=ks) (show A.in1.handled=none from hh) ap (lt hw.z_) (lt hw.to) (lt hw.j1) (lt hw.j2) hsz hk xs.size 0 ⟨h',g,dr,tk',os⟩ [] (by lia) (by rw[List.length_nil,sizeLine_eq];lia) ⟨_,_,_,_,hw.up λc o _ e=>kp c o (up c o e),.inl ⟨rfl,rfl⟩⟩ hd' λh2 tk2 hd2 kp2=>?_
 exact⟨rfl,q h2 tk2 hd2 λc o c1 c2 c3 c4 e=>kp2 c o (λx=>lt e x.symm) c1 c2 c3 c4 (kp c o (up c o e))⟩
end
end Wz
namespace Mi
open PySem L2 PySem.SeqAt PySem.Spec PyProof.Rows
variable [KFrag]
theorem boot_zip:bootBuiltins "zip"=some (.type "zip"):=by decide +kernel
theorem xK:bootBuiltins "dict"=some (.type "dict"):=by decide +kernel
theorem U9:∀{vs:List V}{us:List Value}{ds:List D},bR P H vs ds->Vals vs us->ds.all j5=true->∃ks:List Key,ks.map kD=ds/\ks.length=us.length/\∀(i:Nat)(u:Value),us[i]?=some u->∃k,ks[i]?=some k/\(bY pr w).is k u=true
 |_,_,_,.nil,.nil,_=>⟨[],rfl,rfl,λi u h=>by simp at h⟩
 |v::vs,u::us,d::ds,.cons r t,.cons rv tv,h=>by
  rw[List.all_cons,Bool.and_eq_true] at h;obtain⟨ks,h1,h2,h3⟩:=U9 (pr:=pr) (w:=w) t tv h.2;obtain⟨k,hk1,hk2⟩:∃k:Key,kD k=d/\(bY pr w).is k u=true:=by
   cases r with
   |int i=>exact⟨.inl i,rfl,rD (k:=.inl i) rv⟩
   |str x=>exact⟨.inr x,rfl,rD (k:=.inr x) rv⟩
   |_=>cases h.1
  refine⟨k::ks,by rw[List.map_cons,hk1,h1],by rw[List.length_cons,List.length_cons,h2],λi u' hu=>?_⟩;cases i with
  |zero=>simp at hu;subst hu;exact⟨k,rfl,hk2⟩
  |succ i=>exact h3 i u' (by simpa using hu)
theorem xM(r:Rep P H v d):∀{kvs:List (Key×V)}{ds:List (D×D)},jF P H kvs ds->(kvs.map (·.1)).Nodup->jF P H (putK kvs k v) (putD ds (kD k) d)
 |_,_,.nil,_=>.cons r .nil
 |_,_,.cons (k:=k') (v:=v') (r:=kvs) (ds:=ds) r' t,hn=>by
  rw[List.map_cons,List.nodup_cons] at hn;rw[putD,TY];by_cases h:k'=k
  ·rw[wW h (by rw[<-h];exact hn.1),if_pos (decide_eq_true h),h];exact .cons r t
  ·rw[wX h,if_neg (by simpa using h)];exact .cons r' (xM r t hn.2)
theorem K8:∀{ks:List Key}{vs:List V}{ds:List D}{kvs:List (Key×V)}{es:List (D×D)},bR P H vs ds->jF P H kvs es->(kvs.map (·.1)).Nodup->jF P H (cN kvs (ks.zip vs)) (qU (ks.map kD) ds es)/\((cN kvs (ks.zip vs)).map (·.1)).Nodup
 |[],_,_,_,_,_,r,n=>by
  rw[List.zip_nil_left];exact⟨by cases ‹List D›<;>exact r,n⟩
 |k::ks,_,_,kvs,es,.nil,r,n=>⟨r,n⟩
 |k::ks,_,_,kvs,es,.cons rv tv,r,n=>K8 (ks:=ks) tv (xM rv r n) (iW n)
theorem aGl(r:Vals vs us):∀ks:List Key,KV (ks.zip vs) (ks.zip us):=by
 induction r with
 |nil=>intro ks;rw[List.zip_nil_right,List.zip_nil_right];exact .nil
 |cons h t ih=>
  intro ks;cases ks with
  |nil=>exact .nil
  |cons k ks=>exact .cons ⟨rfl,h⟩ (ih ks)
theorem U_(hl:l<n)(hm:m<n):Wz.Apart (n+4) (n+2) (n+3) n (n+1) l m:=by
 constructor<;>(intro h;replace h:@Eq Nat _ _:=h;lia)
section
variable {X:Cx} {a b:Expr} {fs:FA} {rr:Bool} {p p2 pos pos2:Pos}
theorem aCm(hg:Gl X "dict")(hm:X.mg "dict"=none)(hg2:Gl X "zip")(hm2:X.mg "zip"=none)(ha:PA X [a,b] (gA fs rr))(hc:X.calm=true:=by rfl)(hs2:starEach [a,b] X.env=(false,eval a X.env)::starEach [b] X.env:=by rfl)(hpl2:(backTo pos2 (starEach [b] X.env)).any (·.1)=false:=by rfl)
 (hs:starEach [.Call (.Name "zip" p2) [a,b] [] pos2] X.env=(false,eval (.Call (.Name "zip" p2) [a,b] [] pos2) X.env)::starEach [] X.env:=by rfl) :
  PE X (.Call (.Name "dict" p) [.Call (.Name "zip" p2) [a,b] [] pos2] [] pos) (gE (aL tV fs) true):=by
 intro pins s σ H Q I ⟨ρ,d,E,h,q⟩;obtain⟨xs,h1,h2⟩:=bD h;unfold tV at h2;split at h2
 ·rename_i xs ys;split at h2
  ·rename_i hb;cases h2;simp only[Bool.and_eq_true,decide_eq_true_eq] at hb;obtain⟨⟨⟨hb1,hb2⟩,hb3⟩,hb4⟩:=hb;refine wpAny_Call_Name_kw (jQ I hg hm xK ?_);refine PyProof.Rows.callWith_type1 ?_ hs rfl;rw[hs];show wpAny _ _ (spliced ((false,eval (.Call (.Name "zip" p2) [a,b] [] pos2) X.env)::backTo pos (starEach [] X.env))) _ _ s;refine Calls.spliced_cons ?_;refine wpAny_Call_Name_kw (jQ I hg2 hm2 boot_zip ?_);refine PyProof.Rows.callWith_type1 (thn (ha pos2 pins s σ H (λvs H1=>cL H H1/\bR All H1 vs [.tup xs,.tup ys]) I ⟨ρ,_,E,h1,λvs H1 s1 r1 _=>⟨s1,r1⟩⟩) λus s1 ⟨vs,H1,I1,r1,sm,rp⟩=>?_) hs2 hpl2;cases rp with
   |cons rp1 rp=>
    cases rp with
    |cons rp2 rp=>
     cases rp;obtain⟨l1,vs1,rfl,e1,rr1⟩:=rp1.eX;obtain⟨l2,vs2,rfl,e2,rr2⟩:=rp2.eX;cases r1 with
     |cons q1 r1=>
      cases r1 with
      |cons q2 r1=>
       cases r1;cases q1;cases q2;obtain⟨its1,w1,p1,_⟩:=I1.tuple (.of e1);obtain⟨its2,w2,p2,_⟩:=I1.tuple (.of e2);have t1:s1.heap.IsTuple l1 its1.toArray:=p1;have t2:s1.heap.IsTuple l2 its2.toArray:=p2;obtain⟨⟨c1,dd1,da1,sl1⟩,g1,hc1,m1,hd1⟩:=id p1;obtain⟨⟨c2,dd2,da2,sl2⟩,g2,hc2,m2,hd2⟩:=id p2;simp only at hc1 hd1 hc2 hd2;subst hc1 hd1 hc2 hd2;have hl1:=Heap.lt_size g1;have hl2:=Heap.lt_size g2;refine Wz.aGj t1 t2 λh' n hn z1 z2 z3 z4 z5 kp zsz=>?_
       subst hn;refine Calls.spliced_nil ?_;have n1:=w1.length;have n2:=w2.length;have m1:=rr1.length;have m2:=rr2.length;obtain⟨ks,k1,k2,k3⟩:=U9 (pr:=X.prog) (w:=X.w) rr1 w1 hb3;refine Wz.ZF (knd:=bY X.prog X.w) (ks:=ks) (I1.ok.hd hc) (U_ hl1 hl2) ⟨z5,z3,z4,z1,z2,kp _ _ g1,kp _ _ g2⟩ (by simp only[List.size_toArray];lia) (by simp only[List.size_toArray];lia) (λi u hu=>k3 i u (by simpa using hu)) λh2 tk dd kp2=>?_
       have hfr:H1 h'.objs.size=none:=I1.hok.fresh (by rw[zsz];lia);have kall:∀c o,s1.heap.get? c=some o->h2.get? c=some o:=λc o e=>by
        have:=Heap.lt_size e;exact kp2 c o (Nat.ne_of_lt (Nat.lt_of_lt_of_le this (Nat.le_add_right _ 4))) (Nat.ne_of_lt (Nat.lt_of_lt_of_le this (Nat.le_add_right _ 3))) (Nat.ne_of_lt this) (Nat.ne_of_lt (Nat.lt_of_lt_of_le this (Nat.le_add_right _ 1))) (kp c o e)
       have rel:KV (cN [] (ks.zip vs2)) (merged [] (ks.zip its2)):=(aGl w2 ks).merge .nil;have hz:(cN [] (ks.zip vs2)).length<=sizeLine:=by
        have:=fG (ks.zip vs2) [];rw[List.length_nil,List.length_zip] at this;rw[sizeLine_eq];lia
       obtain⟨rk,nd⟩:=K8 (ks:=ks) (P:=All) (rr2) jF.nil List.nodup_nil;rw[k1] at rk;have sp:cL H1 (upd H1 h'.objs.size (.dK (cN [] (ks.zip vs2)))):=cL.upd hfr;have pv:D.bA ((qU xs ys []).map (·.2))=true:=by
        have go:∀(a b:List D)(m:List (D×D)),D.bA b=true->D.bA (m.map (·.2))=true->D.bA ((qU a b m).map (·.2))=true:=by
         intro a;induction a with
         |nil=>intro b m _ hm;cases b<;>exact hm
         |cons x a ih=>
          intro b m hb hm;cases b with
          |nil=>exact hm
          |cons y b=>
           rw[D.bA,Bool.and_eq_true] at hb;refine ih b _ hb.2 ?_;have hp:=mQ (ds:=m) (k:=x) hb.1 hm;exact hp
        exact go xs ys [] hb4 rfl
       have rk2:∀{P:Addr->Prop},jF P (upd H1 h'.objs.size (.dK (cN [] (ks.zip vs2)))) (cN [] (ks.zip vs2)) (qU xs ys []):=λ{P}=>(rk.keep (.same sp) λ_ h=>h).bO pv
       refine⟨.ref h'.objs.size,_,I1.laid (a:=h'.objs.size) (t':=tk) (o:=.dK (cN [] (ks.zip vs2))) kall (by rw[zsz];lia) (yX hz (beq_eq_false_iff_ne.mpr ?_) rel (by simpa using dd)),rfl,?_⟩
       ·exact Ne.symm (Nat.ne_of_lt (Nat.lt_of_lt_of_le I1.big (by rw[zsz];exact Nat.le_add_right _ 5)))
       ·exact q _ _ (sm.trans sp) (.dK aO trivial rk2 nd) λ_=>.dK aO (sm.free hfr) rk2 nd
  ·exact bx h2
 ·exact bx h2
end
end Mi
namespace Mi
open PySem L2 PySem.SeqAt PySem.Spec PyProof.Rows
def aCn(i:Nat)(f:FE):FS:=λρ=>do
 let d <- f ρ
 match ρ.getD i .uD,d with
 |.lst xs,.lst ys=>if decide (xs.length+ys.length<=lim)&&D.bA ys then .ok (.nx (ρ.set i (.lst (xs++ys)))) else .bad
 |_,_=>.bad
noncomputable def aHg:List D->Res D
 |[.bl b]=>.ok (.int (if b then 1 else 0))
 |[.int i]=>.ok (.int i)
 |_=>.bad
variable [KFrag]
theorem aCo:mX X (.type "int") (rs aHg true):=by
 intro pins s σ H xs us Q I vr ⟨ds,d,r,e,k⟩;unfold aHg at e;split at e
 ·cases e;obtain⟨vv,uu,rfl,rfl,r,v⟩:=k_ r vr;cases r.inv;cases v;exact call_int_bool ⟨.int _,H,I.tok _,⟨_,rfl⟩,k.int⟩
 ·cases e;obtain⟨vv,uu,rfl,rfl,r,v⟩:=k_ r vr;cases r.inv;obtain⟨t,rfl⟩:=v;exact call_int_int ⟨.int _,H,I,⟨_,rfl⟩,k.int⟩
 ·exact bx e
section
variable {X:Cx} {own:Nat->Bool} {e:Expr} {fe:FE} {re:Bool} {pos:Pos}
theorem aAt(ho:own i=true)(hN:X.N[i]?=some x)(hv:Vis X.env.scope x)(he:PE X e (gE fe re))(hd:nDb x:=by decide)(hcd:nCd x:=by decide)
 (hbase:attributeBase (.Name x p1) "extend" X.env (eval (.Name x p1) X.env)=eval (.Name x p1) X.env:=by rfl)
 (hs1:starEach [e] X.env=(false,eval e X.env)::starEach [] X.env:=by rfl)
 (hfew:((backTo cpos (starEach [e] X.env)).all (λx=>!x.1)&&(backToKw cpos (keywordEach [] X.env)).all (λx=>x.1.isSome)
  &&decide (([e]:List Expr).length+([]:List Keyword).length+(if ([]:List Keyword).isEmpty then 0 else 1)<30))=true:=by rfl)
 (hline:(apos.endLine==cpos.line)=true:=by rfl)
 (hs:swapsWith (.Call (.Attribute (.Name x p1) "extend" apos) [e] [] cpos) none pos.line X.env=pure false:=by rfl) :
  PS X (.Expr (.Call (.Attribute (.Name x p1) "extend" apos) [e] [] cpos) pos) (tS own (aCn i fe)):=
 PS.imp (vV (M9 PySem.F.plainAttrs_list PySem.F.slot_list_extend PySem.F.type_list_extend RM (kW hN hv hd hcd) (gY he mY hs1) hbase hfew hline hs1 rfl) hs) λD' σ H ⟨ρ,fl,E,h,q⟩=>by
 obtain⟨d,h1,h2⟩:=bD h;split at h2
 ·rename_i xs ys hx;split at h2
  ·rename_i hk;cases h2;rw[Bool.and_eq_true,decide_eq_true_eq] at hk;obtain⟨a,o,hσ,r,hin,ha,hm⟩:=E.ownAt ho (by rw[hx];intro z;cases z);rw[hx] at r hin;obtain⟨vs,hl,rr⟩:=tL r;refine⟨_,hσ,.inl ⟨rfl,vs,.of hl⟩,ρ,_,E.er,h1,λv H' s rv _=>?_⟩;cases rv with
   |@lst b zs _ hb _ rz=>
    have E':=E.same s;have hl':=s _ _ hl;refine⟨a,b,vs,zs,rfl,rfl,hl',hb,by rw[rr.length,rz.length];exact Nat.le_trans hk.1 (by rw[sizeLine_eq];decide),?_⟩;have hp:D.bA (xs++ys)=true:=by rw[oJ,Bool.and_eq_true];exact⟨hin,hk.2⟩
    obtain⟨E2,k2⟩:=E'.mut (o:=.lst (vs++zs)) (d:=.lst (xs++ys)) ho hσ rfl (.lst aO trivial (((rr.same s).append rz).upd hp hl' rfl)) hp;exact q _ _ ((KU.same s).trans k2) E2
  ·exact bx h2
 ·exact bx h2
end
end Mi
namespace Mi
open PySem L2 PySem.SeqAt PySem.Spec PyProof.Rows
noncomputable abbrev FX:=List D->Res (D×List D)
noncomputable abbrev FXT:=List D->Res (Bool×List D)
noncomputable abbrev FXA:=List D->Res (List D×List D)
noncomputable def x2R(f:D->D->Res D)(fa:FE)(fb:FX):FX:=λρ=>do
 let x <- fa ρ
 let p <- fb ρ
 let d <- f x p.1
 if d.pure then .ok (d,p.2) else .bad
def xTB(f:FX):FXT:=λρ=>do
 let p <- f ρ
 let b <- asB p.1
 .ok (b,p.2)
noncomputable def ZG:FXA:=λρ=>.ok ([],ρ)
noncomputable def xN(f:FX)(g:FXA):FXA:=λρ=>do
 let p <- f ρ
 let q <- g p.2
 if p.1.pure then .ok (p.1::q.1,q.2) else .bad
noncomputable def oN(f:FE)(g:FXA):FXA:=λρ=>do
 let d <- f ρ
 let q <- g ρ
 if d.pure then .ok (d::q.1,q.2) else .bad
def aAu(f:FXA):FX:=λρ=>do
 let p <- f ρ
 if decide (p.1.length<=lim)&&D.bA p.1 then .ok (.lst p.1,p.2) else .bad
def VB(o:Bool)(i:Nat)(f:FX):FS:=λρ=>do
 let p <- f ρ
 if (if o then inner p.1 else true) then .ok (.nx (p.2.set i p.1)) else .bad
noncomputable def aHh(c:FXT)(f g:FS):FS:=λρ=>do
 let p <- c ρ
 if p.1 then f p.2 else g p.2
noncomputable def bPu(f:FE):FE:=λρ=>do
 let d <- f ρ
 if d.pure then .ok d else .bad
variable [KFrag]
section
variable {own:Nat->Bool}
def NS(own:Nat->Bool)(ρ ρ':List D):Prop:=∀i,own i=false->ρ'.getD i .uD=ρ.getD i .uD
theorem NS.refl:NS own ρ ρ:=λ_ _=>rfl
theorem NS.trans(a:NS own ρ ρ1)(b:NS own ρ1 ρ2):NS own ρ ρ2:=λi h=>(b i h).trans (a i h)
theorem NS.set(ho:own i=true):NS own ρ (ρ.set i d):=λj hj=>by
 rw[d7,if_neg];rintro⟨rfl,_⟩;rw[ho] at hj;cases hj
def kX(own:Nat->Bool)(σ:L2.St)(H:Hp)(ρ:List D)(d:D)(ρ':List D)(Q:VK):Prop:=∀v H',KU own σ H σ H'->ES own H' σ ρ'->NS own ρ ρ'->Rep (New H) H' v d->Q v H'
noncomputable def gX(own:Nat->Bool)(f:FX):TE:=λσ H Q=>∃ρ d ρ',ES own H σ ρ/\f ρ=.ok (d,ρ')/\kX own σ H ρ d ρ' Q
noncomputable def gXT(own:Nat->Bool)(f:FXT):TT:=λσ H Q=>∃ρ d ρ',ES own H σ ρ/\f ρ=.ok (d,ρ')/\∀H',KU own σ H σ H'->ES own H' σ ρ'->NS own ρ ρ'->Q d H'
noncomputable def gXA(own:Nat->Bool)(f:FXA):TA:=λσ H Q=>∃ρ d ρ',ES own H σ ρ/\f ρ=.ok (d,ρ')/\∀vs H',KU own σ H σ H'->ES own H' σ ρ'->NS own ρ ρ'->bR (New H) H' vs d->Q vs H'
theorem HN(k:KU own σ H σ H1)(E1:ES own H1 σ ρ1)(h:H1 a=none):H a=none:=by
 cases q:H a with
 |none=>rfl
 |some o=>
  by_cases n:Own own σ a
  ·obtain⟨o',e,_⟩:=E1.live n;rw[h] at e;cases e
  ·have:=(k a o q n).1;rw[h] at this;cases this
theorem VD(E:ES own H σ ρ)(h:H a=none):¬Own own σ a:=λn=>by
 obtain⟨o',e,_⟩:=E.live n;rw[h] at e;cases e
theorem aCp(E:ES own H σ ρ)(E1:ES own H1 σ ρ1)(k:KU own σ H1 σ H2):J6 (New H) H1 H2:=λa o e hp=>by
 refine(k a o e ?_).1;rcases hp with hp|hp
 ·exact VD E hp
 ·intro n;obtain⟨o',e',hm⟩:=E1.live n;rw[e] at e';cases e';rw[hp] at hm;cases hm
theorem Rep.ku(r:Rep (New H) H1 v d)(E:ES own H σ ρ)(E1:ES own H1 σ ρ1)(k:KU own σ H1 σ H2):Rep (New H) H2 v d:=r.keep (aCp E E1 k) λ_ h=>h
theorem ES.aK4(E:ES own H σ ρ)(k:KU own σ H σ H')(E':ES own H' σ ρ')(ns:NS own ρ ρ')(ho:own i=true)(hn:H a=none)(r:Rep All H' (.ref a) d)(hin:inner d=true)(ha:H' a=some o)(hm:N8 o=true) :
  ES own H' (σ.set i (some (.ref a))) (ρ'.set i d)/\KU own σ H (σ.set i (some (.ref a))) H':=by
 have hO:∀b,H b≠none->¬Own own σ b->¬Own own (σ.set i (some (.ref a))) b:=λb hb n ⟨j,hj,e⟩=>by
  by_cases hij:i=j
  ·subst hij;by_cases hl:i<σ.length
   ·rw[List.getElem?_set_self hl] at e;cases e;exact hb hn
   ·rw[List.getElem?_set,if_pos rfl,if_neg hl] at e;cases e
  ·rw[List.getElem?_set_ne hij] at e;exact n ⟨j,hj,e⟩
 have hna:¬Own own σ a:=VD E hn;refine⟨⟨by simp[E'.len],λj hj=>?_,λj w hj hw=>?_⟩,λb ob e n=>⟨(k b ob e n).1,hO b (by rw[e];simp) n⟩⟩
 ·rw[d7] at hj ⊢;by_cases h:i=j/\i<ρ'.length
  ·rw[if_pos h];obtain⟨rfl,hl⟩:=h;exact⟨.ref a,by rw[List.getElem?_set_self (by rw[E'.len];exact hl)],λz=>by rw[ho] at z;cases z⟩
  ·rw[if_neg h] at hj ⊢;obtain⟨w,h1,h2⟩:=E'.at_ j hj;by_cases hij:i=j
   ·subst hij;have:i<σ.length:=(List.getElem?_eq_some_iff.mp h1).1;rw[E'.len] at this;exact absurd ⟨rfl,this⟩ h
   ·refine⟨w,by rw[List.getElem?_set_ne hij];exact h1,λhoj=>?_⟩;rw[ns j hoj] at hj ⊢;obtain⟨w',h1',h2'⟩:=E.at_ j hj;rw[h1] at h1';cases h1';exact(h2' hoj).dom.keep (λc oc hc hp=>k.keep E c oc hc (hp.imp And.left id)) λb ⟨n,hb⟩=>hO b hb n
 ·by_cases hij:i=j
  ·subst hij;have hl:i<σ.length:=by
    have:=(List.getElem?_eq_some_iff.mp hw).1;simpa using this
   rw[List.getElem?_set_self hl] at hw;cases hw;rw[d7,if_pos ⟨rfl,by rw[<-E'.len];exact hl⟩];refine⟨a,o,rfl,r,hin,ha,hm,λk hk hs=>?_⟩;by_cases hik:i=k
   ·exact hik.symm
   ·rw[List.getElem?_set_ne hik] at hs;exact absurd ⟨k,hk,hs⟩ hna
  ·rw[List.getElem?_set_ne hij] at hw;rw[d7,if_neg λz=>hij z.1];obtain⟨b,ob,h1,h2,h3,h4,h5,h6⟩:=E'.own j w hj hw;refine⟨b,ob,h1,h2,h3,h4,h5,λk hk hs=>?_⟩;by_cases hik:i=k
   ·subst hik;by_cases hl:i<σ.length
    ·rw[List.getElem?_set_self hl] at hs;cases hs;subst h1;exact absurd ⟨j,hj,hw⟩ hna
    ·rw[List.getElem?_set,if_pos rfl,if_neg hl] at hs;cases hs
   ·rw[List.getElem?_set_ne hik] at hs;exact h6 k hk hs
end
section
variable {own:Nat->Bool} {X:Cx} {a b c e:Expr} {pos pos':Pos} {fa fe:FE} {re:Bool} {xb xe:FX}
theorem aK5(h:gX own (x2R f fa xb) σ H Q):tOp (r2 f fr) (gE fa true) (gX own xb) σ H Q:=by
 obtain⟨ρ,d,ρ',E,h,q⟩:=h;obtain⟨x,h1,h⟩:=bD h;obtain⟨⟨y,ρ1⟩,h2,h⟩:=bD h;obtain⟨z,h3,h⟩:=bD h;split at h
 ·rename_i hz;cases h;refine⟨ρ,x,E.er,h1,λv H1 s1 r1 n1=>⟨ρ,y,ρ1,E.same s1,h2,λw H2 k2 E2 ns r2=>⟨x,y,_,((n1 rfl).ku E (E.same s1) k2).all,r2.all,h3,λu H3 s3 r3 _=>?_⟩⟩⟩;exact q u H3 ((KU.same s1).trans (k2.trans (.same s3))) (E2.same s3) ns (r3.bO hz)
 ·exact bx h
theorem aIj(E:ES own H σ ρ)(ho:own i=false)(h:fV i ρ=.ok d):∃v,σ[i]?=some (some v)/\Rep (λa=>¬Own own σ a) H v d:=by
 obtain⟨v,hv,r,e⟩:=E.er.var h;have hne:ρ.getD i .uD≠.uD:=λz=>by
  rw[z] at e;subst e;exact Rep.uD r
 obtain⟨w,hw,hr⟩:=E.at_ i hne;rw[hv] at hw;cases hw;have r2:=hr ho;rw[e] at r2;exact⟨v,hv,r2⟩
theorem aK6(ho:own i=false)(h:gX own (x2R f (fV i) xb) σ H Q):tOp (r2 f fr) (aJ0 i) (gX own xb) σ H Q:=by
 obtain⟨ρ,d,ρ',E,h,q⟩:=h;obtain⟨x,h1,h⟩:=bD h;obtain⟨⟨y,ρ1⟩,h2,h⟩:=bD h;obtain⟨z,h3,h⟩:=bD h;obtain⟨v,hv,rv⟩:=aIj E ho h1;split at h
 ·rename_i hz;cases h;refine⟨v,hv,ρ,y,ρ1,E,h2,λw H2 k2 E2 ns r2=>⟨x,y,_,(k2.rep E rv).all,r2.all,h3,λu H3 s3 r3 _=>?_⟩⟩;exact q u H3 (k2.trans (.same s3)) (E2.same s3) ns (r3.bO hz)
 ·exact bx h
theorem aGm(ho:IxR X (r2 f fr))(hoi:own i=false)(hN:X.N[i]?=some x)(hv:Vis X.env.scope x)(hb:PE X b (gX own xb))(hs:vX b)(hd:nDb x:=by decide)(hcd:nCd x:=by decide):PE X (.Subscript (.Name x pv) b pos) (gX own (x2R f (fV i) xb)):=PE.imp (aF6 ho (kW hN hv hd hcd) hb hs) λ_ _ _=>aK6 hoi
theorem aGn:PA X [] (gXA own ZG):=PA.imp mY λσ H Q ⟨ρ,ds,ρ',E,h,q⟩=>by cases h;exact q [] H (.same (cL.refl H)) E .refl .nil
theorem aCq(he:PE X e (gX own xe))(hes:PA X es (gXA own f))(hs:starEach (e::es) X.env=(false,eval e X.env)::starEach es X.env:=by rfl):PA X (e::es) (gXA own (xN xe f)):=PA.imp (gY he hes hs) λσ H Q ⟨ρ,ds,ρ',E,h,q⟩=>by
 obtain⟨⟨x,ρ1⟩,h1,h⟩:=bD h;obtain⟨⟨xs,ρ2⟩,h2,h⟩:=bD h;split at h
 ·rename_i hp;cases h;refine⟨ρ,x,ρ1,E,h1,λv H1 k1 E1 ns1 r1=>⟨ρ1,xs,ρ2,E1,h2,λvs H2 k2 E2 ns2 r2=>q _ _ (k1.trans k2) E2 (ns1.trans ns2) (.cons (r1.ku E E1 k2) (r2.mono λa ha=>HN k1 E1 ha))⟩⟩
 ·exact bx h
theorem ZJ(he:PE X e (gE fe re))(hes:PA X es (gXA own f))(hs:starEach (e::es) X.env=(false,eval e X.env)::starEach es X.env:=by rfl):PA X (e::es) (gXA own (oN fe f)):=PA.imp (gY he hes hs) λσ H Q ⟨ρ,ds,ρ',E,h,q⟩=>by
 obtain⟨x,h1,h⟩:=bD h;obtain⟨⟨xs,ρ2⟩,h2,h⟩:=bD h;split at h
 ·rename_i hp;cases h;refine⟨ρ,x,E.er,h1,λv H1 s1 r1 _=>⟨ρ,xs,ρ2,E.same s1,h2,λvs H2 k2 E2 ns2 r2=>?_⟩⟩;have rn:Rep (New H) H1 v x:=r1.bO hp;exact q _ _ ((KU.same s1).trans k2) E2 ns2 (.cons (rn.ku E (E.same s1) k2) (r2.mono λa ha=>s1.free ha))
 ·exact bx h
theorem aGo(h:PA X es (gXA own f)):PE X (.List es pos) (gX own (aAu f)):=PE.imp (Q_ h) λσ H Q ⟨ρ,d,ρ',E,h,q⟩=>by
 obtain⟨⟨xs,ρ1⟩,h1,h⟩:=bD h;split at h
 ·rename_i hl;cases h;rw[Bool.and_eq_true] at hl;refine⟨ρ,xs,_,E,h1,λvs H1 k1 E1 ns r1=>⟨?_,λp hp=>?_⟩⟩
  ·rw[r1.length];exact Nat.le_trans (of_decide_eq_true hl.1) (by rw[sizeLine_eq];decide)
  ·have sp:cL H1 (upd H1 p (.lst vs)):=cL.upd hp;exact q _ _ (k1.trans (.same sp)) (E1.same sp) ns (.lst aO (HN k1 E1 hp) (r1.same sp))
 ·exact bx h
theorem ZK(ho:own i=o)(h:tS own (VB o i xe) D' σ H):aE1 (gX own xe) (rB i) D' σ H:=by
 obtain⟨ρ,fl,E,h,q⟩:=h;obtain⟨⟨d,ρ1⟩,h1,h2⟩:=bD h;cases o with
 |true=>
  simp only[if_true] at h2;split at h2
  ·rename_i hk;cases h2;refine⟨ρ,d,ρ1,E,h1,λv H' k E1 ns r=>?_⟩;obtain⟨a,ob,rfl,hn,ha,hm⟩:=aAn r hk;obtain⟨E2,k2⟩:=E.aK4 k E1 ns ho hn r.all hk ha hm;exact q _ H' k2 E2
  ·exact bx h2
 |false=>
  simp only[Bool.false_eq_true,if_false,if_true] at h2;cases h2;refine⟨ρ,d,ρ1,E,h1,λv H' k E1 ns r=>?_⟩;exact q _ H' (λa ob e hn=>⟨(k a ob e hn).1,by rw[nG ho];exact hn⟩) (E1.set ho (UG E r))
theorem aGp(ho:own i=o)(hN:X.N.Nodup)(hi:X.N[i]?=some x)(hx:Loc X.env.scope x)(he:PE X e (gX own xe))(hs:swapsWith e (some (.Name x pos')) pos.line X.env=pure false:=by rfl)(hf:X.fn x=true\/X.env.scope.names.lookup x=some .local:=by first|exact .inl rfl|exact .inr rfl|assumption) :
  PS X (.Assign [.Name x pos'] e pos) (tS own (VB o i xe)):=PS.imp (Q3 hN hi hx he hs hf) λ_ _ _=>ZK ho
theorem aIk(hc:PT X c (gXT own xc))(ha:PSs X s1 (tS own f))(hb:PSs X s2 (tS own g)):PS X (.If c s1 s2 pos) (tS own (aHh xc f g)):=PS.imp (aEq hc ha hb) λD σ H ⟨ρ,fl,E,h,q⟩=>by
 obtain⟨⟨k,ρ1⟩,h1,h2⟩:=bD h;refine⟨ρ,k,ρ1,E,h1,λH' ku E1 ns=>?_⟩;cases k with
 |true=>rw[if_pos rfl];rw[if_pos rfl] at h2;exact⟨ρ1,fl,E1,h2,q.step ku⟩
 |false=>rw[if_neg (by simp)];rw[if_neg (by simp)] at h2;exact⟨ρ1,fl,E1,h2,q.step ku⟩
end
end Mi
namespace Mi
open PySem L2 PySem.SeqAt PySem.Spec PyProof.Rows
def aJ6:D->D->D->D->Res D
 |.str a,.int i,.str b,.int j=>.ok (.dct (putD [(.str a,.int i)] (.str b) (.int j)))
 |_,_,_,_=>.bad
def aCr(k v l w:FE):FE:=λρ=>do
 let k <- k ρ
 let v <- v ρ
 let l <- l ρ
 let w <- w ρ
 aJ6 k v l w
variable [KFrag]
section
variable {X:Cx} {b e:Expr} {pos:Pos}
theorem aCs{r1 r2 r3 r4:Bool}(hk1:PE X k1 (gE g1 r1))(hv1:PE X v1 (gE h1 r2))(hk2:PE X k2 (gE g2 r3))(hv2:PE X v2 (gE h2 r4)):PE X (.Dict [some k1,some k2] [v1,v2] pos) (gE (aCr g1 h1 g2 h2) true):=
 PE.imp (aBk (JS hk1 hv1 (JS hk2 hv2 aBj)) rfl rfl (by simp) (Nat.le_of_ble_eq_true rfl)) λσ H Q ⟨ρ,d,E,h,q⟩=>by
 obtain⟨a1,e1,hA⟩:=bD h;obtain⟨a2,e2,hB⟩:=bD hA;obtain⟨a3,e3,hC⟩:=bD hB;obtain⟨a4,e4,hD⟩:=bD hC;clear h hA hB hC;unfold aJ6 at hD;split at hD
 ·rename_i x i y j;cases hD;intro p hp;have s0:cL H (upd H p (.dK [])):=cL.upd hp;refine⟨ρ,_,E.same s0,e1,λw1 H1 s1 q1 _=>?_⟩;cases q1.inv;refine⟨ρ,_,(E.same s0).same s1,e2,λw2 H2 s2 q2 _=>?_⟩;cases q2.inv;refine⟨ρ,_,((E.same s0).same s1).same s2,e3,λw3 H3 s3 q3 _=>?_⟩;cases q3.inv;refine⟨ρ,_,(((E.same s0).same s1).same s2).same s3,e4,λw4 H4 s4 q4 _=>?_⟩;cases q4.inv;have sm:cL (upd H p (.dK [])) H4:=((s1.trans s2).trans s3).trans s4;refine⟨sm _ _ aO,[(.inr x,.int i),(.inr y,.int j)],rfl,Nat.le_of_ble_eq_true rfl,?_⟩;have sf:cL H (upd H4 p (.dK (cN [] [(Sum.inr x,V.int i),(Sum.inr y,V.int j)]))):=λb o e=>by
   rw[bL (dN e hp)];exact sm b o (s0 b o e)
  have rk:∀P:Addr->Prop,jF P (upd H4 p (.dK (cN [] [(Sum.inr x,V.int i),(Sum.inr y,V.int j)]))) (putK [(Sum.inr x,V.int i)] (Sum.inr y) (V.int j)) (putD [(.str x,.int i)] (.str y) (.int j)):=λP=>rO (k:=.inr y) (.int j) (.cons (k:=.inr x) (.int i) .nil) (by simp)
  have nd:((putK [(Sum.inr x,V.int i)] (Sum.inr y:Key) (V.int j)).map (·.1)).Nodup:=iW (by simp);exact q _ _ sf (.dK aO trivial (rk All) nd) λ_=>.dK aO hp (rk _) nd
 ·exact bx hD
end
section
variable {X:Cx} {a:Expr} {fa:FE} {ra:Bool}
theorem aIl(ha:PE X a (gE fa ra)):PE X a (gE (bPu fa) true):=PE.imp ha λσ H Q ⟨ρ,d,E,h,q⟩=>by
 obtain⟨x,h1,h⟩:=bD h;split at h
 ·rename_i hp;cases h;exact⟨ρ,_,E,h1,λv H' s r _=>q v H' s r λ_=>r.bO hp⟩
 ·exact bx h
end
end Mi
namespace Mi
open PySem L2 PySem.SeqAt PySem.Spec PyProof.Rows
noncomputable def tW(i:Nat):FX:=λρ=>match ρ.getD i .uD with
 |.lst xs=>(match xs[xs.length-1]? with|some x=>.ok (x,ρ.set i (.lst xs.dropLast))|none=>.bad)
 |_=>.bad
variable [KFrag]
section
variable {X:Cx} {own:Nat->Bool} {a:Expr}
theorem VF(ho:own i=true)(hN:X.N[i]?=some x)(hv:Vis X.env.scope x)(hd:nDb x:=by decide)(hcd:nCd x:=by decide)
 (hbase:attributeBase (.Name x p1) "pop" X.env (eval (.Name x p1) X.env)=eval (.Name x p1) X.env:=by rfl)
 (hline:(apos.endLine==cpos.line)=true:=by rfl) :
  PE X (.Call (.Attribute (.Name x p1) "pop" apos) [] [] cpos) (gX own (tW i)):=
 PE.imp (aF9 PySem.F.plainAttrs_list PySem.F.slot_list_pop PySem.F.type_list_pop aFb (kW hN hv hd hcd) hbase hline) λσ H Q ⟨ρ,d,ρ',E,h,q⟩=>by
 unfold tW at h;split at h
 ·rename_i xs hx;split at h
  ·rename_i dx hdx;cases h;obtain⟨a,o,hσ,r,hin,ha,hm⟩:=E.ownAt ho (by rw[hx];intro z;cases z);rw[hx] at r hin;obtain⟨vs,hl,rr⟩:=tL r;obtain⟨v,hvx,rv⟩:=rr.get hdx;have hlen:=rr.length;refine⟨_,hσ,.inl ⟨rfl,vs,.of hl⟩,a,vs,v,rfl,rfl,hl,by rw[hlen];exact hvx,?_⟩;have hin':D.bA xs=true:=hin;have pall:∀y∈xs,y.pure=true:=λy hy=>iV.mp hin' y hy
   have pdx:d.pure=true:=pall d (List.mem_of_getElem? hdx);have pe:D.bA xs.dropLast=true:=iV.mpr λy hy=>pall y (List.dropLast_subset _ hy)
   have er:bR All H vs.dropLast xs.dropLast:=by
    rw[List.dropLast_eq_take,List.dropLast_eq_take,hlen];exact rr.take _
   obtain⟨E2,k2⟩:=E.mut (o:=.lst vs.dropLast) (d:=.lst xs.dropLast) ho hσ rfl (.lst aO trivial (er.upd pe hl rfl)) pe;have r1:=(bR.cons rv .nil).upd (o:=.lst vs.dropLast) (by rw[D.bA,pdx];rfl) hl rfl;cases r1 with
   |cons r1 _=>exact q _ _ k2 E2 (.set ho) (r1.bO pdx)
  ·exact bx h
 ·exact bx h
end
end Mi
namespace Mi
open PySem PySem.Spec
namespace Rv
theorem O_:typeLookup (.type "tuple") "__reversed__"=pure none:=by rw[typeLookup_type,builtinLookup_eq_fast];kernel_rfl
theorem PB:typeLookup (.type "reversed") "__len__"=pure none:=by rw[typeLookup_type,builtinLookup_eq_fast];kernel_rfl
theorem slot_next:Slot "reversed" "__next__" "reversed.__next__":=
 .of (owner:= "reversed") (n:= "__next__") (by rw[typeLookup_type,builtinLookup_eq_fast];kernel_rfl) (by decide +kernel) (by decide +kernel) (by decide +kernel)
  (by first|exact .inl (by decide +kernel)|exact .inr (by decide +kernel)) (by rw[isSubtype_type];kernel_rfl)
theorem tX:Slot "reversed" "__length_hint__" "reversed.__length_hint__":=
 .of (owner:= "reversed") (n:= "__length_hint__") (by rw[typeLookup_type,builtinLookup_eq_fast];kernel_rfl) (by decide +kernel) (by decide +kernel) (by decide +kernel)
  (by first|exact .inl (by decide +kernel)|exact .inr (by decide +kernel)) (by rw[isSubtype_type];kernel_rfl)
theorem zU:Slot "reversed" "__iter__" "reversed.__iter__":=
 .of (owner:= "reversed") (n:= "__iter__") (by rw[typeLookup_type,builtinLookup_eq_fast];kernel_rfl) (by decide +kernel) (by decide +kernel) (by decide +kernel)
  (by first|exact .inl (by decide +kernel)|exact .inr (by decide +kernel)) (by rw[isSubtype_type];kernel_rfl)
theorem entry_next:entryFor table "reversed.__next__"=some Builtin.«reversed.__next__»:=entryFor_of_tree (by kernel_rfl)
theorem PJ:entryFor table "reversed.__length_hint__"=some Builtin.«reversed.__length_hint__»:=entryFor_of_tree (by kernel_rfl)
theorem PK:entryFor table "reversed.__iter__"=some Builtin.«dict_keyiterator.__iter__»:=
 entryFor_alias (id':= "dict_keyiterator.__iter__") (by kernel_rfl) (by first|rfl|decide +kernel|(unfold String.splitOn;simp +decide [String.splitOnAux])) (by decide +kernel) (by kernel_rfl)
theorem owner:Manifest.owners.lookup (String.ofList ['d','e','s','r','e','v','e','r'].reverse)=some Manifest.sig_reversed:=by kernel_rfl
theorem args_next(a:Value):argsOk "reversed.__next__" ⟨[a],[]⟩:=by
 unfold argsOk;rw[signature?_of (id:= "reversed.__next__") (n:=['_','_','t','x','e','n','_','_']) (o:=['d','e','s','r','e','v','e','r']) (by kernel_rfl) owner];kernel_rfl
theorem VG(a:Value):argsOk "reversed.__iter__" ⟨[a],[]⟩:=by
 unfold argsOk;rw[signature?_of (id:= "reversed.__iter__") (n:=['_','_','r','e','t','i','_','_']) (o:=['d','e','s','r','e','v','e','r']) (by kernel_rfl) owner];kernel_rfl
theorem VH(a:Value):argsOk "reversed.__length_hint__" ⟨[a],[]⟩:=by
 unfold argsOk;rw[signature?_of (id:= "reversed.__length_hint__") (n:=['_','_','t','n','i','h','_','h','t','g','n','e','l','_','_']) (o:=['d','e','s','r','e','v','e','r']) (by kernel_rfl) owner];kernel_rfl
theorem VJ:Slot "reversed" "__init__" "object.__init__":=
 .of (owner:= "object") (n:= "__init__") (by rw[typeLookup_type,builtinLookup_eq_fast];kernel_rfl) (by decide +kernel) (by decide +kernel) (by decide +kernel)
  (by first|exact .inl (by decide +kernel)|exact .inr (by decide +kernel)) (by rw[isSubtype_type];kernel_rfl)
theorem called:TypeCalled "reversed" "reversed.__new__" "object.__init__":=
 ⟨by decide +kernel,by decide +kernel,⟨_,_,PySem.F.mro_reversed⟩,PySem.F.made_reversed,by decide +kernel,by rw[isSubtype_type];kernel_rfl,VJ⟩
noncomputable def obj(t:Addr)(i:Int):Obj:={cls:=.type "reversed",data:=.fields #[.ref t,rawInt i]}
theorem VL(t:Addr)(items:Array Value)(n:Nat)(dct:Option Addr)(sl:Array (Option Value))(hz:(items.size:Int)<2 ^ 62) :
  Meets (Builtin.«reversed.__new__» ⟨[.type "reversed",.ref t],[]⟩) (λ_ R s=>s.heap.get? t=some {cls:=.type "tuple",dict:=dct,data:=.seq items n,slots:=sl}/\
   ∀tk,R (.ok (.ret (.ref s.heap.objs.size))) {s with heap:=s.heap.push (obj t ((items.size:Int)-1)),toks:=tk}):=
 .of_wp λprog w A R s h=>by
  obtain⟨hp,g,d,tk,os⟩:=s;obtain⟨hl,h⟩:=h;have hT:(Shared.mk hp g d tk os).TypeIs (.ref t) "tuple":=⟨_,hl,rfl⟩
  unfold Builtin.«reversed.__new__»;refine wpAny_bind (wpAny_of_eq (newClass_reversed _) ?_)
  try dsimp only
  refine wpAny_bind (wpAny_of_eq (a:=()) (by first|rfl|kernel_rfl) ?_);refine wpAny_bind (wpAny_of_eq (a:=()) (by first|rfl|kernel_rfl) ?_)
  try dsimp only
  refine wpAny_bind (wpAny_specialOf hT O_ ?_)
  try dsimp only
  refine wpAny_bind ?_;refine wpAny_bind (wpAny_isInstance (T:= "tuple") (b:=false) hT (by rw[isSubtype_type];kernel_rfl) ?_);refine wpAny_ite_split (λhab=>absurd hab (by decide)) (λ_=>?_);refine wpAny_bind (wpAny_specialOf hT PyProof.Rows.slot_tuple_getitem.lookup ?_);dsimp only;rw[if_pos (by decide +kernel)];refine wpAny_pure ?_;rw[if_neg (by decide)];refine wpAny_bind (PyProof.Rows.len_tuple (items:=items) ⟨_,hl,rfl,n,rfl⟩ (by lia) ?_);refine wpAny_bind (wpAny_of_eq (a:=some (items.size:Int)) rfl ?_);dsimp only;refine wpAny_bind ?_;unfold Builtin.SmallTypes.newRecord;exact wpAny_newObj_type (wpAny_pure ⟨_,rfl,h _⟩)
theorem ZL(hL:s.heap.IsTuple t items)(hz:(items.size:Int)<2 ^ 62)
 (h:∀tk,Q (.ref s.heap.objs.size) {s with heap:=s.heap.push (obj t ((items.size:Int)-1)),toks:=tk}):wpAny (model prog w) A (call (.type "reversed") [.ref t]) Q E s:=by
 obtain⟨⟨c,dct,dt,sl⟩,hl,hc,n,hd⟩:=hL;replace hc:c=.type "tuple":=hc;replace hd:dt=.seq items n:=hd;subst hc hd;refine callType_new called (by decide) (PySem.F.typeCall_reversed_1 _) (PySem.F.newCall_reversed_1 _) (λobj=>PySem.F.args_object_init_2 obj _) PySem.F.entry_reversed_new (VL t items n dct sl hz) ⟨hl,λtk=>⟨⟨_,Heap.get?_push_size _ rfl,rfl⟩,h tk⟩⟩
def Is(h:Heap)(a t:Addr)(i:Int):Prop:=∃o,h.get? a=some o/\o.cls=.type "reversed"/\o.data=.fields #[.ref t,rawInt i]
theorem Is.ty{s:Shared}(x:Is s.heap a t i):s.TypeIs (.ref a) "reversed":=let ⟨o,ho,hc,_⟩:=x;⟨o,ho,hc⟩
theorem Is.at(x:Is h a t i)(e:∀o,h.get? a=some o->h'.get? a=some o):Is h' a t i:=let ⟨o,ho,r⟩:=x;⟨o,e o ho,r⟩
section
variable {prog:Program} {w:World} {A:Around} {E:Value->Shared->Prop} {s:Shared}
theorem next_item{i:Nat}{items:Array Value}{x:Value}{Q:Option Value->Shared->Prop}(hit:Is s.heap it t (i:Int))(hl:s.heap.IsTuple t items)(hx:items[i]?=some x)(hz:(items.size:Int)<2 ^ 62)
 (hQ:∀h' tk,Is h' it t ((i:Int)-1)->Heap.SameBut it s.heap h'->Q (some x) {s with heap:=h',toks:=tk}):wpAny (model prog w) A (pyNext (.ref it)) Q E s:=by
 obtain⟨o,ho,hc,hd⟩:=id hit;have hi:i<items.size:=(Array.getElem?_eq_some_iff.mp hx).1;unfold pyNext;refine wpAny_bind (wpAny_attempt (wpAny_callSpecial?_slot (name:=Str.ofString "__next__") hit.ty slot_next
  (wpAny_call_entry slot_next hit.ty entry_next ?_ (args_next _))))
 unfold Builtin.«reversed.__next__»;refine wpAny_bind (wpAny_of_eq (a:=(Value.ref it,[])) rfl ?_)
 try dsimp only
 refine wpAny_bind (wpAny_field ho hd (x:=.ref t) rfl ?_);refine wpAny_bind (wpAny_field ho hd (x:=rawInt (i:Int)) rfl ?_);show wpAny _ _ (if (i:Int)<0 then _ else _) _ _ s;rw[if_neg (by lia)];refine wpAny_bind (wpAny_specialOf hl.typeIs PyProof.Rows.slot_tuple_getitem.lookup ?_);rw[if_neg (by simp)];refine wpAny_bind (wpAny_mkInt ?_);refine wpAny_bind (wpAny_attempt (PyProof.Rows.getItem_tuple (items:=items) (j:=i) (x:=x) hl (by lia) (by lia) (by unfold seqIndex?;simp;lia) hx ?_));dsimp only;refine wpAny_bind (wpAny_field ho hd (x:=rawInt (i:Int)) rfl ?_);show wpAny _ _ (setField (.ref it) 1 (rawInt ((i:Int)-1)) >>= _) _ _ _;refine wpAny_bind (wpAny_setField ho hd (by simp) ?_);refine wpAny_pure ⟨x,rfl,wpAny_pure (hQ _ _ ?_ (Heap.SameBut.update ..))⟩;exact⟨_,Heap.get?_update_self _ ho (Obj.isFreed_of_fields (Obj.data_mapFields hd _)),(Obj.cls_mapFields ..).trans hc,by
  rw[Obj.data_mapFields hd];simp⟩
theorem next_end(hh:A.handled=none)(hit:Is s.heap it t (-1))
 (hQ:∀h',Heap.ExtBut it s.heap h'->Q none {s with heap:=h'}):wpAny (model prog w) A (pyNext (.ref it)) Q E s:=by
 obtain⟨o,ho,hc,hd⟩:=id hit;unfold pyNext;refine wpAny_bind (wpAny_attempt (wpAny_callSpecial?_slot (name:=Str.ofString "__next__") hit.ty slot_next
  (wpAny_call_entry slot_next hit.ty entry_next ?_ (args_next _))))
 unfold Builtin.«reversed.__next__»;refine wpAny_bind (wpAny_of_eq (a:=(Value.ref it,[])) rfl ?_)
 try dsimp only
 refine wpAny_bind (wpAny_field ho hd (x:=.ref t) rfl ?_);refine wpAny_bind (wpAny_field ho hd (x:=rawInt (-1)) rfl ?_);show wpAny _ _ (if (-1:Int)<0 then _ else _) _ _ s;rw[if_pos (by decide)];refine wpAny_bind (wpAny_rule ?_);refine wpAny_bind ?_;refine wpAny_bind (wpAny_setField ho hd (by simp) ?_);have h1:=Heap.get?_update_self (h:=s.heap) (a:=it) (Obj.mapFields (·.set! 1 (rawInt (-1)))) ho (Obj.isFreed_of_fields (Obj.data_mapFields hd _));have hd1:(Obj.mapFields (·.set! 1 (rawInt (-1))) o).data=.fields #[.ref t,rawInt (-1)]:=by rw[Obj.data_mapFields hd];simp
 refine wpAny_setField h1 hd1 (by simp) ?_;refine wpAny_bind ?_;unfold Builtin.SmallTypes.stopIteration;simp only[newExc,newTuple];refine wpAny_bind ?_;refine wpAny_bind (wpAny_newObj_type ?_ (by size_fits));refine wpAny_bind (m:=firstArgMember _ _) (wpAny_of_eq (a:=Value.none) (by first|rfl|(simp only[firstArgMember];rfl)) ?_);refine wpAny_newObj_type ?_ (by size_fits);simp only[raiseNew];refine wpAny_bind (wpAny_handled ?_)
 first|rw[show A.in1.handled=none from hh]|rw[hh]
 refine wpAny_bind (wpAny_pure (wpAny_throw ?_));refine wpAny_bind (wpAny_isInstance (T:= "StopIteration") (b:=true) ⟨_,Heap.get?_push_size _ rfl,rfl⟩ isSubtype_stop ?_);exact wpAny_pure (hQ _ ((((Heap.SameBut.update ..).trans (Heap.SameBut.update ..)).extBut.push _).push _))
theorem zV(hit:Is s.heap it t i)(h:Q (.ref it) s):wpAny (model prog w) A (pyIter (.ref it)) Q E s:=by
 refine wpAny_pyIter_slot hit.ty zU (wpAny_call_entry zU hit.ty PK ?_ (VG _));show wpAny _ _ (ret (.ref it)) _ _ s;exact wpAny_pure ⟨_,rfl,"reversed",_,hit.ty,slot_next.lookup,h⟩
end
theorem walks{prog:Program}(hh:A.handled=none)(I l:Addr)(hne:l≠I)(items:Array Value)(hz:(items.size:Int)<2 ^ 62) :
  Walks prog w A I [I,l] [I] items.size (λi v=>items[items.size-1-i]?=some v) (λi h=>i<=items.size/\Is h I l ((items.size:Int)-1-(i:Int))/\h.IsTuple l items) where
 sub:=λb hb=>by simp at hb;simp[hb]
 frame:=λ_ _ _ x hk=>⟨x.1,x.2.1.at λo e=>hk I (by simp) o e,let ⟨o,e,r⟩:=x.2.2;⟨o,hk l (by simp) o e,r⟩⟩
 item:=λi s Q E hi x hQ=>by
  have e:(items.size:Int)-1-(i:Int)=((items.size-1-i:Nat):Int):=by lia
  have hit:=x.2.1;rw[e] at hit;have hx:items[items.size-1-i]?=some (items[items.size-1-i]'(by lia)):=Array.getElem?_eq_getElem (by lia);refine next_item hit x.2.2 hx hz λh' tk hit' hs'=>?_
  have e2:((items.size-1-i:Nat):Int)-1=(items.size:Int)-1-((i+1:Nat):Int):=by lia
  rw[e2] at hit';exact hQ _ h' tk hx ⟨hi,hit',let ⟨o,eo,r⟩:=x.2.2;⟨o,(hs'.2 l hne).trans eo,r⟩⟩ λb o hb eo=>hs'.extBut b o (λh=>hb (by simp[h])) eo
 done:=λs Q E x hQ=>by
  have e:(items.size:Int)-1-(items.size:Int)=-1:=by lia
  have hit:=x.2.1;rw[e] at hit;exact next_end hh hit λh' he'=>hQ h' s.toks λb o hb eo=>he' b o (λh=>hb (by simp[h])) eo
 self:=λ_ _ _ _ x hQ=>zV x.2.1 hQ
section
variable {prog:Program} {w:World} {A:Around} {E:Value->Shared->Prop} {s:Shared}
theorem hint(hit:Is s.heap I l ((items.size:Int)-1))(hl:s.heap.IsTuple l items)(hz:items.size<=sizeLine)(h:∀b tk,Q b {s with toks:=tk}):wpAny (model prog w) A (Builtin.List.listLengthHint (.ref I)) Q E s:=by
 unfold Builtin.List.listLengthHint;refine wpAny_bind (wpAny_specialOf hit.ty PB ?_);dsimp only;refine wpAny_ite_split (λhab=>absurd hab (by decide +kernel)) (λ_=>?_);rw[if_neg (by simp)];refine wpAny_bind (wpAny_specialOf hit.ty tX.lookup ?_);generalize hid:("reversed.__length_hint__" : String)=id0
 wp_delta
 rw[show splitId id0=some ("reversed","__length_hint__") from by subst hid;decide +kernel];subst hid;refine wpAny_bind (wpAny_isInstance (T:= "reversed") (b:=true) hit.ty PySem.F.sub_reversed_self ?_);refine wpAny_ite_split (λhab=>absurd hab (by decide)) (λ_=>?_);refine wpAny_ite_split (λhab=>absurd hab (by decide +kernel)) (λ_=>?_);refine wpAny_bind (wpAny_rule ?_);refine wpAny_bind (wpAny_of_eq (tX.bind _) ?_);refine wpAny_bind (wpAny_attempt (wpAny_call_entry tX hit.ty PJ ?_ (VH _)));obtain⟨o,ho,hc,hd⟩:=id hit;unfold Builtin.«reversed.__length_hint__»;refine wpAny_bind (wpAny_of_eq (a:=Value.ref I) rfl ?_);refine wpAny_bind (wpAny_field ho hd (x:=.ref l) rfl ?_);rw[if_neg (show ¬((Value.ref l==Value.none)=true) from Bool.false_ne_true)];rw[sizeLine_eq] at hz;refine wpAny_bind (PyProof.Rows.len_tuple (items:=items) hl (by lia) ?_);refine wpAny_bind (wpAny_of_eq (a:=some (items.size:Int)) rfl ?_);dsimp only;refine wpAny_bind (wpAny_field ho hd (x:=rawInt ((items.size:Int)-1)) rfl ?_);show wpAny _ _ (if (items.size:Int)<(items.size:Int)-1+1 then _ else _) _ _ _;rw[if_neg (by lia)];refine wpAny_bind (wpAny_mkInt (wpAny_pure ⟨_,rfl,?_⟩));dsimp only;refine wpAny_bind (wpAny_of_eq (a:=some ((items.size:Int)-1+1)) rfl ?_);dsimp only;rw[if_neg (by simp only[Builtin.List.listFitsIndex,Bool.not_eq_true',Bool.not_eq_false,Bool.and_eq_true,decide_eq_true_eq];lia),if_neg (by lia),if_neg (by simp only[Builtin.List.listTooLong,decide_eq_true_eq,sizeLine_eq];lia)];exact wpAny_pure (h _ _)
theorem extend(hh:A.handled=none)(hit:Is s.heap I l ((items.size:Int)-1))(hl:s.heap.IsTuple l items)(hIl:l≠I)(S:Addr)(hSr:S≠I)(hSd:S≠l)(res:Value)(c₀:Nat)(hS:s.heap.get? S=some {cls:=.type "list",data:=.seq #[] c₀})
 (hR:∀h' tk acc' c',(∀b o,b≠S->b≠I->s.heap.get? b=some o->h'.get? b=some o)->h'.get? S=some {cls:=.type "list",dict:=none,data:=.seq acc' c',slots:=#[]}->ItemsOf (λi v=>items[items.size-1-i]?=some v) acc' items.size->R (.ok (.ret res)) {s with heap:=h',toks:=tk})(hn:items.size<=sizeLine) :
  wpAny (model prog w) A.in1 (Builtin.List.listExtendWith (.ref S) (.ref I) res)
   (λfin s'=>match fin with|.done f=>R (.ok f) s'|.again c'=>c'.quiet=true/\codeAny (model prog w) A c' R s') (λe s'=>R (.error e) s') s:=by
 have hz:(items.size:Int)<2 ^ 62:=by rw[sizeLine_eq] at hn;lia
 have W:=walks (prog:=prog) (w:=w) (A:=A.in1) hh I l hIl items hz;have hSf:S∉[I,l]:=by simp only[List.mem_cons,List.not_mem_nil,or_false,not_or];exact⟨hSr,hSd⟩
 have st0:∀{h:Heap},Is h I l ((items.size:Int)-1)->h.IsTuple l items->0<=items.size/\Is h I l ((items.size:Int)-1-((0:Nat):Int))/\h.IsTuple l items:=λ{h} a b=>⟨Nat.zero_le _,by simpa using a,b⟩
 have key:∀(h:Heap)(c₁ tk:Nat),Is h I l ((items.size:Int)-1)->h.IsTuple l items->(∀b o,b≠S->s.heap.get? b=some o->h.get? b=some o)->
   h.get? S=some {cls:=.type "list",data:=.seq #[] c₁}->codeAny (model prog w) A (.builtin "list.extend.loop" ⟨[.ref S,.ref I,res],[]⟩) R {s with heap:=h,toks:=tk}:=by
  intro h c₁ tk h1 h2 hk hS₁;refine codeAny_extend_loopS W.toS hn S hSf res items.size 0 _ #[] c₁ rfl (Nat.zero_le _) (st0 h1 h2) hS₁ (ItemsOf.nil _) λs' acc' c' hm hS' hacc=>?_
  rw[Moved.eq_with hm];refine hR s'.heap s'.toks acc' c' (λb o hb hbI e=>hm.heap b o (λhmem=>?_) (hk b o hb e)) hS' hacc;rcases List.mem_cons.mp hmem with e'|hmem
  ·exact hb e'
  ·exact hbI (List.mem_singleton.mp hmem)
 unfold Builtin.List.listExtendWith;refine wpAny_bind (wpAny_typeOf (T:= "reversed") hit.ty ?_);have h1:Builtin.List.listSameRef (.ref S) (.ref I)=false:=by simp[Builtin.List.listSameRef,hSr]
 have n1:(Value.type "reversed"==Value.type "list")=false:=by decide
 have n2:(Value.type "reversed"==Value.type "tuple")=false:=by decide
 simp only[h1,n1,n2,Bool.or_false,Bool.false_eq_true,if_false];refine wpAny_bind (zV hit ?_);refine wpAny_bind (wpAny_holding (hint hit hl hn λb tk=>?_));refine wpAny_ite_split (λ_=>?_) (λ_=>wpAny_pure ⟨plainId_quiet PySem.F.plain_extend_loop _,key _ c₀ _ hit hl (λb o _ e=>e) hS⟩);refine wpAny_bind (wpAny_rule ?_);refine wpAny_bind ?_;show wpAny _ _ (updateSeq S (·.push .none) >>= λ_=>updateSeq S (·.pop)) _ _ _;refine wpAny_bind (wpAny_updateSeq hS rfl ?_);have hS₂:=Heap.get?_update_self (Obj.mapSeq (·.push Value.none)) hS rfl;refine wpAny_updateSeq (hz:=by seq_fits) hS₂ rfl ?_;have hS₃:=Heap.get?_update_self (Obj.mapSeq (·.pop)) hS₂ rfl;have oth:∀b o,b≠S->s.heap.get? b=some o->((s.heap.update S (Obj.mapSeq (·.push Value.none))).update S (Obj.mapSeq (·.pop))).get? b=some o:=λb o hb e=>(Heap.get?_update_other _ _ (Ne.symm hb)).trans ((Heap.get?_update_other _ _ (Ne.symm hb)).trans e)
 refine wpAny_pure ⟨plainId_quiet PySem.F.plain_extend_loop _,key _ _ _ (hit.at λo e=>oth I o (Ne.symm hSr) e) (let ⟨o,e,r⟩:=hl;⟨o,oth l o (Ne.symm hSd) e,r⟩) (λb o hb e=>oth b o hb e) hS₃⟩
theorem init(hh:A.handled=none)(hit:Is s.heap I l ((items.size:Int)-1))(hl:s.heap.IsTuple l items)(hIl:l≠I)(S:Addr)(hSr:S≠I)(hSd:S≠l)(hS:s.heap.get? S=some {cls:=.type "list",data:=.seq #[]})
 (hR:∀h' tk acc' c',(∀b o,b≠S->b≠I->s.heap.get? b=some o->h'.get? b=some o)->h'.get? S=some {cls:=.type "list",dict:=none,data:=.seq acc' c',slots:=#[]}->ItemsOf (λi v=>items[items.size-1-i]?=some v) acc' items.size->R (.ok (.ret .none)) {s with heap:=h',toks:=tk})(hn:items.size<=sizeLine) :
  wpAny (model prog w) A.in1 (Builtin.«list.__init__» ⟨[.ref S,.ref I],[]⟩)
   (λfin s'=>match fin with|.done f=>R (.ok f) s'|.again c'=>c'.quiet=true/\codeAny (model prog w) A c' R s') (λe s'=>R (.error e) s') s:=by
 show wpAny _ _ (do let old <- Builtin.List.listItems (.ref S);Builtin.List.listUpdate (.ref S) (λ_=>#[]);letGo old.toList.reverse;Builtin.List.listExtendWith (.ref S) (.ref I) .none) _ _ s;refine wpAny_bind ?_;unfold Builtin.List.listItems;refine wpAny_bind (wpAny_seqItems hS rfl (wpAny_pure ?_));show wpAny _ _ (updateSeq S (λ_=>#[]) >>= λ_=>letGo (#[]:Array Value).toList.reverse >>= λ_=>Builtin.List.listExtendWith (.ref S) (.ref I) .none) _ _ s;refine wpAny_bind (wpAny_updateSeq hS rfl ?_);have hS₂:=Heap.get?_update_self (Obj.mapSeq (λ_=>(#[]:Array Value))) hS rfl;have oth:∀b o,b≠S->s.heap.get? b=some o->(s.heap.update S (Obj.mapSeq (λ_=>(#[]:Array Value)))).get? b=some o:=
  λb o hb e=>(Heap.get?_update_other _ _ (Ne.symm hb)).trans e
 refine wpAny_bind (wpAny_letGo ?_);refine extend hh (hit.at λo e=>oth I o (Ne.symm hSr) e) (let ⟨o,e,r⟩:=hl;⟨o,oth l o (Ne.symm hSd) e,r⟩) hIl S hSr hSd .none _ hS₂ (λh' tk acc' c' hk hS' hacc=>?_) hn;exact hR h' tk acc' c' (λb o hb hbI e=>hk b o hb hbI (oth b o hb e)) hS' hacc
theorem VM(hh:A.handled=none)(hit:Is s.heap I l ((items.size:Int)-1))(hl:s.heap.IsTuple l items)(hIl:l≠I)(hn:items.size<=sizeLine)
 (hQ:∀h' tk acc' c',(∀b o,b≠I->s.heap.get? b=some o->h'.get? b=some o)->h'.get? s.heap.objs.size=some {cls:=.type "list",dict:=none,data:=.seq acc' c',slots:=#[]}->ItemsOf (λi v=>items[items.size-1-i]?=some v) acc' items.size->Q (.ref s.heap.objs.size) {s with heap:=h',toks:=tk}) :
  wpAny (model prog w) A (call (.type "list") [.ref I]) Q E s:=by
 refine callType_codes (Q₁:=λobj s₁=>obj=.ref s.heap.objs.size/\s₁={s with heap:=s.heap.push {cls:=.type "list",data:=.seq #[]}}) PySem.F.called_list (PySem.F.typeCall_list_1 _) PySem.F.entry_list_init
  (code_list_new _ ⟨rfl,rfl⟩) λobj s₁ h₁=>?_
 obtain⟨rfl,rfl⟩:=h₁;have hS:(s.heap.push {cls:=.type "list",data:=.seq #[]}).get? s.heap.objs.size=some {cls:=.type "list",data:=.seq #[]}:=Heap.get?_push_size _ rfl;have lt:∀{b:Addr}{o:Obj},s.heap.get? b=some o->s.heap.objs.size≠b:=λe=>Nat.ne_of_gt (Heap.lt_size e)
 have l1:s.heap.objs.size≠I:=let ⟨o,e,_⟩:=hit;lt e
 have l2:s.heap.objs.size≠l:=let ⟨o,e,_⟩:=hl;lt e
 refine⟨⟨_,hS,rfl⟩,PySem.F.args_list_init_2 _ _,init (A:=A.in1) hh (hit.at λo e=>Heap.get?_push_of_some _ e) (let ⟨o,e,r⟩:=hl;⟨o,Heap.get?_push_of_some _ e,r⟩) hIl _ l1 l2 hS (λh' tk acc' c' hk hS' hacc=>?_) hn⟩;exact⟨rfl,hQ h' tk acc' c' (λb o hb e=>hk b o (Ne.symm (lt e)) hb (Heap.get?_push_of_some _ e)) hS' hacc⟩
end
end Rv
end Mi
namespace Mi
open PySem L2 PySem.SeqAt PySem.Spec PyProof.Rows
def aCt:D->Res D
 |.tup xs=>if D.bA xs&&decide (xs.length<=lim) then .ok (.lst xs.reverse) else .bad
 |_=>.bad
theorem HQ:bootBuiltins "reversed"=some (.type "reversed"):=by decide +kernel
variable [KFrag]
theorem bR.rev:∀{vs:List V}{ds:List D},bR P H vs ds->bR P H vs.reverse ds.reverse
 |_,_,.nil=>.nil
 |_,_,.cons r t=>by rw[List.reverse_cons,List.reverse_cons];exact t.rev.snoc r
theorem VN(h:D.bA ds=true):D.bA ds.reverse=true:=iV.mpr λy hy=>iV.mp h y (List.mem_reverse.mp hy)
theorem ZM(r:Vals xs its)(hl:acc.length=its.length)(h:∀j v,acc[j]?=some v->its[its.length-1-j]?=some v):Vals xs.reverse acc:=by
 have e:acc=its.reverse:=by
  refine List.ext_getElem? λj=>?_
  by_cases hj:j<its.length
  ·have h1:acc[j]?=some (acc[j]'(by lia)):=List.getElem?_eq_getElem (by lia);have h2:=h j _ h1;rw[h1,List.getElem?_reverse hj,h2]
  ·rw[List.getElem?_eq_none (by lia),List.getElem?_eq_none (by rw[List.length_reverse];lia)]
 rw[e];clear e h hl;induction r with
 |nil=>exact .nil
 |cons h t ih=>
  rw[List.reverse_cons,List.reverse_cons];exact ih.append (.cons h .nil)
section
variable {X:Cx} {e:Expr} {fe:FE} {re:Bool} {p p2 pos pos2:Pos}
theorem aCu(hc:X.calm=true)(hg:Gl X "list")(hm:X.mg "list"=none)(hg2:Gl X "reversed")(hm2:X.mg "reversed"=none)(he:PE X e (gE fe re))(hs:starEach [e] X.env=[(false,eval e X.env)]:=by rfl)
 (hs2:starEach [.Call (.Name "reversed" p2) [e] [] pos2] X.env=[(false,eval (.Call (.Name "reversed" p2) [e] [] pos2) X.env)]:=by rfl) :
  PE X (.Call (.Name "list" p) [.Call (.Name "reversed" p2) [e] [] pos2] [] pos) (gE (b1 aCt fe) true):=by
 intro pins s σ H Q I ⟨ρ,d,E,h,q⟩;obtain⟨d0,h1,h2⟩:=bD h;unfold aCt at h2;split at h2
 rotate_left
 ·exact bx h2
 rename_i ds;split at h2
 rotate_left
 ·exact bx h2
 rename_i hb;cases h2;rw[Bool.and_eq_true] at hb;refine wpAny_Call_Name_kw (jQ I hg hm aCe ?_);refine PyProof.Rows.callWith_type1 ?_ hs2 rfl;rw[hs2];show wpAny _ _ (spliced [(false,eval (.Call (.Name "reversed" p2) [e] [] pos2) X.env)]) _ _ s;refine Calls.spliced_cons ?_;refine wpAny_Call_Name_kw (jQ I hg2 hm2 HQ ?_);refine PyProof.Rows.callWith_type1 ?_ hs rfl;rw[hs];show wpAny _ _ (spliced [(false,eval e X.env)]) _ _ s;refine Calls.spliced_cons (thn (he pins s σ H (λv H1=>cL H H1/\Rep All H1 v (.tup ds)) I ⟨ρ,_,E,h1,λv H1 s1 r1 _=>⟨s1,r1⟩⟩) λu s1 ⟨x,H1,I1,ru,sm,rx⟩=>?_);obtain⟨t,xs,rfl,ex,rr⟩:=rx.eX;cases ru;obtain⟨its,rv,ht,hz⟩:=I1.tuple (.of ex);have htt:s1.heap.IsTuple t its.toArray:=ht;refine Calls.spliced_nil ?_;have hz':its.toArray.size<=sizeLine:=by rw[List.size_toArray,<-rv.length];exact hz
 refine Rv.ZL htt (by rw[sizeLine_eq] at hz';lia) λtk=>?_
 refine Calls.spliced_nil ?_;have hne:t≠s1.heap.objs.size:=let ⟨o,e,_⟩:=htt;Nat.ne_of_lt (Heap.lt_size e)
 refine Rv.VM (s:={s1 with heap:=s1.heap.push (Rv.obj t ((its.toArray.size:Int)-1)),toks:=tk}) (I:=s1.heap.objs.size) (l:=t) (items:=its.toArray) (I1.ok.hd hc) ⟨_,Heap.get?_push_size _ rfl,rfl,rfl⟩ (let ⟨o,e,r⟩:=htt;⟨o,Heap.get?_push_of_some _ e,r⟩) hne hz' λh' tk' acc c hk hS hacc=>?_
 have hsz:((s1.heap.push (Rv.obj t ((its.toArray.size:Int)-1))).objs.size)=s1.heap.objs.size+1:=Heap.size_push ..;have hfr:H1 (s1.heap.push (Rv.obj t ((its.toArray.size:Int)-1))).objs.size=none:=I1.hok.fresh (by rw[hsz];lia);have hlen:acc.toList.length=its.length:=by have:=hacc.1;simpa using this
 have hv:Vals xs.reverse acc.toList:=ZM rv hlen λj v hj=>by
  have:=hacc.2 j v (by simpa using hj);simpa using this
 have sm2:cL H1 (upd H1 (s1.heap.push (Rv.obj t ((its.toArray.size:Int)-1))).objs.size (.lst xs.reverse)):=cL.upd hfr;refine⟨.ref (s1.heap.push (Rv.obj t ((its.toArray.size:Int)-1))).objs.size,_,I1.laid (a:=(s1.heap.push (Rv.obj t ((its.toArray.size:Int)-1))).objs.size) (o:=.lst xs.reverse) (h':=h') (t':=tk') (λb o e=>hk b o (Nat.ne_of_lt (Heap.lt_size e)) (Heap.get?_push_of_some _ e)) (by rw[hsz];lia) ⟨by rw[List.length_reverse];exact hz,acc.toList,c,hv,by simpa using hS⟩,rfl,?_⟩;exact q _ _ (sm.trans sm2) (.lst aO trivial (rr.rev.same sm2)) λ_=>.lst aO (sm.free hfr) ((rr.rev.bO (VN hb.1)).same sm2)
end
end Mi
namespace Wl
open PySem PySem.Spec
noncomputable abbrev liO(xs:Array Value)(n:Nat):Obj:={cls:=.type "list",data:=.seq xs n}
theorem zR:typeLookup (.type "list") "keys"=pure none:=by rw[typeLookup_type,builtinLookup_eq_fast];kernel_rfl
theorem noGet:typeLookup (.type "list") "__getattr__"=pure none:=by rw[typeLookup_type,builtinLookup_eq_fast];kernel_rfl
theorem zT:entryFor table "list.__getattribute__"=some Builtin.«object.__getattribute__»:=entryFor_alias (id':= "object.__getattribute__") (by kernel_rfl) (by decide +kernel) (by decide +kernel) (by kernel_rfl)
theorem jB(a:Addr)(xs:Array Value)(n:Nat)(u:Tok):Meets (Builtin.«object.__getattribute__» ⟨[.ref a,.str "keys" u],[]⟩) (λA R s=>s.heap.get? a=some (liO xs n)/\raisesAttr (.ref a) "keys" A R s):=.of_wp λprog w A R s hs=>by
 obtain⟨hp,g,d,tk,os⟩:=s;obtain⟨e,hh,q⟩:=hs;have ty:(⟨hp,g,d,tk,os⟩:Shared).TypeIs (.ref a) "list":=⟨_,e,rfl⟩
 have no:=zR
 wp_walk
 exact wpAny_raiseAttrError hh q (attrMsg_fits (by decide +kernel) (by size_fits))
section
variable {prog:Program} {w:World} {A:Around} {E:Value->Shared->Prop} {hp:Heap} {g:Array GenState} {d:Drawn} {tk:Nat} {os:OsState} {a:Addr} {xs:Array Value} {n:Nat}
theorem gone(e:hp.get? a=some (liO xs n))(hh:A.handled=none)(hk:kw=[])(q:∀h' tk' x,Heap.NewAttrErr hp h' x (.ref a) "keys"->E (.ref x) ⟨h',g,d,tk',os⟩) :
  wpAny (model prog w) A (call (.builtin "list.__getattribute__") ([.ref a]++[.str "keys" u]) kw) Q E ⟨hp,g,d,tk,os⟩:=by
 subst hk;exact call_meets F.slot_list_getattribute ⟨_,e,rfl⟩ zT (F.args_list_getattribute_2 _ _) (jB a xs n u) ⟨e,hh,λh' tk' x hx=>q h' tk' x hx⟩
theorem lacks(e:hp.get? a=some (liO xs n))(hh:A.handled=none)(q:∀h' tk',(∀b o,hp.get? b=some o->h'.get? b=some o)->Q none ⟨h',g,d,tk',os⟩):wpAny (model prog w) A (getAttr? (.ref a) "keys") Q E ⟨hp,g,d,tk,os⟩:=by
 have ty:∀tk',(⟨hp,g,d,tk',os⟩:Shared).TypeIs (.ref a) "list":=λ_=>⟨_,e,rfl⟩
 have f3:=F.slot_list_getattribute.lookup;have f4:=F.slot_list_getattribute.bind (.ref a);have f5:=noGet;have sub:=sub_AttributeError
 wp_walk using gone e hh
 case hk=>rfl
 intro h' tk' x hx;obtain⟨t,u,ex⟩:=hx.there;show wpAny _ _ (getattributeRaised _ _ _ _ _ _ _) _ _ _
 wp_walk
 exact q _ _ hx.keeps
end
theorem vO{h:Heap}(e:h.get? c=some o)(hc:o.cls=.type T)(ed:h.get? d=some od)(hd:od.cls=.type U)(ne:(Value.type T==Value.type U)=false):c≠d:=λq=>by
 subst q;rw[e] at ed;cases ed;rw[hc] at hd;rw[hd] at ne;simp at ne
def Prs{prog:Program}{w:World}{K:Type}[DecidableEq K](knd:KeyKind prog w K)(items:Array Value)(ps:List (K×Value))(h:Heap):Prop:=items.size=ps.length/\∀(i:Nat)(kv:K×Value),ps[i]?=some kv->∃(p:Addr)(x:Value)(o:Obj)(n:Nat),items[i]?=some (Value.ref p)/\h.get? p=some o/\o.cls=.type "tuple"/\o.data=.seq #[x,kv.2] n/\knd.is kv.1 x=true
theorem Prs.keep[DecidableEq K]{knd:KeyKind prog w K}{items:Array Value}{ps:List (K×Value)}{h h':Heap}(x:Prs knd items ps h)(k:∀c o,o.cls=.type "tuple"->h.get? c=some o->h'.get? c=some o):Prs knd items ps h':=
 ⟨x.1,λi kv e=>let ⟨p,v,o,n,h1,h2,h3,h4,h5⟩:=x.2 i kv e;⟨p,v,o,n,h1,k p o h3 h2,h3,h4,h5⟩⟩
section
variable {prog:Program} {w:World} {K:Type} [DecidableEq K] {knd:KeyKind prog w K} {A:Around} {R:Except Value Flow->Shared->Prop} {it l d:Addr} {items:Array Value} {ps:List (K×Value)} {nl:Nat}
theorem oM(hh:A.handled=none)(hdi:d≠it)(hdl:d≠l)(hil:l≠it) :
  ∀(m k:Nat)(s:Shared)(kvs:List (K×Value)),k+m=items.size->kvs.length+m<=sizeLine->s.heap.IsListIter it l k->s.heap.get? l=some (liO items nl)->Prs knd items ps s.heap->s.heap.DictOf knd d kvs->
  (∀h' tk,h'.DictOf knd d (merged kvs (ps.drop k))->(∀c o,c≠d->c≠it->s.heap.get? c=some o->h'.get? c=some o)->R (.ok (.ret .none)) {s with heap:=h',toks:=tk})->
  codeAny (model prog w) A (.builtin "dict.update.loop" ⟨[.ref d,.ref it,rawInt k,.none],[]⟩) R s:=by
 intro m;induction m with
 |zero=>
  intro k s kvs hkm hl Z el Pp hd q;refine codeAny_builtin Wz.jV ?_;rw[Around.under_plainId (show plainId "dict.update.loop"=true by decide +kernel) _];refine wpAny_bind (m:=pyNext (.ref it)) (wpAny_pyNext_list_end hh Z ⟨_,el,rfl,_,rfl⟩ (Array.getElem?_eq_none (by lia)) λh' kp=>?_);refine wpAny_bind (m:=Builtin.Dict.addKeywords d []) ?_;unfold Builtin.Dict.addKeywords;rw[List.forIn_nil];refine wpAny_bind (wpAny_pure (wpAny_pure (wpAny_pure ?_)));have e:ps.drop k=[]:=List.drop_eq_nil_of_le (by have:=Pp.1;lia);rw[e] at q;obtain⟨o,es,ep,ho,r⟩:=hd;exact q _ s.toks ⟨o,es,ep,kp d o hdi ho,r⟩ λc o _ c1 e=>kp c o c1 e
 |succ m ih=>
  intro k s kvs hkm hl Z el Pp hd q;have hlp:k<ps.length:=by have:=Pp.1;lia
  obtain⟨p,x,o,n,hi,hp,hpc,hpd,his⟩:=Pp.2 k ps[k] (List.getElem?_eq_getElem hlp);have hpi:p≠it:=let ⟨oi,ei,ci,_⟩:=Z;vO hp hpc ei ci (by decide)
  refine codeAny_builtin Wz.jV ?_;rw[Around.under_plainId (show plainId "dict.update.loop"=true by decide +kernel) _];refine wpAny_bind (m:=pyNext (.ref it)) (wpAny_pyNext_list_item Z ⟨_,el,rfl,_,rfl⟩ hi λh' Z' kp=>?_);have hp':h'.get? p=some o:=(kp.2 p hpi).trans hp;refine wpAny_bind (wpAny_holding (wpAny_bind (wpAny_tryCatch ?_)));refine wpAny_bind (wpAny_typeOf (T:= "tuple") ⟨_,hp',hpc⟩ ?_);rw[if_pos (by decide)];refine wpAny_bind (wpAny_seqItems hp' hpd (wpAny_pure ?_));show wpAny _ _ (holding [x,ps[k].2] (dictSet d x ps[k].2)) _ _ _;have hd':h'.DictOf knd d kvs:=let ⟨o,es,ep,ho,r⟩:=hd;⟨o,es,ep,(kp.2 d hdi).trans ho,r⟩
  obtain⟨od,es,ep,ho,hc,_⟩:=id hd';refine wpAny_holding (wpAny_dictSet_pairs his hd' (λh2 hd2' sb=>?_) (by lia));refine wpAny_pure ⟨Code.quiet_builtin _ (by decide +kernel),?_⟩;have ek:(rawInt (k+1):Value)=rawInt ((k+1:Nat):Int):=rfl;rw[ek];have hdrop:ps.drop k=ps[k]::ps.drop (k+1):=List.drop_eq_getElem_cons hlp;have ls:(stored kvs ps[k].1 ps[k].2).length<=kvs.length+1:=by
   unfold stored;split
   ·rw[List.length_map];lia
   ·rw[List.length_append];exact Nat.le_refl _
  have keep:∀c o,c≠d->c≠it->s.heap.get? c=some o->h2.get? c=some o:=λc o c0 c1 e=>(sb.2 c c0).trans ((kp.2 c c1).trans e)
  have hdc:∀c (oc:Obj),oc.cls=.type "tuple"->s.heap.get? c=some oc->c≠d/\c≠it:=λc oc hoc e=>⟨let ⟨o1,_,_,e1,c1,_⟩:=hd;vO e hoc e1 c1.1 (by decide),let ⟨oi,ei,ci,_⟩:=Z;vO e hoc ei ci (by decide)⟩
  refine ih (k+1) _ (stored kvs ps[k].1 ps[k].2) (by lia) (by lia) (let ⟨oi,ei,r⟩:=Z';⟨oi,(sb.2 it (Ne.symm hdi)).trans ei,r⟩) (keep l _ (Ne.symm hdl) hil el) (Pp.keep λc oc hoc e=>keep c oc (hdc c oc hoc e).1 (hdc c oc hoc e).2 e) hd2' λh3 tk hd3 kp3=>?_
  exact q h3 tk (by rw[hdrop];exact hd3) λc o c0 c1 e=>kp3 c o c0 c1 (keep c o c0 c1 e)
end
section
variable {prog:Program} {w:World} {K:Type} [DecidableEq K] {knd:KeyKind prog w K} {A:Around} {E:Value->Shared->Prop} {hp:Heap} {g:Array GenState} {dr:Drawn} {tk:Nat} {os:OsState} {l:Addr} {items:Array Value} {ps:List (K×Value)} {nl:Nat}
theorem dict_list(hh:A.handled=none)(el:hp.get? l=some (liO items nl))(Pp:Prs knd items ps hp)(hz:items.size<=1000000)
 (q:∀h' tk',h'.DictOf knd hp.objs.size (merged [] ps)->(∀c o,hp.get? c=some o->h'.get? c=some o)->Q (.ref hp.objs.size) ⟨h',g,dr,tk',os⟩) :
  wpAny (model prog w) A (call (.type "dict") [.ref l]) Q E ⟨hp,g,dr,tk,os⟩:=by
 have hnew:(hp.push {cls:=.type "dict",data:=.dict #[]}).DictOf knd hp.objs.size []:=Heap.DictOf.new hp;have up:∀c o,hp.get? c=some o->(hp.push {cls:=.type "dict",data:=.dict #[]}).get? c=some o:=λc o e=>Heap.get?_push_of_some _ e
 have lt:∀{c o},hp.get? c=some o->hp.objs.size≠c:=λe=>Nat.ne_of_gt (Heap.lt_size e)
 refine callType_codes (Q₁:=λv s₁=>v=.ref hp.objs.size/\s₁=⟨hp.push {cls:=.type "dict",data:=.dict #[]},g,dr,tk,os⟩) F.kt_called_dict (F.kt_typeCall_dict_1 _) F.entry_dict_init (kt_code_dict_new _ ⟨rfl,rfl⟩) λv s₁ hv=>?_
 obtain⟨rfl,rfl⟩:=hv;have ty:(⟨hp.push {cls:=.type "dict",data:=.dict #[]},g,dr,tk,os⟩:Shared).TypeIs (.ref hp.objs.size) "dict":=hnew.typeIs;have ez:=up _ _ el;have tz:(⟨hp.push {cls:=.type "dict",data:=.dict #[]},g,dr,tk,os⟩:Shared).TypeIs (.ref l) "list":=⟨_,ez,rfl⟩
 refine⟨ty,F.args_dict_init_2 _ _,wpAny_bind (m:=Builtin.Dict.selfAndRest "__init__" _) (wpAny_bind (wpAny_notOrdered_dict ty (wpAny_pure ?_)))⟩;refine wpAny_bind (m:=typeOf (.ref l)) (wpAny_typeOf tz ?_);rw[if_pos (by decide)];refine wpAny_bind (lacks ez hh λh' tk' kp=>?_);rw[if_pos (show(none:Option Value).isNone=true from rfl)];refine wpAny_bind (wpAny_rule (wpAny_bind (wpAny_pyIter_list ⟨_,kp _ _ ez,rfl,_,rfl⟩ (wpAny_pure ⟨Code.quiet_builtin _ (by decide +kernel),?_⟩))));have hd':h'.DictOf knd hp.objs.size []:=let ⟨o,es,ep,ho,r⟩:=hnew;⟨o,es,ep,kp _ _ ho,r⟩
 have ltd:hp.objs.size<h'.objs.size:=let ⟨o,es,ep,ho,r⟩:=hd';Heap.lt_size ho
 have ltl:l<h'.objs.size:=Heap.lt_size (kp _ _ ez);refine oM (A:=A.in1) (ps:=ps) (it:=h'.objs.size) (l:=l) (items:=items) (nl:=nl) (show A.in1.handled=none from hh) (Nat.ne_of_lt ltd) (lt el) (Nat.ne_of_lt ltl) items.size 0 _ [] (by lia) (by rw[List.length_nil,sizeLine_eq];lia) ⟨_,Heap.get?_push_size _ rfl,rfl,rfl⟩ (Heap.get?_push_of_some _ (kp _ _ ez)) (Pp.keep λc o _ e=>Heap.get?_push_of_some _ (kp c o (up c o e))) (let ⟨o,es,ep,ho,r⟩:=hd';⟨o,es,ep,Heap.get?_push_of_some _ ho,r⟩) λh2 tk2 hd2 kp2=>?_
 exact⟨rfl,q h2 tk2 hd2 λc o e=>kp2 c o (λx=>lt e x.symm) (Nat.ne_of_lt (Heap.lt_size (kp c o (up c o e)))) (Heap.get?_push_of_some _ (kp c o (up c o e)))⟩
end
end Wl
namespace Mi
open PySem L2 PySem.SeqAt PySem.Spec PyProof.Rows
def lW:List D->Option (List (D×D))
 |[]=>some []
 |.tup [k,v]::r=>if j5 k&&v.pure then (lW r).map ((k,v)::·) else none
 |_::_=>none
def lC(kvs:List (D×D))(more:List (D×D)):List (D×D):=more.foldl (λacc p=>putD acc p.1 p.2) kvs
def zW:D->Res D
 |.lst xs=>match lW xs with
  |some ps=>if decide (xs.length<=1000) then .ok (.dct (lC [] ps)) else .bad
  |none=>.bad
 |_=>.bad
variable [KFrag]
theorem xO(I:Inv X pins σ H s):∀{xs:List D}{vs:List V}{us:List Value}{ps:List (D×D)},bR All H vs xs->Vals vs us->lW xs=some ps->
  ∃(kvs:List (Key×V))(prs:List (Key×Value)),KV kvs prs/\jF All H kvs ps/\D.bA (ps.map (·.2))=true/\us.length=prs.length/\∀(i:Nat)(kv:Key×Value),prs[i]?=some kv->∃(p:Addr)(x:Value)(o:Obj)(n:Nat),us[i]?=some (Value.ref p)/\s.heap.get? p=some o/\o.cls=.type "tuple"/\o.data=.seq #[x,kv.2] n/\(bY X.prog X.w).is kv.1 x=true
 |[],_,_,_,.nil,.nil,h=>by
  cases h;exact⟨[],[],.nil,.nil,rfl,rfl,λi kv h=>by simp at h⟩
 |d::xs,_,_,ps,.cons r t,.cons rv tv,h=>by
  unfold lW at h;split at h
  ·rename_i h0;cases h0
  ·rename_i k v r' h0;injection h0 with h0 h1
   subst h0 h1;split at h
   ·rename_i hf;rw[Bool.and_eq_true] at hf;obtain⟨ps',hp,rfl⟩:=Option.map_eq_some_iff.mp h;obtain⟨kvs,prs,g1,g2,g3,g4,g5⟩:=xO I t tv hp;obtain⟨a,ws,rfl,ea,rr⟩:=r.eX;cases rv;obtain⟨its,rvs,o,ho,hc,n,hd⟩:=gH I ea;cases rr with
    |cons rk rr=>
     cases rr with
     |cons rw_ rr=>
      cases rr;cases rvs with
      |cons q1 rvs=>
       cases rvs with
       |cons q2 rvs=>
        cases rvs;rename_i wk ww uk uw;obtain⟨key,hk1,hk2⟩:∃key:Key,kD key=k/\(bY X.prog X.w).is key uk=true:=by
         cases rk with
         |int i=>exact⟨.inl i,rfl,rD (k:=.inl i) q1⟩
         |str x=>exact⟨.inr x,rfl,rD (k:=.inr x) q1⟩
         |_=>cases hf.1
        subst hk1;refine⟨(key,ww)::kvs,(key,uw)::prs,.cons ⟨rfl,q2⟩ g1,.cons rw_ g2,by rw[List.map_cons,D.bA,hf.2,g3];rfl,by rw[List.length_cons,List.length_cons,g4],λi kv hi=>?_⟩;cases i with
        |zero=>
         simp at hi;subst hi;exact⟨a,uk,o,n,rfl,ho,hc,hd,hk2⟩
        |succ i=>
         obtain⟨p,x,o',n',z1,z2⟩:=g5 i kv (by simpa using hi);exact⟨p,x,o',n',by simpa using z1,z2⟩
   ·cases h
  ·cases h
theorem qJ:∀{more:List (Key×V)}{ds:List (D×D)}{kvs:List (Key×V)}{es:List (D×D)},jF P H more ds->jF P H kvs es->(kvs.map (·.1)).Nodup->jF P H (cN kvs more) (lC es ds)/\((cN kvs more).map (·.1)).Nodup
 |_,_,_,_,.nil,r,n=>⟨r,n⟩
 |_,_,_,_,.cons (k:=k) rv t,r,n=>by have:=qJ t (xM (k:=k) rv r n) (iW n);exact this
theorem lX:∀{ds es:List (D×D)},D.bA (ds.map (·.2))=true->D.bA (es.map (·.2))=true->D.bA ((lC es ds).map (·.2))=true
 |[],_,_,h=>h
 | (k,v)::ds,es,h,h2=>by
  rw[List.map_cons,D.bA,Bool.and_eq_true] at h;exact lX (ds:=ds) h.2 (mQ h.1 h2)
section
variable {X:Cx} {e:Expr} {fe:FE} {re:Bool} {p pos:Pos}
theorem VP(hc:X.calm=true)(hg:Gl X "dict")(hm:X.mg "dict"=none)(he:PE X e (gE fe re))(hs:starEach [e] X.env=[(false,eval e X.env)]:=by rfl) :
  PE X (.Call (.Name "dict" p) [e] [] pos) (gE (b1 zW fe) true):=by
 intro pins s σ H Q I ⟨ρ,d,E,h,q⟩;obtain⟨d0,h1,h2⟩:=bD h;unfold zW at h2;split at h2
 rotate_left
 ·exact bx h2
 rename_i xs;split at h2
 rotate_left
 ·exact bx h2
 rename_i ps hps;split at h2
 rotate_left
 ·exact bx h2
 rename_i hb;cases h2;have hb:=of_decide_eq_true hb;refine wpAny_Call_Name_kw (jQ I hg hm xK ?_);refine PyProof.Rows.callWith_type1 ?_ hs rfl;rw[hs];show wpAny _ _ (spliced [(false,eval e X.env)]) _ _ s;refine Calls.spliced_cons (thn (he pins s σ H (λv H1=>cL H H1/\Rep All H1 v (.lst xs)) I ⟨ρ,_,E,h1,λv H1 s1 r1 _=>⟨s1,r1⟩⟩) λu s1 ⟨x,H1,I1,ru,sm,rx⟩=>?_);obtain⟨a,vs,rfl,ea,rr⟩:∃a vs,x=.ref a/\H1 a=some (.lst vs)/\bR All H1 vs xs:=by
  cases rx with
  |lst e p r=>exact⟨_,_,rfl,e,r⟩
 cases ru;refine Calls.spliced_nil ?_;obtain⟨hz,its,nl,rv,hl⟩:vs.length<=sizeLine/\∃(its:List Value)(n:Nat),Vals vs its/\s1.heap.get? a=some {cls:=.type "list",data:=.seq its.toArray n}:=I1.hok a _ ea;obtain⟨kvs,prs,g1,g2,g3,g4,g5⟩:=xO I1 rr rv hps;have hlen:its.length<=1000:=by rw[<-rv.length,rr.length];exact hb
 obtain⟨hp,g,dr,tk,os⟩:=s1;refine Wl.dict_list (knd:=bY X.prog X.w) (ps:=prs) (items:=its.toArray) (I1.ok.hd hc) hl ⟨by rw[List.size_toArray];exact g4,λi kv hi=>?_⟩ (by rw[List.size_toArray];lia) λh' tk' hd kp=>?_
 ·obtain⟨p,x,o,n,z1,z2⟩:=g5 i kv hi;exact⟨p,x,o,n,by simpa using z1,z2⟩
 ·have hfr:H1 hp.objs.size=none:=I1.hok.fresh (Nat.le_refl _);have rel:KV (cN [] kvs) (merged [] prs):=g1.merge .nil;have hz2:(cN [] kvs).length<=sizeLine:=by
   have:=fG kvs [];have l1:kvs.length=prs.length:=Paired.length g1;rw[List.length_nil] at this;rw[sizeLine_eq];lia
  obtain⟨rk,nd⟩:=qJ (kvs:=[]) g2 jF.nil List.nodup_nil;have sp:cL H1 (upd H1 hp.objs.size (.dK (cN [] kvs))):=cL.upd hfr;have rk2:∀{P:Addr->Prop},jF P (upd H1 hp.objs.size (.dK (cN [] kvs))) (cN [] kvs) (lC [] ps):=λ{P}=>(rk.keep (.same sp) λ_ h=>h).bO (lX g3 rfl)
  refine⟨.ref hp.objs.size,_,I1.laid (a:=hp.objs.size) (t':=tk') (o:=.dK (cN [] kvs)) kp (Nat.le_refl _) (yX hz2 (beq_eq_false_iff_ne.mpr ?_) rel hd),rfl,?_⟩
  ·exact Ne.symm (Nat.ne_of_lt I1.big)
  ·exact q _ _ (sm.trans sp) (.dK aO trivial rk2 nd) λ_=>.dK aO (sm.free hfr) rk2 nd
end
section
variable {X:Cx} {own:Nat->Bool} {a b:Expr} {pos:Pos} {fa:FE} {xb:FX}
theorem aCv(ho:OpR X (compareOp o) (r2 f fr))(ha:PE X a (gE fa true))(hb:PE X b (gX own xb))(hm:behindInMarks o b=false):PT X (.Compare a [o] [b] pos) (gXT own (xTB (x2R f fa xb))):=
 PT.imp (Q9 ho ha hb hm) λσ H Q ⟨ρ,k,ρ',E,h,q⟩=>by
  obtain⟨⟨d,ρ1⟩,h1,h2⟩:=bD h;obtain⟨b,h3,h4⟩:=bD h2;cases h4;refine aK5 ⟨ρ,d,_,E,h1,λv H' k1 E1 ns r=>?_⟩;cases aAi h3;cases r.inv;exact⟨_,rfl,q H' k1 E1 ns⟩
end
end Mi
namespace Mi
open PySem L2 PySem.SeqAt PySem.Spec PyProof.Rows
noncomputable def uP(i:Nat):FX:=λρ=>match ρ.getD i .uD with
 |.lst (x::xs)=>.ok (x,ρ.set i (.lst xs))
 |_=>.bad
noncomputable def xB1(f:List D->Res D)(fr:Bool)(x:FX):FX:=λρ=>do
 let p <- x ρ
 let d <- f [p.1]
 if fr||d.pure then .ok (d,p.2) else .bad
def ZP(i:Nat)(f:FX):FS:=λρ=>do
 let p <- f ρ
 match ρ.getD i .uD,p.2.getD i .uD with
 |.lst _,.lst xs=>if decide (xs.length<lim)&&p.1.pure then .ok (.nx (p.2.set i (.lst (xs++[p.1])))) else .bad
 |_,_=>.bad
variable [KFrag]
section
variable {X:Cx} {own:Nat->Bool} {e:Expr} {p pos:Pos} {xe:FX} {nm:Str} {id T:String} {f:List D->Res D} {fr:Bool}
theorem aCw(ho:own i=true)(hN:X.N[i]?=some x)(hv:Vis X.env.scope x)(hd:nDb x:=by decide)(hcd:nCd x:=by decide)
 (hbase:attributeBase (.Name x p1) "pop" X.env (eval (.Name x p1) X.env)=eval (.Name x p1) X.env:=by rfl)
 (hfew:((backTo cpos (starEach [.Constant (.int 0) zk zp] X.env)).all (λx=>!x.1)&&(backToKw cpos (keywordEach [] X.env)).all (λx=>x.1.isSome)
  &&decide (([.Constant (.int 0) zk zp]:List Expr).length+([]:List Keyword).length+(if ([]:List Keyword).isEmpty then 0 else 1)<30))=true:=by rfl)
 (hline:(apos.endLine==cpos.line)=true:=by rfl) :
  PE X (.Call (.Attribute (.Name x p1) "pop" apos) [.Constant (.int 0) zk zp] [] cpos) (gX own (uP i)):=
 PE.imp (M9 PySem.F.plainAttrs_list PySem.F.slot_list_pop PySem.F.type_list_pop JQ (kW hN hv hd hcd) (gY (aF (i:=0)) mY rfl) hbase hfew hline rfl rfl) λσ H Q ⟨ρ,d,ρ',E,h,q⟩=>by
 unfold uP at h;split at h
 ·rename_i dx xs hx;cases h;obtain⟨a,o,hσ,r,hin,ha,hm⟩:=E.ownAt ho (by rw[hx];intro z;cases z);rw[hx] at r hin;obtain⟨vs,hl,rr⟩:=tL r;cases rr with
  |@cons v _ vs' _ rv rr=>
   refine⟨_,hσ,.inl ⟨rfl,_,.of hl⟩,ρ,D.int 0,E.er,rfl,λu H' s ru _=>?_⟩;cases ru.inv;refine⟨a,v::vs',0,0,v,rfl,rfl,s _ _ hl,by lia,by lia,?_,rfl,?_⟩
   ·unfold seqIndex?;simp
   ·have E':=E.same s;have hl':=s _ _ hl;have hin':D.bA (d::xs)=true:=hin;rw[D.bA,Bool.and_eq_true] at hin';obtain⟨E2,k2⟩:=E'.mut (o:=.lst vs') (d:=.lst xs) ho hσ rfl (.lst aO trivial ((rr.same s).upd hin'.2 hl' rfl)) hin'.2;have r1:=(bR.cons (rv.same s) .nil).upd (o:=.lst vs') (by rw[D.bA,hin'.1];rfl) hl' rfl;cases r1 with
    |cons r1 _=>exact q _ _ ((KU.same s).trans k2) E2 (.set ho) (r1.bO hin'.1)
 ·exact bx h
theorem VR(h:gX own (xB1 f fr xe) σ H Q):gX own xe σ H λv H'=>rs f fr [v] H' Q:=by
 obtain⟨ρ,d,ρ',E,h,q⟩:=h;obtain⟨⟨d1,ρ1⟩,h1,h⟩:=bD h;obtain⟨d2,h2,h⟩:=bD h;split at h
 ·rename_i hp;cases h;refine⟨ρ,d1,_,E,h1,λv H1 k1 E1 ns r1=>⟨[d1],_,.cons r1.all .nil,h2,λv H2 s2 r2 n2=>q v H2 (k1.trans (.same s2)) (E1.same s2) ns ?_⟩⟩;rw[Bool.or_eq_true] at hp;rcases hp with hp|hp
  ·exact(n2 hp).mono λa ha=>HN k1 E1 ha
  ·exact r2.bO hp
 ·exact bx h
theorem ZQ(hc:mX X (.builtin id) (rs f fr))(hg:Gl X nm)(hm:X.mg nm=none)(hv:bootBuiltins nm=some (.builtin id))(he:PE X e (gX own xe))(hn:nm ≠ "__name__":=by decide)(hdb:(nm==("__debug__" : Str))=false:=by decide)
 (hs:starEach [e] X.env=(false,eval e X.env)::starEach [] X.env:=by rfl)(hpl:(backTo pos (starEach [] X.env)).any (·.1)=false:=by rfl):PE X (.Call (.Name nm p) [e] [] pos) (gX own (xB1 f fr xe)):=
 PE.imp (vW hc hg hm hv (gY he mY hs) hn hdb hs hpl) λ_ _ _ h=>VR h
theorem V0(hc:mX X (.type T) (rs f fr))(hg:Gl X nm)(hm:X.mg nm=none)(hv:bootBuiltins nm=some (.type T))(he:PE X e (gX own xe))(hn:nm ≠ "__name__":=by decide)(hdb:(nm==("__debug__" : Str))=false:=by decide)
 (hs:starEach [e] X.env=(false,eval e X.env)::starEach [] X.env:=by rfl)(hpl:(backTo pos (starEach [] X.env)).any (·.1)=false:=by rfl):PE X (.Call (.Name nm p) [e] [] pos) (gX own (xB1 f fr xe)):=
 PE.imp (yR hc hg hm hv (gY he mY hs) hn hdb hs hpl) λ_ _ _ h=>VR h
theorem aCx(ho:own i=true)(hN:X.N[i]?=some x)(hv:Vis X.env.scope x)(he:PE X e (gX own xe))(hd:nDb x:=by decide)(hcd:nCd x:=by decide)
 (hbase:attributeBase (.Name x p1) "append" X.env (eval (.Name x p1) X.env)=eval (.Name x p1) X.env:=by rfl)
 (hs1:starEach [e] X.env=(false,eval e X.env)::starEach [] X.env:=by rfl)
 (hfew:((backTo cpos (starEach [e] X.env)).all (λx=>!x.1)&&(backToKw cpos (keywordEach [] X.env)).all (λx=>x.1.isSome)
  &&decide (([e]:List Expr).length+([]:List Keyword).length+(if ([]:List Keyword).isEmpty then 0 else 1)<30))=true:=by rfl)
 (hline:(apos.endLine==cpos.line)=true:=by rfl)
 (hs:swapsWith (.Call (.Attribute (.Name x p1) "append" apos) [e] [] cpos) none pos.line X.env=pure false:=by rfl) :
  PS X (.Expr (.Call (.Attribute (.Name x p1) "append" apos) [e] [] cpos) pos) (tS own (ZP i xe)):=
 PS.imp (vV (M9 PySem.F.plainAttrs_list PySem.F.slot_list_append PySem.F.type_list_append sE (kW hN hv hd hcd) (gY he mY hs1) hbase hfew hline hs1 rfl) hs) λD' σ H ⟨ρ,fl,E,h,q⟩=>by
 obtain⟨⟨d,ρ'⟩,h1,h2⟩:=bD h;dsimp only at h2;split at h2
 ·rename_i xs0 xs hx0 hx;split at h2
  ·rename_i hk;cases h2;rw[Bool.and_eq_true] at hk;obtain⟨a,o,hσ,r,hin,ha,hm⟩:=E.ownAt ho (by rw[hx0];intro z;cases z);rw[hx0] at r;obtain⟨vs,hl,rr⟩:=tL r;refine⟨_,hσ,.inl ⟨rfl,vs,.of hl⟩,ρ,_,ρ',E,h1,λv H' k E' ns rv=>?_⟩;obtain⟨a2,o2,hσ2,r2,hin2,ha2,hm2⟩:=E'.ownAt ho (by rw[hx];intro z;cases z);rw[hσ] at hσ2;cases hσ2;rw[hx] at r2 hin2;obtain⟨vs2,hl2,rr2⟩:=tL r2;refine⟨a,vs2,v,rfl,rfl,hl2,by rw[rr2.length];exact TQ hk.1,?_⟩;have hp:D.bA (xs++[d])=true:=by
    rw[oJ];simp only[Bool.and_eq_true];exact⟨hin2,by simp[D.bA,hk.2]⟩
   obtain⟨E2,k2⟩:=E'.mut (o:=.lst (vs2++[v])) (d:=.lst (xs++[d])) ho hσ rfl (.lst aO trivial ((rr2.snoc rv.all).upd hp hl2 rfl)) hp;exact q _ _ (k.trans k2) E2
  ·exact bx h2
 ·exact bx h2
theorem aCy{f:FS}(hb:PSs X body (tS own f))(hx:∀v s,X.xe v s->False:=by exact λ_ _ z=>z):PS X (.Try body (h0::hs) [] [] pos) (tS own f):=λpins s σ H D I h=>
 wpAny_Try_except (wpAny_mono (hb pins s σ H D I h) (λf s1 q=>by cases f with|next=>exact wpAny_execs_nil q|_=>exact q) λe s1 z=>(hx e s1 z).elim)
end
end Mi
namespace Mi
open PySem L2 PySem.SeqAt PySem.Spec PyProof.Rows
noncomputable def Itd(lo:Int)(n:Nat):It:=⟨λi _=>i<n,λi H x H'=>H'=H/\x=.int (lo+(i:Nat)*-1),λi _=>n<=i⟩
theorem HR{K:PySem.W.Frag}{tg:Expr}(it:Addr)(lo:Int)(n:Nat):Turn P w K tg (Itd lo n) [it] it (λi h=>IsRangeIter h it (lo+(i:Nat)*-1) ((n:Int)-(i:Nat)) (-1)) where
 mem:=by simp
 obj:=λi h st b hb=>by
  have e:b=it:=by simpa using hb
  subst e;exact⟨_,st,λv z=>by
   have z':Data.fields _=Data.cell v:=z;cases z'⟩
 keep:=λi h h' st k=>k it (by simp) _ st
 item:=by
  intro X hP hw hK hc i pins s σ H E I hf st hg;subst hP hw hK;obtain⟨f0,f1,f2,f3,f4,f5⟩:=hf it (by simp);have W:=Walks.range (prog:=X.prog) (w:=X.w) (I.ok.hd hc) it lo (-1) n;refine W.item i s _ _ hg st λv h' tk hv st' kk=>?_
  obtain⟨t,rfl⟩:=hv;have I1:Inv X pins σ H {s with heap:=h',toks:=tk}:=I.turned (λb o hb e=>kk b o (by simpa using hb) e) f0 f1 f3 f4 f5;exact⟨_,rfl,MT (s:={s with heap:=h',toks:=tk}) (n:= "range_iterator") st' rfl rfl (by decide) ⟨.int (lo+(i:Nat)*-1),H,I1,⟨t,rfl⟩,⟨rfl,rfl⟩,st',λb hb=>(hf b hb).1⟩⟩
 done:=by
  intro X hP hw hK hc i pins s σ H E I hf st hg;subst hP hw hK;obtain⟨f0,f1,f2,f3,f4,f5⟩:=hf it (by simp);exact wpAny_pyNext_range_end (I.ok.hd hc) st (by have:n<=i:=hg;lia) λh' eb=>⟨rfl,I.turned (t':=s.toks) (λb o hb e=>eb b o hb e) f0 f1 f3 f4 f5⟩
 self:=λ_ _ _ _ _ st h=>wpAny_pyIter_rangeiter st h
theorem zX:Builtin.Range.rangeSize a b (-1)=((a-b).toNat:Int):=by
 unfold Builtin.Range.rangeSize;simp only[show ¬(-1:Int) > 0 by decide,if_false]
 first|(split<;>lia)|(simp;lia)
theorem small_down(h1:0<=a)(h2:a<=1000)(h3:0<=b)(h4:b<=1000):Builtin.Range.small a b (-1)=true:=by
 unfold Builtin.Range.small;rw[zX];simp only[Builtin.Range.rangeFitsLong,Bool.and_eq_true,Bool.or_eq_true,decide_eq_true_eq,beq_iff_eq,show ¬(-1:Int) > 0 by decide,if_false];lia
noncomputable def aCz:List D->Res (List D×Bool)
 |[.int a,.int b,.int c]=>if decide (0<=a)&&decide (a<=1000)&&decide (0<=b)&&decide (b<=1000)&&decide (c=-1) then .ok ((List.range (a-b).toNat).map λ(k:Nat)=>D.int (a+(k:Nat)*-1),true) else .bad
 |_=>.bad
variable [KFrag]
theorem ItQ.rgd{K:PySem.W.Frag}(lo:Int)(n:Nat)(e:J=Itd lo n)(r:items=(List.range n).map λ(k:Nat)=>D.int (lo+(k:Nat)*-1)):ItQ K P J H items:=by
 refine⟨λP H k m=>?_⟩;subst e r;refine⟨λi hi=>?_,λi d hi=>?_⟩
 ·show n<=i;simpa using hi
 ·have hlt:i<n:=by
   have:=(List.getElem?_eq_some_iff.mp hi).1;simpa using this
  refine⟨hlt,λx H' ⟨e,hy⟩=>?_⟩;subst e;have e2:D.int (lo+(i:Nat)*-1)=d:=by simpa[hlt] using hi
  rw[hy,<-e2];exact⟨cL.refl _,.int _⟩
theorem aIm(r:bR P H vs [.int i,.int j,.int k]):vs=[.int i,.int j,.int k]:=by
 cases r with
 |cons r t=>cases t with
  |cons r' t=>cases t with
   |cons r'' t=>
    cases t;cases r.inv;cases r'.inv;cases r''.inv;rfl
theorem vals3(r:Vals [.int i,.int j,.int k] us):∃t u v,us=[.int i t,.int j u,.int k v]:=by
 cases r with
 |cons r t=>cases t with
  |cons r' t=>cases t with
   |cons r'' t=>
    cases t;obtain⟨t,rfl⟩:=r;obtain⟨u,rfl⟩:=r';obtain⟨v,rfl⟩:=r'';exact⟨t,u,v,rfl⟩
theorem aD0(h:aCz xs=.ok (items,k)):∃i j:Int,xs=[.int i,.int j,.int (-1)]/\(0<=i/\i<=1000/\0<=j/\j<=1000)/\items=(List.range (i-j).toNat).map λ(k:Nat)=>D.int (i+(k:Nat)*-1):=by
 unfold aCz at h;split at h
 ·split at h
  ·rename_i i j l hb;cases h;simp only[Bool.and_eq_true,decide_eq_true_eq] at hb;obtain⟨⟨⟨⟨b1,b2⟩,b3⟩,b4⟩,rfl⟩:=hb;exact⟨i,j,rfl,⟨b1,b2,b3,b4⟩,rfl⟩
  ·exact bx h
 ·exact bx h
theorem aD1(I:Inv X pins σ H s)(b1:0<=i)(b2:i<=1000)(b3:0<=j)(b4:j<=1000)(q:R (Itd i (i-j).toNat) H)(hh:h=s.heap.push {cls:=.type "range",data:=.fields #[.int i t,.int j u,.int (-1) v]}) :
  wpAny (model X.prog X.w) X.A (pyIter (.ref s.heap.objs.size)) (PIE X pins σ tg R) X.xe {s with heap:=h,toks:=s.toks}:=by
 have hr:IsRange h s.heap.objs.size i j (-1) t u v:=by rw[hh];exact IsRange.new ..
 have I2:Inv X pins σ H {s with heap:=h,toks:=s.toks}:=I.kept λb o e=>by rw[hh];exact Heap.get?_push_of_some _ e
 clear hh;refine wpAny_pyIter_range hr (small_down b1 b2 b3 b4) ?_;refine⟨_,[h.objs.size],_,_,H,rfl,I2.kept (t':=s.toks) λb o e=>Heap.get?_push_of_some _ e,HR _ i (i-j).toNat,?_,λb hb=>?_,q⟩
 ·show IsRangeIter _ _ (i+((0:Nat):Int)*-1) ((((i-j).toNat:Nat):Int)-((0:Nat):Int)) (-1);rw[show i+((0:Nat):Int)*-1=i by lia,show(((i-j).toNat:Nat):Int)-((0:Nat):Int)=Builtin.Range.rangeSize i j (-1) by rw[zX];lia];exact Heap.get?_push_size _ rfl
 ·rw[List.mem_singleton.mp hb];exact I2.aA9 (Nat.le_refl _) (I2.hok.fresh (Nat.le_refl _))
theorem aD2(hg:Gl X "range")(hm:X.mg "range"=none)(ha:PA X [a,b,c] (gA fs rr))(hs:starEach [a,b,c] X.env=(false,eval a X.env)::starEach [b,c] X.env:=by rfl)(hs2:(backTo pos (starEach [b,c] X.env)).any (·.1)=false:=by rfl):PI X tg (.Call (.Name "range" p) [a,b,c] [] pos) (gI X.K (gG fs aCz)):=by
 intro pins s σ H R I ⟨ρ,items,k,E,h,q⟩;obtain⟨xs,h1,h⟩:=bD h;obtain⟨i,j,rfl,⟨b1,b2,b3,b4⟩,rfl⟩:=aD0 h;refine Call_ (jQ I hg hm boot_range (PyProof.Rows.callWith_type1 (thn (ha pos pins s σ H (λvs H1=>vs=[.int i,.int j,.int (-1)]/\R (Itd i (i-j).toNat) H1) I ⟨ρ,_,E,h1,λvs H1 s1 r1 _=>⟨aIm r1,q _ H1 s1 (.rgd _ _ rfl rfl) λ_=>.rgd _ _ rfl rfl⟩⟩) λus s1 ⟨vs,H1,I1,r1,e,q⟩=>?_) hs hs2));subst e;obtain⟨t,u,v,rfl⟩:=vals3 r1;exact call_range_3 (by decide) (aD1 I1 b1 b2 b3 b4 q rfl) (.inl (PyProof.noPylong_small (by lia)))
end Mi
namespace Wn
open PySem PySem.Spec
theorem aK7(l:Addr)(items:Array Value)(n:Nat)(dd:Option Addr)(sl:Array (Option Value)) :
  Meets (Builtin.«enumerate.__new__» ⟨[.type "enumerate",.ref l],[]⟩) (λ_ R s=>s.heap.get? l=some (Wz.tuO items n dd sl)/\
   R (.ok (.ret (.ref (s.heap.push (Wz.itO l 0)).objs.size)))
    {s with heap:=(s.heap.push (Wz.itO l 0)).push {cls:=.type "enumerate",data:=.fields #[.none,.bool false,.ref s.heap.objs.size,rawInt 0,.none,.none]}}):=
 .of_wp λprog w A R s h=>by
  obtain⟨hp,g,d,tk,os⟩:=s;obtain⟨hl,h⟩:=h;have hsub:=sub_enumerate;have hT:Heap.IsTuple (Shared.heap ⟨hp,g,d,tk,os⟩) l items:=⟨_,hl,rfl,n,rfl⟩
  wp_walk using PySem.AutoSeq1.wpAny_loadPart' hl
  refine wpAny_stack_any λst=>wpAny_pure ?_
  split
  ·rename_i c _ _ _ _ _;cases (c==Value.type "enumerate")
   ·wp_walk using PySem.AutoSeq1.wpAny_loadPart' hl,wpAny_pyIter_tuple hT
    exact⟨_,rfl,h⟩
   ·wp_walk using PySem.AutoSeq1.wpAny_loadPart' hl,wpAny_pyIter_tuple hT
    exact⟨_,rfl,h⟩
  ·wp_walk using PySem.AutoSeq1.wpAny_loadPart' hl,wpAny_pyIter_tuple hT
   exact⟨_,rfl,h⟩
section
variable {prog:Program} {w:World} {A:Around} {E:Value->Shared->Prop} {s:Shared}
theorem aIn(hL:s.heap.get? l=some (Wz.tuO items n dd sl))
 (h:∀h',IsEnum h' (s.heap.objs.size+1) s.heap.objs.size 0 .none->h'.get? s.heap.objs.size=some (Wz.itO l 0)->
   (∀b o,s.heap.get? b=some o->h'.get? b=some o)->Q (.ref (s.heap.objs.size+1)) {s with heap:=h'}) :
  wpAny (model prog w) A (call (.type "enumerate") [.ref l]) Q E s:=by
 refine callType_new F.called_enumerate (by decide) (F.typeCall_enumerate_1 _) (F.newCall_enumerate_1 _) (λobj=>F.args_object_init_2 obj _) F.entry_enumerate_new
  (aK7 l items n dd sl) ⟨hL,?_⟩
 have hz:(s.heap.push (Wz.itO l 0)).objs.size=s.heap.objs.size+1:=Heap.size_push ..;show _/\_;rw[hz];have he:IsEnum ((s.heap.push (Wz.itO l 0)).push {cls:=.type "enumerate",data:=.fields #[.none,.bool false,.ref s.heap.objs.size,rawInt 0,.none,.none]}) (s.heap.objs.size+1) s.heap.objs.size 0 .none:=by
  have:=Heap.get?_push_size (s.heap.push (Wz.itO l 0)) (o:={cls:=.type "enumerate",data:=.fields #[.none,.bool false,.ref s.heap.objs.size,rawInt 0,.none,.none]}) rfl;rw[hz] at this;exact this
 exact⟨⟨_,he,rfl⟩,h _ he (Heap.get?_push_of_some _ (Heap.get?_push_size _ rfl)) λb o x=>Heap.get?_push_of_some _ (Heap.get?_push_of_some _ x)⟩
theorem drT(hh:A.handled=none)(it t:Addr)(hne:t≠it)(items:Array Value)(n:Nat)(dd:Option Addr)(sl:Array (Option Value)) :
  Draws prog w A it [it,t] items.size (λi v=>items[i]?=some v) (λi h=>h.get? it=some (Wz.itO t i)/\h.get? t=some (Wz.tuO items n dd sl)) where
 live:=λ_ _ st=>⟨_,st.1⟩
 frame:=λ_ _ _ st hk=>⟨hk it (by simp) _ st.1,hk t (by simp) _ st.2⟩
 item:=λi s Q E hi st hQ=>by
  have hx:items[i]?=some items[i]:=Array.getElem?_eq_getElem hi;exact Wz.drawn st.1 st.2 hx λh' e k=>hQ _ h' s.toks hx ⟨e,(k.2 t hne).trans st.2⟩ k
 done:=λs Q E st hE=>Wz.over hh st.1 st.2 (Array.getElem?_eq_none (Nat.le_refl _)) hE
theorem ovT(hh:A.handled=none)(it t:Addr)(items:Array Value)(n:Nat)(dd:Option Addr)(sl:Array (Option Value))(i:Nat)(hi:items[i]?=none):Draws prog w A it [it,t] 0 (λ_ _=>True) (λ_ h=>h.get? it=some (Wz.itO t i)/\h.get? t=some (Wz.tuO items n dd sl)) where
 live:=λ_ _ st=>⟨_,st.1⟩
 frame:=λ_ _ _ st hk=>⟨hk it (by simp) _ st.1,hk t (by simp) _ st.2⟩
 item:=λj s Q E hj=>absurd hj (Nat.not_lt_zero _)
 done:=λs Q E st hE=>Wz.over hh st.1 st.2 hi hE
end
end Wn
namespace Mi
open PySem L2 PySem.SeqAt PySem.Spec PyProof.Rows
def aJ7(a:Addr):It:=
 ⟨λi H=>∃xs x,H a=some (.tup xs)/\xs[i]?=some x,λi H v H'=>∃t x,(∀xs,H a=some (.tup xs)->xs[i]?=some x)/\v=.ref t/\H t=none/\H'=upd H t (.tup [.int i,x]),λi H=>∃xs,H a=some (.tup xs)/\xs.length<=i⟩
def V1(a:FE):FI:=λρ=>do let x <- a ρ;match x with|.tup xs=>(if D.bA xs then .ok (zL xs,true) else .bad)|_=>.bad
theorem V2(p:IsTup h a its):∃n dd sl,h.get? a=some (Wz.tuO its n dd sl):=by
 obtain⟨⟨c,dd,d,sl⟩,e,hc,n,hd⟩:=p;simp only at hc hd;subst hc hd;exact⟨n,dd,sl,e⟩
theorem V3{h:Heap}(e:h.get? a=some o)(hc:o.cls=.type T)(e':h.get? b=some u)(hc':u.cls=.type U)(ne:(Value.type T==Value.type U)=false):a≠b:=λq=>by
 subst q;rw[e] at e';cases e';rw[hc] at hc';rw[hc'] at ne;simp at ne
variable [KFrag]
theorem ItQ.ent{K:PySem.W.Frag}(a:Addr)(ds:List D)(e:J=aJ7 a)(r:Rep P H (.ref a) (.tup ds))(h:items=zL ds):ItQ K P J H items:=by
 refine⟨λP H kk mm=>?_⟩;have r:=r.YH kk mm;subst e h;obtain⟨a',xs,e,hq,rr⟩:=r.eX;cases e;refine⟨λi hi=>⟨xs,hq,by rw[rr.length,<-T9];exact hi⟩,λi d hi=>?_⟩;rw[YW] at hi;obtain⟨y,hd,rfl⟩:=Option.map_eq_some_iff.mp hi;obtain⟨v,h1,h2⟩:=rr.get hd;refine⟨⟨xs,v,hq,h1⟩,λx H' ⟨t,u,hy,e1,e2,e3⟩=>?_⟩;subst e1 e3;have:=hy xs hq;rw[h1] at this;cases this;have sp:cL H (upd H t (.tup [.int i,v])):=cL.upd e2;exact⟨sp,.tup aO (.cons (.int _) (.cons (h2.same sp) .nil))⟩
theorem PL{K:PySem.W.Frag}{elts:List Expr}{x1}{tp:Pos}(a e it:Addr)(hne:e≠it):Turn P w K (.Tuple elts x1 tp) (aJ7 a) [e,it] e (λi h=>(∃old,IsEnum h e it i old)/\h.get? it=some (Wz.itO a i)) where
 mem:=List.mem_cons_self ..
 obj:=λi h ⟨⟨old,h1⟩,h2⟩ b hb=>by
  simp only[List.mem_cons,List.not_mem_nil,or_false] at hb;rcases hb with rfl|rfl
  ·exact⟨_,h1,λv z=>nomatch(show Data.fields _=Data.cell v from z)⟩
  ·exact⟨_,h2,λv z=>nomatch(show Data.fields _=Data.cell v from z)⟩
 keep:=λi h h' ⟨⟨old,h1⟩,h2⟩ k=>⟨⟨old,k e (List.mem_cons_self ..) _ h1⟩,k it (by simp) _ h2⟩
 item:=by
  intro Y hP hw hK hc i pins s σ H E I hf ⟨⟨old,h1⟩,h2⟩ ⟨xs,x,hq,hx⟩;subst hP hw hK;obtain⟨its,rv,p,hz⟩:=I.tuple (.of hq);obtain⟨n,dd,sl,e3⟩:=V2 p;obtain⟨u,hu,ru⟩:=rv.get hx;have hlt:e<s.heap.objs.size:=Heap.lt_size h1;have nai:a≠it:=V3 e3 rfl h2 rfl (by decide);have nea:e≠a:=V3 h1 rfl e3 rfl (by decide);have hil:i<its.toArray.size:=by
   have:=(List.getElem?_eq_some_iff.mp hu).1;simpa using this
  refine wpAny_pyNext_enum_itemD (Wn.drT (show Y.A.in1.handled=none from I.ok.hd hc) it a nai its.toArray n dd sl) h1 ⟨h2,e3⟩ hil hne (by simp[hne,nea]) λv h' tk o0 o1 o2 o3 o4 o5=>?_
  obtain rfl:u=v:=by
   have:its[i]?=some v:=by simpa using o0
   rw[hu] at this;exact Option.some.inj this
  refine⟨_,rfl,wpAny_letOwnedTupleGo_enum o1 λh'' g1 g2=>?_⟩;have sb:Heap.SameBut e h' h'':=g2;have kk:∀b o,b∉[e,it]->s.heap.get? b=some o->h''.get? b=some o:=λb o hb eb=>by
   simp only[List.mem_cons,List.not_mem_nil,or_false,not_or] at hb;exact(sb.2 b hb.1).trans (o5 b o hb.1 hb.2 eb)
  have t3:h''.get? s.heap.objs.size=some {cls:=.type "tuple",data:=.seq #[.int i tk,u]}:=(sb.2 _ (Nat.ne_of_gt hlt)).trans o3;refine⟨.ref s.heap.objs.size,upd H s.heap.objs.size (.tup [.int i,x]),HF (s:=s) (h':=h'') (t':=tk+1) (ch:=[e,it]) I kk (λb hb=>hf b hb) (Nat.le_refl _) ?_,rfl,⟨_,x,λys hy=>by rw[hq] at hy;cases hy;exact hx,rfl,I.hok.fresh (Nat.le_refl _),rfl⟩,⟨⟨u,g1⟩,(sb.2 it (Ne.symm hne)).trans o2.1⟩,λb hb=>?_⟩
  ·exact⟨by show 2<=sizeLine;rw[sizeLine_eq];decide,[.int i tk,u],.cons ⟨_,rfl⟩ (.cons ru .nil),⟨_,t3,rfl,0,rfl⟩⟩
  ·rw[bL]
   ·exact(hf b hb).1
   ·intro z;simp only[List.mem_cons,List.not_mem_nil,or_false] at hb;rcases hb with h|h
    ·rw[<-h,z] at hlt;exact Nat.lt_irrefl _ hlt
    ·have:=Heap.lt_size h2;rw[<-h,z] at this;exact Nat.lt_irrefl _ this
 done:=by
  intro Y hP hw hK hc i pins s σ H E I hf ⟨⟨old,h1⟩,h2⟩ ⟨xs,hq,hx⟩;subst hP hw hK;obtain⟨its,rv,p,hz⟩:=I.tuple (.of hq);obtain⟨n,dd,sl,e3⟩:=V2 p;obtain⟨f0,f1,f2,f3,f4,f5⟩:=hf it (by simp);have hl:=rv.length;exact wpAny_pyNext_enum_endD (Wn.ovT (show Y.A.in1.handled=none from I.ok.hd hc) it a its.toArray n dd sl i (by simp;lia)) h1 ⟨h2,e3⟩ λh' eb=>⟨rfl,I.turned (t':=s.toks) (λb o hb e=>eb b o hb e) f0 f1 f3 f4 f5⟩
 self:=λ_ _ _ _ _ ⟨⟨old,h1⟩,_⟩ h=>wpAny_pyIter_enum h1 h
section
variable {X:Cx} {a:Expr} {fa:FE} {ra:Bool} {p pos:Pos}
theorem ZR{x1}(hg:Gl X "enumerate")(hm:X.mg "enumerate"=none)(ha:PA X [a] (gA (aA fa aM) ra))(hs:starEach [a] X.env=[(false,eval a X.env)]:=by rfl) :
  PI X (.Tuple elts x1 tp) (.Call (.Name "enumerate" p) [a] [] pos) (gI X.K (V1 fa)):=by
 intro pins s σ H R I ⟨ρ,items,k,E,h,q⟩;obtain⟨d,h1,h⟩:=bD h;cases d<;>try (cases h;done)
 rename_i its;dsimp only at h;split at h
 ·rename_i hp;cases h;have hb:aA fa aM ρ=.ok [D.tup its]:=by
   unfold aA;rw[h1];rfl
  refine Call_ (jQ I hg hm PyProof.Rows.boot_enumerate (PyProof.Rows.callWith_type1 (thn (ha pos pins s σ H (λvs H1=>∃v,vs=[v]/\cL H H1/\Rep All H1 v (.tup its)) I ⟨ρ,_,E,hb,λvs H1 s1 r1 n1=>?_⟩) λus s1 ⟨vs,H1,I1,r1,q1⟩=>?_) hs rfl))
  ·cases r1 with
   |cons r t=>
    cases t;exact⟨_,rfl,s1,r⟩
  ·obtain⟨v,rfl,s1',r⟩:=q1;cases r1 with
   |cons rv rr=>
    cases rr;obtain⟨l,ys,rfl,hl,rr⟩:=r.eX;cases rv;obtain⟨vs,rvs,pl,hz⟩:=I1.tuple (.of hl);obtain⟨n,dd,sl,e3⟩:=V2 pl;refine Wn.aIn e3 λh' e1 e2 e4=>?_
    refine wpAny_pyIter_enum e1 ?_;refine⟨s1.heap.objs.size+1,[s1.heap.objs.size+1,s1.heap.objs.size],_,_,H1,rfl,I1.kept (t':=s1.toks) λb o e=>e4 b o e,PL l (s1.heap.objs.size+1) s1.heap.objs.size (Nat.succ_ne_self _),⟨⟨_,e1⟩,e2⟩,λb hb=>?_,q _ H1 s1' (.ent l its rfl r rfl) λhk=>.ent l its rfl (r.bO hp) rfl⟩;simp only[List.mem_cons,List.not_mem_nil,or_false] at hb;rcases hb with rfl|rfl
    ·exact I1.aA9 (Nat.le_succ _) (I1.hok.fresh (Nat.le_succ _))
    ·exact I1.aA9 (Nat.le_refl _) (I1.hok.fresh (Nat.le_refl _))
 ·cases h
end
end Mi
namespace Wt
open PySem PySem.Spec
open Wl
noncomputable abbrev tpO(xs:Array Value)(n:Nat)(sl:Array (Option Value)):Obj:={cls:=.type "tuple",data:=.seq xs n,slots:=sl}
theorem zR:typeLookup (.type "tuple") "keys"=pure none:=by rw[typeLookup_type,builtinLookup_eq_fast];kernel_rfl
theorem noGet:typeLookup (.type "tuple") "__getattr__"=pure none:=by rw[typeLookup_type,builtinLookup_eq_fast];kernel_rfl
theorem zT:entryFor table "tuple.__getattribute__"=some Builtin.«object.__getattribute__»:=entryFor_alias (id':= "object.__getattribute__") (by kernel_rfl) (by decide +kernel) (by decide +kernel) (by kernel_rfl)
theorem jB(a:Addr)(xs:Array Value)(n:Nat)(sl:Array (Option Value))(u:Tok):Meets (Builtin.«object.__getattribute__» ⟨[.ref a,.str "keys" u],[]⟩) (λA R s=>s.heap.get? a=some (tpO xs n sl)/\raisesAttr (.ref a) "keys" A R s):=.of_wp λprog w A R s hs=>by
 obtain⟨hp,g,d,tk,os⟩:=s;obtain⟨e,hh,q⟩:=hs;have ty:(⟨hp,g,d,tk,os⟩:Shared).TypeIs (.ref a) "tuple":=⟨_,e,rfl⟩
 have no:=zR
 wp_walk
 exact wpAny_raiseAttrError hh q (attrMsg_fits (by decide +kernel) (by size_fits))
section
variable {prog:Program} {w:World} {A:Around} {E:Value->Shared->Prop} {hp:Heap} {g:Array GenState} {d:Drawn} {tk:Nat} {os:OsState} {a:Addr} {xs:Array Value} {n:Nat} {sl:Array (Option Value)}
theorem gone(e:hp.get? a=some (tpO xs n sl))(hh:A.handled=none)(hk:kw=[])(q:∀h' tk' x,Heap.NewAttrErr hp h' x (.ref a) "keys"->E (.ref x) ⟨h',g,d,tk',os⟩) :
  wpAny (model prog w) A (call (.builtin "tuple.__getattribute__") ([.ref a]++[.str "keys" u]) kw) Q E ⟨hp,g,d,tk,os⟩:=by
 subst hk;exact call_meets F.slot_tuple_getattribute ⟨_,e,rfl⟩ zT (F.args_tuple_getattribute_2 _ _) (jB a xs n sl u) ⟨e,hh,λh' tk' x hx=>q h' tk' x hx⟩
theorem lacks(e:hp.get? a=some (tpO xs n sl))(hh:A.handled=none)(q:∀h' tk',(∀b o,hp.get? b=some o->h'.get? b=some o)->Q none ⟨h',g,d,tk',os⟩):wpAny (model prog w) A (getAttr? (.ref a) "keys") Q E ⟨hp,g,d,tk,os⟩:=by
 have ty:∀tk',(⟨hp,g,d,tk',os⟩:Shared).TypeIs (.ref a) "tuple":=λ_=>⟨_,e,rfl⟩
 have f3:=F.slot_tuple_getattribute.lookup;have f4:=F.slot_tuple_getattribute.bind (.ref a);have f5:=noGet;have sub:=sub_AttributeError
 wp_walk using gone e hh
 case hk=>rfl
 intro h' tk' x hx;obtain⟨t,u,ex⟩:=hx.there;show wpAny _ _ (getattributeRaised _ _ _ _ _ _ _) _ _ _
 wp_walk
 exact q _ _ hx.keeps
end
section
variable {prog:Program} {w:World} {K:Type} [DecidableEq K] {knd:KeyKind prog w K} {A:Around} {R:Except Value Flow->Shared->Prop} {it l d:Addr} {items:Array Value} {ps:List (K×Value)} {nl:Nat} {sl:Array (Option Value)}
theorem oM(hh:A.handled=none)(hdi:d≠it)(hdl:d≠l)(hil:l≠it) :
  ∀(m k:Nat)(s:Shared)(kvs:List (K×Value)),k+m=items.size->kvs.length+m<=sizeLine->s.heap.IsTupleIter it l k->s.heap.get? l=some (tpO items nl sl)->Prs knd items ps s.heap->s.heap.DictOf knd d kvs->
  (∀h' tk,h'.DictOf knd d (merged kvs (ps.drop k))->(∀c o,c≠d->c≠it->s.heap.get? c=some o->h'.get? c=some o)->R (.ok (.ret .none)) {s with heap:=h',toks:=tk})->
  codeAny (model prog w) A (.builtin "dict.update.loop" ⟨[.ref d,.ref it,rawInt k,.none],[]⟩) R s:=by
 intro m;induction m with
 |zero=>
  intro k s kvs hkm hl Z el Pp hd q;refine codeAny_builtin Wz.jV ?_;rw[Around.under_plainId (show plainId "dict.update.loop"=true by decide +kernel) _];refine wpAny_bind (m:=pyNext (.ref it)) (wpAny_pyNext_tuple_end hh Z ⟨_,el,rfl,_,rfl⟩ (Array.getElem?_eq_none (by lia)) λh' kp=>?_);refine wpAny_bind (m:=Builtin.Dict.addKeywords d []) ?_;unfold Builtin.Dict.addKeywords;rw[List.forIn_nil];refine wpAny_bind (wpAny_pure (wpAny_pure (wpAny_pure ?_)));have e:ps.drop k=[]:=List.drop_eq_nil_of_le (by have:=Pp.1;lia);rw[e] at q;obtain⟨o,es,ep,ho,r⟩:=hd;exact q _ s.toks ⟨o,es,ep,kp d o hdi ho,r⟩ λc o _ c1 e=>kp c o c1 e
 |succ m ih=>
  intro k s kvs hkm hl Z el Pp hd q;have hlp:k<ps.length:=by have:=Pp.1;lia
  obtain⟨p,x,o,n,hi,hp,hpc,hpd,his⟩:=Pp.2 k ps[k] (List.getElem?_eq_getElem hlp);have hpi:p≠it:=let ⟨oi,ei,ci,_⟩:=Z;vO hp hpc ei ci (by decide)
  refine codeAny_builtin Wz.jV ?_;rw[Around.under_plainId (show plainId "dict.update.loop"=true by decide +kernel) _];refine wpAny_bind (m:=pyNext (.ref it)) (wpAny_pyNext_tuple_item Z ⟨_,el,rfl,_,rfl⟩ hi λh' Z' kp=>?_);have hp':h'.get? p=some o:=(kp.2 p hpi).trans hp;refine wpAny_bind (wpAny_holding (wpAny_bind (wpAny_tryCatch ?_)));refine wpAny_bind (wpAny_typeOf (T:= "tuple") ⟨_,hp',hpc⟩ ?_);rw[if_pos (by decide)];refine wpAny_bind (wpAny_seqItems hp' hpd (wpAny_pure ?_));show wpAny _ _ (holding [x,ps[k].2] (dictSet d x ps[k].2)) _ _ _;have hd':h'.DictOf knd d kvs:=let ⟨o,es,ep,ho,r⟩:=hd;⟨o,es,ep,(kp.2 d hdi).trans ho,r⟩
  obtain⟨od,es,ep,ho,hc,_⟩:=id hd';refine wpAny_holding (wpAny_dictSet_pairs his hd' (λh2 hd2' sb=>?_) (by lia));refine wpAny_pure ⟨Code.quiet_builtin _ (by decide +kernel),?_⟩;have ek:(rawInt (k+1):Value)=rawInt ((k+1:Nat):Int):=rfl;rw[ek];have hdrop:ps.drop k=ps[k]::ps.drop (k+1):=List.drop_eq_getElem_cons hlp;have ls:(stored kvs ps[k].1 ps[k].2).length<=kvs.length+1:=by
   unfold stored;split
   ·rw[List.length_map];lia
   ·rw[List.length_append];exact Nat.le_refl _
  have keep:∀c o,c≠d->c≠it->s.heap.get? c=some o->h2.get? c=some o:=λc o c0 c1 e=>(sb.2 c c0).trans ((kp.2 c c1).trans e)
  have hdc:∀c (oc:Obj),oc.cls=.type "tuple"->s.heap.get? c=some oc->c≠d/\c≠it:=λc oc hoc e=>⟨let ⟨o1,_,_,e1,c1,_⟩:=hd;vO e hoc e1 c1.1 (by decide),let ⟨oi,ei,ci,_⟩:=Z;vO e hoc ei ci (by decide)⟩
  refine ih (k+1) _ (stored kvs ps[k].1 ps[k].2) (by lia) (by lia) (let ⟨oi,ei,r⟩:=Z';⟨oi,(sb.2 it (Ne.symm hdi)).trans ei,r⟩) (keep l _ (Ne.symm hdl) hil el) (Pp.keep λc oc hoc e=>keep c oc (hdc c oc hoc e).1 (hdc c oc hoc e).2 e) hd2' λh3 tk hd3 kp3=>?_
  exact q h3 tk (by rw[hdrop];exact hd3) λc o c0 c1 e=>kp3 c o c0 c1 (keep c o c0 c1 e)
end
section
variable {prog:Program} {w:World} {K:Type} [DecidableEq K] {knd:KeyKind prog w K} {A:Around} {E:Value->Shared->Prop} {hp:Heap} {g:Array GenState} {dr:Drawn} {tk:Nat} {os:OsState} {l:Addr} {items:Array Value} {ps:List (K×Value)} {nl:Nat} {sl:Array (Option Value)}
theorem ZV(hh:A.handled=none)(el:hp.get? l=some (tpO items nl sl))(Pp:Prs knd items ps hp)(hz:items.size<=1000000)
 (q:∀h' tk',h'.DictOf knd hp.objs.size (merged [] ps)->(∀c o,hp.get? c=some o->h'.get? c=some o)->Q (.ref hp.objs.size) ⟨h',g,dr,tk',os⟩) :
  wpAny (model prog w) A (call (.type "dict") [.ref l]) Q E ⟨hp,g,dr,tk,os⟩:=by
 have hnew:(hp.push {cls:=.type "dict",data:=.dict #[]}).DictOf knd hp.objs.size []:=Heap.DictOf.new hp;have up:∀c o,hp.get? c=some o->(hp.push {cls:=.type "dict",data:=.dict #[]}).get? c=some o:=λc o e=>Heap.get?_push_of_some _ e
 have lt:∀{c o},hp.get? c=some o->hp.objs.size≠c:=λe=>Nat.ne_of_gt (Heap.lt_size e)
 refine callType_codes (Q₁:=λv s₁=>v=.ref hp.objs.size/\s₁=⟨hp.push {cls:=.type "dict",data:=.dict #[]},g,dr,tk,os⟩) F.kt_called_dict (F.kt_typeCall_dict_1 _) F.entry_dict_init (kt_code_dict_new _ ⟨rfl,rfl⟩) λv s₁ hv=>?_
 obtain⟨rfl,rfl⟩:=hv;have ty:(⟨hp.push {cls:=.type "dict",data:=.dict #[]},g,dr,tk,os⟩:Shared).TypeIs (.ref hp.objs.size) "dict":=hnew.typeIs;have ez:=up _ _ el;have tz:(⟨hp.push {cls:=.type "dict",data:=.dict #[]},g,dr,tk,os⟩:Shared).TypeIs (.ref l) "tuple":=⟨_,ez,rfl⟩
 refine⟨ty,F.args_dict_init_2 _ _,wpAny_bind (m:=Builtin.Dict.selfAndRest "__init__" _) (wpAny_bind (wpAny_notOrdered_dict ty (wpAny_pure ?_)))⟩;refine wpAny_bind (m:=typeOf (.ref l)) (wpAny_typeOf tz ?_);rw[if_pos (by decide)];refine wpAny_bind (lacks ez hh λh' tk' kp=>?_);rw[if_pos (show(none:Option Value).isNone=true from rfl)];refine wpAny_bind (wpAny_rule (wpAny_bind (wpAny_pyIter_tuple ⟨_,kp _ _ ez,rfl,_,rfl⟩ (wpAny_pure ⟨Code.quiet_builtin _ (by decide +kernel),?_⟩))));have hd':h'.DictOf knd hp.objs.size []:=let ⟨o,es,ep,ho,r⟩:=hnew;⟨o,es,ep,kp _ _ ho,r⟩
 have ltd:hp.objs.size<h'.objs.size:=let ⟨o,es,ep,ho,r⟩:=hd';Heap.lt_size ho
 have ltl:l<h'.objs.size:=Heap.lt_size (kp _ _ ez);refine oM (A:=A.in1) (ps:=ps) (it:=h'.objs.size) (l:=l) (items:=items) (nl:=nl) (show A.in1.handled=none from hh) (Nat.ne_of_lt ltd) (lt el) (Nat.ne_of_lt ltl) items.size 0 _ [] (by lia) (by rw[List.length_nil,sizeLine_eq];lia) ⟨_,Heap.get?_push_size _ rfl,rfl,rfl⟩ (Heap.get?_push_of_some _ (kp _ _ ez)) (Pp.keep λc o _ e=>Heap.get?_push_of_some _ (kp c o (up c o e))) (let ⟨o,es,ep,ho,r⟩:=hd';⟨o,es,ep,Heap.get?_push_of_some _ ho,r⟩) λh2 tk2 hd2 kp2=>?_
 exact⟨rfl,q h2 tk2 hd2 λc o e=>kp2 c o (λx=>lt e x.symm) (Nat.ne_of_lt (Heap.lt_size (kp c o (up c o e)))) (Heap.get?_push_of_some _ (kp c o (up c o e)))⟩
end
end Wt
namespace Mi
open PySem L2 PySem.SeqAt PySem.Spec PyProof.Rows
def tY:D->Res D
 |.tup xs=>match lW xs with
  |some ps=>if decide (xs.length<=1000) then .ok (.dct (lC [] ps)) else .bad
  |none=>.bad
 |_=>.bad
variable [KFrag]
theorem PN(hc:X.calm=true)(hg:Gl X "dict")(hm:X.mg "dict"=none)(he:PE X e (gE fe re))(hs:starEach [e] X.env=[(false,eval e X.env)]:=by rfl) :
  PE X (.Call (.Name "dict" p) [e] [] pos) (gE (b1 tY fe) true):=by
 intro pins s σ H Q I ⟨ρ,d,E,h,q⟩;obtain⟨d0,h1,h2⟩:=bD h;unfold tY at h2;split at h2
 rotate_left
 ·exact bx h2
 rename_i xs;split at h2
 rotate_left
 ·exact bx h2
 rename_i ps hps;split at h2
 rotate_left
 ·exact bx h2
 rename_i hb;cases h2;have hb:=of_decide_eq_true hb;refine wpAny_Call_Name_kw (jQ I hg hm xK ?_);refine PyProof.Rows.callWith_type1 ?_ hs rfl;rw[hs];show wpAny _ _ (spliced [(false,eval e X.env)]) _ _ s;refine Calls.spliced_cons (thn (he pins s σ H (λv H1=>cL H H1/\Rep All H1 v (.tup xs)) I ⟨ρ,_,E,h1,λv H1 s1 r1 _=>⟨s1,r1⟩⟩) λu s1 ⟨x,H1,I1,ru,sm,rx⟩=>?_);obtain⟨a,vs,rfl,ea,rr⟩:=rx.eX;cases ru;refine Calls.spliced_nil ?_;obtain⟨hz,its,rv,⟨cl,dd,da,sl⟩,hl,e1,nl,e2⟩:vs.length<=sizeLine/\∃its:List Value,Vals vs its/\jH s1.heap a its.toArray:=I1.hok a _ ea;simp only[Prod.mk.injEq] at e1 e2;obtain⟨e2,e3⟩:=e2;subst e1 e2 e3;obtain⟨kvs,prs,g1,g2,g3,g4,g5⟩:=xO I1 rr rv hps;have hlen:its.length<=1000:=by rw[<-rv.length,rr.length];exact hb
 obtain⟨hp,g,dr,tk,os⟩:=s1;refine Wt.ZV (knd:=bY X.prog X.w) (ps:=prs) (items:=its.toArray) (I1.ok.hd hc) hl ⟨by rw[List.size_toArray];exact g4,λi kv hi=>?_⟩ (by rw[List.size_toArray];lia) λh' tk' hd kp=>?_
 ·obtain⟨p,x,o,n,z1,z2⟩:=g5 i kv hi;exact⟨p,x,o,n,by simpa using z1,z2⟩
 ·have hfr:H1 hp.objs.size=none:=I1.hok.fresh (Nat.le_refl _);have rel:KV (cN [] kvs) (merged [] prs):=g1.merge .nil;have hz2:(cN [] kvs).length<=sizeLine:=by
   have:=fG kvs [];have l1:kvs.length=prs.length:=Paired.length g1;rw[List.length_nil] at this;rw[sizeLine_eq];lia
  obtain⟨rk,nd⟩:=qJ (kvs:=[]) g2 jF.nil List.nodup_nil;have sp:cL H1 (upd H1 hp.objs.size (.dK (cN [] kvs))):=cL.upd hfr;have rk2:∀{P:Addr->Prop},jF P (upd H1 hp.objs.size (.dK (cN [] kvs))) (cN [] kvs) (lC [] ps):=λ{P}=>(rk.keep (.same sp) λ_ h=>h).bO (lX g3 rfl)
  refine⟨.ref hp.objs.size,_,I1.laid (a:=hp.objs.size) (t':=tk') (o:=.dK (cN [] kvs)) kp (Nat.le_refl _) (yX hz2 (beq_eq_false_iff_ne.mpr ?_) rel hd),rfl,?_⟩
  ·exact Ne.symm (Nat.ne_of_lt I1.big)
  ·exact q _ _ (sm.trans sp) (.dK aO trivial rk2 nd) λ_=>.dK aO (sm.free hfr) rk2 nd
end Mi
namespace Mi
open PySem L2 PySem.SeqAt PySem.Spec PyProof.Rows
noncomputable def max2:List D->Res D
 |[.int a,.int b]=>.ok (.int (if b > a then b else a))
 |_=>.bad
variable [KFrag]
theorem HS(hc:X.calm=true):mX X (.builtin "max") (rs max2 false):=by
 intro pins s σ H xs us Q I vr ⟨ds,d,r,e,k⟩;unfold max2 at e;split at e
 ·cases e;cases r with
  |cons r t=>
   cases r.inv;cases t with
   |cons r t=>
    cases r.inv;cases t;cases vr with
    |cons v vt=>
     obtain⟨t1,rfl⟩:=v;cases vt with
     |cons v vt=>
      obtain⟨t2,rfl⟩:=v;cases vt;refine max_two_ints (I.ok.hd hc) λh' tk hk=>⟨_,H,I.kept hk,?_,k.int⟩
      split
      ·exact⟨_,rfl⟩
      ·exact⟨_,rfl⟩
 ·exact bx e
end Mi
namespace Mi
open PySem L2 PySem.SeqAt PySem.Spec PyProof.Rows
def mR(o:kY):D->D->Res D
 |.int a,.int b=>.ok (.bl (o.int a b))
 |.str a,.str b=>.ok (.bl (o.str a b))
 |_,_=>.bad
variable [KFrag]
theorem aD3(hi:∀(prog:Program) (w:World) (A:Around) (E:Value->Shared->Prop) (Q:Value->Shared->Prop) (s:Shared) (i j:Int) (t t':Tok),Q (.bool (o.int i j)) s->wpAny (model prog w) A (compareOp op (.int i t) (.int j t')) Q E s)
 (hs:∀(prog:Program) (w:World) (A:Around) (E:Value->Shared->Prop) (Q:Value->Shared->Prop) (s:Shared) (i j:Str) (t t':Tok),Q (.bool (o.str i j)) s->wpAny (model prog w) A (compareOp op (.str i t) (.str j t')) Q E s):OpR X (compareOp op) (r2 (mR o) true):=by
 intro pins s σ H x y v u Q I rx ry ⟨a,b,d,p,q,e,k⟩;unfold mR at e;split at e
 ·cases e;cases p.inv;cases q.inv;obtain⟨t,rfl⟩:=rx;obtain⟨t',rfl⟩:=ry;exact hi _ _ _ _ _ _ _ _ _ _ ⟨.bl _,H,I,rfl,k.bl⟩
 ·cases e;cases p.inv;cases q.inv;obtain⟨t,rfl⟩:=rx;obtain⟨t',rfl⟩:=ry;exact hs _ _ _ _ _ _ _ _ _ _ ⟨.bl _,H,I,rfl,k.bl⟩
 ·exact bx e
theorem aGq:OpR X (compareOp .Lt) (r2 (mR .lt) true):=aD3 (λ_ _ _ _ _ _ _ _ _ _ h=>lt_int h) λ_ _ _ _ _ _ _ _ _ _ h=>lt_str h
theorem PP:OpR X (compareOp .Gt) (r2 (mR .gt) true):=aD3 (λ_ _ _ _ _ _ _ _ _ _ h=>gt_int h) λ_ _ _ _ _ _ _ _ _ _ h=>PySem.P.gt_str h
theorem aIo:OpR X (compareOp .GtE) (r2 (mR .ge) true):=aD3 (λ_ _ _ _ _ _ _ _ _ _ h=>ge_int h) λ_ _ _ _ _ _ _ _ _ _ h=>PySem.P.ge_str h
end Mi
section
local macro_rules | `(tactic| trivial) => `(tactic| first | exact Or.inl rfl | exact Or.inr rfl | exact Or.inr (Or.inl rfl) | exact Or.inr (Or.inr rfl))
namespace Lk65
open PySem L2 Mi PySem.W
noncomputable def top(i:Nat):Stmt:=PySem.Challenge.pw_hookmill_k65_unwoven_back.main.body.getD i (.Pass ⟨0,0,0,0⟩)
abbrev nM:Stmt:=top 18
noncomputable def HW:Nat->Bool:=λi=>false
def tZ:FS:=bF (bN false 2 bQ true) (bF (sIf (bTB (b2 (mR .gt) (aL dJ (aA cA aM)) bQ)) (bN false 2 (b2 (aW .mod) (b2 getD cA (b2 (aW .mod) dW (aL dJ (aA cA aM)))) g_) true) o6) (bF (bN false 3 (b2 (aW .mod) (b2 j9 (b2 (aW .add) (b2 (aW .add) eO dI) (b2 j9 sZ (b2 (aW .fdiv) dW (aL max2 (aA dI (aA (aL dJ (aA cA aM)) aM)))))) wG) g_) true) (nR (b2 (aW .mod) (b2 j9 cM cM) j7) true)))
def aJ:List D->Res D:=fnS 2 4 tZ
abbrev nO:Stmt:=top 19
noncomputable def HX:Nat->Bool:=λi=>false
def HY:FS:=bF (bN false 2 (bC (.str "abcdefghijklmnopqrstuvwxyz")) true) (bF (sIf (QM (bTB (b2 inX dW (cU (aA p_ (aA wH aM))))) (bTB (b2 (d9 .eq) (b2 (aW .mod) (aL (bW 2 aJ) (aA cA (aA (bC (.int 36)) aM))) R5) dI))) (nR (b2 (aW .add) (b2 getD (nQ (aA (bC (.str "drop")) (aA (bC (.str "copy")) aM))) (b2 (aW .fdiv) dW wH)) (b2 getD eO (b2 (aW .mod) (aL (bW 2 aJ) (aA cA (aA aBs aM))) wI))) true) o6) (bF (bN false 3 (aL (bW 2 aJ) (aA cA (aA bQ aM))) true) (bF (bN false 4 (b2 getD (nQ (aA (b2 getD eO (b2 (aW .mod) cM wI)) (aA (b2 getD (bC (.str "abdz")) (b2 (aW .mod) (b2 (aW .fdiv) cM wI) p_)) aM))) (b2 (aW .mod) (b2 (aW .fdiv) cM (bC (.int 104))) jK)) false) (bF (bN false 5 (b2 (aW .mod) (aL (bW 2 aJ) (aA cA (aA dI aM))) XF) true) (bF (bN false 6 (b2 (aW .mod) (aL (bW 2 aJ) (aA cA (aA jK aM))) (b2 (aW .sub) XF kZ)) true) (bF (sIf (bTB (b2 (d9 .eq) (b2 (aW .mod) (b2 (aW .fdiv) (aL (bW 2 aJ) (aA cA (aA dI aM))) XF) jK) dI)) (bN false 6 (b2 (aW .mod) (aL (bW 2 aJ) (aA cA (aA (b2 (aW .add) p_ dW) aM))) (b2 (aW .sub) XF kZ)) true) o6) (nR (b2 (aW .add) (b2 (aW .add) (b2 j9 iQ kZ) (b2 getD eO (b2 (aW .mod) (b2 (aW .add) dW (aL (bW 2 aJ) (aA cA (aA lH aM)))) wI))) (b2 j9 iQ lD)) true)))))))
def aN:List D->Res D:=fnS 2 7 HY
abbrev iC:Stmt:=top 20
noncomputable def xP:Nat->Bool:=λi=>i==2
def xQ:FS:=bF (bN true 2 (nQ aM) true) (bF (vD (gG (aA dW aM) lQ) (tg1 3) (bF (bN false 4 (cU aM) true) (bF (sIf (QM (bTB (b2 (mR .gt) cM bQ)) (bTB (b2 (mR .gt) (b2 (aW .mod) (b2 (aW .fdiv) (aL (bW 2 aJ) (aA cA (aA YD aM))) cM) lH) bQ))) (bN false 4 (cU (aA (aL (bW 2 aN) (aA cA (aA bQ aM))) aM)) true) o6) (bF (o7 2 (cU (aA (aL (bW 2 aN) (aA cA (aA (b2 (aW .add) lH (b2 j9 lH cM)) aM))) (aA (aL (bW 2 aN) (aA cA (aA cM aM))) (aA iQ aM))))) (vD (gG (aA dI (aA (b2 (aW .add) jK (b2 (aW .mod) (aL (bW 2 aJ) (aA cA (aA (b2 (aW .add) YF (b2 j9 lH cM)) aM))) jK)) aM)) N7) (tg1 5) (bF (bN false 6 (aL (bW 2 aJ) (aA cA (aA (b2 (aW .add) (b2 (aW .add) YF (b2 j9 lH cM)) kZ) aM))) true) (bF (bN false 7 (b2 getD (nQ (aA dI (aA (b2 (aW .mod) lD p_) aM))) (b2 (aW .sub) kZ dI)) false) (bF (bN false 8 (aL dH (aA (c7 9 (gG (aA j6 aM) lQ) h_ dZ (aL (bW 2 aN) (aA cA (aA (b2 (aW .mod) (b2 (aW .fdiv) lD (b2 (aW .add) aI5 (b2 j9 aE4 oA))) dW) aM))) true) aM)) false) (o7 2 (cU (aA (aL (bW 2 aN) (aA cA (aA (b2 (aW .add) (b2 (aW .add) lH (b2 j9 lH cM)) kZ) aM))) (aA (aL (bW 2 aN) (aA cA (aA cM aM))) (aA nD aM))))))))))))) (nR (aL dH (aA eO aM)) false))
def iD:List D->Res D:=fnS 2 9 xQ
abbrev iG:Stmt:=top 21
noncomputable def xR:Nat->Bool:=λi=>i==2
def xT:FS:=bF (bN true 2 (nQ aM) true) (bF (vD (gG (aA (b2 (aW .mod) (aL (bW 2 aJ) (aA cA (aA (bC (.int 50)) aM))) p_) aM) lQ) (tg1 3) (bF (bN false 4 (aL (bW 2 aJ) (aA cA (aA (b2 (aW .add) (bC (.int 51)) cM) aM))) true) (bF (bN false 5 (aL dH (aA (c7 7 (gG (aA (b2 (aW .mod) (b2 (aW .fdiv) iQ p_) lH) aM) lQ) h_ dZ (aL (bW 2 aN) (aA cA (aA (b2 (aW .mod) (b2 (aW .fdiv) iQ (b2 (aW .add) N6 (b2 j9 aE4 j6))) dW) aM))) true) aM)) false) (bF (bN false 6 (cU (aA (aL (bW 2 aN) (aA cA (aA (b2 (aW .mod) iQ dW) aM))) (aA (aL (bW 2 aN) (aA cA (aA (b2 (aW .mod) (b2 (aW .fdiv) iQ jK) dW) aM))) aM))) true) (o7 2 (b2 DG (b2 DG (cU (aA (aL (bW 2 aN) (aA cA (aA (b2 (aW .add) wH cM) aM))) aM)) lD) (cU (aA kZ aM)))))))) (nR (aL dH (aA eO aM)) false))
def iH:List D->Res D:=fnS 2 7 xT
abbrev b8:Stmt:=top 22
noncomputable def zY:Nat->Bool:=λi=>i==7||i==8
def qW:FS:=bF (bN true 7 (nQ aM) true) (bF (bN true 8 (nJ (aA (cU (aA iQ (aA (bC (.bl false)) aM))) aM)) true) (bF (aGf (bTB (b2 (mR .gt) (aL dJ (aA nD aM)) bQ)) (bF (Y6 8 9 bQ) (bF (bN false 10 (aL (bW 2 aJ) (aA cA (aA (b2 (aW .add) dW (aL dJ (aA j6 aM))) aM))) true) (bF (bN false 11 (K6 17 3 h_ (bTB (b2 (d9 .eq) (b2 getD cM fW) (b2 getD oA bQ))) fW) true) (bF (bN false 12 (c7 17 (bV (b2 getD eO bQ) false) h_ (bTB (b2 (d9 .eq) (b2 getD fW dI) (b2 getD oA bQ))) fW false) true) (bF (bN false 13 (c7 17 (bV (b2 getD eO dI) false) h_ (bTB (b2 (d9 .eq) (b2 getD fW dI) (b2 getD oA bQ))) fW false) true) (sIf (QM (bTB (b2 (mR .lt) (aL dJ (aA j6 aM)) lD)) (bTB (b2 (d9 .eq) (aL dJ (aA nD aM)) bQ))) (bF (o7 7 (b2 getD (b2 getD fO dI) bQ)) (bN true 8 (nJ (aA (cU (aA (b2 getD (b2 getD (b2 getD fO dI) jK) bQ) (aA (bC (.bl false)) aM))) aM)) true)) (sIf (bOr (bTr (b2 getD oA dI)) (bOr (bTB (b2 (mR .ge) (b2 (aW .add) (aL dJ (aA j6 aM)) (aL dJ (aA nD aM))) kZ)) (bTB (b2 (d9 .eq) (b2 (aW .mod) fP p_) bQ)))) (bF (o7 7 (b2 getD (b2 (aW .add) eU (nJ (aA (b2 getD (b2 getD fO bQ) bQ) aM))) (b2 (aW .mod) (b2 (aW .fdiv) fP p_) (aL max2 (aA dI (aA (aL dJ (aA eU aM)) aM)))))) (sIf (bTB (b2 (d9 .eq) (aL dJ (aA eU aM)) bQ)) (bN true 8 (b2 (aW .add) (c7 17 (bV (b2 getD (b2 getD fO bQ) jK) false) h_ dZ (cU (aA fW (aA (bC (.bl true)) aM))) false) nD) true) o6)) (sIf (bOr (bTB (b2 (mR .lt) (b2 (aW .mod) fP p_) lH)) (bTB (b2 (d9 .eq) (aL dJ (aA lO aM)) bQ))) (bF (bN false 14 (b2 getD fO (b2 (aW .mod) (b2 (aW .fdiv) fP p_) (aL dJ (aA fO aM)))) false) (bF (o7 7 (b2 getD N5 bQ)) (bN true 8 (b2 (aW .add) (c7 17 (bV (b2 getD N5 jK) false) h_ dZ (cU (aA fW (aA (bC (.bl false)) aM))) false) nD) true))) (bF (bN false 15 (b2 getD lO (b2 (aW .mod) (b2 (aW .fdiv) fP p_) (aL dJ (aA lO aM)))) false) (bF (o7 7 (b2 getD wF bQ)) (bF (bN false 16 (R8 (b2 (mR .gt) (aL aEb (aA cM aM)) bQ) (b2 (mR .gt) (b2 (aW .mod) (b2 (aW .fdiv) fP (bC (.int 64))) p_) bQ)) true) (bN true 8 (b2 (aW .add) (b2 (aW .add) (nJ (aA (cU (aA (b2 getD wF jK) (aA (fV 16) aM))) aM)) (c7 17 (bV (b2 getD wF lH) false) h_ dZ (cU (aA fW (aA (bC (.bl false)) aM))) false)) nD) true))))))))))))) (nR (aL dH (aA j6 aM)) false)))
def cP:List D->Res D:=fnS 7 17 qW
abbrev jM:Stmt:=top 23
noncomputable def zZ:Nat->Bool:=λi=>i==2
def qX:FS:=bF (bN true 2 (nQ aM) true) (bF (vD (bV (b2 getD dW dI) false) (tg1 3) (vD (bV (b2 getD dW bQ) false) (tg1 4) (sIf (bTB (b2 (d9 .eq) (b2 getD iQ dI) (b2 getD cM jK))) (bF (bN false 5 (b2 DG (b2 getD iQ jK) (b2 getD cM lH)) false) (bF (bN false 6 (aL (bW 2 aJ) (aA cA (aA (b2 (aW .add) wI (aL dJ (aA eO aM))) aM))) true) (bF (bN false 7 (c7 11 (gG (aA (aL dJ (aA kZ aM)) aM) lQ) h_ dZ (aL (bW 2 aN) (aA cA (aA (b2 (aW .add) N6 (b2 (aW .mod) (b2 (aW .add) lD eU) R5)) aM))) true) true) (bF (bN false 7 (aL dH (aA (b2 getD (nQ (aA j6 (aA (b1 aAr j6) aM))) (b2 (aW .mod) (b2 (aW .fdiv) lD R5) jK)) aM)) false) (bF (bN false 8 (aL tV (aA j6 (aA kZ aM))) true) (bF (bN false 9 (aL (λds=>bW 7 cP (ds++[.int 0])) (aA cA (aA (b2 (aW .add) R6 (b2 j9 aBt (aL dJ (aA eO aM)))) (aA dW (aA nD (aA (b2 getD cM dI) (aA R5 aM))))))) true) (o7 2 (cU (aA (b2 getD cM bQ) (aA (b2 getD iQ bQ) (aA j6 (aA oA aM)))))))))))) o6))) (bF (bN false 10 (b2 (aW .mod) (aL (bW 2 aJ) (aA cA (aA (bC (.int 35)) aM))) (aL max2 (aA dI (aA (aL dJ (aA eO aM)) aM)))) true) (nR (aL dH (aA (b2 (aW .add) (aCf eO (GJ fP) GK) (aCf eO GK (GJ fP))) aM)) false)))
def jN:List D->Res D:=fnS 2 11 qX
abbrev gC:Stmt:=top 24
noncomputable def uQ:Nat->Bool:=λi=>false
def uR:FS:=bF (bN false 1 (b2 (aW .add) dI (b2 (aW .mod) (aL (bW 2 aJ) (aA cA (aA (bC (.int 39)) aM))) lH)) true) (bF (bN false 2 (cU (aA (aL (bW 2 iD) (aA cA (aA dW aM))) (aA (aL (bW 2 iH) (aA cA (aA dW aM))) aM))) true) (bF (bN false 3 (aL dH (aA (c7 4 (gG (aA dW aM) lQ) h_ dZ (aL (bW 2 aN) (aA cA (aA iQ aM))) true) aM)) false) (nR (cU (aA cM (aA (b2 getD eO bQ) (aA (b2 getD eO dI) (aA (aL (bW 2 jN) (aA cA (aA eO aM))) aM))))) false)))
def gD:List D->Res D:=fnS 1 4 uR
abbrev qK:Stmt:=top 11
noncomputable def PQ:Nat->Bool:=λi=>i==1
def PX:FS:=bF (bN true 1 (bC (.dct [])) true) (bF (vD (bV (b2 getD cA dI) false) (tgN [2,3]) (bF (GQ 1 eO cM) (GQ 1 cM eO))) (R_ 1))
def jW:List D->Res D:=fnS 1 4 PX
abbrev fL:Stmt:=top 16
noncomputable def xU:Nat->Bool:=λi=>i==5||i==6
def oO:FS:=bF (bN false 2 (b1 zW (c7 9 (bV (b2 getD cA dI) false) (aFk 3) dZ (cU (aA oA (aA (aL dJ (aA eU aM)) aM))) false)) true) (bF (bN false 3 (b1 tY (b2 getD dW bQ)) true) (bF (bN false 4 (aL (bW 1 jW) (aA dW aM)) true) (bF (bN true 5 (nQ aM) true) (bF (bN true 6 (nQ (aA (cU (aA bQ (aA bQ aM))) aM)) true) (bF (aGf (bTr lD) (bF (VB false 7 (x2R getD iQ (tW 6))) (bF (bN false 8 (bM aBu cM (aA (b2 getD j6 bQ) aM)) false) (bF (sIf (bOr (bTB (b2 (d9 .notin) nD eO)) (bTB (b2 (d9 .ne) (b2 getD j6 dI) bQ))) QR o6) (bF (o7 5 nD) (aCn 6 (c7 9 (gG (aA (b2 getD eO nD) (aA bQ (aA (b1 aFj dI) aM))) aCz) h_ dZ (cU (aA (b2 getD j6 bQ) (aA oA aM))) false))))))) (nR (aL dH (aA kZ aM)) false))))))
def iI:List D->Res D:=fnS 2 9 oO
abbrev qL:Stmt:=top 6
noncomputable def P0:Nat->Bool:=λi=>i==1
def P_:FS:=bF (bN true 1 (bC (.dct [])) true) (bF (vD (bV (b2 getD cA dI) false) (tgN [2,3,4]) (GQ 1 eO (cU (aA cM (aA iQ aM))))) (bF (vD (bV (b2 getD cA jK) false) (tgN [2,3,5,6]) (GQ 1 eO (cU (aA cM (aA (b2 DG (cU (aA kZ aM)) lD) aM))))) (R_ 1)))
def mU:List D->Res D:=fnS 1 7 P_
abbrev t6:Stmt:=top 8
noncomputable def V4:Nat->Bool:=λi=>false
def V5:FS:=bF (sIf (bTB (b2 inX dW cA)) (nR (b2 getD cA dW) false) o6) (bF (sIf (bTB (b2 inX dW eO)) (nR (cU (aA (b2 getD eO dW) (aA (cU aM) aM))) false) o6) QR)
def lY:List D->Res D:=fnS 3 3 V5
abbrev lZ:Stmt:=top 7
noncomputable def A_:Nat->Bool:=λi=>i==4
def jO:FS:=bF (bN true 4 (nJ (aA eO aM)) true) (bF (GR 1 (tg1 5) (bF (sIf (YG (bTr iQ)) QR o6) (bF (bN false 6 (aL (bW 3 lY) (aA cA (aA kZ (aA cM aM)))) true) (bF (aHh (xTB (x2R (d9 .ne) (bPu (b2 getD lD bQ)) (tW 4))) QR o6) (aCn 4 (b1 aCt (b2 getD lD dI))))))) (sIf (bTr iQ) QR o6))
def gP:List D->Res D:=fnS 4 7 jO
abbrev j_:Stmt:=top 13
noncomputable def H_:Nat->Bool:=λi=>false
def IK:FS:=nR (aL dJ (aA (c7 1 (bV cA false) h_ (bTB (b2 (d9 .eq) (b2 getD dW bQ) bQ)) dW false) aM)) true
def kE:List D->Res D:=fnS 1 1 IK
abbrev t7:Stmt:=top 12
noncomputable def V6:Nat->Bool:=λi=>i==1
def V7:FS:=bF (bN true 1 (nQ aM) true) (bF (GR 0 (tgN [2,3]) (bF (o7 1 eO) (o7 1 cM))) (R_ 1))
def oR:List D->Res D:=fnS 1 4 V7
abbrev aD4:Stmt:=top 10
noncomputable def aIp:Nat->Bool:=λi=>false
def aIq:FS:=nR (aL (bW 1 kE) (aA (aL (bW 1 oR) (aA (b2 getD cA dI) aM)) aM)) true
def V8:List D->Res D:=fnS 1 1 aIq
abbrev t8:Stmt:=top 15
noncomputable def V9:Nat->Bool:=λi=>false
def V_:FS:=bF (sIf (bOr (bTB (b2 (d9 .ne) (aL (bW 1 V8) (aA dW aM)) dI)) (bTB (b2 (d9 .ne) (b2 getD dW jK) bQ))) QR o6) (bF (bN false 2 (aL (bW 2 iI) (aA cA (aA dW aM))) true) (bF (sIf (bTB (b2 (d9 .ne) (aL dJ (aA eO aM)) (aL dJ (aA (b2 getD dW bQ) aM)))) QR o6) (bF (bF (bN false 3 (aL (bW 1 mU) (aA cA aM)) true) (aBv (aL (bW 4 gP) (aA cM (aA eO (aA (b2 getD (b2 getD cM (b2 getD eO bQ)) bQ) (aA (bC (.dct [])) aM))))))) (nR eO false))))
def oU:List D->Res D:=fnS 2 4 V_
abbrev l_:Stmt:=top 25
noncomputable def BJ:Nat->Bool:=λi=>i==1
def BK:FS:=bF (bN true 1 (aCr (bC (.str "copy")) jK (bC (.str "drop")) bQ) true) (bF (vD (bV (b2 getD cA dI) false) (tg1 2) (GQ 1 (b2 getD eO bQ) (aL dJ (aA (b2 getD eO jK) aM)))) (bF (vD (bV (b2 getD cA jK) false) (tg1 3) (GQ 1 (b2 getD cM bQ) (b2 (aW .add) (aL dJ (aA (b2 getD cM lH) aM)) dI))) (R_ 1)))
def gQ:List D->Res D:=fnS 1 4 BK
abbrev jC:Stmt:=top 26
noncomputable def IV:Nat->Bool:=λi=>i==6||i==7||i==8
def t_:FS:=bF (bN false 4 (aL (bW 1 gQ) (aA cM aM)) true) (bF (bN false 5 (c7 13 (bV (b2 getD cM jK) false) h_ dZ (b2 getD lO bQ) false) true) (bF (bN true 6 (nQ aM) true) (bF (bN true 7 (nQ aM) true) (bF (bN true 8 (nQ (aA (cU (aA bQ (aA bQ aM))) aM)) true) (bF (vD (V1 eO) (tgN [9,10]) (bF (bN false 11 (b2 (aW .add) (b2 j9 (b2 (aW .add) dI (b2 (aW .mod) (aL (bW 2 aJ) (aA cA (aA (b2 (aW .add) dW oA) aM))) (b2 (aW .pow) (bC (.int 10)) (bC (.int 9))))) R7) oA) true) (bF (bN false 12 (aL aHg (aA (b2 inX fP kZ) aM)) true) (bF (ZP 7 (xB1 dH false (xB1 d_ true (aAu (oN (cU (aA eU (aA fO aM))) (xN (uP 8) (ZG))))))) (bF (o7 6 (cU (aA eU (aA fP aM)))) (bN true 8 (b2 (aW .add) (c7 13 (gG (aA (b2 (aW .add) (b2 getD iQ fP) dI) aM) lQ) h_ (bTB (b2 (d9 .ne) lO fO)) (cU (aA eU (aA lO aM))) false) nD) true)))))) (nR (cU (aA (aL dH (aA (aL d_ (aA lD aM)) aM)) (aA (aL dH (aA (aL d_ (aA j6 aM)) aM)) (aA bQ aM)))) false))))))
def kI:List D->Res D:=fnS 4 13 t_
abbrev xV:Stmt:=top 27
noncomputable def o_law:Nat->Bool:=λi=>false
def aIr:FS:=bF (bN false 1 (aL (bW 1 gD) (aA cA aM)) true) (bF (bN false 2 (b2 getD (b2 getD dW bQ) (b2 (aW .mod) (aL (bW 2 aJ) (aA cA (aA (bC (.int 60)) aM))) (aL dJ (aA (b2 getD dW bQ) aM)))) false) (bF (bN false 3 (b2 (aW .mod) (aL (bW 2 aJ) (aA cA (aA (bC (.int 61)) aM))) (b2 getD (nQ (aA p_ (aA (bC (.int 60)) aM))) (b2 (aW .mod) (aL (bW 2 aJ) (aA cA (aA (bC (.int 62)) aM))) jK))) true) (bF (bN false 4 (aL (bW 7 cP) (aA cA (aA (bC (.int 400)) (aA (cU (aA (b2 getD dW dI) (aA (cU aM) aM))) (aA (bC (.dct [])) (aA eO (aA (b2 (aW .add) cM XF) (aA cM aM)))))))) true) (bF (bN false 5 (aL (bW 2 oU) (aA dW (aA (aL (bW 4 kI) (aA cA (aA R7 (aA iQ (aA dW aM))))) aM))) true) (bF (sIf (bOr (YG (bTr (b1 (R9 .tuple) kZ))) (bTB (b2 (d9 .ne) (aL dJ (aA kZ aM)) (aL dJ (aA iQ aM))))) (nR (bC (.bl false)) true) o6) (bF (GR 5 (tg1 6) (sIf (YG (bTr (b1 (R9 .str) lD))) (nR (bC (.bl false)) true) o6)) (nR (b2 (d9 .eq) kZ iQ) true)))))))
def QB:List D->Res D:=fnS 1 7 aIr
noncomputable abbrev uA:List Str:=["script","k","cell","mixed"]
noncomputable abbrev uB:List Str:=["script","i","letters","draw","pad","place","tail"]
noncomputable abbrev iJ:List Str:=["script","many","makers","j","first","i","draw","size","things"]
noncomputable abbrev iK:List Str:=["script","many","takers","i","draw","more","kinds"]
noncomputable abbrev bT:List Str:=["script","at","book","known","kind","most","least","words","wanted","here","draw","fit","own","able","maker","taker","leaf"]
noncomputable abbrev jP:List Str:=["script","book","rules","taker","maker","kinds","draw","names","known","words","at"]
noncomputable abbrev gF:List Str:=["script","many","book","kinds"]
noncomputable abbrev vP:List Str:=["net","mates","one","other"]
noncomputable abbrev cQ:List Str:=["program","net","sides","names","mates","found","waiting","end","name"]
noncomputable abbrev vQ:List Str:=["program","heads","name","kind","parts","taken","more"]
noncomputable abbrev BL:List Str:=["heads","word","known"]
noncomputable abbrev qY:List Str:=["heads","words","wanted","known","waiting","word","head"]
noncomputable abbrev kJ:List Str:=["ends"]
noncomputable abbrev BP:List Str:=["ties","ends","one","other"]
noncomputable abbrev aGr:List Str:=["net"]
noncomputable abbrev BR:List Str:=["program","net","words","heads"]
noncomputable abbrev qZ:List Str:=["program","stock","maker","taker"]
noncomputable abbrev fY:List Str:=["script","at","words","program","stock","takers","pieces","ties","waiting","k","word","number","giver"]
noncomputable abbrev aGs:List Str:=["script","program","kind","least","words","found","word"]
theorem BV:cF uA ["script","k"] (aQ nM):=by refine⟨rfl,rfl,rfl,?_,rfl,?_,?_⟩<;>decide +kernel
theorem BW:cF uB ["script","i"] (aQ nO):=by refine⟨rfl,rfl,rfl,?_,rfl,?_,?_⟩<;>decide +kernel
theorem uT:cF iJ ["script","many"] (aQ iC):=by refine⟨rfl,rfl,rfl,?_,rfl,?_,?_⟩<;>decide +kernel
theorem uU:cF iK ["script","many"] (aQ iG):=by refine⟨rfl,rfl,rfl,?_,rfl,?_,?_⟩<;>decide +kernel
theorem xW:cF bT ["script","at","book","known","kind","most","least"] (aQ b8):=by refine⟨rfl,rfl,rfl,?_,rfl,?_,?_⟩<;>decide +kernel
theorem xX:cF jP ["script","book"] (aQ jM):=by refine⟨rfl,rfl,rfl,?_,rfl,?_,?_⟩<;>decide +kernel
theorem uC:cF gF ["script"] (aQ gC):=by refine⟨rfl,rfl,rfl,?_,rfl,?_,?_⟩<;>decide +kernel
theorem IW:cF vP ["net"] (aQ qK):=by refine⟨rfl,rfl,rfl,?_,rfl,?_,?_⟩<;>decide +kernel
theorem uV:cF cQ ["program","net"] (aQ fL):=by refine⟨rfl,rfl,rfl,?_,rfl,?_,?_⟩<;>decide +kernel
theorem I_:cF vQ ["program"] (aQ qL):=by refine⟨rfl,rfl,rfl,?_,rfl,?_,?_⟩<;>decide +kernel
theorem QC:cF BL ["heads","word","known"] (aQ t6):=by refine⟨rfl,rfl,rfl,?_,rfl,?_,?_⟩<;>decide +kernel
theorem xY:cF qY ["heads","words","wanted","known"] (aQ lZ):=by refine⟨rfl,rfl,rfl,?_,rfl,?_,?_⟩<;>decide +kernel
theorem BX:cF kJ ["ends"] (aQ j_):=by refine⟨rfl,rfl,rfl,?_,rfl,?_,?_⟩<;>decide +kernel
theorem QD:cF BP ["ties"] (aQ t7):=by refine⟨rfl,rfl,rfl,?_,rfl,?_,?_⟩<;>decide +kernel
theorem aGt:cF aGr ["net"] (aQ aD4):=by refine⟨rfl,rfl,rfl,?_,rfl,?_,?_⟩<;>decide +kernel
theorem QF:cF BR ["program","net"] (aQ t8):=by refine⟨rfl,rfl,rfl,?_,rfl,?_,?_⟩<;>decide +kernel
theorem xZ:cF qZ ["program"] (aQ l_):=by refine⟨rfl,rfl,rfl,?_,rfl,?_,?_⟩<;>decide +kernel
theorem BZ:cF fY ["script","at","words","program"] (aQ jC):=by refine⟨rfl,rfl,rfl,?_,rfl,?_,?_⟩<;>decide +kernel
theorem aGu:cF aGs ["script"] (aQ xV):=by refine⟨rfl,rfl,rfl,?_,rfl,?_,?_⟩<;>decide +kernel
section
variable [KFrag] {P:Program} {w:World} {K:Frag} {mg:Str->Option Value} {base:Heap} {fad:Addr} {fd:FuncData} (hK:KFrag.K=K) (B:Bt mg)
include hK B
theorem x_(F:Fun K "_law_draw" "_law_draw" nM fad fd)(hm:mg "_law_draw"=some (.ref fad)):cJ P w K mg base 1 "_law_draw" 2 aJ:=by
 have sc:=BV;have nd:=sc.nd;refine gK (ps:=["script","k"]) (N:=uA) (k:=0) F hm (F.binds λ_ _ _ _ _ _ us hl=>match us,hl with|[_,_],_=>rfl) sc HW (by decide) (by decide) λcdv A outer s H E hr=>?_
 have hu:=xF hr;exact aG (bU aF) (aG (lG (cV PP (bG (cW hK) (by rfl) B.len cX (aB aC aH)) aF (cT _)) (aX (bU (aZ b_ (bK aC (aZ b_ aC (bG (cW hK) (by rfl) B.len cX (aB aC aH)))) aF))) eG) (aG (bU (aZ b_ (aZ fX (aZ b7 (aZ b7 aC aF) (aZ fX aF (aZ fB aC (bG (HS (by rfl)) (by rfl) B.max UT (aB aF (aB (bG (cW hK) (by rfl) B.len cX (aB aC aH)) aH)))))) aF) aF)) (aX (fQ (aZ b_ (aZ fX aC aC) aF)))))
theorem yC(p4:cJ P w K mg base 1 "_law_draw" 2 aJ)(F:Fun K "_law_word" "_law_word" nO fad fd)(hm:mg "_law_word"=some (.ref fad)):cJ P w K mg base 2 "_law_word" 2 aN:=by
 have sc:=BW;have nd:=sc.nd;refine gK (ps:=["script","i"]) (N:=uB) (k:=1) F hm (F.binds λ_ _ _ _ _ _ us hl=>match us,hl with|[_,_],_=>rfl) sc HX (by decide) (by decide) λcdv A outer s H E hr=>?_
 have hu:=xF hr;exact aG (bU vG) (aG (lG (PW.pt (TV (cV (K5 hu) aC (cG (aB aF (aB aF aH))) (by with_unfolding_all rfl)) (G8 (cV (rE hu) (aZ b_ (aV p4 hr (by decide) (by rfl) (aB aC (aB aF aH))) aF) aF (cT _))))) (aX (fQ (aZ b7 (bK (iU (aB vG (aB vG aH))) (aZ fB aC aF)) (bK aC (aZ b_ (aV p4 hr (by decide) (by rfl) (aB aC (aB aF aH))) aF))))) eG) (aG (bU (aV p4 hr (by decide) (by rfl) (aB aC (aB aF aH)))) (aG (bU (bK (iU (aB (bK aC (aZ b_ aC aF)) (aB (bK vG (aZ b_ (aZ fB aC aF) aF)) aH))) (aZ b_ (aZ fB aC aF) aF))) (aG (bU (aZ b_ (aV p4 hr (by decide) (by rfl) (aB aC (aB aF aH))) aF)) (aG (bU (aZ b_ (aV p4 hr (by decide) (by rfl) (aB aC (aB aF aH))) (aZ TX aF aC))) (aG (lG (cV (rE hu) (aZ b_ (aZ fB (aV p4 hr (by decide) (by rfl) (aB aC (aB aF aH))) aF) aF) aF (cT _)) (aX (bU (aZ b_ (aV p4 hr (by decide) (by rfl) (aB aC (aB (aZ b7 aF aC) aH))) (aZ TX aF aC)))) eG) (aX (fQ (aZ b7 (aZ b7 (aZ fX aC aC) (bK aC (aZ b_ (aZ b7 aC (aV p4 hr (by decide) (by rfl) (aB aC (aB aF aH)))) aF))) (aZ fX aC aC))))))))))
theorem uE(p4:cJ P w K mg base 1 "_law_draw" 2 aJ)(p5:cJ P w K mg base 2 "_law_word" 2 aN)(F:Fun K "_law_makers" "_law_makers" iC fad fd)(hm:mg "_law_makers"=some (.ref fad)):cJ P w K mg base 3 "_law_makers" 2 iD:=by
 have sc:=uT;have nd:=sc.nd;refine gK (ps:=["script","many"]) (N:=iJ) (k:=2) F hm (F.binds λ_ _ _ _ _ _ us hl=>match us,hl with|[_,_],_=>rfl) sc xP (by decide) (by decide) λcdv A outer s H E hr=>?_
 have hu:=xF hr;exact aG (bU (iU aH)) (aG (lU PassesOwn.never rfl (nF (by rfl) B.range (aB aC aH)) (j8 rfl) (bI sc.nd rfl (by trivial)) (aG (bU (cG aH)) (aG (lG (PW.pt (TV (cV PP aC aF (cT _)) (G8 (cV PP (aZ b_ (aZ fB (aV p4 hr (by decide) (by rfl) (aB aC (aB aF aH))) aC) aF) aF (cT _))))) (aX (bU (cG (aB (aV p5 hr (by decide) (by rfl) (aB aC (aB aF aH))) aH)))) eG) (aG (lA rfl rfl (by trivial) (cG (aB (aV p5 hr (by decide) (by rfl) (aB aC (aB (aZ b7 aF (aZ fX aF aC)) aH))) (aB (aV p5 hr (by decide) (by rfl) (aB aC (aB aC aH))) (aB aC aH))))) (aX (lU PassesOwn.never rfl (aC8 (by rfl) B.range (aB aF (aB (aZ b7 aF (aZ b_ (aV p4 hr (by decide) (by rfl) (aB aC (aB (aZ b7 aF (aZ fX aF aC)) aH))) aF)) aH))) (j8 rfl) (bI sc.nd rfl (by trivial)) (aG (bU (aV p4 hr (by decide) (by rfl) (aB aC (aB (aZ b7 (aZ b7 aF (aZ fX aF aC)) aC) aH)))) (aG (bU (bK (iU (aB aF (aB (aZ b_ aC aF) aH))) (aZ TX aC aF))) (aG (bU (dM e_ (by rfl) B.tuple d8 (aB (jL (ownN:=(["p"]:List Str)) (show cH iJ (aQ iC) _ (["p"]:List Str) from by refine⟨rfl,?_,?_,?_,?_,?_,?_⟩<;>decide +kernel) (n:=9) (m:=1) rfl rfl rfl (nF (by rfl) B.range (aB aC aH)) (fJ 9) (λ_=>bI (show((List.map (g8 (["p"]:List Str)) iJ++(["p"]:List Str)):List Str).Nodup from by decide +kernel) rfl (by trivial)) (λ_=>aV p5 hr (by decide) (by rfl) (aB aC (aB (aZ b_ (aZ fB aC (aZ b7 aF (aZ fX aF aC))) aC) aH))) (λ_=>rfl)) aH))) (aX (lA rfl rfl (by trivial) (cG (aB (aV p5 hr (by decide) (by rfl) (aB aC (aB (aZ b7 (aZ b7 aF (aZ fX aF aC)) aC) aH))) (aB (aV p5 hr (by decide) (by rfl) (aB aC (aB aC aH))) (aB aC aH))))))))))))))) (aX (fQ (dM e_ (by rfl) B.tuple d8 (aB aC aH)))))
theorem uF(p4:cJ P w K mg base 1 "_law_draw" 2 aJ)(p5:cJ P w K mg base 2 "_law_word" 2 aN)(F:Fun K "_law_takers" "_law_takers" iG fad fd)(hm:mg "_law_takers"=some (.ref fad)):cJ P w K mg base 3 "_law_takers" 2 iH:=by
 have sc:=uU;have nd:=sc.nd;refine gK (ps:=["script","many"]) (N:=iK) (k:=2) F hm (F.binds λ_ _ _ _ _ _ us hl=>match us,hl with|[_,_],_=>rfl) sc xR (by decide) (by decide) λcdv A outer s H E hr=>?_
 have hu:=xF hr;exact aG (bU (iU aH)) (aG (lU PassesOwn.never rfl (nF (by rfl) B.range (aB (aZ b_ (aV p4 hr (by decide) (by rfl) (aB aC (aB aF aH))) aF) aH)) (j8 rfl) (bI sc.nd rfl (by trivial)) (aG (bU (aV p4 hr (by decide) (by rfl) (aB aC (aB (aZ b7 aF aC) aH)))) (aG (bU (dM e_ (by rfl) B.tuple d8 (aB (jL (ownN:=(["p"]:List Str)) (show cH iK (aQ iG) _ (["p"]:List Str) from by refine⟨rfl,?_,?_,?_,?_,?_,?_⟩<;>decide +kernel) (n:=7) (m:=1) rfl rfl rfl (nF (by rfl) B.range (aB (aZ b_ (aZ fB aC aF) aF) aH)) (fJ 7) (λ_=>bI (show((List.map (g8 (["p"]:List Str)) iK++(["p"]:List Str)):List Str).Nodup from by decide +kernel) rfl (by trivial)) (λ_=>aV p5 hr (by decide) (by rfl) (aB aC (aB (aZ b_ (aZ fB aC (aZ b7 aF (aZ fX aF aC))) aC) aH))) (λ_=>rfl)) aH))) (aG (bU (cG (aB (aV p5 hr (by decide) (by rfl) (aB aC (aB (aZ b_ aC aC) aH))) (aB (aV p5 hr (by decide) (by rfl) (aB aC (aB (aZ b_ (aZ fB aC aF) aC) aH))) aH)))) (aX (lA rfl rfl (by trivial) (aZ xG (aZ xG (cG (aB (aV p5 hr (by decide) (by rfl) (aB aC (aB (aZ b7 aF aC) aH))) aH)) aC) (cG (aB aC aH))))))))) (aX (fQ (dM e_ (by rfl) B.tuple d8 (aB aC aH)))))
theorem uW(p4:cJ P w K mg base 1 "_law_draw" 2 aJ)(F:aIg K "_law_words" "_law_words" b8 fad fd T its):DX P w K mg base CX0 2 fad fd ["script","at","book","known","kind","most","least"] (spD cP 7):=by
 have sc:=xW;have nd:=sc.nd;refine aGe (ps:=["script","at","book","known","kind","most","least"]) (N:=bT) (k:=1) F sc zY (by decide) λcdv A outer s H E hr=>?_
 have hu:=xF hr
 exact aG (bU (iU aH)) (aG (bU (tU (aB (cG (aB aC (aB G7 aH))) aH))) (aG (aAs PassesOwn.never (cV PP (bG (cW hK) (by rfl) B.len cX (aB aC aH)) aF (cT _)) (aG (aCi (j:=9) rfl rfl (by trivial) sc.nd rfl (by trivial) rfl aF) (aG (bU (aV p4 hr (by decide) (by rfl) (aB aC (aB (aZ b7 aC (bG (cW hK) (by rfl) B.len cX (aB aC aH))) aH)))) (aG (Y_ (show cH bT (aQ b8) _ (["x"]:List Str) from by refine⟨rfl,?_,?_,?_,?_,?_,?_⟩<;>decide +kernel) (n:=17) rfl rfl rfl (by trivial) (λ_=>bI (show((List.map (g8 (["x"]:List Str)) bT++(["x"]:List Str)):List Str).Nodup from by decide +kernel) rfl (by trivial)) (λ_=>cV (rE hu) (bK aC aC) (bK aC aF) (cT _)) (λ_=>aC) (λ_=>rfl) (iy:=11) (o:=false) rfl sc.nd rfl (by trivial) (Or.inl rfl) (by with_unfolding_all rfl)) (aG (vL (ownN:=(["x"]:List Str)) (show cH bT (aQ b8) _ (["x"]:List Str) from by refine⟨rfl,?_,?_,?_,?_,?_,?_⟩<;>decide +kernel) (n:=17) (m:=1) rfl rfl rfl (fC (bK aC aF)) (fJ 17) (λ_=>bI (show((List.map (g8 (["x"]:List Str)) bT++(["x"]:List Str)):List Str).Nodup from by decide +kernel) rfl (by trivial)) (λ_=>cV (rE hu) (bK aC aF) (bK aC aF) (cT _)) (λ_=>aC) (λ_=>rfl) (iy:=12) (o:=false) rfl sc.nd rfl (by trivial) (Or.inl rfl) (by with_unfolding_all rfl)) (aG (vL (ownN:=(["x"]:List Str)) (show cH bT (aQ b8) _ (["x"]:List Str) from by refine⟨rfl,?_,?_,?_,?_,?_,?_⟩<;>decide +kernel) (n:=17) (m:=1) rfl rfl rfl (fC (bK aC aF)) (fJ 17) (λ_=>bI (show((List.map (g8 (["x"]:List Str)) bT++(["x"]:List Str)):List Str).Nodup from by decide +kernel) rfl (by trivial)) (λ_=>cV (rE hu) (bK aC aF) (bK aC aF) (cT _)) (λ_=>aC) (λ_=>rfl) (iy:=13) (o:=false) rfl sc.nd rfl (by trivial) (Or.inl rfl) (by with_unfolding_all rfl)) (aX (lG (PW.pt (TV (cV aGq (bG (cW hK) (by rfl) B.len cX (aB aC aH)) aC (cT _)) (G8 (cV (rE hu) (bG (cW hK) (by rfl) B.len cX (aB aC aH)) aF (cT _))))) (aG (lA rfl rfl (by trivial) (bK (bK aC aF) aF)) (aX (bU (tU (aB (cG (aB (bK (bK (bK aC aF) aF) aF) (aB G7 aH))) aH))))) (aX (lG (PW.pt (O7 (vH (bK aC aF)) (O7 (cV aIo (aZ b7 (bG (cW hK) (by rfl) B.len cX (aB aC aH)) (bG (cW hK) (by rfl) B.len cX (aB aC aH))) aC (cT _)) (zH (cV (rE hu) (aZ b_ aC aF) aF (cT _)))))) (aG (lA rfl rfl (by trivial) (bK (aZ b7 aC (tU (aB (bK (bK aC aF) aF) aH))) (aZ b_ (aZ fB aC aF) (bG (HS (by rfl)) (by rfl) B.max UT (aB aF (aB (bG (cW hK) (by rfl) B.len cX (aB aC aH)) aH)))))) (aX (lG (cV (rE hu) (bG (cW hK) (by rfl) B.len cX (aB aC aH)) aF (cT _)) (aX (bU (aZ b7 (jL (ownN:=(["x"]:List Str)) (show cH bT (aQ b8) _ (["x"]:List Str) from by refine⟨rfl,?_,?_,?_,?_,?_,?_⟩<;>decide +kernel) (n:=17) (m:=1) rfl rfl rfl (fC (bK (bK aC aF) aF)) (fJ 17) (λ_=>bI (show((List.map (g8 (["x"]:List Str)) bT++(["x"]:List Str)):List Str).Nodup from by decide +kernel) rfl (by trivial)) (λ_=>cG (aB aC (aB G7 aH))) (λ_=>rfl)) aC))) eG))) (aX (lG (PW.pt (O7 (cV aGq (aZ b_ aC aF) aF (cT _)) (zH (cV (rE hu) (bG (cW hK) (by rfl) B.len cX (aB aC aH)) aF (cT _))))) (aG (bU (bK aC (aZ b_ (aZ fB aC aF) (bG (cW hK) (by rfl) B.len cX (aB aC aH))))) (aG (lA rfl rfl (by trivial) (bK aC aF)) (aX (bU (aZ b7 (jL (ownN:=(["x"]:List Str)) (show cH bT (aQ b8) _ (["x"]:List Str) from by refine⟨rfl,?_,?_,?_,?_,?_,?_⟩<;>decide +kernel) (n:=17) (m:=1) rfl rfl rfl (fC (bK aC aF)) (fJ 17) (λ_=>bI (show((List.map (g8 (["x"]:List Str)) bT++(["x"]:List Str)):List Str).Nodup from by decide +kernel) rfl (by trivial)) (λ_=>cG (aB aC (aB G7 aH))) (λ_=>rfl)) aC))))) (aG (bU (bK aC (aZ b_ (aZ fB aC aF) (bG (cW hK) (by rfl) B.len cX (aB aC aH))))) (aG (lA rfl rfl (by trivial) (bK aC aF)) (aG (bU (aFu (KC PP (bG (aCh hK) (by rfl) B.len cX (aB aC aH)) aF (cT _)) (aFs (KC PP (aZ b_ (aZ fB aC aF) aF) aF (cT _))))) (aX (bU (aZ b7 (aZ b7 (tU (aB (cG (aB (bK aC aF) (aB aC aH))) aH)) (jL (ownN:=(["x"]:List Str)) (show cH bT (aQ b8) _ (["x"]:List Str) from by refine⟨rfl,?_,?_,?_,?_,?_,?_⟩<;>decide +kernel) (n:=17) (m:=1) rfl rfl rfl (fC (bK aC aF)) (fJ 17) (λ_=>bI (show((List.map (g8 (["x"]:List Str)) bT++(["x"]:List Str)):List Str).Nodup from by decide +kernel) rfl (by trivial)) (λ_=>cG (aB aC (aB G7 aH))) (λ_=>rfl))) aC)))))))))))))))))) (aX (fQ (dM e_ (by rfl) B.tuple d8 (aB aC aH))))))
theorem uX(p4:cJ P w K mg base 1 "_law_draw" 2 aJ)(p5:cJ P w K mg base 2 "_law_word" 2 aN)(p8:aEa P w K mg base 2 "_law_words" "least" 6 (.int 0) cP)(F:Fun K "_law_rules" "_law_rules" jM fad fd)(hm:mg "_law_rules"=some (.ref fad)):cJ P w K mg base 3 "_law_rules" 2 jN:=by
 have sc:=xX;have nd:=sc.nd;refine gK (ps:=["script","book"]) (N:=jP) (k:=2) F hm (F.binds λ_ _ _ _ _ _ us hl=>match us,hl with|[_,_],_=>rfl) sc zZ (by decide) (by decide) λcdv A outer s H E hr=>?_
 have hu:=xF hr;exact aG (bU (iU aH)) (aG (lU PassesOwn.never rfl (fC (bK aC aF)) (j8 rfl) (bI sc.nd rfl (by trivial)) (aX (lU PassesOwn.never rfl (fC (bK aC aF)) (j8 rfl) (bI sc.nd rfl (by trivial)) (aX (lG (cV (rE hu) (bK aC aF) (bK aC aF) (cT _)) (aG (bU (aZ xG (bK aC aF) (bK aC aF))) (aG (bU (aV p4 hr (by decide) (by rfl) (aB aC (aB (aZ b7 aF (bG (cW hK) (by rfl) B.len cX (aB aC aH))) aH)))) (aG (K4 (ownN:=(["i"]:List Str)) (show cH jP (aQ jM) _ (["i"]:List Str) from by refine⟨rfl,?_,?_,?_,?_,?_,?_⟩<;>decide +kernel) (n:=11) (m:=1) rfl rfl rfl (nF (by rfl) B.range (aB (bG (cW hK) (by rfl) B.len cX (aB aC aH)) aH)) (fJ 11) (λ_=>bI (show((List.map (g8 (["i"]:List Str)) jP++(["i"]:List Str)):List Str).Nodup from by decide +kernel) rfl (by trivial)) (λ_=>aV p5 hr (by decide) (by rfl) (aB aC (aB (aZ b7 aF (aZ b_ (aZ b7 aC aC) aF)) aH))) (λ_=>rfl) (iy:=7) (o:=false) rfl sc.nd rfl (by trivial) (Or.inl rfl) (by with_unfolding_all rfl)) (aG (bU (dM e_ (by rfl) B.tuple d8 (aB (bK (iU (aB aC (aB (aGg aC) aH))) (aZ b_ (aZ fB aC aF) aF)) aH))) (aG (bU (aCm (by rfl) B.dict (by rfl) B.zip (aB aC (aB aC aH)))) (aG (bU (U5 p8 hr (by decide) (by rfl) (aB aC (aB (aZ b7 aF (aZ fX aF (bG (cW hK) (by rfl) B.len cX (aB aC aH)))) (aB aC (aB aC (aB (bK aC aF) (aB aF aH)))))))) (aX (lA rfl rfl (by trivial) (cG (aB (bK aC aF) (aB (bK aC aF) (aB aC (aB aC aH))))))))))))) eG))))) (aG (bU (aZ b_ (aV p4 hr (by decide) (by rfl) (aB aC (aB aF aH))) (bG (HS (by rfl)) (by rfl) B.max UT (aB aF (aB (bG (cW hK) (by rfl) B.len cX (aB aC aH)) aH))))) (aX (fQ (dM e_ (by rfl) B.tuple d8 (aB (aZ b7 (aAo hK aC (T7 aC) (T6)) (aAo hK aC (T6) (T7 aC))) aH))))))
theorem rG(p4:cJ P w K mg base 1 "_law_draw" 2 aJ)(pK:cJ P w K mg base 3 "_law_takers" 2 iH)(pL:cJ P w K mg base 3 "_law_makers" 2 iD)(p5:cJ P w K mg base 2 "_law_word" 2 aN)(pM:cJ P w K mg base 3 "_law_rules" 2 jN)(F:Fun K "_law_program" "_law_program" gC fad fd)(hm:mg "_law_program"=some (.ref fad)):cJ P w K mg base 4 "_law_program" 1 gD:=by
 have sc:=uC;have nd:=sc.nd;refine gK (ps:=["script"]) (N:=gF) (k:=3) F hm (F.binds λ_ _ _ _ _ _ us hl=>match us,hl with|[_],_=>rfl) sc uQ (by decide) (by decide) λcdv A outer s H E hr=>?_
 have hu:=xF hr;exact aG (bU (aZ b7 aF (aZ b_ (aV p4 hr (by decide) (by rfl) (aB aC (aB aF aH))) aF))) (aG (bU (cG (aB (aV pL hr (by decide) (by rfl) (aB aC (aB aC aH))) (aB (aV pK hr (by decide) (by rfl) (aB aC (aB aC aH))) aH)))) (aG (bU (dM e_ (by rfl) B.tuple d8 (aB (jL (ownN:=(["j"]:List Str)) (show cH gF (aQ gC) _ (["j"]:List Str) from by refine⟨rfl,?_,?_,?_,?_,?_,?_⟩<;>decide +kernel) (n:=4) (m:=1) rfl rfl rfl (nF (by rfl) B.range (aB aC aH)) (fJ 4) (λ_=>bI (show((List.map (g8 (["j"]:List Str)) gF++(["j"]:List Str)):List Str).Nodup from by decide +kernel) rfl (by trivial)) (λ_=>aV p5 hr (by decide) (by rfl) (aB aC (aB aC aH))) (λ_=>rfl)) aH))) (aX (fQ (cG (aB aC (aB (bK aC aF) (aB (bK aC aF) (aB (aV pM hr (by decide) (by rfl) (aB aC (aB aC aH))) aH)))))))))
theorem B_(F:Fun K "mates_of" "mates_of" qK fad fd)(hm:mg "mates_of"=some (.ref fad)):cJ P w K mg base 1 "mates_of" 1 jW:=by
 have sc:=IW;have nd:=sc.nd;refine gK (ps:=["net"]) (N:=vP) (k:=0) F hm (F.binds λ_ _ _ _ _ _ us hl=>match us,hl with|[_],_=>rfl) sc PQ (by decide) (by decide) λcdv A outer s H E hr=>?_
 have hu:=xF hr;exact aG (bU (rN)) (aG (lU PassesOwn.never rfl (fC (bK aC aF)) (tM _ (is:=[2,3]) (by decide)) (u5 rfl (dC (bI sc.nd rfl (by trivial)) (dC (bI sc.nd rfl (by trivial)) (o8)))) (aG (vJ hu rfl rfl (by trivial) aC aC) (aX (vJ hu rfl rfl (by trivial) aC aC)))) (aX (wU rfl rfl (by trivial))))
theorem uG(pN:cJ P w K mg base 1 "mates_of" 1 jW)(F:Fun K "words_along" "words_along" fL fad fd)(hm:mg "words_along"=some (.ref fad)):cJ P w K mg base 2 "words_along" 2 iI:=by
 have sc:=uV;have nd:=sc.nd;refine gK (ps:=["program","net"]) (N:=cQ) (k:=1) F hm (F.binds λ_ _ _ _ _ _ us hl=>match us,hl with|[_,_],_=>rfl) sc xU (by decide) (by decide) λcdv A outer s H E hr=>?_
 have hu:=xF hr;exact aG (bU (VP (by rfl) (by rfl) B.dict (jL (ownN:=(["name","kind","parts"]:List Str)) (show cH cQ (aQ fL) _ (["name","kind","parts"]:List Str) from by refine⟨rfl,?_,?_,?_,?_,?_,?_⟩<;>decide +kernel) (n:=9) (m:=3) rfl rfl rfl (fC (bK aC aF)) (aC9 _ 9 3) (λ_=>u5 rfl (dC (bI (show((List.map (g8 (["name","kind","parts"]:List Str)) cQ++(["name","kind","parts"]:List Str)):List Str).Nodup from by decide +kernel) rfl (by trivial)) (dC (bI (show((List.map (g8 (["name","kind","parts"]:List Str)) cQ++(["name","kind","parts"]:List Str)):List Str).Nodup from by decide +kernel) rfl (by trivial)) (dC (bI (show((List.map (g8 (["name","kind","parts"]:List Str)) cQ++(["name","kind","parts"]:List Str)):List Str).Nodup from by decide +kernel) rfl (by trivial)) (o8))))) (λ_=>cG (aB aC (aB (bG (cW hK) (by rfl) B.len cX (aB aC aH)) aH))) (λ_=>rfl)))) (aG (bU (PN (by rfl) (by rfl) B.dict (bK aC aF))) (aG (bU (aV pN hr (by decide) (by rfl) (aB aC aH))) (aG (bU (iU aH)) (aG (bU (iU (aB (cG (aB aF (aB aF aH))) aH))) (aG (aAs PassesOwn.never (vH aC) (aG (aGp rfl sc.nd rfl (by trivial) (aGm (aFz hK hu) rfl rfl (by trivial) (VF rfl rfl (by trivial)) (λ_ _=>rfl))) (aG (bU (aIb PySem.F.plainAttrs_dict PySem.F.slot_dict_get PySem.F.type_dict_get (aG1 hu) aC (aB (bK aC aF) aH) (λ_ _ _ _ _ h r=>aC6 h r))) (aG (lG (PW.pt (O7 (cV (YT hu) aC aC (by with_unfolding_all rfl)) (zH (cV (G9 hu) (bK aC aF) aF (cT _))))) (aX (tO)) eG) (aG (lA rfl rfl (by trivial) aC) (aX (aAt rfl rfl (by trivial) (jL (ownN:=(["hook"]:List Str)) (show cH cQ (aQ fL) _ (["hook"]:List Str) from by refine⟨rfl,?_,?_,?_,?_,?_,?_⟩<;>decide +kernel) (n:=9) (m:=1) rfl rfl rfl (aD2 (by rfl) B.range (aB (bK aC aC) (aB aF (aB (aFr aAj aF) aH)))) (fJ 9) (λ_=>bI (show((List.map (g8 (["hook"]:List Str)) cQ++(["hook"]:List Str)):List Str).Nodup from by decide +kernel) rfl (by trivial)) (λ_=>cG (aB (bK aC aF) (aB aC aH))) (λ_=>rfl))))))))) (aX (fQ (dM e_ (by rfl) B.tuple d8 (aB aC aH)))))))))
theorem CG(F:Fun K "heads_of" "heads_of" qL fad fd)(hm:mg "heads_of"=some (.ref fad)):cJ P w K mg base 1 "heads_of" 1 mU:=by
 have sc:=I_;have nd:=sc.nd;refine gK (ps:=["program"]) (N:=vQ) (k:=0) F hm (F.binds λ_ _ _ _ _ _ us hl=>match us,hl with|[_],_=>rfl) sc P0 (by decide) (by decide) λcdv A outer s H E hr=>?_
 have hu:=xF hr;exact aG (bU (rN)) (aG (lU PassesOwn.never rfl (fC (bK aC aF)) (tM _ (is:=[2,3,4]) (by decide)) (u5 rfl (dC (bI sc.nd rfl (by trivial)) (dC (bI sc.nd rfl (by trivial)) (dC (bI sc.nd rfl (by trivial)) (o8))))) (aX (vJ hu rfl rfl (by trivial) aC (cG (aB aC (aB aC aH)))))) (aG (lU PassesOwn.never rfl (fC (bK aC aF)) (tM _ (is:=[2,3,5,6]) (by decide)) (u5 rfl (dC (bI sc.nd rfl (by trivial)) (dC (bI sc.nd rfl (by trivial)) (dC (bI sc.nd rfl (by trivial)) (dC (bI sc.nd rfl (by trivial)) (o8)))))) (aX (vJ hu rfl rfl (by trivial) aC (cG (aB aC (aB (aZ xG (cG (aB aC aH)) aC) aH)))))) (aX (wU rfl rfl (by trivial)))))
theorem JB(F:Fun K "head_of" "head_of" t6 fad fd)(hm:mg "head_of"=some (.ref fad)):cJ P w K mg base 1 "head_of" 3 lY:=by
 have sc:=QC;have nd:=sc.nd;refine gK (ps:=["heads","word","known"]) (N:=BL) (k:=0) F hm (F.binds λ_ _ _ _ _ _ us hl=>match us,hl with|[_,_,_],_=>rfl) sc V4 (by decide) (by decide) λcdv A outer s H E hr=>?_
 have hu:=xF hr;exact aG (lG (cV (K5 hu) aC aC (by with_unfolding_all rfl)) (aX (fQ (bK aC aC))) eG) (aG (lG (cV (K5 hu) aC aC (by with_unfolding_all rfl)) (aX (fQ (cG (aB (bK aC aC) (aB (cG aH) aH))))) eG) (aX (tO)))
theorem uY(pO:cJ P w K mg base 1 "head_of" 3 lY)(F:Fun K "walk_words" "walk_words" lZ fad fd)(hm:mg "walk_words"=some (.ref fad)):cJ P w K mg base 2 "walk_words" 4 gP:=by
 have sc:=xY;have nd:=sc.nd;refine gK (ps:=["heads","words","wanted","known"]) (N:=qY) (k:=1) F hm (F.binds λ_ _ _ _ _ _ us hl=>match us,hl with|[_,_,_,_],_=>rfl) sc A_ (by decide) (by decide) λcdv A outer s H E hr=>?_
 have hu:=xF hr;exact aG (bU (tU (aB aC aH))) (aG (HD rfl PassesOwn.never rfl rfl (by trivial) (j8 rfl) (bI sc.nd rfl (by trivial)) (aG (lG (TJ (vH aC)) (aX (tO)) eG) (aG (bU (aV pO hr (by decide) (by rfl) (aB aC (aB aC (aB aC aH))))) (aG (aIk (aCv (G9 hu) (aIl (bK aC aF)) (VF rfl rfl (by trivial)) (cT _)) (aX (tO)) eG) (aX (aAt rfl rfl (by trivial) (aCu (by rfl) (by rfl) B.list (by rfl) B.reversed (bK aC aF)))))))) (aX (lG (vH aC) (aX (tO)) eG)))
theorem yD(F:Fun K "rim_among" "rim_among" j_ fad fd)(hm:mg "rim_among"=some (.ref fad)):cJ P w K mg base 1 "rim_among" 1 kE:=by
 have sc:=BX;have nd:=sc.nd;refine gK (ps:=["ends"]) (N:=kJ) (k:=0) F hm (F.binds λ_ _ _ _ _ _ us hl=>match us,hl with|[_],_=>rfl) sc H_ (by decide) (by decide) λcdv A outer s H E hr=>?_
 have hu:=xF hr;exact aX (fQ (bG (cW hK) (by rfl) B.len cX (aB (vK (ownN:=(["end"]:List Str)) (show cH kJ (aQ j_) _ (["end"]:List Str) from by refine⟨rfl,?_,?_,?_,?_,?_,?_⟩<;>decide +kernel) (n:=1) (m:=1) rfl rfl rfl (fC aC) (fJ 1) (λ_=>bI (show((List.map (g8 (["end"]:List Str)) kJ++(["end"]:List Str)):List Str).Nodup from by decide +kernel) rfl (by trivial)) (λ_=>cV (rE hu) (bK aC aF) aF (cT _)) (λ_=>aC) (λ_=>rfl)) aH)))
theorem JC(F:Fun K "ends_of" "ends_of" t7 fad fd)(hm:mg "ends_of"=some (.ref fad)):cJ P w K mg base 1 "ends_of" 1 oR:=by
 have sc:=QD;have nd:=sc.nd;refine gK (ps:=["ties"]) (N:=BP) (k:=0) F hm (F.binds λ_ _ _ _ _ _ us hl=>match us,hl with|[_],_=>rfl) sc V6 (by decide) (by decide) λcdv A outer s H E hr=>?_
 have hu:=xF hr;exact aG (bU (iU aH)) (aG (HD rfl PassesOwn.never rfl rfl (by trivial) (tM _ (is:=[2,3]) (by decide)) (u5 rfl (dC (bI sc.nd rfl (by trivial)) (dC (bI sc.nd rfl (by trivial)) (o8)))) (aG (lA rfl rfl (by trivial) aC) (aX (lA rfl rfl (by trivial) aC)))) (aX (wU rfl rfl (by trivial))))
theorem aD5(pQ:cJ P w K mg base 1 "ends_of" 1 oR)(pR:cJ P w K mg base 1 "rim_among" 1 kE)(F:Fun K "rim" "rim" aD4 fad fd)(hm:mg "rim"=some (.ref fad)):cJ P w K mg base 2 "rim" 1 V8:=by
 have sc:=aGt;have nd:=sc.nd;refine gK (ps:=["net"]) (N:=aGr) (k:=1) F hm (F.binds λ_ _ _ _ _ _ us hl=>match us,hl with|[_],_=>rfl) sc aIp (by decide) (by decide) λcdv A outer s H E hr=>?_
 have hu:=xF hr;exact aX (fQ (aV pR hr (by decide) (by rfl) (aB (aV pQ hr (by decide) (by rfl) (aB (bK aC aF) aH)) aH)))
theorem JD(pS:cJ P w K mg base 2 "rim" 1 V8)(pT:cJ P w K mg base 2 "words_along" 2 iI)(pU:cJ P w K mg base 1 "heads_of" 1 mU)(pW:cJ P w K mg base 2 "walk_words" 4 gP)(F:Fun K "unwoven" "unwoven" t8 fad fd)(hm:mg "unwoven"=some (.ref fad)):cJ P w K mg base 3 "unwoven" 2 oU:=by
 have sc:=QF;have nd:=sc.nd;refine gK (ps:=["program","net"]) (N:=BR) (k:=2) F hm (F.binds λ_ _ _ _ _ _ us hl=>match us,hl with|[_,_],_=>rfl) sc V9 (by decide) (by decide) λcdv A outer s H E hr=>?_
 have hu:=xF hr;exact aG (lG (PW.pt (O7 (cV (G9 hu) (aV pS hr (by decide) (by rfl) (aB aC aH)) aF (cT _)) (zH (cV (G9 hu) (bK aC aF) aF (cT _))))) (aX (tO)) eG) (aG (bU (aV pT hr (by decide) (by rfl) (aB aC (aB aC aH)))) (aG (lG (cV (G9 hu) (bG (cW hK) (by rfl) B.len cX (aB aC aH)) (bG (cW hK) (by rfl) B.len cX (aB (bK aC aF) aH)) (cT _)) (aX (tO)) eG) (aG (aCy (aG (bU (aV pU hr (by decide) (by rfl) (aB aC aH))) (aX (aCc (aV pW hr (by decide) (by rfl) (aB aC (aB aC (aB (bK (bK aC (bK aC aF)) aF) (aB (rN) aH))))))))) (aX (fQ aC)))))
theorem uZ(F:Fun K "_law_stock" "_law_stock" l_ fad fd)(hm:mg "_law_stock"=some (.ref fad)):cJ P w K mg base 1 "_law_stock" 1 gQ:=by
 have sc:=xZ;have nd:=sc.nd;refine gK (ps:=["program"]) (N:=qZ) (k:=0) F hm (F.binds λ_ _ _ _ _ _ us hl=>match us,hl with|[_],_=>rfl) sc BJ (by decide) (by decide) λcdv A outer s H E hr=>?_
 have hu:=xF hr;exact aG (bU (aCs vG aF vG aF)) (aG (lU PassesOwn.never rfl (fC (bK aC aF)) (j8 rfl) (bI sc.nd rfl (by trivial)) (aX (vJ hu rfl rfl (by trivial) (bK aC aF) (bG (cW hK) (by rfl) B.len cX (aB (bK aC aF) aH))))) (aG (lU PassesOwn.never rfl (fC (bK aC aF)) (j8 rfl) (bI sc.nd rfl (by trivial)) (aX (vJ hu rfl rfl (by trivial) (bK aC aF) (aZ b7 (bG (cW hK) (by rfl) B.len cX (aB (bK aC aF) aH)) aF)))) (aX (wU rfl rfl (by trivial)))))
theorem yE(pX:cJ P w K mg base 1 "_law_stock" 1 gQ)(p4:cJ P w K mg base 1 "_law_draw" 2 aJ)(F:Fun K "_law_laid" "_law_laid" jC fad fd)(hm:mg "_law_laid"=some (.ref fad)):cJ P w K mg base 2 "_law_laid" 4 kI:=by
 have sc:=BZ;have nd:=sc.nd;refine gK (ps:=["script","at","words","program"]) (N:=fY) (k:=1) F hm (F.binds λ_ _ _ _ _ _ us hl=>match us,hl with|[_,_,_,_],_=>rfl) sc IV (by decide) (by decide) λcdv A outer s H E hr=>?_
 have hu:=xF hr;exact aG (bU (aV pX hr (by decide) (by rfl) (aB aC aH))) (aG (K4 (ownN:=(["taker"]:List Str)) (show cH fY (aQ jC) _ (["taker"]:List Str) from by refine⟨rfl,?_,?_,?_,?_,?_,?_⟩<;>decide +kernel) (n:=13) (m:=1) rfl rfl rfl (fC (bK aC aF)) (fJ 13) (λ_=>bI (show((List.map (g8 (["taker"]:List Str)) fY++(["taker"]:List Str)):List Str).Nodup from by decide +kernel) rfl (by trivial)) (λ_=>bK aC aF) (λ_=>rfl) (iy:=5) (o:=false) rfl sc.nd rfl (by trivial) (Or.inl rfl) (by with_unfolding_all rfl)) (aG (bU (iU aH)) (aG (bU (iU aH)) (aG (bU (iU (aB (cG (aB aF (aB aF aH))) aH))) (aG (lU PassesOwn.never rfl (ZR (by rfl) B.enum (aB aC aH)) (tM _ (is:=[9,10]) (by decide)) (u5 rfl (dC (bI sc.nd rfl (by trivial)) (dC (bI sc.nd rfl (by trivial)) (o8)))) (aG (bU (aZ b7 (aZ fX (aZ b7 aF (aZ b_ (aV p4 hr (by decide) (by rfl) (aB aC (aB (aZ b7 aC aC) aH))) (aZ aFx aF aF))) aF) aC)) (aG (bU (dM aCo (by rfl) B.int aG6 (aB (KC (K5 hu) aC aC (by with_unfolding_all rfl)) aH))) (aG (aCx rfl rfl (by trivial) (V0 e_ (by rfl) B.tuple d8 (ZQ (tH hu) (by rfl) B.sorted tQ (aGo (ZJ (cG (aB aC (aB aC aH))) (aCq (aCw rfl rfl (by trivial)) (aGn))))))) (aG (lA rfl rfl (by trivial) (cG (aB aC (aB aC aH)))) (aX (bU (aZ b7 (vK (ownN:=(["hook"]:List Str)) (show cH fY (aQ jC) _ (["hook"]:List Str) from by refine⟨rfl,?_,?_,?_,?_,?_,?_⟩<;>decide +kernel) (n:=13) (m:=1) rfl rfl rfl (nF (by rfl) B.range (aB (aZ b7 (bK aC aC) aF) aH)) (fJ 13) (λ_=>bI (show((List.map (g8 (["hook"]:List Str)) fY++(["hook"]:List Str)):List Str).Nodup from by decide +kernel) rfl (by trivial)) (λ_=>cV (G9 hu) aC aC (cT _)) (λ_=>cG (aB aC (aB aC aH))) (λ_=>rfl)) aC)))))))) (aX (fQ (cG (aB (dM e_ (by rfl) B.tuple d8 (aB (bG (tH hu) (by rfl) B.sorted tQ (aB aC aH)) aH)) (aB (dM e_ (by rfl) B.tuple d8 (aB (bG (tH hu) (by rfl) B.sorted tQ (aB aC aH)) aH)) (aB aF aH)))))))))))
theorem aGv(pY:cJ P w K mg base 4 "_law_program" 1 gD)(p4:cJ P w K mg base 1 "_law_draw" 2 aJ)(p8:aEa P w K mg base 2 "_law_words" "least" 6 (.int 0) cP)(pZ:cJ P w K mg base 2 "_law_laid" 4 kI)(qa:cJ P w K mg base 3 "unwoven" 2 oU)(F:Fun K "law" "law" xV fad fd):DX P w K mg base CX0 5 fad fd ["script"] (spD QB 1):=by
 have sc:=aGu;have nd:=sc.nd;refine aG5 (ps:=["script"]) (N:=aGs) (k:=4) F sc o_law (by decide) (by decide) λcdv A outer s H E hr=>?_
 have hu:=xF hr;exact aG (bU (aV pY hr (by decide) (by rfl) (aB aC aH))) (aG (bU (bK (bK aC aF) (aZ b_ (aV p4 hr (by decide) (by rfl) (aB aC (aB aF aH))) (bG (cW hK) (by rfl) B.len cX (aB (bK aC aF) aH))))) (aG (bU (aZ b_ (aV p4 hr (by decide) (by rfl) (aB aC (aB aF aH))) (bK (iU (aB aF (aB aF aH))) (aZ b_ (aV p4 hr (by decide) (by rfl) (aB aC (aB aF aH))) aF)))) (aG (bU (aV p8.cal hr (by decide) (by rfl) (aB aC (aB aF (aB (cG (aB (bK aC aF) (aB (cG aH) aH))) (aB (rN) (aB aC (aB (aZ b7 aC aF) (aB aC aH))))))))) (aG (bU (aV qa hr (by decide) (by rfl) (aB aC (aB (aV pZ hr (by decide) (by rfl) (aB aC (aB aF (aB aC (aB aC aH))))) aH)))) (aG (lG (PW.pt (O7 (TJ (vH (aAm .tuple aC (by rfl) B.isi oK (by rfl) B.tuple d8))) (zH (cV (G9 hu) (bG (cW hK) (by rfl) B.len cX (aB aC aH)) (bG (cW hK) (by rfl) B.len cX (aB aC aH)) (cT _))))) (aX (fQ G7)) eG) (aG (HD rfl PassesOwn.never rfl rfl (by trivial) (j8 rfl) (bI sc.nd rfl (by trivial)) (aX (lG (TJ (vH (aAm .str aC (by rfl) B.isi oK (by rfl) B.str aG7))) (aX (fQ G7)) eG))) (aX (fQ (KC (rE hu) aC aC (cT _))))))))))
end
def AtN(K:Frag)(n:Str)(st:Stmt):Prop:=∃(f:Addr)(fd:FuncData),nsIn K mainGlobals n=some (some (.ref f))/\Fun K n n st f fd
theorem aIs{oc kV dc pm cd ct:Value}{od an:Option Addr}{sl:Array (Option Value)}(a:nsIn K mainGlobals n=some (some (.ref f)))(l:K.lookup f=some ⟨oc,od,.func (fnOf n n (jZ st) (fU st) (aQ st) .none kV dc pm an cd ct),sl⟩)(c:codeIn K cd n=true)(k:keepIn K (.ref f)=true):AtN K n st:=⟨f,_,a,aAd (st:=st) l c k⟩
theorem aGw{l:OpenLaw}{w:World}{K:Frag}{h:Heap}{mg:Str->Option Value}{fa:Addr}(X:K.In h)(G:h.Ns mainGlobals mg)(hfa:mg "law"=some (.ref fa))(a0:AtN K "_law_draw" nM)(a1:AtN K "_law_word" nO)(a2:AtN K "_law_makers" iC)(a3:AtN K "_law_takers" iG)
 {f4 T4:Addr}{oc4 kV4 dc4 pm4 cd4 ct4 tc4:Value}{od4 an4 td4:Option Addr}{sl4 tl4:Array (Option Value)}{tk4:Tok}{tn4:Nat}(a4:nsIn K mainGlobals "_law_words"=some (some (.ref f4)))(l4:K.lookup f4=some ⟨oc4,od4,.func (fnOf "_law_words" "_law_words" (jZ b8) (fU b8) (aQ b8) (.ref T4) kV4 dc4 pm4 an4 cd4 ct4),sl4⟩)(c4:codeIn K cd4 "_law_words"=true)(k4:keepIn K (.ref f4)=true)(t4:K.lookup T4=some ⟨tc4,td4,.seq #[.int 0 tk4] tn4,tl4⟩)(a5:AtN K "_law_rules" jM)(a6:AtN K "_law_program" gC)(a7:AtN K "mates_of" qK)(a8:AtN K "words_along" fL)(a9:AtN K "heads_of" qL)(a10:AtN K "head_of" t6)(a11:AtN K "walk_words" lZ)(a12:AtN K "rim_among" j_)(a13:AtN K "ends_of" t7)(a14:AtN K "rim" aD4)(a15:AtN K "unwoven" t8)(a16:AtN K "_law_stock" l_)(a17:AtN K "_law_laid" jC)
 {f18:Addr}{oc18 kV18 dc18 pm18 cd18 ct18:Value}{od18 an18:Option Addr}{sl18:Array (Option Value)}(a18:nsIn K mainGlobals "law"=some (some (.ref f18)))(l18:K.lookup f18=some ⟨oc18,od18,.func (fnOf "law" "law" (jZ xV) (fU xV) (aQ xV) .none kV18 dc18 pm18 an18 cd18 ct18),sl18⟩)(c18:codeIn K cd18 "law"=true)(k18:keepIn K (.ref f18)=true)(p9:nsIn K mainGlobals "len"=some none)(pc:nsIn K mainGlobals "min"=some none)(pf:nsIn K mainGlobals "max"=some none)(ph:nsIn K mainGlobals "list"=some none)(pi:nsIn K mainGlobals "tuple"=some none)(pj:nsIn K mainGlobals "sorted"=some none)(pk:nsIn K mainGlobals "range"=some none)(po:nsIn K mainGlobals "isinstance"=some none)(pq:nsIn K mainGlobals "int"=some none)(pz:nsIn K mainGlobals "bool"=some none)(pA:nsIn K mainGlobals "str"=some none)(pB:nsIn K mainGlobals "dict"=some none)(pC:nsIn K mainGlobals "all"=some none)(pD:nsIn K mainGlobals "enumerate"=some none)(pE:nsIn K mainGlobals "sum"=some none)(pF:nsIn K mainGlobals "zip"=some none)(pG:nsIn K mainGlobals "abs"=some none)(pH:nsIn K mainGlobals "reversed"=some none) :
  ∃fd:FuncData,(∀(s:Shared)(v:Value),BindsTo s fd ⟨[v],[]⟩ [("script",v)])/\∀base:Heap,K.In base->base.Ns mainGlobals mg->DX l.prog w K mg base CX0 5 fa fd ["script"] (@spD ⟨K⟩ QB 1):=by
 have e:=hfa.symm.trans (mg_of X G a18);cases e
 letI:KFrag:=⟨K⟩
 have Y:=λ{n:Str}{v:Value}=>mg_of (n:=n) (v:=v) X G
 have Z:=λ{n:Str}=>mg_none_of (n:=n) X G
 obtain⟨f0,_,a0,F0⟩:=a0;obtain⟨f1,_,a1,F1⟩:=a1;obtain⟨f2,_,a2,F2⟩:=a2;obtain⟨f3,_,a3,F3⟩:=a3;obtain⟨f5,_,a5,F5⟩:=a5;obtain⟨f6,_,a6,F6⟩:=a6;obtain⟨f7,_,a7,F7⟩:=a7;obtain⟨f8,_,a8,F8⟩:=a8;obtain⟨f9,_,a9,F9⟩:=a9;obtain⟨f10,_,a10,F10⟩:=a10;obtain⟨f11,_,a11,F11⟩:=a11;obtain⟨f12,_,a12,F12⟩:=a12;obtain⟨f13,_,a13,F13⟩:=a13;obtain⟨f14,_,a14,F14⟩:=a14;obtain⟨f15,_,a15,F15⟩:=a15;obtain⟨f16,_,a16,F16⟩:=a16;obtain⟨f17,_,a17,F17⟩:=a17;have B:Bt mg:=⟨Z p9,Z pc,Z pf,Z ph,Z pi,Z pj,Z pk,Z po,Z pq,Z pz,Z pA,Z pB,Z pC,Z pD,Z pE,Z pF,Z pG,Z pH⟩
 refine⟨fnOf "law" "law" (jZ xV) (fU xV) (aQ xV) .none kV18 dc18 pm18 an18 cd18 ct18,λs v=>.of_eq rfl,λbase _ _=>?_⟩;have p6:=x_ (P:=l.prog) (w:=w) (base:=base) rfl B  F0 (Y a0);have p7:=yC (P:=l.prog) (w:=w) (base:=base) rfl B p6 F1 (Y a1);have qb:=uE (P:=l.prog) (w:=w) (base:=base) rfl B p6 p7 F2 (Y a2);have qc:=uF (P:=l.prog) (w:=w) (base:=base) rfl B p6 p7 F3 (Y a3);have F4:aIg K "_law_words" "_law_words" b8 f4 _ T4 #[.int 0 tk4]:=⟨⟨_,_,_,_,_,_,_,_,_,rfl,l4,c4⟩,k4,⟨_,_,_,_,t4⟩⟩
 have pI:aEa l.prog w K mg base 2 "_law_words" "least" 6 (.int 0) cP:=⟨⟨f4,_,["script","at","book","known","kind","most","least"],.int 0 tk4,.int 0,uW rfl B p6 F4,Y a4,k4,(λs us X' hl=>match us,(show us.length=7 by simpa using hl) with|[_,_,_,_,_,_,_],_=>BindsTo.of_defaults rfl (X' _ _ t4) rfl rfl rfl),(λs us X' hl=>match us,(show us.length=6 by simpa using hl) with|[_,_,_,_,_,_],_=>BindsTo.of_defaults rfl (X' _ _ t4) rfl rfl rfl),⟨_,rfl⟩,λ_=>.int 0,λs us y X' hl=>match us,hl with|[_,_,_,_,_,_],_=>by first|exact .of_eq rfl|exact .of_eq (by with_unfolding_all rfl)|exact BindsTo.of_defaults rfl (X' _ _ t4) rfl rfl rfl|exact BindsTo.of_defaults rfl (X' _ _ t4) rfl (by with_unfolding_all rfl) (by with_unfolding_all rfl)⟩⟩
 have qd:=uX (P:=l.prog) (w:=w) (base:=base) rfl B p6 p7 pI F5 (Y a5);have qe:=rG (P:=l.prog) (w:=w) (base:=base) rfl B p6 qc qb p7 qd F6 (Y a6);have qf:=B_ (P:=l.prog) (w:=w) (base:=base) rfl B  F7 (Y a7);have qg:=uG (P:=l.prog) (w:=w) (base:=base) rfl B qf F8 (Y a8);have qh:=CG (P:=l.prog) (w:=w) (base:=base) rfl B  F9 (Y a9);have qi:=JB (P:=l.prog) (w:=w) (base:=base) rfl B  F10 (Y a10);have qj:=uY (P:=l.prog) (w:=w) (base:=base) rfl B qi F11 (Y a11);have qk:=yD (P:=l.prog) (w:=w) (base:=base) rfl B  F12 (Y a12);have ql:=JC (P:=l.prog) (w:=w) (base:=base) rfl B  F13 (Y a13);have qm:=aD5 (P:=l.prog) (w:=w) (base:=base) rfl B ql qk F14 (Y a14);have qo:=JD (P:=l.prog) (w:=w) (base:=base) rfl B qm qg qh qj F15 (Y a15);have qp:=uZ (P:=l.prog) (w:=w) (base:=base) rfl B  F16 (Y a16);have qr:=yE (P:=l.prog) (w:=w) (base:=base) rfl B qp p6 F17 (Y a17);exact aGv rfl B qe p6 pI qr qo (aAd (st:=xV) l18 c18 k18)
theorem walk{l:OpenLaw}{XP:(Str->Option Value)->Heap->Prop}{YP:World->Heap->Prop}{d:DefRec}{K:Params->Frag}(main:∀ns:List Int,ns.length<=63->QB [.scr (ns.map D.int)]=.ok (.bl true))(hn:l.most=some 63)(hdf:d.params.defaults=[])
 (hY:∀(w:World) (h:Heap),YP w h->(K w.params).In h)
 (F:∀(w:World) (mg:Str->Option Value) (fa:Addr) (h:Heap),(K w.params).In h->h.Ns mainGlobals mg->mg d.name=some (.ref fa)->
   ∃fd:FuncData,(∀(s:Shared) (u:Value),BindsTo s fd ⟨[u],[]⟩ [("script",u)])/\∀base:Heap,(K w.params).In base->base.Ns mainGlobals mg->DX l.prog w (K w.params) mg base CX0 5 fa fd ["script"] (@spD ⟨K w.params⟩ QB 1)) :
  WalkO q loose XP YP l.row.toRowW d [] (λf vs=>PySem.call f vs):=
 L2.aBl (n:=63) (k:=5) (x:= "script") (CX:=λ_=>CX0) (sp:=λw=>@spD ⟨K w.params⟩ QB 1) hn (by decide) hdf ⟨rfl,by decide,by decide⟩ hY F (λw H a ns hl hO hS=>UV main hl hO hS) λ_ _ _ _ _ z=>z
end Lk65
end
namespace Lk65
open PySem L2 Mi
theorem call_v(h:f (ds++List.replicate (m-n) D.uD)=.ok (.rt d)):fnS n m f ds=.ok d:=by
 unfold fnS;rw[h];rfl
theorem aAv(h:f ρ=.ok (.rt d)):bF f g ρ=.ok (.rt d):=by
 unfold bF;rw[h];rfl
theorem aIt(a b:Int):j9 (.int a) (.int b)=aW .mul (.int a) (.int b):=rfl
theorem WD(a:Int)(h1:0<=a)(h2:a<4294967296):jR a=true:=by
 simp only[jR,Bool.and_eq_true,decide_eq_true_eq];lia
theorem aIu(n:Nat):max2 [.int 1,.int n]=.ok (.int (if (1:Int)<n then n else 1)):=by
 rfl
def drw(ns:List Int)(k:Int):Int:=match aJ [.scr (ns.map D.int),.int k] with
 |.ok (.int r)=>r
 |_=>0
theorem aD6(ns:List Int)(hn:ns.length<=63)(k:Int):∃r:Int,aJ [.scr (ns.map D.int),.int k]=.ok (.int r)/\0<=r/\r<2147483629:=by
 have hl:dJ [.scr (ns.map D.int)]=.ok (.int ns.length):=by
  show Res.ok (D.int ((ns.map D.int).length:Int))=_;rw[List.length_map]
 have rest:∀cell:Int,∃r:Int,(bF (bN false 3 (b2 (aW .mod) (b2 j9 (b2 (aW .add) (b2 (aW .add) eO dI) (b2 j9 sZ (b2 (aW .fdiv) dW (aL max2 (aA dI (aA (aL dJ (aA cA aM)) aM)))))) wG) g_) true) (nR (b2 (aW .mod) (b2 j9 cM cM) j7) true)) [.scr (ns.map D.int),.int k,.int cell,.uD]=.ok (.rt (.int r))/\0<=r/\r<2147483629:=by
  intro cell;have hmx:=aIu ns.length;have hm:(0:Int)<(if (1:Int)<ns.length then (ns.length:Int) else 1)/\(if (1:Int)<ns.length then (ns.length:Int) else 1)<1073741824:=by split<;>lia
  generalize (if (1:Int)<ns.length then (ns.length:Int) else 1)=m at hmx hm;have f1:=fD k m hm.1 hm.2;have f2:=qH 104729 (k / m) (by decide);have f3:=cZ cell 1;have f4:=cZ (cell+1) (104729*(k / m));have f5:=U3 (cell+1+104729*(k / m)) 48271 (by decide);have f6:=cD ((cell+1+104729*(k / m))*48271) 2147483647 (by decide);have x0:0<=(cell+1+104729*(k / m))*48271 % 2147483647:=Int.emod_nonneg _ (by decide);have x1:(cell+1+104729*(k / m))*48271 % 2147483647<2147483647:=Int.emod_lt_of_pos _ (by decide);generalize (cell+1+104729*(k / m))*48271 % 2147483647=x at f6 x0 x1;have f7:=U3 x x (WD x x0 (by lia));have f8:=cD (x*x) 2147483629 (by decide);refine⟨x*x % 2147483629,?_,Int.emod_nonneg _ (by decide),Int.emod_lt_of_pos _ (by decide)⟩;refine aP (ρ':=[.scr (ns.map D.int),.int k,.int cell,.int x]) (bZ (i:=3) (aK (x:=.int ((cell+1+104729*(k / m))*48271)) (aK (x:=.int (cell+1+104729*(k / m))) (y:=.int 48271) (aK (x:=.int (cell+1)) (y:=.int (104729*(k / m))) (aK (x:=.int cell) rfl rfl f3) (aK (x:=.int 104729) (y:=.int (k / m)) rfl (aK (x:=.int k) (y:=.int m) rfl (aR (xs:=[.int 1,.int ns.length]) (aD rfl (aD (aR (aD rfl rfl) hl) rfl)) hmx) f1) f2) f4) rfl f5) rfl f6)) ?_;exact iZ (d:=.int (x*x % 2147483629)) (aK (x:=.int (x*x)) (aK (x:=.int x) (y:=.int x) rfl rfl f7) rfl f8) rfl
 have fin:∀cell:Int,tZ [.scr (ns.map D.int),.int k,.uD,.uD]=(bF (bN false 3 (b2 (aW .mod) (b2 j9 (b2 (aW .add) (b2 (aW .add) eO dI) (b2 j9 sZ (b2 (aW .fdiv) dW (aL max2 (aA dI (aA (aL dJ (aA cA aM)) aM)))))) wG) g_) true) (nR (b2 (aW .mod) (b2 j9 cM cM) j7) true)) [.scr (ns.map D.int),.int k,.int cell,.uD]->∃r:Int,aJ [.scr (ns.map D.int),.int k]=.ok (.int r)/\0<=r/\r<2147483629:=λcell e=>by
  obtain⟨r,h1,h2⟩:=rest cell;exact⟨r,call_v (e.trans h1),h2⟩
 by_cases h0:(ns.length:Int) > 0
 ·have hc:mR .gt (.int ns.length) (.int 0)=.ok (.bl true):=by
   show Res.ok (D.bl (decide (0<(ns.length:Int))))=_;rw[decide_eq_true h0]
  have m1:=cD k ns.length h0;have i0:0<=k % (ns.length:Int):=Int.emod_nonneg _ (by lia);have i1:k % (ns.length:Int)<ns.length:=Int.emod_lt_of_pos _ h0;generalize k % (ns.length:Int)=i at m1 i0 i1;have hlt:i.toNat<(ns.map D.int).length:=by rw[List.length_map];lia
  have hg:getD (.scr (ns.map D.int)) (.int i)=.ok (.int (ns[i.toNat]'(by lia))):=by
   show Res.ofOpt ((ixD (ns.map D.int).length i).bind λj=>(ns.map D.int)[j]?)=_;unfold ixD;rw[if_pos i0,if_pos (by rw[List.length_map];exact i1)];simp only[Option.bind_some];rw[List.getElem?_eq_getElem hlt,List.getElem_map];rfl
  have m2:=cD (ns[i.toNat]'(by lia)) 2147483647 (by decide);refine fin _ (aP (ρ':=[.scr (ns.map D.int),.int k,.int 0,.uD]) (bZ (i:=2) rfl) (aP (XH (eZ (aK (x:=.int ns.length) (aR (xs:=[.scr (ns.map D.int)]) (aD rfl rfl) hl) rfl hc)) (bZ (i:=2) (aK (x:=.int (ns[i.toNat]'(by lia))) (aK (x:=.scr (ns.map D.int)) (y:=.int i) rfl (aK (x:=.int k) (y:=.int ns.length) rfl (aR (xs:=[.scr (ns.map D.int)]) (aD rfl rfl) hl) m1) hg) rfl m2))) rfl))
 ·have hc:mR .gt (.int ns.length) (.int 0)=.ok (.bl false):=by
   show Res.ok (D.bl (decide (0<(ns.length:Int))))=_;rw[decide_eq_false h0]
  exact fin 0 (aP (ρ':=[.scr (ns.map D.int),.int k,.int 0,.uD]) (bZ (i:=2) rfl) (aP (ρ':=[.scr (ns.map D.int),.int k,.int 0,.uD]) (uO (eZ (aK (x:=.int ns.length) (aR (xs:=[.scr (ns.map D.int)]) (aD rfl rfl) hl) rfl hc)) rfl) rfl))
theorem mC(hn:ns.length<=63)(k:Int):bW 2 aJ [.scr (ns.map D.int),.int k]=.ok (.int (drw ns k))/\0<=drw ns k/\drw ns k<2147483629:=by
 obtain⟨r,h1,h2⟩:=aD6 ns hn k;have e:drw ns k=r:=by
  unfold drw;rw[h1]
 rw[e];exact⟨(dR rfl).trans h1,h2⟩
noncomputable def abc:Str:= "abcdefghijklmnopqrstuvwxyz"
theorem WF(x:Str)(n:Nat)(hx:x.cps.toList.length=n)(hl:x.length<=lim)(i:Int)(h0:0<=i)(h1:i<n):getD (.str x) (.int i)=.ok (.str ⟨#[x.cps.toList.getD i.toNat 0]⟩):=by
 have hix:ixD x.cps.toList.length i=some i.toNat:=by
  unfold ixD;rw[if_pos h0,hx,if_pos (by lia)]
 have hlt:i.toNat<x.cps.toList.length:=by rw[hx];lia
 show(if decide (x.length<=lim) then Res.ofOpt (((ixD x.cps.toList.length i).bind λj=>x.cps.toList[j]?).map λc=>D.str ⟨#[c]⟩) else .bad)=_;rw[decide_eq_true hl,if_pos rfl,hix];simp only[Option.bind_some];rw[List.getD_eq_getElem?_getD,List.getElem?_eq_getElem hlt];rfl
theorem WK(i:Int)(h0:0<=i)(h1:i<26):getD (.str abc) (.int i)=.ok (.str ⟨#[abc.cps.toList.getD i.toNat 0]⟩):=WF abc 26 (by decide +kernel) (by decide +kernel) i h0 h1
theorem aD7(i:Int)(h0:0<=i)(h1:i<4):getD (.str "abdz") (.int i)=.ok (.str ⟨#[("abdz" : Str).cps.toList.getD i.toNat 0]⟩):=WF "abdz" 4 (by decide +kernel) (by decide +kernel) i h0 h1
noncomputable def one(c:Nat):Str:=⟨#[c]⟩
theorem CJ(c:Nat)(n:Nat):(Txt.mul (one c) (n:Int)).cps.toList=List.replicate n c:=by
 unfold Txt.mul;by_cases h:(n:Int)<1
 ·have:n=0:=by lia
  subst this;rw[if_pos h];rfl
 ·rw[if_neg h];by_cases h1:n=1
  ·subst h1;rfl
  ·rw[if_neg]
   ·have:∀(m:Nat)(acc:Array Nat),((List.replicate m (one c).cps).foldl (·++·) acc).toList=acc.toList++List.replicate m c:=by
     intro m;induction m with
     |zero=>intro acc;simp
     |succ m ih=>
      intro acc;rw[List.replicate_succ,List.foldl_cons,ih,List.replicate_succ];simp[one]
    have:=this n #[];simpa using this
   ·have:(one c).length=1:=rfl;rw[this];simp;lia
theorem K9(h1:p≠q)(h2:p≠r)(h3:p≠t)(h4:q≠r)(h5:q≠t)(h6:r≠t):List.replicate a c++d::List.replicate b c≠[p,q,r,t]:=by
 intro h;have hl:=congrArg List.length h;simp at hl;have:(a=0/\b=3)\/(a=1/\b=2)\/(a=2/\b=1)\/(a=3/\b=0):=by lia
 rcases this with ⟨rfl,rfl⟩|⟨rfl,rfl⟩|⟨rfl,rfl⟩|⟨rfl,rfl⟩<;>(simp[List.replicate] at h;lia)
theorem K_(h1:p≠q)(h2:p≠r)(h4:q≠r):List.replicate a c++d::List.replicate b c≠[p,q,r,t,u]\/(p=t\/q=t\/r=t):=by
 by_cases z:p=t\/q=t\/r=t
 ·exact .inr z
 refine .inl λh=>?_
 have hl:=congrArg List.length h;simp at hl;have:(a=0/\b=4)\/(a=1/\b=3)\/(a=2/\b=2)\/(a=3/\b=1)\/(a=4/\b=0):=by lia
 rcases this with ⟨rfl,rfl⟩|⟨rfl,rfl⟩|⟨rfl,rfl⟩|⟨rfl,rfl⟩|⟨rfl,rfl⟩<;>(simp[List.replicate] at h;lia)
theorem ZW:∀k,k<26->abc.cps.toList.getD k 0=97+k:=by decide +kernel
theorem uH:(2:Nat)<=lim:=by rw[eY];lia
theorem aIv:(3:Nat)<=lim:=by rw[eY];lia
theorem jD(h:a ρ=.ok xs)(hl:xs.length<=lim):nQ a ρ=.ok (.lst xs):=by
 unfold nQ;rw[h,Res.bB,if_pos (decide_eq_true hl)];rfl
theorem uI(h:a ρ=.ok xs)(hl:xs.length<=lim)(hp:D.bA xs=true):nJ a ρ=.ok (.lst xs):=by
 unfold nJ;rw[h,Res.bB,if_pos (by rw[decide_eq_true hl,hp];rfl)];rfl
theorem uJ(a b:D)(i:Int)(h0:0<=i)(h1:i<2):getD (.lst [a,b]) (.int i)=.ok (if i=0 then a else b):=by
 have:i=0\/i=1:=by lia
 rcases this with rfl|rfl
 ·rfl
 ·rfl
theorem aJ8(c:Nat)(n:Int)(h0:0<=n)(h1:n<=100):j9 (.str (one c)) (.int n)=.ok (.str (Txt.mul (one c) n)):=by
 show(if decide (0<=n)&&decide (n<=100000)&&decide ((one c).length*n.toNat<=lim) then Res.ok (D.str (Txt.mul (one c) n)) else .bad)=_;rw[if_pos];have:(one c).length=1:=rfl;rw[this,decide_eq_true h0,decide_eq_true (by lia),decide_eq_true (by rw[eY];lia)];rfl
theorem uK(a b:Str):(a++b).cps.toList=a.cps.toList++b.cps.toList:=by
 show(a.cps++b.cps).toList=_;exact Array.toList_append
theorem yF(a:Str):a.length=a.cps.toList.length:=by
 show a.cps.size=_;rw[Array.length_toList]
def wrd(ns:List Int)(i:Int):Str:=match aN [.scr (ns.map D.int),.int i] with
 |.ok (.str x)=>x
 |_=>""
def Good(x:Str):Prop:=x ≠ "copy"/\x ≠ "drop"/\x.length<=100
theorem mV:("copy" : Str).cps.toList=[99,111,112,121]:=by decide +kernel
theorem mW:("drop" : Str).cps.toList=[100,114,111,112]:=by decide +kernel
theorem five(x:Str)(h:x.cps.toList.length=5):Good x:=by
 refine⟨λz=>?_,λz=>?_,by rw[yF,h];lia⟩
 ·rw[z,mV] at h;cases h
 ·rw[z,mW] at h;cases h
def QG(ns:List Int):Nat:=if drw ns 0 / 104 % 2=0 then abc.cps.toList.getD (drw ns 0 % 26).toNat 0 else ("abdz" : Str).cps.toList.getD (drw ns 0 / 26 % 4).toNat 0
def Sh(ns:List Int)(i:Int)(x:Str):Prop:=(i=4/\∃c,x.cps.toList=[100,114,111,112,c])\/(i=17/\∃c,x.cps.toList=[99,111,112,121,c])\/∃t,x.cps.toList=List.replicate (drw ns 1 % 8).toNat (QG ns)++(97+((i+drw ns 3) % 26).toNat)::List.replicate t (QG ns)
theorem aD8(hn:ns.length<=63)(i:Int)(hi0:0<=i)(hi1:i<=33):∃x:Str,aN [.scr (ns.map D.int),.int i]=.ok (.str x)/\Good x/\Sh ns i x:=by
 -- a draw,put down as an argument
 have dr:∀{ρ:List D}{f:FE}{k:Int},fV 0 ρ=.ok (.scr (ns.map D.int))->f ρ=.ok (.int k)->aL (bW 2 aJ) (aA cA (aA f aM)) ρ=.ok (.int (drw ns k)):=λh1 h2=>aR (aD h1 (aD h2 rfl)) (mC hn _).1
 have d0:=λk=>(mC hn k).2.1
 have d1:=λk=>(mC hn k).2.2
 have hin:inX (.int i) (.tup [.int 4,.int 17])=.ok (.bl ((4==i)||((17==i)||false))):=rfl;have ht:cU (aA p_ (aA wH aM)) [.scr (ns.map D.int),.int i,.str abc,.uD,.uD,.uD,.uD]=.ok (.tup [.int 4,.int 17]):=cY (xs:=[.int 4,.int 17]) (aD rfl (aD rfl rfl)) uH;have m5:=cD (drw ns 36) 5 (by decide);have ce:d9 .eq (.int (drw ns 36 % 5)) (.int 1)=.ok (.bl (drw ns 36 % 5==1)):=rfl;by_cases hs:(i=4\/i=17)/\drw ns 36 % 5=1
 ·-- drop or copy and a letter
  have b1:((4==i)||((17==i)||false))=true:=by
   rcases hs.1 with h|h<;>simp[h]
  rw[b1] at hin;rw[show(drw ns 36 % 5==1)=true by simpa using hs.2] at ce;have f17:=fD i 17 (by decide) (by decide);have q0:0<=i / 17/\i / 17<2:=by rcases hs.1 with h|h<;>(rw[h];decide)
  have g1:=uJ (.str "drop") (.str "copy") (i / 17) q0.1 q0.2;have m26:=cD (drw ns 37) 26 (by decide);have g2:=WK (drw ns 37 % 26) (Int.emod_nonneg _ (by decide)) (Int.emod_lt_of_pos _ (by decide));generalize abc.cps.toList.getD (drw ns 37 % 26).toNat 0=c at g2;obtain⟨w,hw,sw,g1'⟩:∃w:Str,w.cps.toList.length=4/\((i=4/\w.cps.toList=[100,114,111,112])\/(i=17/\w.cps.toList=[99,111,112,121]))/\getD (.lst [.str "drop",.str "copy"]) (.int (i / 17))=.ok (.str w):=by
   rcases hs.1 with z|z
   ·rw[if_pos (by rw[z];rfl)] at g1;exact⟨"drop",by rw[mW];rfl,.inl ⟨z,mW⟩,g1⟩
   ·rw[if_neg (by rw[z];decide)] at g1;exact⟨"copy",by rw[mV];rfl,.inr ⟨z,mV⟩,g1⟩
  have g2:getD (.str abc) (.int (drw ns 37 % 26))=.ok (.str (one c)):=g2;have g3:=sV w (one c) (by rw[yF,hw,eY];show 4+1<=1000000;lia);refine⟨w++(one c),call_v ?_,five _ (by rw[uK,List.length_append,hw];rfl),?_⟩
  rotate_left
  ·rcases sw with ⟨z,e⟩|⟨z,e⟩
   ·exact .inl ⟨z,c,by rw[uK,e];rfl⟩
   ·exact .inr (.inl ⟨z,c,by rw[uK,e];rfl⟩)
  refine aP (ρ':=[.scr (ns.map D.int),.int i,.str abc,.uD,.uD,.uD,.uD]) (bZ (i:=2) rfl) ?_;refine aAv (XH (U0 (eZ (aK (x:=.int i) rfl ht hin)) (eZ (aK (x:=.int (drw ns 36 % 5)) (aK (x:=.int (drw ns 36)) (dr rfl rfl) rfl m5) rfl ce))) ?_);show nR (b2 (aW .add) (b2 getD (nQ (aA (bC (.str "drop")) (aA (bC (.str "copy")) aM))) (b2 (aW .fdiv) dW wH)) (b2 getD eO (b2 (aW .mod) (aL (bW 2 aJ) (aA cA (aA aBs aM))) wI))) true [.scr (ns.map D.int),.int i,.str abc,.uD,.uD,.uD,.uD]=.ok (.rt (.str (w++(one c))));exact iZ (k:=true) (d:=.str (w++(one c))) (aK (x:=.str w) (y:=.str (one c)) (aK (x:=.lst [.str "drop",.str "copy"]) (y:=.int (i / 17)) (jD (xs:=[.str "drop",.str "copy"]) (aD rfl (aD rfl rfl)) uH) (aK (x:=.int i) rfl rfl f17) g1') (aK (x:=.str abc) (y:=.int (drw ns 37 % 26)) rfl (aK (x:=.int (drw ns 37)) (dr rfl rfl) rfl m26) g2) g3) rfl
 ·-- a word of one sign but one
  have hif:(sIf (QM (bTB (b2 inX dW (cU (aA p_ (aA wH aM))))) (bTB (b2 (d9 .eq) (b2 (aW .mod) (aL (bW 2 aJ) (aA cA (aA (bC (.int 36)) aM))) R5) dI))) (nR (b2 (aW .add) (b2 getD (nQ (aA (bC (.str "drop")) (aA (bC (.str "copy")) aM))) (b2 (aW .fdiv) dW wH)) (b2 getD eO (b2 (aW .mod) (aL (bW 2 aJ) (aA cA (aA aBs aM))) wI))) true) o6) [.scr (ns.map D.int),.int i,.str abc,.uD,.uD,.uD,.uD]=.ok (.nx [.scr (ns.map D.int),.int i,.str abc,.uD,.uD,.uD,.uD]):=by
   by_cases h1:i=4\/i=17
   ·have b1:((4==i)||((17==i)||false))=true:=by rcases h1 with h|h<;>simp[h]
    have h2:¬drw ns 36 % 5=1:=λz=>hs ⟨h1,z⟩
    rw[b1] at hin;rw[show(drw ns 36 % 5==1)=false by simpa using h2] at ce;exact uO (U0 (eZ (aK (x:=.int i) rfl ht hin)) (eZ (aK (x:=.int (drw ns 36 % 5)) (aK (x:=.int (drw ns 36)) (dr rfl rfl) rfl m5) rfl ce))) rfl
   ·have b1:((4==i)||((17==i)||false))=false:=by
     rw[not_or] at h1;simp only[Bool.or_false,Bool.or_eq_false_iff,beq_eq_false_iff_ne,ne_eq];lia
    rw[b1] at hin;exact uO (aCg (eZ (aK (x:=.int i) rfl ht hin))) rfl
  have a26:=cD (drw ns 0) 26 (by decide);have b26:=fD (drw ns 0) 26 (by decide) (by decide);have b4:=cD (drw ns 0 / 26) 4 (by decide);have c104:=fD (drw ns 0) 104 (by decide) (by decide);have c2:=cD (drw ns 0 / 104) 2 (by decide);have g1:=WK (drw ns 0 % 26) (Int.emod_nonneg _ (by decide)) (Int.emod_lt_of_pos _ (by decide));have g2:=aD7 (drw ns 0 / 26 % 4) (Int.emod_nonneg _ (by decide)) (Int.emod_lt_of_pos _ (by decide));have hpd:QG ns=if drw ns 0 / 104 % 2=0 then abc.cps.toList.getD (drw ns 0 % 26).toNat 0 else ("abdz" : Str).cps.toList.getD (drw ns 0 / 26 % 4).toNat 0:=rfl
  generalize abc.cps.toList.getD (drw ns 0 % 26).toNat 0=p1 at g1 hpd;generalize ("abdz" : Str).cps.toList.getD (drw ns 0 / 26 % 4).toNat 0=p2 at g2 hpd;have g3:getD (.lst [.str ⟨#[p1]⟩,.str ⟨#[p2]⟩]) (.int (drw ns 0 / 104 % 2))=.ok (.str (one (QG ns))):=by
   have:=uJ (.str ⟨#[p1]⟩) (.str ⟨#[p2]⟩) (drw ns 0 / 104 % 2) (Int.emod_nonneg _ (by decide)) (Int.emod_lt_of_pos _ (by decide));rw[this,hpd];by_cases z:drw ns 0 / 104 % 2=0
   ·rw[if_pos z,if_pos z];rfl
   ·rw[if_neg z,if_neg z];rfl
  have hsh:∀(x:Str)(t:Nat),x.cps.toList=List.replicate (drw ns 1 % 8).toNat (QG ns)++(97+((i+drw ns 3) % 26).toNat)::List.replicate t (QG ns)->Sh ns i x:=λx t e=>.inr (.inr ⟨t,e⟩)
  generalize QG ns=pd at g3 hsh;have e8:=cD (drw ns 1) 8 (by decide);have pl0:0<=drw ns 1 % 8:=Int.emod_nonneg _ (by decide);have pl1:drw ns 1 % 8<8:=Int.emod_lt_of_pos _ (by decide);generalize hpl:drw ns 1 % 8=pl at e8 pl0 pl1 hsh;have s8:=aAp 8 pl;have t1:=cD (drw ns 2) (8-pl) (by lia);have t2:=cD (drw ns (4+i)) (8-pl) (by lia);have f8:=fD (drw ns 1) 8 (by decide) (by decide);have f2:=cD (drw ns 1 / 8) 2 (by decide);have ce2:d9 .eq (.int (drw ns 1 / 8 % 2)) (.int 1)=.ok (.bl (drw ns 1 / 8 % 2==1)):=rfl;have l1:=cZ i (drw ns 3);have l2:=cD (i+drw ns 3) 26 (by decide);have k0:0<=(i+drw ns 3) % 26:=Int.emod_nonneg _ (by decide);have k1:(i+drw ns 3) % 26<26:=Int.emod_lt_of_pos _ (by decide);have g4:=WK ((i+drw ns 3) % 26) k0 k1;rw[ZW _ (by lia)] at g4;generalize 97+((i+drw ns 3) % 26).toNat=c at g4 hsh
  -- the tail
  obtain⟨tl,tl0,tl1,htl⟩:∃tl:Int,0<=tl/\tl<8/\(bF (bN false 6 (b2 (aW .mod) (aL (bW 2 aJ) (aA cA (aA jK aM))) (b2 (aW .sub) XF kZ)) true) (sIf (bTB (b2 (d9 .eq) (b2 (aW .mod) (b2 (aW .fdiv) (aL (bW 2 aJ) (aA cA (aA dI aM))) XF) jK) dI)) (bN false 6 (b2 (aW .mod) (aL (bW 2 aJ) (aA cA (aA (b2 (aW .add) p_ dW) aM))) (b2 (aW .sub) XF kZ)) true) o6)) [.scr (ns.map D.int),.int i,.str abc,.int (drw ns 0),.str (one pd),.int pl,.uD]=.ok (.nx [.scr (ns.map D.int),.int i,.str abc,.int (drw ns 0),.str (one pd),.int pl,.int tl]):=by
   have first:(bN false 6 (b2 (aW .mod) (aL (bW 2 aJ) (aA cA (aA jK aM))) (b2 (aW .sub) XF kZ)) true) [.scr (ns.map D.int),.int i,.str abc,.int (drw ns 0),.str (one pd),.int pl,.uD]=.ok (.nx [.scr (ns.map D.int),.int i,.str abc,.int (drw ns 0),.str (one pd),.int pl,.int (drw ns 2 % (8-pl))]):=bZ (i:=6) (aK (x:=.int (drw ns 2)) (y:=.int (8-pl)) (dr rfl rfl) (aK (x:=.int 8) (y:=.int pl) rfl rfl s8) t1)
   have tst:bTB (b2 (d9 .eq) (b2 (aW .mod) (b2 (aW .fdiv) (aL (bW 2 aJ) (aA cA (aA dI aM))) XF) jK) dI) [.scr (ns.map D.int),.int i,.str abc,.int (drw ns 0),.str (one pd),.int pl,.int (drw ns 2 % (8-pl))]=.ok (drw ns 1 / 8 % 2==1):=eZ (aK (x:=.int (drw ns 1 / 8 % 2)) (aK (x:=.int (drw ns 1 / 8)) (aK (x:=.int (drw ns 1)) (dr rfl rfl) rfl f8) rfl f2) rfl ce2);have u0:0<=drw ns 2 % (8-pl):=Int.emod_nonneg _ (by lia);have u1:drw ns 2 % (8-pl)<8-pl:=Int.emod_lt_of_pos _ (by lia);have v0:0<=drw ns (4+i) % (8-pl):=Int.emod_nonneg _ (by lia);have v1:drw ns (4+i) % (8-pl)<8-pl:=Int.emod_lt_of_pos _ (by lia);cases hb:(drw ns 1 / 8 % 2==1) with
   |true=>
    rw[hb] at tst;exact⟨_,v0,by lia,aP first (XH tst (bZ (i:=6) (aK (x:=.int (drw ns (4+i))) (y:=.int (8-pl)) (dr rfl (aK (x:=.int 4) (y:=.int i) rfl rfl (cZ 4 i))) (aK (x:=.int 8) (y:=.int pl) rfl rfl s8) t2)))⟩
   |false=>
    rw[hb] at tst;exact⟨_,u0,by lia,aP first (uO tst rfl)⟩
  have mp:=aJ8 pd pl pl0 (by lia);have mt:=aJ8 pd tl tl0 (by lia);have cp:=CJ pd pl.toNat;have ct:=CJ pd tl.toNat;rw[show((pl.toNat:Nat):Int)=pl by lia] at cp;rw[show((tl.toNat:Nat):Int)=tl by lia] at ct;generalize Txt.mul (one pd) pl=xp at mp cp;generalize Txt.mul (one pd) tl=xt at mt ct;have lp:xp.length<=8:=by rw[yF,cp,List.length_replicate];lia
  have lt:xt.length<=8:=by rw[yF,ct,List.length_replicate];lia
  have a1:=sV xp ⟨#[c]⟩ (by rw[eY];show xp.length+1<=1000000;lia);have l9:(xp++⟨#[c]⟩:Str).length=xp.length+1:=str_len xp ⟨#[c]⟩;have a2:=sV (xp++⟨#[c]⟩) xt (by rw[l9,eY];lia);have codes:(xp++⟨#[c]⟩++xt:Str).cps.toList=List.replicate pl.toNat pd++c::List.replicate tl.toNat pd:=by
   rw[uK,uK,cp,ct,List.append_assoc];rfl
  refine⟨xp++⟨#[c]⟩++xt,call_v ?_,⟨λz=>?_,λz=>?_,by rw[str_len,l9];lia⟩,hsh _ _ codes⟩
  ·refine aP (ρ':=[.scr (ns.map D.int),.int i,.str abc,.uD,.uD,.uD,.uD]) (bZ (i:=2) rfl) ?_;refine aP hif ?_;refine aP (ρ':=[.scr (ns.map D.int),.int i,.str abc,.int (drw ns 0),.uD,.uD,.uD]) (bZ (i:=3) (dr rfl rfl)) ?_;refine aP (ρ':=[.scr (ns.map D.int),.int i,.str abc,.int (drw ns 0),.str (one pd),.uD,.uD]) (iY (i:=4) (aK (x:=.lst [.str ⟨#[p1]⟩,.str ⟨#[p2]⟩]) (y:=.int (drw ns 0 / 104 % 2)) (jD (xs:=[.str ⟨#[p1]⟩,.str ⟨#[p2]⟩]) (aD (aK (x:=.str abc) (y:=.int (drw ns 0 % 26)) rfl (aK (x:=.int (drw ns 0)) rfl rfl a26) g1) (aD (aK (x:=.str "abdz") (y:=.int (drw ns 0 / 26 % 4)) rfl (aK (x:=.int (drw ns 0 / 26)) (aK (x:=.int (drw ns 0)) rfl rfl b26) rfl b4) g2) rfl)) uH) (aK (x:=.int (drw ns 0 / 104)) (aK (x:=.int (drw ns 0)) rfl rfl c104) rfl c2) g3) rfl) ?_;refine aP (ρ':=[.scr (ns.map D.int),.int i,.str abc,.int (drw ns 0),.str (one pd),.int pl,.uD]) (bZ (i:=5) (aK (x:=.int (drw ns 1)) (dr rfl rfl) rfl e8)) ?_;have split:∀{f g h:FS}{ρ ρ':List D}{r:Res Fl},bF f g ρ=.ok (.nx ρ')->h ρ'=r->bF f (bF g h) ρ=r:=by
    intro f g h ρ ρ' r e1 e2;unfold bF at e1 ⊢;cases hf:f ρ with
    |bad=>rw[hf] at e1;cases e1
    |err c as=>rw[hf] at e1;cases e1
    |ok fl=>
     rw[hf] at e1;cases fl with
     |nx ρ1=>
      simp only[Res.bB] at e1 ⊢;rw[e1];exact e2
     |rt d=>cases e1
     |bk d=>cases e1
     |ct d=>cases e1
   refine split htl ?_;exact iZ (d:=.str (xp++⟨#[c]⟩++xt)) (aK (x:=.str (xp++⟨#[c]⟩)) (y:=.str xt) (aK (x:=.str xp) (y:=.str ⟨#[c]⟩) (aK (x:=.str (one pd)) (y:=.int pl) rfl rfl mp) (aK (x:=.str abc) (y:=.int ((i+drw ns 3) % 26)) rfl (aK (x:=.int (i+drw ns 3)) (aK (x:=.int i) (y:=.int (drw ns 3)) rfl (dr rfl rfl) l1) rfl l2) g4) a1) (aK (x:=.str (one pd)) (y:=.int tl) rfl rfl mt) a2) rfl
  ·have:(xp++⟨#[c]⟩++xt:Str).cps.toList=_:=congrArg (λx:Str=>x.cps.toList) z;rw[codes,mV] at this;exact K9 (by decide) (by decide) (by decide) (by decide) (by decide) (by decide) this
  ·have:(xp++⟨#[c]⟩++xt:Str).cps.toList=_:=congrArg (λx:Str=>x.cps.toList) z;rw[codes,mW] at this;exact K9 (by decide) (by decide) (by decide) (by decide) (by decide) (by decide) this
theorem rQ(hn:ns.length<=63)(hi0:0<=i)(hi1:i<=33):bW 2 aN [.scr (ns.map D.int),.int i]=.ok (.str (wrd ns i))/\Good (wrd ns i)/\Sh ns i (wrd ns i):=by
 obtain⟨x,h1,h2⟩:=aD8 hn i hi0 hi1;have e:wrd ns i=x:=by
  unfold wrd;rw[h1]
 rw[e];exact⟨(dR rfl).trans h1,h2⟩
theorem nP(hn:ns.length<=63)(hi0:0<=i)(hi1:i<=33):bW 2 aN [.scr (ns.map D.int),.int i]=.ok (.str (wrd ns i))/\Good (wrd ns i):=⟨(rQ hn hi0 hi1).1,(rQ hn hi0 hi1).2.1⟩
theorem WL(hn:ns.length<=63)(hi0:0<=i)(hi1:i<=25)(hj0:0<=j)(hj1:j<=25)(h:wrd ns i=wrd ns j):i=j:=by
 have si:=(rQ hn hi0 (by lia)).2.2;have sj:=(rQ hn hj0 (by lia)).2.2;rw[h] at si;have bad:∀{a b:Nat}{e u:Nat},(List.replicate a (QG ns)++e::List.replicate b (QG ns)=[100,114,111,112,u]->False)/\(List.replicate a (QG ns)++e::List.replicate b (QG ns)=[99,111,112,121,u]->False):=by
  intro a b e u;refine⟨λz=>?_,λz=>?_⟩
  ·rcases K_ (c:=QG ns) (d:=e) (a:=a) (b:=b) (p:=100) (q:=114) (r:=111) (t:=112) (u:=u) (by decide) (by decide) (by decide) with q|q
   ·exact q z
   ·lia
  ·rcases K_ (c:=QG ns) (d:=e) (a:=a) (b:=b) (p:=99) (q:=111) (r:=112) (t:=121) (u:=u) (by decide) (by decide) (by decide) with q|q
   ·exact q z
   ·lia
 rcases si with ⟨a1,c1,e1⟩|⟨a1,c1,e1⟩|⟨t1,e1⟩<;>rcases sj with ⟨a2,c2,e2⟩|⟨a2,c2,e2⟩|⟨t2,e2⟩<;>rw[e1] at e2
 ·lia
 ·cases e2
 ·exact(bad.1 e2.symm).elim
 ·cases e2
 ·lia
 ·exact(bad.2 e2.symm).elim
 ·exact(bad.1 e2).elim
 ·exact(bad.2 e2).elim
 ·have:=List.append_cancel_left e2;injection this with q _
  have m1:=Int.emod_nonneg (i+drw ns 3) (show(26:Int)≠0 by decide);have m2:=Int.emod_nonneg (j+drw ns 3) (show(26:Int)≠0 by decide);lia
noncomputable abbrev Mk:=Str×Str×List Str
def mkD(m:Mk):D:=.tup [.str m.1,.str m.2.1,.tup (m.2.2.map D.str)]
noncomputable abbrev Tk:=Str×Str×Str×List Str
def tkD(t:Tk):D:=.tup [.str t.1,.str t.2.1,.str t.2.2.1,.tup (t.2.2.2.map D.str)]
theorem bH:∀L:List Str,D.bA (L.map D.str)=true
 |[]=>rfl
 |x::L=>by
  show((D.str x).pure&&D.bA (L.map D.str))=true;rw[bH L];rfl
theorem kO(m:Mk):(mkD m).pure=true:=by
 show(true&&(true&&((D.tup (m.2.2.map D.str)).pure&&true)))=true;rw[D.pure,bH];rfl
theorem mD(m:Tk):(tkD m).pure=true:=by
 show(true&&(true&&(true&&((D.tup (m.2.2.2.map D.str)).pure&&true))))=true;rw[D.pure,bH];rfl
theorem a_{f:α->D}(h:∀a,(f a).pure=true):∀L:List α,D.bA (L.map f)=true
 |[]=>rfl
 |x::L=>by
  show((f x).pure&&D.bA (L.map f))=true;rw[h,a_ h L];rfl
def IsK(ns:List Int)(many:Int)(x:Str):Prop:=∃j:Int,0<=j/\j<many/\x=wrd ns j
theorem CK(g:List D->D->Res (List D))(d:α->D)(P:α->Prop):∀(xs acc:List D),(∀x∈xs,∀acc,∃ys:List α,(∀y∈ys,P y)/\ys.length<=1/\g acc x=.ok (acc++ys.map d))->∃zs:List α,(∀z∈zs,P z)/\zs.length<=xs.length/\gZ g acc xs=.ok (acc++zs.map d)
 |[],acc,_=>⟨[],λ_ h=>(by cases h),Nat.le_refl _,(by simp[gZ])⟩
 |x::xs,acc,h=>by
  obtain⟨ys,h1,h2,h3⟩:=h x (List.mem_cons_self ..) acc;obtain⟨zs,i1,i2,i3⟩:=CK g d P xs (acc++ys.map d) λy hy=>h y (List.mem_cons_of_mem _ hy)
  refine⟨ys++zs,λz hz=>?_,by rw[List.length_append,List.length_cons];lia,?_⟩
  ·rcases List.mem_append.mp hz with hz|hz
   ·exact h1 z hz
   ·exact i1 z hz
  ·rw[gZ,h3];show gZ g _ _=_;rw[i3,List.map_append,List.append_assoc]
theorem qM(g:List D->D->Res (List D))(d:α->D)(P:α->Prop):∀(xs acc:List D),(∀x∈xs,∀acc,∃y:α,P y/\g acc x=.ok (acc++[d y]))->∃zs:List α,(∀z∈zs,P z)/\zs.length=xs.length/\gZ g acc xs=.ok (acc++zs.map d)
 |[],acc,_=>⟨[],λ_ h=>(by cases h),rfl,(by simp[gZ])⟩
 |x::xs,acc,h=>by
  obtain⟨y,h1,h3⟩:=h x (List.mem_cons_self ..) acc;obtain⟨zs,i1,i2,i3⟩:=qM g d P xs (acc++[d y]) λy hy=>h y (List.mem_cons_of_mem _ hy)
  refine⟨y::zs,λz hz=>?_,by rw[List.length_cons,List.length_cons,i2],?_⟩
  ·rcases List.mem_cons.mp hz with rfl|hz
   ·exact h1
   ·exact i1 z hz
  ·rw[gZ,h3];show gZ g _ _=_;rw[i3,List.append_assoc];rfl
theorem oV(hρ:ρ.length=n)(ht:t x=.ok bs)(h1:c (ρ++bs)=.ok b)(h2:b=true->f (ρ++bs)=.ok y/\(k||y.pure)=true):iB n t c f k ρ acc x=.ok (if b then acc++[y] else acc):=by
 unfold iB;rw[ht,Res.bB,zP hρ,h1,Res.bB];cases b with
 |false=>rfl
 |true=>
  obtain⟨h3,h4⟩:=h2 rfl;simp only[if_true,h3,Res.bB,h4];rfl
theorem vR(hn:ns.length<=63)(hm:0<many)(hm3:many<=3)(hρ:ρ.length=n)(h0:∀x:D,fV 0 (ρ++[x])=.ok (.scr (ns.map D.int)))(hg:g ρ=.ok [.int sz])(hs0:0<=sz)(hs1:sz<=3)
 (hf:∀p:Int,0<=p->p<=3->∃j:Int,0<=j/\j<many/\f (ρ++[.int p])=.ok (.int j)) :
  ∃xs:List Str,(∀x∈xs,IsK ns many x)/\(xs.length<=3/\xs.length=sz.toNat)/\aL dH (aA (c7 n (gG g lQ) h_ dZ (aL (bW 2 aN) (aA cA (aA f aM))) true) aM) ρ=.ok (.tup (xs.map D.str)):=by
 obtain⟨xs,h1,h2,h3⟩:=qM (iB n h_ dZ (aL (bW 2 aN) (aA cA (aA f aM))) true ρ) D.str (IsK ns many) ((List.range sz.toNat).map λ(k:Nat)=>D.int (0+(k:Int))) [] (λx hx acc=>by
  obtain⟨k,hk,rfl⟩:=List.mem_map.mp hx;have hk:=List.mem_range.mp hk;obtain⟨j,j0,j1,e⟩:=hf (0+(k:Int)) (by lia) (by lia);have w:=(nP hn j0 (show j<=33 by lia)).1;refine⟨wrd ns j,⟨j,j0,j1,rfl⟩,?_⟩
  ·exact oV (b:=true) (bs:=[.int (0+(k:Int))]) (y:=.str (wrd ns j)) hρ rfl rfl λ_=>⟨aR (aD (h0 _) (aD e rfl)) w,rfl⟩)
 rw[List.nil_append] at h3;rw[List.length_map,List.length_range] at h2;exact⟨xs,h1,⟨by lia,h2⟩,aR (xs:=[.lst (xs.map D.str)]) (aD (jA (vM hg hs0 (by lia)) (by rw[List.length_map,List.length_range,eY];lia) h3) rfl) rfl⟩
def imk:FS:=(bF (bN false 6 (aL (bW 2 aJ) (aA cA (aA (b2 (aW .add) (b2 (aW .add) YF (b2 j9 lH cM)) kZ) aM))) true) (bF (bN false 7 (b2 getD (nQ (aA dI (aA (b2 (aW .mod) lD p_) aM))) (b2 (aW .sub) kZ dI)) false) (bF (bN false 8 (aL dH (aA (c7 9 (gG (aA j6 aM) lQ) h_ dZ (aL (bW 2 aN) (aA cA (aA (b2 (aW .mod) (b2 (aW .fdiv) lD (b2 (aW .add) aI5 (b2 j9 aE4 oA))) dW) aM))) true) aM)) false) (o7 2 (cU (aA (aL (bW 2 aN) (aA cA (aA (b2 (aW .add) (b2 (aW .add) lH (b2 j9 lH cM)) kZ) aM))) (aA (aL (bW 2 aN) (aA cA (aA cM aM))) (aA nD aM))))))))
def CN(ns:List Int)(many:Int)(m:Mk):Prop:=Good m.1/\m.2.2.length<=3/\∀p∈m.2.2,IsK ns many p
theorem jX(hn:ns.length<=63)(h1:fV 0 ρ=.ok (.scr (ns.map D.int)))(h2:f ρ=.ok (.int k)):aL (bW 2 aJ) (aA cA (aA f aM)) ρ=.ok (.int (drw ns k)):=aR (aD h1 (aD h2 rfl)) (mC hn _).1
theorem q_(hn:ns.length<=63)(h1:fV 0 ρ=.ok (.scr (ns.map D.int)))(h2:f ρ=.ok (.int k))(h3:0<=k)(h4:k<=33):aL (bW 2 aN) (aA cA (aA f aM)) ρ=.ok (.str (wrd ns k)):=aR (aD h1 (aD h2 rfl)) (nP hn h3 h4).1
theorem aGx(hn:ns.length<=63)(hm:0<many)(hm3:many<=3)(hj0:0<=j)(hj:j<many)(hM:M.length<=100)(hi0:1<=i)(hi1:i<=2) :
  ∃(m:Mk)(y6 y7 y8:D),CN ns many m/\m.2.1=wrd ns j/\(m.1=wrd ns (3+3*j+i)/\(i=1->m.2.2.length=1))/\imk [.scr (ns.map D.int),.int many,.lst (M.map mkD),.int j,x4,.int i,x6,x7,x8]=.ok (.nx [.scr (ns.map D.int),.int many,.lst ((M++[m]).map mkD),.int j,x4,.int i,y6,y7,y8]):=by
 have a3:=qH 3 j (by decide);have a40:=cZ 40 (3*j);have a41:=cZ (40+3*j) i;have d0:=(mC hn (40+3*j+i)).2.1;generalize hdr:drw ns (40+3*j+i)=dr at d0;have m4:=cD dr 4 (by decide);have s1:=aAp i 1;have g1:=uJ (.int 1) (.int (dr % 4)) (i-1) (by lia) (by lia);obtain⟨sz,sz0,sz3,sz1,g1'⟩:∃sz:Int,0<=sz/\sz<=3/\(i=1->sz=1)/\getD (.lst [.int 1,.int (dr % 4)]) (.int (i-1))=.ok (.int sz):=by
  by_cases z:i-1=0
  ·rw[if_pos z] at g1;exact⟨1,by decide,by decide,λ_=>rfl,g1⟩
  ·rw[if_neg z] at g1;exact⟨dr % 4,by lia,by lia,λq=>absurd (by lia) z,g1⟩
 obtain⟨xs,k1,k2,k3⟩:=vR (n:=9) (ρ:=[.scr (ns.map D.int),.int many,.lst (M.map mkD),.int j,x4,.int i,.int dr,.int sz,x8]) (f:=b2 (aW .mod) (b2 (aW .fdiv) lD (b2 (aW .add) aI5 (b2 j9 aE4 oA))) dW) (sz:=sz) (g:=aA j6 aM) hn hm hm3 rfl (λ_=>rfl) (aD rfl rfl) sz0 sz3 (λp p0 p3=>by
  have e1:=qH 7 p (by decide);have e2:=cZ 6 (7*p);have e3:=fD dr (6+7*p) (by lia) (by lia);have e4:=cD (dr / (6+7*p)) many hm;exact⟨_,Int.emod_nonneg _ (by lia),Int.emod_lt_of_pos _ hm,aK (x:=.int (dr / (6+7*p))) (y:=.int many) (aK (x:=.int dr) (y:=.int (6+7*p)) rfl (aK (x:=.int 6) (y:=.int (7*p)) rfl (aK (x:=.int 7) (y:=.int p) rfl rfl e1) e2) e3) rfl e4⟩)
 have w1:=nP hn (i:=3+3*j+i) (by lia) (by lia);refine⟨(wrd ns (3+3*j+i),wrd ns j,xs),.int dr,.int sz,.tup (xs.map D.str),⟨w1.2,k2.1,k1⟩,rfl,⟨rfl,λq=>by have:=sz1 q;have:=k2.2;show xs.length=1;lia⟩,?_⟩;refine aP (ρ':=[.scr (ns.map D.int),.int many,.lst (M.map mkD),.int j,x4,.int i,.int dr,x7,x8]) (bZ (i:=6) (by rw[<-hdr];exact jX hn rfl (aK (x:=.int (40+3*j)) (y:=.int i) (aK (x:=.int 40) (y:=.int (3*j)) rfl (aK (x:=.int 3) (y:=.int j) rfl rfl a3) a40) rfl a41))) ?_;refine aP (ρ':=[.scr (ns.map D.int),.int many,.lst (M.map mkD),.int j,x4,.int i,.int dr,.int sz,x8]) (iY (i:=7) (aK (x:=.lst [.int 1,.int (dr % 4)]) (y:=.int (i-1)) (jD (xs:=[.int 1,.int (dr % 4)]) (aD rfl (aD (aK (x:=.int dr) rfl rfl m4) rfl)) uH) (aK (x:=.int i) rfl rfl s1) g1') rfl) ?_;refine aP (ρ':=[.scr (ns.map D.int),.int many,.lst (M.map mkD),.int j,x4,.int i,.int dr,.int sz,.tup (xs.map D.str)]) (iY (i:=8) k3 (by rw[D.pure,bH])) ?_;have ap:=lB (i:=2) (ρ:=[.scr (ns.map D.int),.int many,.lst (M.map mkD),.int j,x4,.int i,.int dr,.int sz,.tup (xs.map D.str)]) (f:=cU (aA (aL (bW 2 aN) (aA cA (aA (b2 (aW .add) (b2 (aW .add) lH (b2 j9 lH cM)) kZ) aM))) (aA (aL (bW 2 aN) (aA cA (aA cM aM))) (aA nD aM)))) (xs:=M.map mkD) (d:=mkD (wrd ns (3+3*j+i),wrd ns j,xs)) (cY (xs:=[.str (wrd ns (3+3*j+i)),.str (wrd ns j),.tup (xs.map D.str)]) (aD (q_ hn rfl (aK (x:=.int (3+3*j)) (y:=.int i) (aK (x:=.int 3) (y:=.int (3*j)) rfl (aK (x:=.int 3) (y:=.int j) rfl rfl a3) (cZ _ _)) rfl (cZ _ _)) (by lia) (by lia)) (aD (q_ hn rfl rfl hj0 (by lia)) (aD rfl rfl))) aIv) rfl (by rw[List.length_map,eY];lia) (kO _);rw[List.map_append];exact ap
theorem LC(hn:ns.length<=63)(hm:0<many)(hm3:many<=3)(hj0:0<=j)(hj:j<many):∀(ks:List Nat)(M:List Mk)(x5 x6 x7 x8:D),(∀k∈ks,k<=1)->M.length+ks.length<=100->
  ∃(N:List Mk)(y5 y6 y7 y8:D),(∀m∈N,CN ns many m/\m.2.1=wrd ns j)/\(N.map (·.1)=ks.map (λ(k:Nat)=>wrd ns (3+3*j+(1+(k:Int))))/\∀q,ks=0::q->∃m N',N=m::N'/\m.2.2.length=1)/\rK (tg1 5) imk (ks.map λ(k:Nat)=>D.int (1+(k:Int))) [.scr (ns.map D.int),.int many,.lst (M.map mkD),.int j,x4,x5,x6,x7,x8]=.ok (.nx [.scr (ns.map D.int),.int many,.lst ((M++N).map mkD),.int j,x4,y5,y6,y7,y8])
 |[],M,x5,x6,x7,x8,_,_=>⟨[],x5,x6,x7,x8,λ_ h=>(by cases h),⟨rfl,λ_ h=>(by cases h)⟩,by rw[List.append_nil];rfl⟩
 |k::ks,M,x5,x6,x7,x8,h,hl=>by
  rw[List.length_cons] at hl;have hk:=h k (List.mem_cons_self ..);obtain⟨m,y6,y7,y8,h1,h2,h3,e⟩:=aGx (x4:=x4) hn hm hm3 hj0 hj (M:=M) (by lia) (i:=1+(k:Int)) (by lia) (by lia) (x6:=x6) (x7:=x7) (x8:=x8);obtain⟨N,z5,z6,z7,z8,i1,i2,i3⟩:=LC (x4:=x4) hn hm hm3 hj0 hj ks (M++[m]) (.int (1+(k:Int))) y6 y7 y8 (λq hq=>h q (List.mem_cons_of_mem _ hq)) (by rw[List.length_append];show M.length+1+ks.length<=100;lia);refine⟨m::N,z5,z6,z7,z8,λq hq=>?_,⟨by rw[List.map_cons,List.map_cons,i2.1,h3.1],λq hq=>⟨m,N,rfl,h3.2 (by injection hq with hq _;lia)⟩⟩,?_⟩
  ·rcases List.mem_cons.mp hq with rfl|hq
   ·exact⟨h1,h2⟩
   ·exact i1 q hq
  ·rw[List.map_cons,show M++m::N=(M++[m])++N by simp];exact dX (ρ1:=[.scr (ns.map D.int),.int many,.lst (M.map mkD),.int j,x4,.int (1+(k:Int)),x6,x7,x8]) rfl e i3
theorem aD9(h:f ρ=.ok [.int a,.int b])(h1:-1000000<=a)(h2:a<=1000000)(h3:-1000000<=b)(h4:b<=1000000):gG f N7 ρ=.ok ((List.range (b-a).toNat).map λ(k:Nat)=>D.int (a+(k:Int)),true):=by
 unfold gG;rw[h,Res.bB];have e1:iT a=true:=by simp only[iT,decide_eq_true_eq,Bool.and_eq_true];lia
 have e2:iT b=true:=by simp only[iT,decide_eq_true_eq,Bool.and_eq_true];lia
 rw[N7,e1,e2];rfl
theorem aEc(a b:Int):mR .gt (.int a) (.int b)=.ok (.bl (decide (b<a))):=rfl
def omk:FS:=(bF (bN false 4 (cU aM) true) (bF (sIf (QM (bTB (b2 (mR .gt) cM bQ)) (bTB (b2 (mR .gt) (b2 (aW .mod) (b2 (aW .fdiv) (aL (bW 2 aJ) (aA cA (aA YD aM))) cM) lH) bQ))) (bN false 4 (cU (aA (aL (bW 2 aN) (aA cA (aA bQ aM))) aM)) true) o6) (bF (o7 2 (cU (aA (aL (bW 2 aN) (aA cA (aA (b2 (aW .add) lH (b2 j9 lH cM)) aM))) (aA (aL (bW 2 aN) (aA cA (aA cM aM))) (aA iQ aM))))) (vD (gG (aA dI (aA (b2 (aW .add) jK (b2 (aW .mod) (aL (bW 2 aJ) (aA cA (aA (b2 (aW .add) YF (b2 j9 lH cM)) aM))) jK)) aM)) N7) (tg1 5) imk))))
theorem aGy(hn:ns.length<=63)(hm:0<many)(hm3:many<=3)(hj0:0<=j)(hj:j<many)(hM:M.length<=50) :
  ∃(fs:List Str)(N:List Mk)(y4 y5 y6 y7 y8:D),(fs=[]\/(fs=[wrd ns 0]/\0<j))/\Good (wrd ns (3+3*j))/\(∀m∈N,CN ns many m/\m.2.1=wrd ns j)/\(∃c:Nat,(c=1\/c=2)/\N.map (·.1)=(List.range c).map (λ(k:Nat)=>wrd ns (3+3*j+(1+(k:Int))))/\∃m N',N=m::N'/\m.2.2.length=1)/\omk [.scr (ns.map D.int),.int many,.lst (M.map mkD),.int j,x4,x5,x6,x7,x8]=.ok (.nx [.scr (ns.map D.int),.int many,.lst ((M++(wrd ns (3+3*j),wrd ns j,fs)::N).map mkD),.int j,y4,y5,y6,y7,y8]):=by
 have a3:=qH 3 j (by decide);have a40:=cZ 40 (3*j);have b3:=cZ 3 (3*j);obtain⟨fs,hfs,hif⟩:∃fs:List Str,(fs=[]\/(fs=[wrd ns 0]/\0<j))/\sIf (QM (bTB (b2 (mR .gt) cM bQ)) (bTB (b2 (mR .gt) (b2 (aW .mod) (b2 (aW .fdiv) (aL (bW 2 aJ) (aA cA (aA YD aM))) cM) lH) bQ))) (bN false 4 (cU (aA (aL (bW 2 aN) (aA cA (aA bQ aM))) aM)) true) o6 [.scr (ns.map D.int),.int many,.lst (M.map mkD),.int j,.tup [],x5,x6,x7,x8]=.ok (.nx [.scr (ns.map D.int),.int many,.lst (M.map mkD),.int j,.tup (fs.map D.str),x5,x6,x7,x8]):=by
  by_cases z:0<j
  ·have c0:bTB (b2 (mR .gt) cM bQ) [.scr (ns.map D.int),.int many,.lst (M.map mkD),.int j,.tup [],x5,x6,x7,x8]=.ok true:=eZ (aK (x:=.int j) (y:=.int 0) rfl rfl ((aEc _ _).trans (by rw[decide_eq_true z])));have d3:=fD (drw ns 38) j z (by lia);have m3:=cD (drw ns 38 / j) 3 (by decide);have c1:∀k,decide (0<drw ns 38 / j % 3)=k->bTB (b2 (mR .gt) (b2 (aW .mod) (b2 (aW .fdiv) (aL (bW 2 aJ) (aA cA (aA YD aM))) cM) lH) bQ) [.scr (ns.map D.int),.int many,.lst (M.map mkD),.int j,.tup [],x5,x6,x7,x8]=.ok k:=λk hk=>eZ (aK (x:=.int (drw ns 38 / j % 3)) (y:=.int 0) (aK (x:=.int (drw ns 38 / j)) (aK (x:=.int (drw ns 38)) (y:=.int j) (jX hn rfl rfl) rfl d3) rfl m3) rfl ((aEc _ _).trans (by rw[hk])))
   by_cases q:0<drw ns 38 / j % 3
   ·exact⟨[wrd ns 0],.inr ⟨rfl,z⟩,XH (U0 c0 (c1 _ (decide_eq_true q))) (bZ (i:=4) (cY (xs:=[.str (wrd ns 0)]) (aD (q_ hn rfl rfl (Int.le_refl 0) (by decide)) rfl) (by rw[eY];exact Nat.le_of_ble_eq_true rfl)))⟩
   ·exact⟨[],.inl rfl,uO (U0 c0 (c1 _ (decide_eq_false q))) rfl⟩
  ·exact⟨[],.inl rfl,uO (aCg (eZ (aK (x:=.int j) (y:=.int 0) rfl rfl ((aEc _ _).trans (by rw[decide_eq_false z]))))) rfl⟩
 have w1:=nP hn (i:=3+3*j) (by lia) (by lia);have d0:=(mC hn (40+3*j)).2.1;have m2:=cD (drw ns (40+3*j)) 2 (by decide);have c2:=cZ 2 (drw ns (40+3*j) % 2);obtain⟨N,y5,y6,y7,y8,h1,h2,h3⟩:=LC (x4:=.tup (fs.map D.str)) hn hm hm3 hj0 hj (List.range (2+drw ns (40+3*j) % 2-1).toNat) (M++[(wrd ns (3+3*j),wrd ns j,fs)]) x5 x6 x7 x8 (λk hk=>by have:=List.mem_range.mp hk;lia) (by rw[List.length_append,List.length_range];show M.length+1+_<=100;lia);have hc:(2+drw ns (40+3*j) % 2-1).toNat=1\/(2+drw ns (40+3*j) % 2-1).toNat=2:=by lia
 refine⟨fs,N,.tup (fs.map D.str),y5,y6,y7,y8,hfs,w1.2,h1,⟨_,hc,h2.1,?_⟩,?_⟩
 ·rcases hc with q|q<;>rw[q] at h2
  ·exact h2.2 [] rfl
  ·exact h2.2 [1] rfl
 refine aP (ρ':=[.scr (ns.map D.int),.int many,.lst (M.map mkD),.int j,.tup [],x5,x6,x7,x8]) (bZ (i:=4) (cY (xs:=[]) rfl (Nat.zero_le _))) ?_;refine aP hif ?_;refine aP (ρ':=[.scr (ns.map D.int),.int many,.lst ((M++[(wrd ns (3+3*j),wrd ns j,fs)]).map mkD),.int j,.tup (fs.map D.str),x5,x6,x7,x8]) ?_ ?_
 ·have ap:=lB (i:=2) (ρ:=[.scr (ns.map D.int),.int many,.lst (M.map mkD),.int j,.tup (fs.map D.str),x5,x6,x7,x8]) (f:=cU (aA (aL (bW 2 aN) (aA cA (aA (b2 (aW .add) lH (b2 j9 lH cM)) aM))) (aA (aL (bW 2 aN) (aA cA (aA cM aM))) (aA iQ aM)))) (xs:=M.map mkD) (d:=mkD (wrd ns (3+3*j),wrd ns j,fs)) (cY (xs:=[.str (wrd ns (3+3*j)),.str (wrd ns j),.tup (fs.map D.str)]) (aD (q_ hn rfl (aK (x:=.int 3) (y:=.int (3*j)) rfl (aK (x:=.int 3) (y:=.int j) rfl rfl a3) b3) (by lia) (by lia)) (aD (q_ hn rfl rfl hj0 (by lia)) (aD rfl rfl))) aIv) rfl (by rw[List.length_map,eY];lia) (kO _);rw[List.map_append];exact ap
 ·refine tR (aD9 (a:=1) (b:=2+drw ns (40+3*j) % 2) (aD rfl (aD (aK (x:=.int 2) (y:=.int (drw ns (40+3*j) % 2)) rfl (aK (x:=.int (drw ns (40+3*j))) (jX hn rfl (aK (x:=.int 40) (y:=.int (3*j)) rfl (aK (x:=.int 3) (y:=.int j) rfl rfl a3) a40)) rfl m2) c2) rfl)) (by decide) (by decide) (by lia) (by lia)) ?_;rw[h3];simp
structure MOk(ns:List Int)(many:Int)(n:Nat)(M:List Mk):Prop where
 part:∀m∈M,CN ns many m
 kind:∀m∈M,IsK ns n m.2.1
 len:M.length<=3*n
 find:∀K,IsK ns n K->∃m m2 R,M.filter (λm=>m.2.1==K)=m::m2::R/\(m.2.2=[]\/(m.2.2=[wrd ns 0]/\K≠wrd ns 0))/\m2.2.2.length=1
 names:∃ks:List Int,M.map (·.1)=ks.map (wrd ns)/\ks.Pairwise (·<·)/\∀k∈ks,3<=k/\k<3+3*(n:Int)
theorem ZX(h:MOk ns many n M)(hm:(n:Int)<many)(hw:Good (wrd ns (3+3*(n:Int))))(hfs:fs=[]\/(fs=[wrd ns 0]/\0<(n:Int)))(hN:∀m∈N,CN ns many m/\m.2.1=wrd ns n)(hl:∃c:Nat,(c=1\/c=2)/\N.map (·.1)=(List.range c).map (λ(k:Nat)=>wrd ns (3+3*(n:Int)+(1+(k:Int))))/\∃m N',N=m::N'/\m.2.2.length=1):MOk ns many (n+1) (M++(wrd ns (3+3*(n:Int)),wrd ns n,fs)::N):=by
 obtain⟨c,hc,hnm,m2,N',hN2,hm2⟩:=hl;refine⟨λm hq=>?_,λm hq=>?_,?_,λK hK=>?_,?_⟩
 ·rcases List.mem_append.mp hq with hq|hq
  ·exact h.part m hq
  ·rcases List.mem_cons.mp hq with rfl|hq
   ·refine⟨hw,?_,λp hp=>?_⟩
    ·rcases hfs with rfl|⟨rfl,_⟩<;>exact Nat.le_of_ble_eq_true rfl
    ·rcases hfs with rfl|⟨rfl,_⟩
     ·cases hp
     ·exact⟨0,by decide,by lia,List.mem_singleton.mp hp⟩
   ·exact(hN m hq).1
 ·rcases List.mem_append.mp hq with hq|hq
  ·obtain⟨j,j0,j1,e⟩:=h.kind m hq;exact⟨j,j0,by lia,e⟩
  ·rcases List.mem_cons.mp hq with rfl|hq
   ·exact⟨n,by lia,by lia,rfl⟩
   ·exact⟨n,by lia,by lia,(hN m hq).2⟩
 ·have:=h.len;have e:=congrArg List.length hnm;rw[List.length_map,List.length_map,List.length_range] at e;rw[List.length_append,List.length_cons];lia
 ·rw[List.filter_append];by_cases z:IsK ns n K
  ·obtain⟨m,m',R,e,q⟩:=h.find K z;rw[e];exact⟨m,m',_,rfl,q⟩
  ·have e:K=wrd ns n:=by
    obtain⟨j,j0,j1,e⟩:=hK;by_cases y:j<n
    ·exact absurd ⟨j,j0,y,e⟩ z
    ·have:j=n:=by lia
     rw[e,this]
   have e2:M.filter (λm=>m.2.1==K)=[]:=by
    rw[List.filter_eq_nil_iff];intro m hq y;have:=h.kind m hq;rw[eq_of_beq y] at this;exact z this
   subst hN2;rw[e2,List.nil_append,List.filter_cons,if_pos (by rw[e];exact beq_self_eq_true _),List.filter_cons,if_pos (by rw[e,(hN m2 (List.mem_cons_self ..)).2];exact beq_self_eq_true _)];refine⟨_,_,_,rfl,?_,hm2⟩;rcases hfs with rfl|⟨rfl,y⟩
   ·exact .inl rfl
   ·exact .inr ⟨rfl,λq=>z ⟨0,by decide,y,q⟩⟩
 ·obtain⟨ks,k1,k2,k3⟩:=h.names;refine⟨ks++(3+3*(n:Int))::(List.range c).map (λ(k:Nat)=>3+3*(n:Int)+(1+(k:Int))),?_,?_,?_⟩
  ·rw[List.map_append,List.map_append,List.map_cons,List.map_cons,k1,hnm,List.map_map];rfl
  ·have cs:((3+3*(n:Int))::(List.range c).map (λ(k:Nat)=>3+3*(n:Int)+(1+(k:Int)))).Pairwise (·<·):=by
    rcases hc with rfl|rfl
    ·simp[List.range,List.range.loop];lia
    ·simp[List.range,List.range.loop];lia
   rw[List.pairwise_append];refine⟨k2,cs,λa ha b hb=>?_⟩;have:=(k3 a ha).2;rcases List.mem_cons.mp hb with rfl|hb
   ·lia
   ·obtain⟨q,hq,rfl⟩:=List.mem_map.mp hb;lia
  ·intro k hk;rcases List.mem_append.mp hk with hk|hk
   ·have:=k3 k hk;lia
   ·rcases List.mem_cons.mp hk with rfl|hk
    ·lia
    ·obtain⟨q,hq,rfl⟩:=List.mem_map.mp hk;have:=List.mem_range.mp hq;lia
theorem LK(hn:ns.length<=63)(hm:0<many)(hm3:many<=3):∀(c n:Nat)(M:List Mk)(x3 x4 x5 x6 x7 x8:D),(n:Int)+c=many->MOk ns many n M->
  ∃(N:List Mk)(y3 y4 y5 y6 y7 y8:D),MOk ns many (n+c) N/\rK (tg1 3) omk ((List.range' n c).map λ(k:Nat)=>D.int (0+(k:Int))) [.scr (ns.map D.int),.int many,.lst (M.map mkD),x3,x4,x5,x6,x7,x8]=.ok (.nx [.scr (ns.map D.int),.int many,.lst (N.map mkD),y3,y4,y5,y6,y7,y8])
 |0,n,M,x3,x4,x5,x6,x7,x8,_,h=>⟨M,x3,x4,x5,x6,x7,x8,h,rfl⟩
 |c+1,n,M,x3,x4,x5,x6,x7,x8,he,h=>by
  obtain⟨fs,N,y4,y5,y6,y7,y8,h1,h2,h3,h4,h5⟩:=aGy (j:=(n:Int)) hn hm hm3 (by lia) (by lia) (M:=M) (by have:=h.len;lia) (x4:=x4) (x5:=x5) (x6:=x6) (x7:=x7) (x8:=x8);obtain⟨N',z3,z4,z5,z6,z7,z8,i1,i2⟩:=LK hn hm hm3 c (n+1) _ (.int n) y4 y5 y6 y7 y8 (by lia) (ZX h (by lia) h2 h1 h3 h4);refine⟨N',z3,z4,z5,z6,z7,z8,by rw[show n+(c+1)=n+1+c by lia];exact i1,?_⟩;rw[List.range'_succ,List.map_cons];exact dX (ρ1:=[.scr (ns.map D.int),.int many,.lst (M.map mkD),.int n,x4,x5,x6,x7,x8]) (by rw[Int.zero_add];rfl) h5 i2
theorem WM(hn:ns.length<=63)(hm:0<many)(hm3:many<=3):∃M:List Mk,MOk ns many many.toNat M/\bW 2 iD [.scr (ns.map D.int),.int many]=.ok (.tup (M.map mkD)):=by
 obtain⟨N,y3,y4,y5,y6,y7,y8,h1,h2⟩:=LK hn hm hm3 many.toNat 0 [] .uD .uD .uD .uD .uD .uD (by lia) ⟨λ_ h=>(by cases h),λ_ h=>(by cases h),Nat.zero_le _,λK ⟨j,j0,j1,_⟩=>(by exfalso;lia),[],rfl,.nil,λ_ h=>(by cases h)⟩;rw[Nat.zero_add] at h1;refine⟨N,h1,(dR rfl).trans (call_v ?_)⟩;refine aP (ρ':=[.scr (ns.map D.int),.int many,.lst [],.uD,.uD,.uD,.uD,.uD,.uD]) (dG (i:=2) (jD (xs:=[]) rfl (Nat.zero_le _)) rfl) ?_;refine aP (tR (vM (n:=many) (aD rfl rfl) (by lia) (by lia)) (by rw[List.range_eq_range'];exact h2)) ?_;exact iZ (d:=.tup (N.map mkD)) (aR (xs:=[.lst (N.map mkD)]) (aD rfl rfl) rfl) (by rw[D.pure,a_ kO];rfl)
theorem yG(a b:List D)(h:a.length+b.length<=1000):DG (.tup a) (.tup b)=.ok (.tup (a++b)):=by
 rw[DG,if_pos (decide_eq_true (by rw[eY];lia))]
def gR(ns:List Int)(many:Int)(t:Tk):Prop:=(∃k:Int,17<=k/\k<=20/\t.1=wrd ns k)/\IsK ns many t.2.1/\IsK ns many t.2.2.1/\t.2.2.2.length<=2/\∀p∈t.2.2.2,IsK ns many p
def otk:FS:=(bF (bN false 4 (aL (bW 2 aJ) (aA cA (aA (b2 (aW .add) (bC (.int 51)) cM) aM))) true) (bF (bN false 5 (aL dH (aA (c7 7 (gG (aA (b2 (aW .mod) (b2 (aW .fdiv) iQ p_) lH) aM) lQ) h_ dZ (aL (bW 2 aN) (aA cA (aA (b2 (aW .mod) (b2 (aW .fdiv) iQ (b2 (aW .add) N6 (b2 j9 aE4 j6))) dW) aM))) true) aM)) false) (bF (bN false 6 (cU (aA (aL (bW 2 aN) (aA cA (aA (b2 (aW .mod) iQ dW) aM))) (aA (aL (bW 2 aN) (aA cA (aA (b2 (aW .mod) (b2 (aW .fdiv) iQ jK) dW) aM))) aM))) true) (o7 2 (b2 DG (b2 DG (cU (aA (aL (bW 2 aN) (aA cA (aA (b2 (aW .add) wH cM) aM))) aM)) lD) (cU (aA kZ aM)))))))
theorem aGz(hn:ns.length<=63)(hm:0<many)(hm3:many<=3)(hi0:0<=i)(hi:i<=3)(hM:M.length<=50) :
  ∃(t:Tk)(y4 y5 y6:D),gR ns many t/\otk [.scr (ns.map D.int),.int many,.lst (M.map tkD),.int i,x4,x5,x6]=.ok (.nx [.scr (ns.map D.int),.int many,.lst ((M++[t]).map tkD),.int i,y4,y5,y6]):=by
 have a51:=cZ 51 i;have a17:=cZ 17 i;have d0:=(mC hn (51+i)).2.1;generalize hdr:drw ns (51+i)=dr at d0;have f4:=fD dr 4 (by decide) (by decide);have m3:=cD (dr / 4) 3 (by decide);have f2:=fD dr 2 (by decide) (by decide);have k1:=cD dr many hm;have k2:=cD (dr / 2) many hm;have p1:=Int.emod_nonneg dr (show many≠0 by lia);have p2:=Int.emod_lt_of_pos dr hm;have q1:=Int.emod_nonneg (dr / 2) (show many≠0 by lia);have q2:=Int.emod_lt_of_pos (dr / 2) hm;obtain⟨xs,c1,c2,c3⟩:=vR (n:=7) (ρ:=[.scr (ns.map D.int),.int many,.lst (M.map tkD),.int i,.int dr,x5,x6]) (f:=b2 (aW .mod) (b2 (aW .fdiv) iQ (b2 (aW .add) N6 (b2 j9 aE4 j6))) dW) (sz:=dr / 4 % 3) (g:=aA (b2 (aW .mod) (b2 (aW .fdiv) iQ p_) lH) aM) hn hm hm3 rfl (λ_=>rfl) (aD (aK (x:=.int (dr / 4)) (aK (x:=.int dr) rfl rfl f4) rfl m3) rfl) (by lia) (by lia) (λp p0 p3=>by
  have e1:=qH 7 p (by decide);have e2:=cZ 12 (7*p);have e3:=fD dr (12+7*p) (by lia) (by lia);have e4:=cD (dr / (12+7*p)) many hm;exact⟨_,Int.emod_nonneg _ (by lia),Int.emod_lt_of_pos _ hm,aK (x:=.int (dr / (12+7*p))) (y:=.int many) (aK (x:=.int dr) (y:=.int (12+7*p)) rfl (aK (x:=.int 12) (y:=.int (7*p)) rfl (aK (x:=.int 7) (y:=.int p) rfl rfl e1) e2) e3) rfl e4⟩)
 have w1:=nP hn (i:=17+i) (by lia) (by lia);have t1:=yG [.str (wrd ns (17+i))] [.str (wrd ns (dr % many)),.str (wrd ns (dr / 2 % many))] (Nat.le_of_ble_eq_true rfl);have t2:=yG [.str (wrd ns (17+i)),.str (wrd ns (dr % many)),.str (wrd ns (dr / 2 % many))] [.tup (xs.map D.str)] (Nat.le_of_ble_eq_true rfl);refine⟨(wrd ns (17+i),wrd ns (dr % many),wrd ns (dr / 2 % many),xs),.int dr,.tup (xs.map D.str),.tup [.str (wrd ns (dr % many)),.str (wrd ns (dr / 2 % many))],⟨⟨17+i,by lia,by lia,rfl⟩,⟨_,p1,p2,rfl⟩,⟨_,q1,q2,rfl⟩,(by have:=c2.2;show xs.length<=2;lia),c1⟩,?_⟩;refine aP (ρ':=[.scr (ns.map D.int),.int many,.lst (M.map tkD),.int i,.int dr,x5,x6]) (bZ (i:=4) (by rw[<-hdr];exact jX hn rfl (aK (x:=.int 51) (y:=.int i) rfl rfl a51))) ?_;refine aP (ρ':=[.scr (ns.map D.int),.int many,.lst (M.map tkD),.int i,.int dr,.tup (xs.map D.str),x6]) (iY (i:=5) c3 (by rw[D.pure,bH])) ?_;refine aP (ρ':=[.scr (ns.map D.int),.int many,.lst (M.map tkD),.int i,.int dr,.tup (xs.map D.str),.tup [.str (wrd ns (dr % many)),.str (wrd ns (dr / 2 % many))]]) (bZ (i:=6) (cY (xs:=[.str (wrd ns (dr % many)),.str (wrd ns (dr / 2 % many))]) (aD (q_ hn rfl (aK (x:=.int dr) (y:=.int many) rfl rfl k1) p1 (by lia)) (aD (q_ hn rfl (aK (x:=.int (dr / 2)) (y:=.int many) (aK (x:=.int dr) rfl rfl f2) rfl k2) q1 (by lia)) rfl)) uH)) ?_;have ap:=lB (i:=2) (ρ:=[.scr (ns.map D.int),.int many,.lst (M.map tkD),.int i,.int dr,.tup (xs.map D.str),.tup [.str (wrd ns (dr % many)),.str (wrd ns (dr / 2 % many))]]) (f:=b2 DG (b2 DG (cU (aA (aL (bW 2 aN) (aA cA (aA (b2 (aW .add) wH cM) aM))) aM)) lD) (cU (aA kZ aM))) (xs:=M.map tkD) (d:=tkD (wrd ns (17+i),wrd ns (dr % many),wrd ns (dr / 2 % many),xs)) (aK (aK (cY (xs:=[.str (wrd ns (17+i))]) (aD (q_ hn rfl (aK (x:=.int 17) (y:=.int i) rfl rfl a17) (by lia) (by lia)) rfl) (by rw[eY];exact Nat.le_of_ble_eq_true rfl)) rfl t1) (cY (xs:=[.tup (xs.map D.str)]) (aD rfl rfl) (by rw[eY];exact Nat.le_of_ble_eq_true rfl)) t2) rfl (by rw[List.length_map,eY];lia) (mD _);rw[List.map_append];exact ap
theorem LQ(hn:ns.length<=63)(hm:0<many)(hm3:many<=3):∀(ks:List Nat)(M:List Tk)(x3 x4 x5 x6:D),(∀k∈ks,k<=3)->M.length+ks.length<=50->(∀t∈M,gR ns many t)->
  ∃(N:List Tk)(y3 y4 y5 y6:D),(∀t∈N,gR ns many t)/\N.length=M.length+ks.length/\rK (tg1 3) otk (ks.map λ(k:Nat)=>D.int (0+(k:Int))) [.scr (ns.map D.int),.int many,.lst (M.map tkD),x3,x4,x5,x6]=.ok (.nx [.scr (ns.map D.int),.int many,.lst (N.map tkD),y3,y4,y5,y6])
 |[],M,x3,x4,x5,x6,_,_,h=>⟨M,x3,x4,x5,x6,h,rfl,rfl⟩
 |k::ks,M,x3,x4,x5,x6,h,hl,hM=>by
  rw[List.length_cons] at hl;have hk:=h k (List.mem_cons_self ..);obtain⟨t,y4,y5,y6,h1,h2⟩:=aGz hn hm hm3 (i:=(k:Int)) (by lia) (by lia) (M:=M) (by lia) (x4:=x4) (x5:=x5) (x6:=x6);obtain⟨N,z3,z4,z5,z6,i1,i2,i3⟩:=LQ hn hm hm3 ks (M++[t]) (.int k) y4 y5 y6 (λq hq=>h q (List.mem_cons_of_mem _ hq)) (by rw[List.length_append];show M.length+1+_<=50;lia) (λq hq=>by
   rcases List.mem_append.mp hq with hq|hq
   ·exact hM q hq
   ·rw[List.mem_singleton.mp hq];exact h1)
  refine⟨N,z3,z4,z5,z6,i1,?_,?_⟩
  ·rw[i2];simp only[List.length_append,List.length_cons,List.length_nil];lia
  ·rw[List.map_cons];exact dX (ρ1:=[.scr (ns.map D.int),.int many,.lst (M.map tkD),.int k,x4,x5,x6]) (by rw[Int.zero_add];rfl) h2 i3
theorem WN(hn:ns.length<=63)(hm:0<many)(hm3:many<=3):∃T:List Tk,(∀t∈T,gR ns many t)/\T.length<=3/\bW 2 iH [.scr (ns.map D.int),.int many]=.ok (.tup (T.map tkD)):=by
 have m4:=cD (drw ns 50) 4 (by decide);obtain⟨N,y3,y4,y5,y6,h1,h2,h3⟩:=LQ hn hm hm3 (List.range (drw ns 50 % 4).toNat) [] .uD .uD .uD .uD (λk hk=>by have:=List.mem_range.mp hk;lia) (by rw[List.length_range];show 0+_<=50;lia) (λ_ h=>by cases h);rw[List.length_range,List.length_nil] at h2;refine⟨N,h1,by lia,(dR rfl).trans (call_v ?_)⟩;refine aP (ρ':=[.scr (ns.map D.int),.int many,.lst [],.uD,.uD,.uD,.uD]) (dG (i:=2) (jD (xs:=[]) rfl (Nat.zero_le _)) rfl) ?_;refine aP (tR (vM (n:=drw ns 50 % 4) (aD (aK (x:=.int (drw ns 50)) (jX hn rfl rfl) rfl m4) rfl) (by lia) (by lia)) h3) ?_;exact iZ (d:=.tup (N.map tkD)) (aR (xs:=[.lst (N.map tkD)]) (aD rfl rfl) rfl) (by rw[D.pure,a_ mD];rfl)
theorem cC(h:n<=1000):n<=lim:=by rw[eY];lia
theorem gU(h1:a ρ=.ok (.tup xs)):bV a false ρ=.ok (xs,false||(D.tup xs).pure):=by
 unfold bV;rw[h1,Res.bB];rfl
theorem eq_str(a b:Str):d9 .eq (.str a) (.str b)=.ok (.bl (a==b)):=rfl
theorem eq_int(a b:Int):d9 .eq (.int a) (.int b)=.ok (.bl (a==b)):=rfl
theorem aK8(a b:Int):mR .ge (.int a) (.int b)=.ok (.bl (decide (b<=a))):=rfl
theorem aJ9(a b:Int):mR .lt (.int a) (.int b)=.ok (.bl (decide (a<b))):=rfl
theorem aK9(h1:a ρ=.ok true):bOr a b ρ=.ok true:=by
 unfold bOr;rw[h1];rfl
theorem aHi(h1:a ρ=.ok false)(h2:b ρ=r):bOr a b ρ=r:=by
 unfold bOr;rw[h1];exact h2
theorem aDa(h1:a ρ=.ok x)(h2:b ρ=.ok y):bOr a b ρ=.ok (x||y):=by
 cases x with
 |true=>exact aK9 h1
 |false=>exact aHi h1 h2
theorem aDb(h1:a ρ=.ok (.bl x))(h2:b ρ=.ok (.bl y)):R8 a b ρ=.ok (.bl (x&&y)):=by
 unfold R8;rw[h1,Res.bB,aG9,Res.bB];cases x with
 |true=>rw[if_pos rfl,h2];rfl
 |false=>rfl
theorem aIw(h1:a ρ=.ok (.bl x)):bTr a ρ=.ok x:=by
 unfold bTr;rw[h1];rfl
noncomputable abbrev Wt:=Str×Bool
def wD(w:Wt):D:=.tup [.str w.1,.bl w.2]
theorem m7(w:Wt):(wD w).pure=true:=rfl
def knD(K:List (Str×Str)):List (D×D):=K.map λp=>(.str p.1,.str p.2)
def bkD(M:List Mk)(T:List Tk):D:=.tup [.tup (M.map mkD),.tup (T.map tkD)]
theorem WP:∀(K:List (Str×Str))(x:Str),x∈K.map (·.1)->∃y:Str,dO (knD K) (.str x)=some (.str y)
 |[],x,h=>by cases h
 |p::K,x,h=>by
  show ∃y:Str,(if (p.1==x) then some (D.str p.2) else dO (knD K) (.str x))=some (.str y);by_cases z:(p.1==x)=true
  ·rw[if_pos z];exact⟨_,rfl⟩
  ·rw[if_neg z];refine WP K x ?_;rcases List.mem_cons.mp h with rfl|h
   ·exact absurd (beq_self_eq_true _) z
   ·exact h
theorem WQ(K:List (Str×Str)):(knD K).all (λp=>!isTup p.1)=true:=by
 rw[List.all_eq_true];intro p hp;obtain⟨q,_,rfl⟩:=List.mem_map.mp hp;rfl
theorem aDc(K:List (Str×Str)):D.bA ((knD K).map (·.2))=true:=by
 unfold knD;rw[List.map_map];exact a_ (f:=λp:Str×Str=>D.str p.2) (λ_=>rfl) K
theorem WR(K:List (Str×Str)):oE (knD K)=(K.map (·.1)).map D.str:=by
 unfold oE knD;rw[List.map_map,List.map_map];rfl
def wfit:FE:=(K6 17 3 h_ (bTB (b2 (d9 .eq) (b2 getD cM fW) (b2 getD oA bQ))) fW)
theorem aH0(hK:K.length<=1000) :
  ∃F:List Str,F.length<=K.length/\wfit [x0,x1,x2,.dct (knD K),x4,x5,x6,x7,x8,wD h,x10,x11,x12,x13,x14,x15,x16]=.ok (.lst (F.map D.str)):=by
 generalize hρ:fzD 3 (knD K) [x0,x1,x2,.dct (knD K),x4,x5,x6,x7,x8,wD h,x10,x11,x12,x13,x14,x15,x16]=ρ;have l:ρ.length=17:=by rw[<-hρ];unfold fzD;rw[List.length_set,List.length_map];rfl
 have v3:∀x,fV 3 (ρ++[x])=.ok (.fdc (knD K)):=λx=>by rw[<-hρ];rfl
 have v9:∀x,fV 9 (ρ++[x])=.ok (wD h):=λx=>by rw[<-hρ];rfl
 have v17:∀x,x≠.uD->fV 17 (ρ++[x])=.ok x:=λx hx=>by
  have:(ρ++[x]).getD 17 .uD=x:=by rw[List.getD_eq_getElem?_getD,List.getElem?_append_right (by lia),l];rfl
  unfold fV;rw[this];cases x<;>first|rfl|exact absurd rfl hx
 obtain⟨F,_,h2,h3⟩:=CK (iB 17 h_ (bTB (b2 (d9 .eq) (b2 getD cM fW) (b2 getD oA bQ))) fW false ρ) D.str (λ_=>True) (oE (knD K)) [] (λd hd acc=>by
  rw[WR] at hd;obtain⟨x,hx,rfl⟩:=List.mem_map.mp hd;obtain⟨y,hy⟩:=WP K x hx;have g1:getD (.fdc (knD K)) (.str x)=.ok (.str y):=by
   show(if keyOk (.str x) then Res.ofOpt (dO (knD K) (.str x)) else .bad)=_;rw[if_pos (show keyOk (.str x)=true from rfl),hy];rfl
  have c:=gM (k:=false) (acc:=acc) (c:=bTB (b2 (d9 .eq) (b2 getD cM fW) (b2 getD oA bQ))) (f:=fV 17) (x:=.str x) (y:=.str x) (b:=(y==h.1)) l (eZ (aK (x:=.str y) (y:=.str h.1) (aK (v3 _) (v17 _ (by intro q;cases q)) g1) (aK (x:=wD h) (y:=.int 0) (v9 _) rfl rfl) (eq_str _ _))) (λ_=>⟨v17 _ (by intro q;cases q),rfl⟩);rw[c];by_cases z:(y==h.1)=true
  ·exact⟨[x],λ_ _=>trivial,Nat.le_refl _,by rw[if_pos z];rfl⟩
  ·exact⟨[],λ_ _=>trivial,Nat.zero_le _,by rw[if_neg z];simp⟩)
 rw[List.nil_append] at h3;have hl:(oE (knD K)).length=K.length:=by rw[WR,List.length_map,List.length_map]
 refine⟨F,by lia,?_⟩;have kl:(knD K).length<=lim:=by unfold knD;rw[List.length_map];exact cC hK
 unfold wfit K6;show(if decide ((knD K).length<=lim)&&((knD K).all (λp=>!isTup p.1)&&D.bA ((knD K).map (·.2))) then (do
   let ys <- gZ (iB 17 h_ (bTB (b2 (d9 .eq) (b2 getD cM fW) (b2 getD oA bQ))) fW false (fzD 3 (knD K) [x0,x1,x2,.dct (knD K),x4,x5,x6,x7,x8,wD h,x10,x11,x12,x13,x14,x15,x16])) [] (oE (knD K))
   pure (D.lst ys)) else .bad)=_
 rw[if_pos (by rw[WQ,aDc,decide_eq_true kl];rfl),hρ,h3];rfl
def aEd(k:Int):FE:=(c7 17 (bV (b2 getD eO (bC (.int k))) false) h_ (bTB (b2 (d9 .eq) (b2 getD fW dI) (b2 getD oA bQ))) fW false)
theorem aH1(hM:M.length<=1000) :
  aEd 0 [x0,x1,bkD M T,x3,x4,x5,x6,x7,x8,wD h,x10,x11,x12,x13,x14,x15,x16]=.ok (.lst ((M.filter λm=>m.2.1==h.1).map mkD)):=by
 refine jA (xs:=M.map mkD) (gU (aK (x:=bkD M T) (y:=.int 0) rfl rfl rfl)) (by rw[List.length_map];exact cC hM) ?_;have c:=fK (iB 17 h_ (bTB (b2 (d9 .eq) (b2 getD fW dI) (b2 getD oA bQ))) fW false [x0,x1,bkD M T,x3,x4,x5,x6,x7,x8,wD h,x10,x11,x12,x13,x14,x15,x16]) mkD (λm=>m.2.1==h.1) mkD (λacc m=>gM (y:=mkD m) rfl (eZ (aK (x:=.str m.2.1) (y:=.str h.1) (aK (x:=mkD m) (y:=.int 1) rfl rfl rfl) (aK (x:=wD h) (y:=.int 0) rfl rfl rfl) (eq_str _ _))) (λ_=>⟨rfl,kO m⟩)) M [];rw[List.nil_append] at c;exact c
theorem aDd(hT:T.length<=1000) :
  aEd 1 [x0,x1,bkD M T,x3,x4,x5,x6,x7,x8,wD h,x10,x11,x12,x13,x14,x15,x16]=.ok (.lst ((T.filter λm=>m.2.1==h.1).map tkD)):=by
 refine jA (xs:=T.map tkD) (gU (aK (x:=bkD M T) (y:=.int 1) rfl rfl rfl)) (by rw[List.length_map];exact cC hT) ?_;have c:=fK (iB 17 h_ (bTB (b2 (d9 .eq) (b2 getD fW dI) (b2 getD oA bQ))) fW false [x0,x1,bkD M T,x3,x4,x5,x6,x7,x8,wD h,x10,x11,x12,x13,x14,x15,x16]) tkD (λm=>m.2.1==h.1) tkD (λacc m=>gM (y:=tkD m) rfl (eZ (aK (x:=.str m.2.1) (y:=.str h.1) (aK (x:=tkD m) (y:=.int 1) rfl rfl rfl) (aK (x:=wD h) (y:=.int 0) rfl rfl rfl) (eq_str _ _))) (λ_=>⟨rfl,mD m⟩)) T [];rw[List.nil_append] at c;exact c
theorem yH{n:Nat}{xs:List Str}(hρ:ρ.length=17)(ha:a ρ=.ok (.tup (xs.map D.str)))(hl:xs.length<=1000):c7 17 (bV a false) h_ dZ (cU (aA fW (aA (bC (.bl b)) aM))) false ρ=.ok (.lst ((xs.map λx=>(x,b)).map wD)):=by
 refine jA (xs:=xs.map D.str) (gU ha) (by rw[List.length_map];exact cC hl) ?_;have v17:∀x:Str,fV 17 (ρ++[.str x])=.ok (.str x):=λx=>by
  have:(ρ++[D.str x]).getD 17 .uD=.str x:=by rw[List.getD_eq_getElem?_getD,List.getElem?_append_right (by lia),hρ];rfl
  unfold fV;rw[this]
 have c:=fK (iB 17 h_ dZ (cU (aA fW (aA (bC (.bl b)) aM))) false ρ) D.str (λ_=>true) (λx=>wD (x,b)) (λacc x=>gM (y:=wD (x,b)) (b:=true) hρ rfl (λ_=>⟨cY (xs:=[.str x,.bl b]) (aD (v17 x) (aD rfl rfl)) uH,rfl⟩)) xs [];rw[List.nil_append,List.filter_eq_self.mpr (λ_ _=>rfl)] at c;rw[c,List.map_map];rfl
def wt(ns:List Int)(w:Wt):Nat:=if w.1=wrd ns 0 then 1 else 2
def sm(ns:List Int):List Wt->Nat
 |[]=>0
 |w::L=>wt ns w+sm ns L
theorem ZZ(ns:List Int)(w:Wt):1<=wt ns w/\wt ns w<=2:=by unfold wt;split<;>lia
theorem CP(ns:List Int):∀L:List Wt,L.length<=sm ns L/\sm ns L<=2*L.length
 |[]=>⟨Nat.le_refl _,Nat.le_refl _⟩
 |w::L=>by
  have:=ZZ ns w;have:=CP ns L;rw[List.length_cons,sm];lia
theorem LR(ns:List Int):∀A B:List Wt,sm ns (A++B)=sm ns A+sm ns B
 |[],B=>by rw[List.nil_append,sm,Nat.zero_add]
 |w::A,B=>by rw[List.cons_append,sm,LR ns A B,sm];lia
def mu(mo:Nat)(ns:List Int)(n:Nat)(L:List Wt):Nat:=(mo-n)*6+sm ns L
def ww(ns:List Int)(at_:Int)(M:List Mk)(T:List Tk)(K:List (Str×Str))(kind:Str)(mo le:Nat)(ws:List Str)(L:List Wt)(x9 x10 x11 x12 x13 x14 x15 x16:D):List D:=[.scr (ns.map D.int),.int at_,bkD M T,.dct (knD K),.str kind,.int (mo:Nat),.int (le:Nat),.lst (ws.map D.str),.lst (L.map wD),x9,x10,x11,x12,x13,x14,x15,x16]
def b2s:FS:=(bF (o7 7 (b2 getD (b2 (aW .add) eU (nJ (aA (b2 getD (b2 getD fO bQ) bQ) aM))) (b2 (aW .mod) (b2 (aW .fdiv) fP p_) (aL max2 (aA dI (aA (aL dJ (aA eU aM)) aM)))))) (sIf (bTB (b2 (d9 .eq) (aL dJ (aA eU aM)) bQ)) (bN true 8 (b2 (aW .add) (c7 17 (bV (b2 getD (b2 getD fO bQ) jK) false) h_ dZ (cU (aA fW (aA (bC (.bl true)) aM))) false) nD) true) o6))
def b3s:FS:=(bF (bN false 14 (b2 getD fO (b2 (aW .mod) (b2 (aW .fdiv) fP p_) (aL dJ (aA fO aM)))) false) (bF (o7 7 (b2 getD N5 bQ)) (bN true 8 (b2 (aW .add) (c7 17 (bV (b2 getD N5 jK) false) h_ dZ (cU (aA fW (aA (bC (.bl false)) aM))) false) nD) true)))
def b4s:FS:=(bF (bN false 15 (b2 getD lO (b2 (aW .mod) (b2 (aW .fdiv) fP p_) (aL dJ (aA lO aM)))) false) (bF (o7 7 (b2 getD wF bQ)) (bF (bN false 16 (R8 (b2 (mR .gt) (aL aEb (aA cM aM)) bQ) (b2 (mR .gt) (b2 (aW .mod) (b2 (aW .fdiv) fP (bC (.int 64))) p_) bQ)) true) (bN true 8 (b2 (aW .add) (b2 (aW .add) (nJ (aA (cU (aA (b2 getD wF jK) (aA (fV 16) aM))) aM)) (c7 17 (bV (b2 getD wF lH) false) h_ dZ (cU (aA fW (aA (bC (.bl false)) aM))) false)) nD) true))))
def c1s:FT:=(QM (bTB (b2 (mR .lt) (aL dJ (aA j6 aM)) lD)) (bTB (b2 (d9 .eq) (aL dJ (aA nD aM)) bQ)))
def c2s:FT:=(bOr (bTr (b2 getD oA dI)) (bOr (bTB (b2 (mR .ge) (b2 (aW .add) (aL dJ (aA j6 aM)) (aL dJ (aA nD aM))) kZ)) (bTB (b2 (d9 .eq) (b2 (aW .mod) fP p_) bQ))))
def c3s:FT:=(bOr (bTB (b2 (mR .lt) (b2 (aW .mod) fP p_) lH)) (bTB (b2 (d9 .eq) (aL dJ (aA lO aM)) bQ)))
def b1s:FS:=(bF (o7 7 (b2 getD (b2 getD fO dI) bQ)) (bN true 8 (nJ (aA (cU (aA (b2 getD (b2 getD (b2 getD fO dI) jK) bQ) (aA (bC (.bl false)) aM))) aM)) true))
def Z0:FS:=(bF (Y6 8 9 bQ) (bF (bN false 10 (aL (bW 2 aJ) (aA cA (aA (b2 (aW .add) dW (aL dJ (aA j6 aM))) aM))) true) (bF (bN false 11 wfit true) (bF (bN false 12 (aEd 0) true) (bF (bN false 13 (aEd 1) true) (sIf c1s b1s (sIf c2s b2s (sIf c3s b3s b4s))))))))
theorem WT:qW=bF (bN true 7 (nQ aM) true) (bF (bN true 8 (nJ (aA (cU (aA iQ (aA (bC (.bl false)) aM))) aM)) true) (bF (aGf (bTB (b2 (mR .gt) (aL dJ (aA nD aM)) bQ)) Z0) (nR (aL dH (aA j6 aM)) false))):=rfl
theorem JF(f:α->D)(L:List α)(i:Int)(h0:0<=i)(h1:i<L.length):∃a∈L,getD (.lst (L.map f)) (.int i)=.ok (f a):=by
 obtain⟨hl,e⟩:=HJ (L.map f) i h0 (by rw[List.length_map];exact h1);rw[e,List.getElem_map];exact⟨_,List.getElem_mem ..,rfl⟩
section
variable {ns:List Int} {at_:Int} {M:List Mk} {T:List Tk} {K:List (Str×Str)} {kind:Str} {mo le:Nat} {ws:List Str} {r:List Wt} {h:Wt} {dr:Int} {F:List Str} {m0:Mk} {R:List Mk} {A:List Tk} {x14 x15 x16:D}
theorem aDe(hw:ws.length<=600)(hr:r.length<=600)(hd:0<=dr)(hF:F.length<=100)(hm:m0.2.2.length<=3) :
  ∃(w:Str)(L:List Wt),(L=r\/L=(m0.2.2.map λx=>(x,true))++r)/\(F=[]->w=m0.1/\L=(m0.2.2.map λx=>(x,true))++r)/\b2s (ww ns at_ M T K kind mo le ws r (wD h) (.int dr) (.lst (F.map D.str)) (.lst ((m0::R).map mkD)) (.lst (A.map tkD)) x14 x15 x16)=.ok (.nx (ww ns at_ M T K kind mo le (ws++[w]) L (wD h) (.int dr) (.lst (F.map D.str)) (.lst ((m0::R).map mkD)) (.lst (A.map tkD)) x14 x15 x16)):=by
 have f4:=fD dr 4 (by decide) (by decide);obtain⟨n,n1,n2,hn⟩:∃n:Int,0<n/\n<(F++[m0.1]).length+1/\max2 [.int 1,.int (F.length:Nat)]=.ok (.int n)/\(n<=1\/n<=F.length):=by
  refine⟨_,?_,?_,aIu F.length,?_⟩
  ·split<;>lia
  ·rw[List.length_append,List.length_cons];split<;>lia
  ·split<;>lia
 have m4:=cD (dr / 4) n n1;have p1:=Int.emod_nonneg (dr / 4) (show n≠0 by lia);have p2:=Int.emod_lt_of_pos (dr / 4) n1;obtain⟨w,hwm,hg⟩:=JF D.str (F++[m0.1]) (dr / 4 % n) p1 (by lia);rw[List.map_append,show List.map D.str [m0.1]=[D.str m0.1] from rfl] at hg;have g0:getD (.lst ((m0::R).map mkD)) (.int 0)=.ok (mkD m0):=(HJ ((m0::R).map mkD) 0 (Int.le_refl 0) (by rw[List.length_map,List.length_cons];lia)).2;have hap:o7 7 (b2 getD (b2 (aW .add) eU (nJ (aA (b2 getD (b2 getD fO bQ) bQ) aM))) (b2 (aW .mod) (b2 (aW .fdiv) fP p_) (aL max2 (aA dI (aA (aL dJ (aA eU aM)) aM))))) (ww ns at_ M T K kind mo le ws r (wD h) (.int dr) (.lst (F.map D.str)) (.lst ((m0::R).map mkD)) (.lst (A.map tkD)) x14 x15 x16)=.ok (.nx (ww ns at_ M T K kind mo le (ws++[w]) r (wD h) (.int dr) (.lst (F.map D.str)) (.lst ((m0::R).map mkD)) (.lst (A.map tkD)) x14 x15 x16)):=by
  have e1:b2 (aW .add) eU (nJ (aA (b2 getD (b2 getD fO bQ) bQ) aM)) (ww ns at_ M T K kind mo le ws r (wD h) (.int dr) (.lst (F.map D.str)) (.lst ((m0::R).map mkD)) (.lst (A.map tkD)) x14 x15 x16)=.ok (.lst (F.map D.str++[.str m0.1])):=aK (x:=.lst (F.map D.str)) (y:=.lst [.str m0.1]) rfl (uI (xs:=[.str m0.1]) (aD (aK (x:=mkD m0) (y:=.int 0) (aK (x:=.lst ((m0::R).map mkD)) (y:=.int 0) rfl rfl g0) rfl rfl) rfl) (cC (Nat.le_of_ble_eq_true rfl)) rfl) (nH _ _ (by rw[List.length_map];exact cC (by show F.length+1<=1000;lia)) (bH F) rfl);have e2:b2 (aW .mod) (b2 (aW .fdiv) fP p_) (aL max2 (aA dI (aA (aL dJ (aA eU aM)) aM))) (ww ns at_ M T K kind mo le ws r (wD h) (.int dr) (.lst (F.map D.str)) (.lst ((m0::R).map mkD)) (.lst (A.map tkD)) x14 x15 x16)=.ok (.int (dr / 4 % n)):=aK (x:=.int (dr / 4)) (y:=.int n) (aK (x:=.int dr) (y:=.int 4) rfl rfl f4) (aR (xs:=[.int 1,.int (F.length:Nat)]) (aD rfl (aD (aR (xs:=[.lst (F.map D.str)]) (aD rfl rfl) (by rw[i_,List.length_map])) rfl)) hn.1) m4;have e3:=aK e1 e2 hg;have ap:=lB (i:=7) (xs:=ws.map D.str) (d:=.str w) e3 rfl (by rw[List.length_map];exact Nat.lt_of_lt_of_le (show ws.length<1000 by lia) (cC (Nat.le_refl _))) rfl;unfold ww;rw[List.map_append];exact ap
 have hc:bTB (b2 (d9 .eq) (aL dJ (aA eU aM)) bQ) (ww ns at_ M T K kind mo le (ws++[w]) r (wD h) (.int dr) (.lst (F.map D.str)) (.lst ((m0::R).map mkD)) (.lst (A.map tkD)) x14 x15 x16)=.ok (((F.length:Nat):Int)==0):=eZ (aK (x:=.int (F.length:Nat)) (y:=.int 0) (aR (xs:=[.lst (F.map D.str)]) (aD rfl rfl) (by rw[i_,List.length_map])) rfl (eq_int _ _));by_cases z:(((F.length:Nat):Int)==0)=true
 ·rw[z] at hc;refine⟨w,_,.inr rfl,λq=>⟨by rw[q] at hwm;exact List.mem_singleton.mp hwm,rfl⟩,aP hap (XH hc ?_)⟩;have e:=dG (i:=8) (d:=.lst ((m0.2.2.map λx=>(x,true)).map wD++r.map wD)) (aK (f:=aW .add) (x:=.lst ((m0.2.2.map λx=>(x,true)).map wD)) (y:=.lst (r.map wD)) (yH (n:=0) (ρ:=ww ns at_ M T K kind mo le (ws++[w]) r (wD h) (.int dr) (.lst (F.map D.str)) (.lst ((m0::R).map mkD)) (.lst (A.map tkD)) x14 x15 x16) (a:=b2 getD (b2 getD fO bQ) jK) (b:=true) rfl (aK (x:=mkD m0) (y:=.int 2) (aK (x:=.lst ((m0::R).map mkD)) (y:=.int 0) rfl rfl g0) rfl rfl) (by lia)) (b:=fV 8) rfl (nH _ _ (by simp only[List.length_map];exact cC (by lia)) (a_ m7 _) (a_ m7 _))) (by rw[<-List.map_append];exact a_ m7 _);rw[e,<-List.map_append];rfl
 ·rw[Bool.not_eq_true] at z;rw[z] at hc;exact⟨w,r,.inl rfl,λq=>(by rw[q] at z;cases z),aP hap (uO hc rfl)⟩
theorem aDf(hw:ws.length<=600)(hm:m2.2.2=[p]) :
  b1s (ww ns at_ M T K kind mo le ws [] (wD h) (.int dr) (.lst (F.map D.str)) (.lst ((m0::m2::R).map mkD)) (.lst (A.map tkD)) x14 x15 x16)=.ok (.nx (ww ns at_ M T K kind mo le (ws++[m2.1]) [(p,false)] (wD h) (.int dr) (.lst (F.map D.str)) (.lst ((m0::m2::R).map mkD)) (.lst (A.map tkD)) x14 x15 x16)):=by
 have g0:getD (.lst ((m0::m2::R).map mkD)) (.int 1)=.ok (mkD m2):=(HJ ((m0::m2::R).map mkD) 1 (by decide) (by rw[List.length_map,List.length_cons,List.length_cons];lia)).2;refine aP (ρ':=ww ns at_ M T K kind mo le (ws++[m2.1]) [] (wD h) (.int dr) (.lst (F.map D.str)) (.lst ((m0::m2::R).map mkD)) (.lst (A.map tkD)) x14 x15 x16) ?_ ?_
 ·have ap:=lB (i:=7) (ρ:=ww ns at_ M T K kind mo le ws [] (wD h) (.int dr) (.lst (F.map D.str)) (.lst ((m0::m2::R).map mkD)) (.lst (A.map tkD)) x14 x15 x16) (f:=b2 getD (b2 getD fO dI) bQ) (xs:=ws.map D.str) (d:=.str m2.1) (aK (x:=mkD m2) (y:=.int 0) (aK (x:=.lst ((m0::m2::R).map mkD)) (y:=.int 1) rfl rfl g0) rfl rfl) rfl (by rw[List.length_map];exact Nat.lt_of_lt_of_le (show ws.length<1000 by lia) (cC (Nat.le_refl _))) rfl;unfold ww;rw[List.map_append];exact ap
 ·have g2:getD (mkD m2) (.int 2)=.ok (.tup [.str p]):=by
   show Res.ok (D.tup (m2.2.2.map D.str))=_;rw[hm];rfl
  exact dG (i:=8) (d:=.lst [wD (p,false)]) (uI (xs:=[wD (p,false)]) (aD (cY (xs:=[.str p,.bl false]) (aD (aK (x:=.tup [.str p]) (y:=.int 0) (aK (x:=mkD m2) (y:=.int 2) (aK (x:=.lst ((m0::m2::R).map mkD)) (y:=.int 1) rfl rfl g0) rfl g2) rfl rfl) (aD rfl rfl)) uH) rfl) (cC (Nat.le_of_ble_eq_true rfl)) rfl) rfl
theorem aDg(hw:ws.length<=600)(hr:r.length<=600)(hd:0<=dr)(hR:(m0::R).length<=100)(hm:∀m∈m0::R,m.2.2.length<=3) :
  ∃(m:Mk)(y14:D),m∈m0::R/\b3s (ww ns at_ M T K kind mo le ws r (wD h) (.int dr) (.lst (F.map D.str)) (.lst ((m0::R).map mkD)) (.lst (A.map tkD)) x14 x15 x16)=.ok (.nx (ww ns at_ M T K kind mo le (ws++[m.1]) ((m.2.2.map λx=>(x,false))++r) (wD h) (.int dr) (.lst (F.map D.str)) (.lst ((m0::R).map mkD)) (.lst (A.map tkD)) y14 x15 x16)):=by
 have f4:=fD dr 4 (by decide) (by decide);have n1:(0:Int)<((m0::R).length:Nat):=by rw[List.length_cons];lia
 have m4:=cD (dr / 4) ((m0::R).length:Nat) n1;have p1:=Int.emod_nonneg (dr / 4) (show(((m0::R).length:Nat):Int)≠0 by lia);have p2:=Int.emod_lt_of_pos (dr / 4) n1;obtain⟨m,hmm,hg⟩:=JF mkD (m0::R) (dr / 4 % ((m0::R).length:Nat)) p1 p2;have h3:=hm m hmm;refine⟨m,mkD m,hmm,?_⟩;refine aP (ρ':=ww ns at_ M T K kind mo le ws r (wD h) (.int dr) (.lst (F.map D.str)) (.lst ((m0::R).map mkD)) (.lst (A.map tkD)) (mkD m) x15 x16) (iY (i:=14) (aK (x:=.lst ((m0::R).map mkD)) (y:=.int (dr / 4 % ((m0::R).length:Nat))) rfl (aK (x:=.int (dr / 4)) (y:=.int ((m0::R).length:Nat)) (aK (x:=.int dr) (y:=.int 4) rfl rfl f4) (aR (xs:=[.lst ((m0::R).map mkD)]) (aD rfl rfl) (by rw[i_,List.length_map])) m4) hg) (kO m)) ?_;refine aP (ρ':=ww ns at_ M T K kind mo le (ws++[m.1]) r (wD h) (.int dr) (.lst (F.map D.str)) (.lst ((m0::R).map mkD)) (.lst (A.map tkD)) (mkD m) x15 x16) ?_ ?_
 ·have ap:=lB (i:=7) (ρ:=ww ns at_ M T K kind mo le ws r (wD h) (.int dr) (.lst (F.map D.str)) (.lst ((m0::R).map mkD)) (.lst (A.map tkD)) (mkD m) x15 x16) (f:=b2 getD N5 bQ) (xs:=ws.map D.str) (d:=.str m.1) (aK (x:=mkD m) (y:=.int 0) rfl rfl rfl) rfl (by rw[List.length_map];exact Nat.lt_of_lt_of_le (show ws.length<1000 by lia) (cC (Nat.le_refl _))) rfl;unfold ww;rw[List.map_append];exact ap
 ·have e:=dG (i:=8) (d:=.lst ((m.2.2.map λx=>(x,false)).map wD++r.map wD)) (aK (f:=aW .add) (x:=.lst ((m.2.2.map λx=>(x,false)).map wD)) (y:=.lst (r.map wD)) (yH (n:=0) (ρ:=ww ns at_ M T K kind mo le (ws++[m.1]) r (wD h) (.int dr) (.lst (F.map D.str)) (.lst ((m0::R).map mkD)) (.lst (A.map tkD)) (mkD m) x15 x16) (a:=b2 getD N5 jK) (b:=false) rfl (aK (x:=mkD m) (y:=.int 2) rfl rfl rfl) (by lia)) (b:=fV 8) rfl (nH _ _ (by simp only[List.length_map];exact cC (by lia)) (a_ m7 _) (a_ m7 _))) (by rw[<-List.map_append];exact a_ m7 _);rw[e,<-List.map_append];rfl
theorem aDh(hw:ws.length<=600)(hr:r.length<=600)(hd:0<=dr)(hA0:0<A.length)(hm:∀m∈A,m.2.2.2.length<=3) :
  ∃(m:Tk)(b:Bool)(y15 y16:D),m∈A/\b4s (ww ns at_ M T K kind mo le ws r (wD h) (.int dr) (.lst (F.map D.str)) (.lst ((m0::R).map mkD)) (.lst (A.map tkD)) x14 x15 x16)=.ok (.nx (ww ns at_ M T K kind mo le (ws++[m.1]) (((m.2.2.1,b)::(m.2.2.2.map λx=>(x,false)))++r) (wD h) (.int dr) (.lst (F.map D.str)) (.lst ((m0::R).map mkD)) (.lst (A.map tkD)) x14 y15 y16)):=by
 have f4:=fD dr 4 (by decide) (by decide);have f64:=fD dr 64 (by decide) (by decide);have m64:=cD (dr / 64) 4 (by decide);have n1:(0:Int)<(A.length:Nat):=by lia
 have m4:=cD (dr / 4) (A.length:Nat) n1;have p1:=Int.emod_nonneg (dr / 4) (show((A.length:Nat):Int)≠0 by lia);have p2:=Int.emod_lt_of_pos (dr / 4) n1;obtain⟨m,hmm,hg⟩:=JF tkD A (dr / 4 % (A.length:Nat)) p1 p2;have h3:=hm m hmm;refine⟨m,(decide ((0:Int)<((knD K).length:Nat))&&decide ((0:Int)<dr / 64 % 4)),tkD m,.bl (decide ((0:Int)<((knD K).length:Nat))&&decide ((0:Int)<dr / 64 % 4)),hmm,?_⟩;refine aP (ρ':=ww ns at_ M T K kind mo le ws r (wD h) (.int dr) (.lst (F.map D.str)) (.lst ((m0::R).map mkD)) (.lst (A.map tkD)) x14 (tkD m) x16) (iY (i:=15) (aK (x:=.lst (A.map tkD)) (y:=.int (dr / 4 % (A.length:Nat))) rfl (aK (x:=.int (dr / 4)) (y:=.int (A.length:Nat)) (aK (x:=.int dr) (y:=.int 4) rfl rfl f4) (aR (xs:=[.lst (A.map tkD)]) (aD rfl rfl) (by rw[i_,List.length_map])) m4) hg) (mD m)) ?_;refine aP (ρ':=ww ns at_ M T K kind mo le (ws++[m.1]) r (wD h) (.int dr) (.lst (F.map D.str)) (.lst ((m0::R).map mkD)) (.lst (A.map tkD)) x14 (tkD m) x16) ?_ ?_
 ·have ap:=lB (i:=7) (ρ:=ww ns at_ M T K kind mo le ws r (wD h) (.int dr) (.lst (F.map D.str)) (.lst ((m0::R).map mkD)) (.lst (A.map tkD)) x14 (tkD m) x16) (f:=b2 getD wF bQ) (xs:=ws.map D.str) (d:=.str m.1) (aK (x:=tkD m) (y:=.int 0) rfl rfl rfl) rfl (by rw[List.length_map];exact Nat.lt_of_lt_of_le (show ws.length<1000 by lia) (cC (Nat.le_refl _))) rfl;unfold ww;rw[List.map_append];exact ap
 have lx:aEb [.dct (knD K)]=.ok (.int ((knD K).length:Nat)):=by
  rw[aEb,if_pos (WQ K)]
 generalize hb:(decide ((0:Int)<((knD K).length:Nat))&&decide ((0:Int)<dr / 64 % 4))=b;refine aP (ρ':=ww ns at_ M T K kind mo le (ws++[m.1]) r (wD h) (.int dr) (.lst (F.map D.str)) (.lst ((m0::R).map mkD)) (.lst (A.map tkD)) x14 (tkD m) (.bl b)) (bZ (i:=16) (by
  rw[<-hb];exact aDb (aK (x:=.int ((knD K).length:Nat)) (y:=.int 0) (aR (xs:=[.dct (knD K)]) (aD rfl rfl) lx) rfl (aEc _ _)) (aK (x:=.int (dr / 64 % 4)) (y:=.int 0) (aK (x:=.int (dr / 64)) (aK (x:=.int dr) rfl rfl f64) rfl m64) rfl (aEc _ _)))) ?_
 have e:=dG (i:=8) (d:=.lst (([wD (m.2.2.1,b)]++(m.2.2.2.map λx=>(x,false)).map wD)++r.map wD)) (aK (f:=aW .add) (x:=.lst ([wD (m.2.2.1,b)]++(m.2.2.2.map λx=>(x,false)).map wD)) (y:=.lst (r.map wD)) (aK (f:=aW .add) (x:=.lst [wD (m.2.2.1,b)]) (y:=.lst ((m.2.2.2.map λx=>(x,false)).map wD)) (uI (a:=aA (cU (aA (b2 getD wF jK) (aA (fV 16) aM))) aM) (xs:=[wD (m.2.2.1,b)]) (aD (cY (xs:=[.str m.2.2.1,.bl b]) (aD (aK (x:=tkD m) (y:=.int 2) rfl rfl rfl) (aD rfl rfl)) uH) rfl) (cC (Nat.le_of_ble_eq_true rfl)) rfl) (yH (n:=0) (ρ:=ww ns at_ M T K kind mo le (ws++[m.1]) r (wD h) (.int dr) (.lst (F.map D.str)) (.lst ((m0::R).map mkD)) (.lst (A.map tkD)) x14 (tkD m) (.bl b)) (a:=b2 getD wF lH) (b:=false) rfl (aK (x:=tkD m) (y:=.int 3) rfl rfl rfl) (by lia)) (nH _ _ (by simp only[List.length_map];exact cC (by show 1+_<=1000;lia)) rfl (a_ m7 _))) (b:=fV 8) rfl (nH _ _ (by simp only[List.length_map,List.length_append];exact cC (by show 1+_+_<=1000;lia)) (a_ m7 ((m.2.2.1,b)::(m.2.2.2.map λx=>(x,false)))) (a_ m7 _))) (by
  have:=a_ m7 (((m.2.2.1,b)::(m.2.2.2.map λx=>(x,false)))++r);rw[List.map_append] at this;exact this)
 have z:([wD (m.2.2.1,b)]++(m.2.2.2.map λx=>(x,false)).map wD)++r.map wD=((((m.2.2.1,b)::(m.2.2.2.map λx=>(x,false)))++r)).map wD:=by
  rw[List.map_append];rfl
 rw[e,z];rfl
end
inductive Dv(M:List Mk):List Str->List Str->Prop
 |nil:Dv M [] []
 |cons {m:Mk} {st ws:List Str}:m∈M->Dv M (m.2.2++st) ws->Dv M (m.2.1::st) (m.1::ws)
theorem Z1(xs:List Str)(b:Bool)(h:xs.length<=3):sm ns (xs.map λx=>(x,b))<=6:=by
 have:=(CP ns (xs.map λx=>(x,b))).2;rw[List.length_map] at this;lia
theorem aDi(hn:ns.length<=63)(hm:0<many)(hm3:many<=3)(hM:MOk ns many many.toNat M)(hT:∀t∈T,gR ns many t)(hTl:T.length<=3)(hK:K.length<=100)(hw:ws.length<=600)(hr:r.length<=600)(hlm:le<=mo)(hk:∀q∈h::r,IsK ns many q.1) :
  ∃(w:Str)(L:List Wt)(y9 y10 y11 y12 y13 y14 y15 y16:D),(∀q∈L,IsK ns many q.1)/\mu mo ns (ws.length+1) L+1<=mu mo ns ws.length (h::r)/\(T=[]->K=[]->∃m∈M,m.2.1=h.1/\w=m.1/\L.map (·.1)=m.2.2++r.map (·.1))/\Z0 (ww ns at_ M T K kind mo le ws (h::r) x9 x10 x11 x12 x13 x14 x15 x16)=.ok (.nx (ww ns at_ M T K kind mo le (ws++[w]) L y9 y10 y11 y12 y13 y14 y15 y16)):=by
 have mm:((many.toNat:Nat):Int)=many:=by lia
 have hk0:=hk h (List.mem_cons_self ..);have hkr:∀q∈r,IsK ns many q.1:=λq hq=>hk q (List.mem_cons_of_mem _ hq)
 have h1:Y6 8 9 bQ (ww ns at_ M T K kind mo le ws (h::r) x9 x10 x11 x12 x13 x14 x15 x16)=.ok (.nx (ww ns at_ M T K kind mo le ws r (wD h) x10 x11 x12 x13 x14 x15 x16)):=rfl;have a1:=cZ at_ (ws.length:Nat);generalize hdr:drw ns (at_+(ws.length:Nat))=dr;have hd:0<=dr:=by rw[<-hdr];exact(mC hn _).2.1
 have h2:bN false 10 (aL (bW 2 aJ) (aA cA (aA (b2 (aW .add) dW (aL dJ (aA j6 aM))) aM))) true (ww ns at_ M T K kind mo le ws r (wD h) x10 x11 x12 x13 x14 x15 x16)=.ok (.nx (ww ns at_ M T K kind mo le ws r (wD h) (.int dr) x11 x12 x13 x14 x15 x16)):=by
  refine bZ (i:=10) ?_;rw[<-hdr];exact jX hn rfl (aK (x:=.int at_) (y:=.int (ws.length:Nat)) rfl (aR (xs:=[.lst (ws.map D.str)]) (aD rfl rfl) (by rw[i_,List.length_map])) a1)
 obtain⟨F,hF,eF⟩:=aH0 (K:=K) (h:=h) (by lia) (x0:=.scr (ns.map D.int)) (x1:=.int at_) (x2:=bkD M T) (x4:=.str kind) (x5:=.int (mo:Nat)) (x6:=.int (le:Nat)) (x7:=.lst (ws.map D.str)) (x8:=.lst (r.map wD)) (x10:=.int dr) (x11:=x11) (x12:=x12) (x13:=x13) (x14:=x14) (x15:=x15) (x16:=x16);have h3:bN false 11 wfit true (ww ns at_ M T K kind mo le ws r (wD h) (.int dr) x11 x12 x13 x14 x15 x16)=.ok (.nx (ww ns at_ M T K kind mo le ws r (wD h) (.int dr) (.lst (F.map D.str)) x12 x13 x14 x15 x16)):=bZ (i:=11) eF;obtain⟨m0,m2,R,hf,hq,hm2⟩:=hM.find h.1 (by rw[mm];exact hk0);have ml:=hM.len;have h4:bN false 12 (aEd 0) true (ww ns at_ M T K kind mo le ws r (wD h) (.int dr) (.lst (F.map D.str)) x12 x13 x14 x15 x16)=.ok (.nx (ww ns at_ M T K kind mo le ws r (wD h) (.int dr) (.lst (F.map D.str)) (.lst ((m0::m2::R).map mkD)) x13 x14 x15 x16)):=by
  rw[<-hf];exact bZ (i:=12) (aH1 (by lia))
 generalize hA:(T.filter λm=>m.2.1==h.1)=A;have h5:bN false 13 (aEd 1) true (ww ns at_ M T K kind mo le ws r (wD h) (.int dr) (.lst (F.map D.str)) (.lst ((m0::m2::R).map mkD)) x13 x14 x15 x16)=.ok (.nx (ww ns at_ M T K kind mo le ws r (wD h) (.int dr) (.lst (F.map D.str)) (.lst ((m0::m2::R).map mkD)) (.lst (A.map tkD)) x14 x15 x16)):=by
  rw[<-hA];exact bZ (i:=13) (aDd (by lia))
 have inM:∀m∈m0::m2::R,m∈M:=λm hq=>by
  rw[<-hf] at hq;exact(List.mem_filter.mp hq).1
 have inT:∀m∈A,m∈T:=λm hq=>by
  rw[<-hA] at hq;exact(List.mem_filter.mp hq).1
 have hlen:(m0::m2::R).length<=100:=by
  have:=List.length_filter_le (λm:Mk=>m.2.1==h.1) M;rw[hf] at this;lia
 have kd:∀m∈m0::m2::R,m.2.1=h.1:=λm hq=>by
  rw[<-hf] at hq;exact eq_of_beq (List.mem_filter.mp hq).2
 have c1:c1s (ww ns at_ M T K kind mo le ws r (wD h) (.int dr) (.lst (F.map D.str)) (.lst ((m0::m2::R).map mkD)) (.lst (A.map tkD)) x14 x15 x16)=.ok (decide (((ws.length:Nat):Int)<(le:Nat))&&(((r.length:Nat):Int)==0)):=by
  have q1:bTB (b2 (mR .lt) (aL dJ (aA j6 aM)) lD) (ww ns at_ M T K kind mo le ws r (wD h) (.int dr) (.lst (F.map D.str)) (.lst ((m0::m2::R).map mkD)) (.lst (A.map tkD)) x14 x15 x16)=.ok (decide (((ws.length:Nat):Int)<(le:Nat))):=eZ (aK (x:=.int (ws.length:Nat)) (y:=.int (le:Nat)) (aR (xs:=[.lst (ws.map D.str)]) (aD rfl rfl) (by rw[i_,List.length_map])) rfl (aJ9 _ _));have q2:bTB (b2 (d9 .eq) (aL dJ (aA nD aM)) bQ) (ww ns at_ M T K kind mo le ws r (wD h) (.int dr) (.lst (F.map D.str)) (.lst ((m0::m2::R).map mkD)) (.lst (A.map tkD)) x14 x15 x16)=.ok (((r.length:Nat):Int)==0):=eZ (aK (x:=.int (r.length:Nat)) (y:=.int 0) (aR (xs:=[.lst (r.map wD)]) (aD rfl rfl) (by rw[i_,List.length_map])) rfl (eq_int _ _));cases hb:decide (((ws.length:Nat):Int)<(le:Nat)) with
  |true=>rw[hb] at q1;exact U0 q1 q2
  |false=>rw[hb] at q1;exact aCg q1
 have m4:=cD dr 4 (by decide);have a2:=cZ (ws.length:Nat) (r.length:Nat);have c2:c2s (ww ns at_ M T K kind mo le ws r (wD h) (.int dr) (.lst (F.map D.str)) (.lst ((m0::m2::R).map mkD)) (.lst (A.map tkD)) x14 x15 x16)=.ok (h.2||(decide (((mo:Nat):Int)<=(ws.length:Nat)+(r.length:Nat))||(dr % 4==0))):=aDa (aIw (aK (x:=wD h) (y:=.int 1) rfl rfl rfl)) (aDa (eZ (aK (x:=.int ((ws.length:Nat)+(r.length:Nat))) (y:=.int (mo:Nat)) (aK (x:=.int (ws.length:Nat)) (y:=.int (r.length:Nat)) (aR (xs:=[.lst (ws.map D.str)]) (aD rfl rfl) (by rw[i_,List.length_map])) (aR (xs:=[.lst (r.map wD)]) (aD rfl rfl) (by rw[i_,List.length_map])) a2) rfl (aK8 _ _))) (eZ (aK (x:=.int (dr % 4)) (y:=.int 0) (aK (x:=.int dr) rfl rfl m4) rfl (eq_int _ _))));have c3:c3s (ww ns at_ M T K kind mo le ws r (wD h) (.int dr) (.lst (F.map D.str)) (.lst ((m0::m2::R).map mkD)) (.lst (A.map tkD)) x14 x15 x16)=.ok (decide (dr % 4<3)||(((A.length:Nat):Int)==0)):=aDa (eZ (aK (x:=.int (dr % 4)) (y:=.int 3) (aK (x:=.int dr) rfl rfl m4) rfl (aJ9 _ _))) (eZ (aK (x:=.int (A.length:Nat)) (y:=.int 0) (aR (xs:=[.lst (A.map tkD)]) (aD rfl rfl) (by rw[i_,List.length_map])) rfl (eq_int _ _)));have fin:∀{res},sIf c1s b1s (sIf c2s b2s (sIf c3s b3s b4s)) (ww ns at_ M T K kind mo le ws r (wD h) (.int dr) (.lst (F.map D.str)) (.lst ((m0::m2::R).map mkD)) (.lst (A.map tkD)) x14 x15 x16)=res->Z0 (ww ns at_ M T K kind mo le ws (h::r) x9 x10 x11 x12 x13 x14 x15 x16)=res:=λe=>aP h1 (aP h2 (aP h3 (aP h4 (aP h5 e))))
 have wh:=ZZ ns h;by_cases z1:(decide (((ws.length:Nat):Int)<(le:Nat))&&(((r.length:Nat):Int)==0))=true
 ·rw[z1] at c1;rw[Bool.and_eq_true,decide_eq_true_eq] at z1;have hr0:r=[]:=List.length_eq_zero_iff.mp (by have:=eq_of_beq z1.2;lia);subst hr0;obtain⟨p,hp⟩:=List.length_eq_one_iff.mp hm2;have mp:=hM.part m2 (inM m2 (List.mem_cons_of_mem _ (List.mem_cons_self ..)));refine⟨m2.1,[(p,false)],_,_,_,_,_,_,_,_,λq hql=>?_,?_,λ_ _=>⟨m2,inM m2 (List.mem_cons_of_mem _ (List.mem_cons_self ..)),kd m2 (List.mem_cons_of_mem _ (List.mem_cons_self ..)),rfl,by rw[hp];rfl⟩,fin (XH c1 (aDf (ns:=ns) (at_:=at_) (M:=M) (T:=T) (K:=K) (kind:=kind) (mo:=mo) (le:=le) (h:=h) (R:=R) (A:=A) (x14:=x14) (x15:=x15) (x16:=x16) (F:=F) (m0:=m0) (p:=p) hw hp))⟩
  ·rw[List.mem_singleton.mp hql];exact mp.2.2 p (by rw[hp];exact List.mem_cons_self ..)
  ·unfold mu;rw[sm,sm,sm,sm];have:=ZZ ns (p,false);lia
 rw[Bool.not_eq_true] at z1;rw[z1] at c1;by_cases z:(h.2||(decide (((mo:Nat):Int)<=(ws.length:Nat)+(r.length:Nat))||(dr % 4==0)))=true
 ·rw[z] at c2;obtain⟨w,L,hL,hL2,e⟩:=aDe (ns:=ns) (at_:=at_) (M:=M) (T:=T) (K:=K) (kind:=kind) (mo:=mo) (le:=le) (h:=h) (R:=m2::R) (A:=A) (x14:=x14) (x15:=x15) (x16:=x16) hw hr hd (F:=F) (by lia) (m0:=m0) (by rcases hq with q|⟨q,_⟩<;>rw[q]<;>exact Nat.le_of_ble_eq_true rfl);refine⟨w,L,_,_,_,_,_,_,_,_,λq hql=>?_,?_,λhT0 hK0=>?_,fin (uO c1 (XH c2 e))⟩
  rotate_right
  ·have hF0:F=[]:=List.length_eq_zero_iff.mp (by rw[hK0] at hF;simpa using hF);obtain⟨e1,e2⟩:=hL2 hF0;refine⟨m0,inM m0 (List.mem_cons_self ..),kd m0 (List.mem_cons_self ..),e1,?_⟩;rw[e2,List.map_append,List.map_map]
   congr 1
   exact List.map_id' _
  ·rcases hL with rfl|rfl
   ·exact hkr q hql
   ·rcases List.mem_append.mp hql with hql|hql
    ·obtain⟨x,hx,rfl⟩:=List.mem_map.mp hql;exact(hM.part m0 (inM m0 (List.mem_cons_self ..))).2.2 x hx
    ·exact hkr q hql
  ·unfold mu;rw[sm];rcases hL with rfl|rfl
   ·lia
   ·rw[LR];rcases hq with q|⟨q,q2⟩
    ·rw[q];show _+(0+_)+1<=_;lia
    ·rw[q];have e1:sm ns ([wrd ns 0].map λx=>(x,true))=1:=by
      show(if wrd ns 0=wrd ns 0 then 1 else 2)+0=1;rw[if_pos rfl]
     have e2:wt ns h=2:=by
      unfold wt;rw[if_neg q2]
     rw[e1,e2];lia
 ·rw[Bool.not_eq_true] at z;rw[z] at c2;have lt:ws.length+r.length<mo:=by
   simp only[Bool.or_eq_false_iff,decide_eq_false_iff_not] at z;lia
  by_cases y:(decide (dr % 4<3)||(((A.length:Nat):Int)==0))=true
  ·rw[y] at c3;obtain⟨m,y14,hmm,e⟩:=aDg (ns:=ns) (at_:=at_) (M:=M) (T:=T) (K:=K) (kind:=kind) (mo:=mo) (le:=le) (h:=h) (F:=F) (A:=A) (x14:=x14) (x15:=x15) (x16:=x16) hw hr hd (m0:=m0) (R:=m2::R) hlen (λm hq=>(hM.part m (inM m hq)).2.1);have mp:=hM.part m (inM m hmm);refine⟨m.1,_,_,_,_,_,_,_,_,_,λq hql=>?_,?_,λ_ _=>⟨m,inM m hmm,kd m hmm,rfl,by rw[List.map_append,List.map_map];congr 1;exact List.map_id' _⟩,fin (uO c1 (uO c2 (XH c3 e)))⟩
   ·rcases List.mem_append.mp hql with hql|hql
    ·obtain⟨x,hx,rfl⟩:=List.mem_map.mp hql;exact mp.2.2 x hx
    ·exact hkr q hql
   ·unfold mu;have:=Z1 (ns:=ns) m.2.2 false mp.2.1;rw[sm,LR];lia
  ·rw[Bool.not_eq_true] at y;rw[y] at c3;have hA0:0<A.length:=by
    simp only[Bool.or_eq_false_iff,beq_eq_false_iff_ne] at y;lia
   obtain⟨m,b,y15,y16,hmm,e⟩:=aDh (ns:=ns) (at_:=at_) (M:=M) (T:=T) (K:=K) (kind:=kind) (mo:=mo) (le:=le) (h:=h) (F:=F) (m0:=m0) (R:=m2::R) (x14:=x14) (x15:=x15) (x16:=x16) hw hr hd (A:=A) hA0 (λm hq=>Nat.le_succ_of_le (hT m (inT m hq)).2.2.2.1);have mp:=hT m (inT m hmm);refine⟨m.1,_,_,_,_,_,_,_,_,_,λq hql=>?_,?_,λhT0 _=>(by have:=inT m hmm;rw[hT0] at this;cases this),fin (uO c1 (uO c2 (uO c3 e)))⟩
   ·rcases List.mem_append.mp hql with hql|hql
    ·rcases List.mem_cons.mp hql with rfl|hql
     ·exact mp.2.2.1
     ·obtain⟨x,hx,rfl⟩:=List.mem_map.mp hql;exact mp.2.2.2.2 x hx
    ·exact hkr q hql
   ·unfold mu;have:=(CP ns (m.2.2.2.map λx=>(x,false))).2;rw[List.length_map] at this;have:=mp.2.2.2.1;have:=ZZ ns (m.2.2.1,b);rw[sm,LR,sm];lia
theorem aDj(hn:ns.length<=63)(hm:0<many)(hm3:many<=3)(hM:MOk ns many many.toNat M)(hT:∀t∈T,gR ns many t)(hTl:T.length<=3)(hK:K.length<=100)(hlm:le<=mo) :
  ∀(n:Nat)(ws:List Str)(L:List Wt)(x9 x10 x11 x12 x13 x14 x15 x16:D),(∀q∈L,IsK ns many q.1)->mu mo ns ws.length L<n->ws.length+mu mo ns ws.length L<=600->
  ∃(vs:List Str)(y9 y10 y11 y12 y13 y14 y15 y16:D),(vs.length<=mu mo ns ws.length L/\(T=[]->K=[]->Dv M (L.map (·.1)) vs))/\U6 (bTB (b2 (mR .gt) (aL dJ (aA nD aM)) bQ)) Z0 n (ww ns at_ M T K kind mo le ws L x9 x10 x11 x12 x13 x14 x15 x16)=.ok (.nx (ww ns at_ M T K kind mo le (ws++vs) [] y9 y10 y11 y12 y13 y14 y15 y16)):=by
 intro n;induction n with
 |zero=>intro ws L x9 x10 x11 x12 x13 x14 x15 x16 _ h;lia
 |succ n ih=>
  intro ws L x9 x10 x11 x12 x13 x14 x15 x16 hL h1 h2;have c:bTB (b2 (mR .gt) (aL dJ (aA nD aM)) bQ) (ww ns at_ M T K kind mo le ws L x9 x10 x11 x12 x13 x14 x15 x16)=.ok (decide ((0:Int)<(L.length:Nat))):=eZ (aK (x:=.int (L.length:Nat)) (y:=.int 0) (aR (xs:=[.lst (L.map wD)]) (aD rfl rfl) (by rw[i_,List.length_map])) rfl (aEc _ _));cases L with
  |nil=>
   refine⟨[],x9,x10,x11,x12,x13,x14,x15,x16,⟨Nat.zero_le _,λ_ _=>.nil⟩,?_⟩;rw[U6,c,List.append_nil];rfl
  |cons h r=>
   have hl:=(CP ns (h::r)).1;rw[List.length_cons] at hl;have hmu:sm ns (h::r)<=mu mo ns ws.length (h::r):=by unfold mu;lia
   obtain⟨w,L,y9,y10,y11,y12,y13,y14,y15,y16,i1,i2,i4,i3⟩:=aDi (at_:=at_) (kind:=kind) (mo:=mo) (le:=le) (x9:=x9) (x10:=x10) (x11:=x11) (x12:=x12) (x13:=x13) (x14:=x14) (x15:=x15) (x16:=x16) hn hm hm3 hM hT hTl hK (ws:=ws) (r:=r) (h:=h) (by lia) (by lia) hlm hL;have wl:(ws++[w]).length=ws.length+1:=by rw[List.length_append];rfl
   obtain⟨vs,z9,z10,z11,z12,z13,z14,z15,z16,j0,j⟩:=ih (ws++[w]) L y9 y10 y11 y12 y13 y14 y15 y16 i1 (by rw[wl];lia) (by rw[wl];lia);refine⟨w::vs,z9,z10,z11,z12,z13,z14,z15,z16,⟨by have:=j0.1;rw[wl] at this;rw[List.length_cons];lia,λhT0 hK0=>?_⟩,?_⟩
   ·obtain⟨m,k1,k2,k3,k4⟩:=i4 hT0 hK0;have d:=j0.2 hT0 hK0;rw[k4] at d;rw[k3,List.map_cons,<-k2];exact .cons k1 d
   rw[show ws++w::vs=ws++[w]++vs by simp];have:decide ((0:Int)<((h::r).length:Nat))=true:=decide_eq_true (by rw[List.length_cons];lia);rw[U6,c,this,Res.bB,if_pos rfl,i3];exact j
theorem L_(hn:ns.length<=63)(hm:0<many)(hm3:many<=3)(hM:MOk ns many many.toNat M)(hT:∀t∈T,gR ns many t)(hTl:T.length<=3)(hK:K.length<=100)(hlm:le<=mo)(hmo:mo<=70)(hk:IsK ns many kind) :
  ∃vs:List Str,(vs.length<=450/\(T=[]->K=[]->Dv M [kind] vs))/\bW 7 cP [.scr (ns.map D.int),.int at_,bkD M T,.dct (knD K),.str kind,.int (mo:Nat),.int (le:Nat)]=.ok (.tup (vs.map D.str)):=by
 have m1:mu mo ns ([]:List Str).length [(kind,false)]<=450:=by
  have:=(CP ns [(kind,false)]).2;unfold mu;have e:[(kind,false)].length=1:=rfl;have e2:([]:List Str).length=0:=rfl;lia
 obtain⟨vs,z9,z10,z11,z12,z13,z14,z15,z16,j0,j⟩:=aDj (at_:=at_) (kind:=kind) (mo:=mo) (le:=le) hn hm hm3 hM hT hTl hK hlm 1000 [] [(kind,false)] .uD .uD .uD .uD .uD .uD .uD .uD (λq hq=>by rw[List.mem_singleton.mp hq];exact hk) (by lia) (by show 0+_<=600;lia);refine⟨vs,⟨Nat.le_trans j0.1 m1,j0.2⟩,(dR rfl).trans (call_v ?_)⟩;rw[WT];refine aP (ρ':=[.scr (ns.map D.int),.int at_,bkD M T,.dct (knD K),.str kind,.int (mo:Nat),.int (le:Nat),.lst [],.uD,.uD,.uD,.uD,.uD,.uD,.uD,.uD,.uD]) (dG (i:=7) (jD (xs:=[]) rfl (Nat.zero_le _)) rfl) ?_;refine aP (ρ':=ww ns at_ M T K kind mo le [] [(kind,false)] .uD .uD .uD .uD .uD .uD .uD .uD) (dG (i:=8) (uI (xs:=[wD (kind,false)]) (aD (cY (xs:=[.str kind,.bl false]) (aD rfl (aD rfl rfl)) uH) rfl) (cC (Nat.le_of_ble_eq_true rfl)) rfl) rfl) ?_;refine aP j ?_;exact iZ (d:=.tup (vs.map D.str)) (aR (xs:=[.lst (vs.map D.str)]) (aD rfl rfl) rfl) (by rw[D.pure,bH];rfl)
noncomputable abbrev Rl:=Str×Str×List Str×List Str
def rlD(r:Rl):D:=.tup [.str r.1,.str r.2.1,.tup (r.2.2.1.map D.str),.tup (r.2.2.2.map D.str)]
theorem qN(r:Rl):(rlD r).pure=true:=by
 show(true&&(true&&((D.tup (r.2.2.1.map D.str)).pure&&((D.tup (r.2.2.2.map D.str)).pure&&true))))=true;rw[D.pure,D.pure,bH,bH];rfl
theorem aAw:∀(K:List (Str×Str))(x y:Str),∃K':List (Str×Str),K'.length<=K.length+1/\putD (knD K) (.str x) (.str y)=knD K'
 |[],x,y=>⟨[(x,y)],Nat.le_refl _,rfl⟩
 |p::K,x,y=>by
  show ∃K':List (Str×Str),K'.length<=(p::K).length+1/\(if (p.1==x) then (D.str p.1,D.str y)::knD K else (D.str p.1,D.str p.2)::putD (knD K) (.str x) (.str y))=knD K';by_cases z:(p.1==x)=true
  ·rw[if_pos z];exact⟨(p.1,y)::K,by simp,rfl⟩
  ·rw[if_neg z];obtain⟨K',h1,h2⟩:=aAw K x y;rw[h2];refine⟨p::K',?_,rfl⟩;rw[List.length_cons,List.length_cons];lia
theorem aAx:∀(a b:List Str)(K:List (Str×Str)),∃K':List (Str×Str),K'.length<=K.length+a.length/\qU (a.map D.str) (b.map D.str) (knD K)=knD K'
 |[],b,K=>⟨K,Nat.le_refl _,by cases b<;>rfl⟩
 |x::a,[],K=>⟨K,Nat.le_add_right ..,rfl⟩
 |x::a,y::b,K=>by
  obtain⟨K1,h1,h2⟩:=aAw K x y;obtain⟨K2,i1,i2⟩:=aAx a b K1;refine⟨K2,by rw[List.length_cons];lia,?_⟩;show qU (a.map D.str) (b.map D.str) (putD (knD K) (.str x) (.str y))=_;rw[h2,i2]
theorem WW(a:List Str):(a.map D.str).all j5=true:=by
 rw[List.all_eq_true];intro d hd;obtain⟨x,_,rfl⟩:=List.mem_map.mp hd;rfl
def inr:FS:=(bF (bN false 5 (b2 DG (b2 getD iQ jK) (b2 getD cM lH)) false) (bF (bN false 6 (aL (bW 2 aJ) (aA cA (aA (b2 (aW .add) wI (aL dJ (aA eO aM))) aM))) true) (bF (bN false 7 (c7 11 (gG (aA (aL dJ (aA kZ aM)) aM) lQ) h_ dZ (aL (bW 2 aN) (aA cA (aA (b2 (aW .add) N6 (b2 (aW .mod) (b2 (aW .add) lD eU) R5)) aM))) true) true) (bF (bN false 7 (aL dH (aA (b2 getD (nQ (aA j6 (aA (b1 aAr j6) aM))) (b2 (aW .mod) (b2 (aW .fdiv) lD R5) jK)) aM)) false) (bF (bN false 8 (aL tV (aA j6 (aA kZ aM))) true) (bF (bN false 9 (aL (λds=>bW 7 cP (ds++[.int 0])) (aA cA (aA (b2 (aW .add) R6 (b2 j9 aBt (aL dJ (aA eO aM)))) (aA dW (aA nD (aA (b2 getD cM dI) (aA R5 aM))))))) true) (o7 2 (cU (aA (b2 getD cM bQ) (aA (b2 getD iQ bQ) (aA j6 (aA oA aM))))))))))))
def irs:FS:=(sIf (bTB (b2 (d9 .eq) (b2 getD iQ dI) (b2 getD cM jK))) inr o6)
theorem WX:qX=bF (bN true 2 (nQ aM) true) (bF (vD (bV (b2 getD dW dI) false) (tg1 3) (vD (bV (b2 getD dW bQ) false) (tg1 4) irs)) (bF (bN false 10 (b2 (aW .mod) (aL (bW 2 aJ) (aA cA (aA (bC (.int 35)) aM))) (aL max2 (aA dI (aA (aL dJ (aA eO aM)) aM)))) true) (nR (aL dH (aA (b2 (aW .add) (aCf eO (GJ fP) GK) (aCf eO GK (GJ fP))) aM)) false))):=rfl
def rr(ns:List Int)(M:List Mk)(T:List Tk)(R:List Rl)(x3 x4 x5 x6 x7 x8 x9 x10:D):List D:=[.scr (ns.map D.int),bkD M T,.lst (R.map rlD),x3,x4,x5,x6,x7,x8,x9,x10]
theorem CQ(g:List D->D->Res (List D))(d:α->D):∀(xs acc:List D),(∀x∈xs,∀acc,∃y:α,g acc x=.ok (acc++[d y]))->∃zs:List α,zs.length=xs.length/\gZ g acc xs=.ok (acc++zs.map d)
 |[],acc,_=>⟨[],rfl,(by simp[gZ])⟩
 |x::xs,acc,h=>by
  obtain⟨y,h3⟩:=h x (List.mem_cons_self ..) acc;obtain⟨zs,i2,i3⟩:=CQ g d xs (acc++[d y]) λy hy=>h y (List.mem_cons_of_mem _ hy)
  refine⟨y::zs,by rw[List.length_cons,List.length_cons,i2],?_⟩;rw[gZ,h3];show gZ g _ _=_;rw[i3,List.map_cons,List.append_assoc];rfl
theorem Z4{ns:List Int}(hn:ns.length<=63)(hρ:ρ.length=n)(h0:∀x:D,fV 0 (ρ++[x])=.ok (.scr (ns.map D.int)))(hg:g ρ=.ok [.int sz])(hs1:sz<=100)
 (hf:∀p:Int,∃j:Int,0<=j/\j<=33/\f (ρ++[.int p])=.ok (.int j)) :
  ∃xs:List Str,xs.length=sz/\c7 n (gG g lQ) h_ dZ (aL (bW 2 aN) (aA cA (aA f aM))) true ρ=.ok (.lst (xs.map D.str)):=by
 obtain⟨xs,h2,h3⟩:=CQ (iB n h_ dZ (aL (bW 2 aN) (aA cA (aA f aM))) true ρ) D.str ((List.range sz).map λ(k:Nat)=>D.int (0+(k:Int))) [] (λx hx acc=>by
  obtain⟨k,hk,rfl⟩:=List.mem_map.mp hx;obtain⟨j,j0,j1,e⟩:=hf (0+(k:Int));have w:=(nP hn j0 j1).1;refine⟨wrd ns j,?_⟩;exact oV (b:=true) (bs:=[.int (0+(k:Int))]) (y:=.str (wrd ns j)) hρ rfl rfl λ_=>⟨aR (aD (h0 _) (aD e rfl)) w,rfl⟩)
 rw[List.nil_append] at h3;rw[List.length_map,List.length_range] at h2;have rg:=vM hg (by lia) (by lia);rw[Int.toNat_natCast] at rg;exact⟨xs,h2,jA rg (by rw[List.length_map,List.length_range,eY];lia) h3⟩
theorem aH2(a:List Str):aAr (.lst (a.map D.str))=.ok (.lst (a.reverse.map D.str)):=by
 rw[aAr,if_pos (bH a),List.map_reverse]
theorem aH3(hn:ns.length<=63)(hm:0<many)(hm3:many<=3)(hM:MOk ns many many.toNat M)(hT:∀t∈T,gR ns many t)(hTl:T.length<=3)(ht:t∈T)(hmm:m∈M)(hR:R.length<=200) :
  ∃(R':List Rl)(y5 y6 y7 y8 y9:D),R'.length<=R.length+1/\irs (rr ns M T R (tkD t) (mkD m) x5 x6 x7 x8 x9 x10)=.ok (.nx (rr ns M T R' (tkD t) (mkD m) y5 y6 y7 y8 y9 x10)):=by
 have tp:=hT t ht;have mp:=hM.part m hmm;have c:bTB (b2 (d9 .eq) (b2 getD iQ dI) (b2 getD cM jK)) (rr ns M T R (tkD t) (mkD m) x5 x6 x7 x8 x9 x10)=.ok (m.2.1==t.2.2.1):=eZ (aK (x:=.str m.2.1) (y:=.str t.2.2.1) (aK (x:=mkD m) (y:=.int 1) rfl rfl rfl) (aK (x:=tkD t) (y:=.int 2) rfl rfl rfl) (eq_str _ _));by_cases z:(m.2.1==t.2.2.1)=true
 ·rw[z] at c;have at1:=yG (m.2.2.map D.str) (t.2.2.2.map D.str) (by rw[List.length_map,List.length_map];have:=mp.2.1;have:=tp.2.2.2.1;lia);rw[<-List.map_append] at at1;generalize hks:m.2.2++t.2.2.2=ks at at1;have kl:ks.length<=6:=by rw[<-hks,List.length_append];have:=mp.2.1;have:=tp.2.2.2.1;lia
  have a26:=cZ 26 (R.length:Nat);generalize hdr:drw ns (26+(R.length:Nat))=dr;have s1:bN false 5 (b2 DG (b2 getD iQ jK) (b2 getD cM lH)) false (rr ns M T R (tkD t) (mkD m) x5 x6 x7 x8 x9 x10)=.ok (.nx (rr ns M T R (tkD t) (mkD m) (.tup (ks.map D.str)) x6 x7 x8 x9 x10)):=iY (i:=5) (aK (x:=.tup (m.2.2.map D.str)) (y:=.tup (t.2.2.2.map D.str)) (aK (x:=mkD m) (y:=.int 2) rfl rfl rfl) (aK (x:=tkD t) (y:=.int 3) rfl rfl rfl) at1) (by rw[D.pure,bH]);have s2:bN false 6 (aL (bW 2 aJ) (aA cA (aA (b2 (aW .add) wI (aL dJ (aA eO aM))) aM))) true (rr ns M T R (tkD t) (mkD m) (.tup (ks.map D.str)) x6 x7 x8 x9 x10)=.ok (.nx (rr ns M T R (tkD t) (mkD m) (.tup (ks.map D.str)) (.int dr) x7 x8 x9 x10)):=by
   refine bZ (i:=6) ?_;rw[<-hdr];exact jX hn rfl (aK (x:=.int 26) (y:=.int (R.length:Nat)) rfl (aR (xs:=[.lst (R.map rlD)]) (aD rfl rfl) (by rw[i_,List.length_map])) a26)
  obtain⟨nm,nl,en⟩:=Z4 (n:=11) (ρ:=rr ns M T R (tkD t) (mkD m) (.tup (ks.map D.str)) (.int dr) x7 x8 x9 x10) (f:=b2 (aW .add) N6 (b2 (aW .mod) (b2 (aW .add) lD eU) R5)) (sz:=ks.length) (g:=aA (aL dJ (aA kZ aM)) aM) hn rfl (λ_=>rfl) (aD (aR (xs:=[.tup (ks.map D.str)]) (aD rfl rfl) (show dJ [.tup (ks.map D.str)]=.ok (.int (ks.length:Nat)) by rw[show dJ [.tup (ks.map D.str)]=.ok (.int ((ks.map D.str).length:Nat)) from rfl,List.length_map])) rfl) (by lia) (λp=>by
   have e1:=cZ dr p;have e2:=cD (dr+p) 5 (by decide);have e3:=cZ 12 ((dr+p) % 5);exact⟨12+(dr+p) % 5,by lia,by lia,aK (x:=.int 12) (y:=.int ((dr+p) % 5)) rfl (aK (x:=.int (dr+p)) (y:=.int 5) (aK (x:=.int dr) (y:=.int p) rfl rfl e1) rfl e2) e3⟩)
  have s3:=bZ (i:=7) en;have f5:=fD dr 5 (by decide) (by decide);have m2:=cD (dr / 5) 2 (by decide);have gt:=uJ (.lst (nm.map D.str)) (.lst (nm.reverse.map D.str)) (dr / 5 % 2) (by lia) (by lia);obtain⟨nn,nnl,gt'⟩:∃nn:List Str,nn.length=nm.length/\getD (.lst [.lst (nm.map D.str),.lst (nm.reverse.map D.str)]) (.int (dr / 5 % 2))=.ok (.lst (nn.map D.str)):=by
   by_cases y:dr / 5 % 2=0
   ·rw[if_pos y] at gt;exact⟨nm,rfl,gt⟩
   ·rw[if_neg y] at gt;exact⟨nm.reverse,List.length_reverse,gt⟩
  have s4:bN false 7 (aL dH (aA (b2 getD (nQ (aA j6 (aA (b1 aAr j6) aM))) (b2 (aW .mod) (b2 (aW .fdiv) lD R5) jK)) aM)) false (rr ns M T R (tkD t) (mkD m) (.tup (ks.map D.str)) (.int dr) (.lst (nm.map D.str)) x8 x9 x10)=.ok (.nx (rr ns M T R (tkD t) (mkD m) (.tup (ks.map D.str)) (.int dr) (.tup (nn.map D.str)) x8 x9 x10)):=by
   have rv:b1 aAr j6 (rr ns M T R (tkD t) (mkD m) (.tup (ks.map D.str)) (.int dr) (.lst (nm.map D.str)) x8 x9 x10)=.ok (.lst (nm.reverse.map D.str)):=aH2 nm;exact iY (i:=7) (d:=.tup (nn.map D.str)) (aR (xs:=[.lst (nn.map D.str)]) (aD (aK (jD (xs:=[.lst (nm.map D.str),.lst (nm.reverse.map D.str)]) (aD rfl (aD rv rfl)) uH) (aK (x:=.int (dr / 5)) (aK (x:=.int dr) rfl rfl f5) rfl m2) gt') rfl) rfl) (by rw[D.pure,bH])
  obtain⟨K,kk,ek⟩:=aAx nn ks [];rw[List.length_nil] at kk;have zp:tV [.tup (nn.map D.str),.tup (ks.map D.str)]=.ok (.dct (knD K)):=by
   rw[tV,if_pos (by rw[WW,bH,List.length_map,List.length_map,decide_eq_true (show nn.length<=1000 by lia),decide_eq_true (show ks.length=nn.length by lia)];rfl)];exact congrArg (λx=>Res.ok (D.dct x)) ek
  have s5:bN false 8 (aL tV (aA j6 (aA kZ aM))) true (rr ns M T R (tkD t) (mkD m) (.tup (ks.map D.str)) (.int dr) (.tup (nn.map D.str)) x8 x9 x10)=.ok (.nx (rr ns M T R (tkD t) (mkD m) (.tup (ks.map D.str)) (.int dr) (.tup (nn.map D.str)) (.dct (knD K)) x9 x10)):=bZ (i:=8) (aR (xs:=[.tup (nn.map D.str),.tup (ks.map D.str)]) (aD rfl (aD rfl rfl)) zp);have m20:=qH 20 (R.length:Nat) (by decide);have a100:=cZ 100 (20*(R.length:Nat));obtain⟨vs,_,ew⟩:=L_ (at_:=100+20*(R.length:Nat)) (K:=K) (kind:=t.2.1) (mo:=5) (le:=0) hn hm hm3 hM hT hTl (by lia) (by decide) (by decide) tp.2.1;have s6:bN false 9 (aL (λds=>bW 7 cP (ds++[.int 0])) (aA cA (aA (b2 (aW .add) R6 (b2 j9 aBt (aL dJ (aA eO aM)))) (aA dW (aA nD (aA (b2 getD cM dI) (aA R5 aM))))))) true (rr ns M T R (tkD t) (mkD m) (.tup (ks.map D.str)) (.int dr) (.tup (nn.map D.str)) (.dct (knD K)) x9 x10)=.ok (.nx (rr ns M T R (tkD t) (mkD m) (.tup (ks.map D.str)) (.int dr) (.tup (nn.map D.str)) (.dct (knD K)) (.tup (vs.map D.str)) x10)):=bZ (i:=9) (aR (xs:=[.scr (ns.map D.int),.int (100+20*(R.length:Nat)),bkD M T,.dct (knD K),.str t.2.1,.int 5]) (aD rfl (aD (aK (x:=.int 100) (y:=.int (20*(R.length:Nat))) rfl (aK (x:=.int 20) (y:=.int (R.length:Nat)) rfl (aR (xs:=[.lst (R.map rlD)]) (aD rfl rfl) (by rw[i_,List.length_map])) m20) a100) (aD rfl (aD rfl (aD (aK (x:=tkD t) (y:=.int 1) rfl rfl rfl) (aD rfl rfl)))))) ew);have ap:=lB (i:=2) (ρ:=rr ns M T R (tkD t) (mkD m) (.tup (ks.map D.str)) (.int dr) (.tup (nn.map D.str)) (.dct (knD K)) (.tup (vs.map D.str)) x10) (f:=cU (aA (b2 getD cM bQ) (aA (b2 getD iQ bQ) (aA j6 (aA oA aM))))) (xs:=R.map rlD) (d:=rlD (t.1,m.1,nn,vs)) (cY (xs:=[.str t.1,.str m.1,.tup (nn.map D.str),.tup (vs.map D.str)]) (aD (aK (x:=tkD t) (y:=.int 0) rfl rfl rfl) (aD (aK (x:=mkD m) (y:=.int 0) rfl rfl rfl) (aD rfl (aD rfl rfl)))) (cC (Nat.le_of_ble_eq_true rfl))) rfl (by rw[List.length_map,eY];lia) (qN _);refine⟨R++[(t.1,m.1,nn,vs)],.tup (ks.map D.str),.int dr,.tup (nn.map D.str),.dct (knD K),.tup (vs.map D.str),by rw[List.length_append];exact Nat.le_refl _,XH c (aP s1 (aP s2 (aP s3 (aP s4 (aP s5 (aP s6 ?_))))))⟩;unfold rr;rw[List.map_append];exact ap
 ·rw[Bool.not_eq_true] at z;rw[z] at c;exact⟨R,x5,x6,x7,x8,x9,Nat.le_succ _,uO c rfl⟩
theorem MF(hn:ns.length<=63)(hm:0<many)(hm3:many<=3)(hM:MOk ns many many.toNat M)(hT:∀t∈T,gR ns many t)(hTl:T.length<=3)(ht:t∈T) :
  ∀(N:List Mk)(R:List Rl)(x4 x5 x6 x7 x8 x9 x10:D),(∀m∈N,m∈M)->R.length+N.length<=200->∃(R':List Rl)(y4 y5 y6 y7 y8 y9:D),R'.length<=R.length+N.length/\rK (tg1 4) irs (N.map mkD) (rr ns M T R (tkD t) x4 x5 x6 x7 x8 x9 x10)=.ok (.nx (rr ns M T R' (tkD t) y4 y5 y6 y7 y8 y9 x10))
 |[],R,x4,x5,x6,x7,x8,x9,x10,_,_=>⟨R,x4,x5,x6,x7,x8,x9,Nat.le_refl _,rfl⟩
 |m::N,R,x4,x5,x6,x7,x8,x9,x10,hN,hl=>by
  rw[List.length_cons] at hl;obtain⟨R1,y5,y6,y7,y8,y9,h1,h2⟩:=aH3 (x5:=x5) (x6:=x6) (x7:=x7) (x8:=x8) (x9:=x9) (x10:=x10) hn hm hm3 hM hT hTl ht (hN m (List.mem_cons_self ..)) (R:=R) (by lia);obtain⟨R2,z4,z5,z6,z7,z8,z9,i1,i2⟩:=MF hn hm hm3 hM hT hTl ht N R1 (mkD m) y5 y6 y7 y8 y9 x10 (λq hq=>hN q (List.mem_cons_of_mem _ hq)) (by lia);refine⟨R2,z4,z5,z6,z7,z8,z9,by rw[List.length_cons];lia,?_⟩;exact dX (ρ1:=rr ns M T R (tkD t) (mkD m) x5 x6 x7 x8 x9 x10) rfl h2 i2
theorem MJ(hn:ns.length<=63)(hm:0<many)(hm3:many<=3)(hM:MOk ns many many.toNat M)(hT:∀t∈T,gR ns many t)(hTl:T.length<=3) :
  ∀(N:List Tk)(R:List Rl)(x3 x4 x5 x6 x7 x8 x9 x10:D),(∀m∈N,m∈T)->R.length+9*N.length<=200->∃(R':List Rl)(y3 y4 y5 y6 y7 y8 y9:D),R'.length<=R.length+9*N.length/\rK (tg1 3) (vD (bV (b2 getD dW bQ) false) (tg1 4) irs) (N.map tkD) (rr ns M T R x3 x4 x5 x6 x7 x8 x9 x10)=.ok (.nx (rr ns M T R' y3 y4 y5 y6 y7 y8 y9 x10))
 |[],R,x3,x4,x5,x6,x7,x8,x9,x10,_,_=>⟨R,x3,x4,x5,x6,x7,x8,x9,Nat.le_refl _,rfl⟩
 |t::N,R,x3,x4,x5,x6,x7,x8,x9,x10,hN,hl=>by
  rw[List.length_cons] at hl;have ml:=hM.len;obtain⟨R1,y4,y5,y6,y7,y8,y9,h1,h2⟩:=MF hn hm hm3 hM hT hTl (hN t (List.mem_cons_self ..)) M R x4 x5 x6 x7 x8 x9 x10 (λ_ h=>h) (by lia);obtain⟨R2,z3,z4,z5,z6,z7,z8,z9,i1,i2⟩:=MJ hn hm hm3 hM hT hTl N R1 (tkD t) y4 y5 y6 y7 y8 y9 x10 (λq hq=>hN q (List.mem_cons_of_mem _ hq)) (by lia);refine⟨R2,z3,z4,z5,z6,z7,z8,z9,by rw[List.length_cons];lia,?_⟩;have pm:(false||(D.tup (M.map mkD)).pure)=true:=by rw[D.pure,a_ kO];rfl
  have it:=gU (a:=b2 getD dW bQ) (ρ:=rr ns M T R (tkD t) x4 x5 x6 x7 x8 x9 x10) (xs:=M.map mkD) (aK (x:=bkD M T) (y:=.int 0) rfl rfl rfl);rw[pm] at it;exact dX (ρ1:=rr ns M T R (tkD t) x4 x5 x6 x7 x8 x9 x10) rfl (tR it h2) i2
theorem Z5(f:α->D)(L:List α)(lo hi:Option Int):cutD (L.map f) lo hi=(cutD L lo hi).map f:=by
 unfold cutD;rw[List.length_map,List.map_take,List.map_drop]
theorem MK(L:List α)(lo hi:Option Int):(cutD L lo hi).length<=L.length:=by
 unfold cutD;exact Nat.le_trans (List.length_take_le' ..) (by rw[List.length_drop];lia)
theorem Z6(hn:ns.length<=63)(hm:0<many)(hm3:many<=3)(hM:MOk ns many many.toNat M)(hT:∀t∈T,gR ns many t)(hTl:T.length<=3):∃R:List Rl,bW 2 jN [.scr (ns.map D.int),bkD M T]=.ok (.tup (R.map rlD)):=by
 obtain⟨R,y3,y4,y5,y6,y7,y8,y9,h1,h2⟩:=MJ hn hm hm3 hM hT hTl T [] .uD .uD .uD .uD .uD .uD .uD .uD (λ_ h=>h) (by show 0+_<=200;lia);rw[List.length_nil] at h1;obtain⟨n,n1,hx⟩:∃n:Int,0<n/\max2 [.int 1,.int (R.length:Nat)]=.ok (.int n):=by
  refine⟨_,?_,aIu R.length⟩;split<;>lia
 have mn:=cD (drw ns 35) n n1;generalize hat:drw ns 35 % n=at_ at mn;have pt:(false||(D.tup (T.map tkD)).pure)=true:=by rw[D.pure,a_ mD];rfl
 have it:=gU (a:=b2 getD dW dI) (ρ:=rr ns M T [] .uD .uD .uD .uD .uD .uD .uD .uD) (xs:=T.map tkD) (aK (x:=bkD M T) (y:=.int 1) rfl rfl rfl);rw[pt] at it;refine⟨cutD R (some at_) none++cutD R none (some at_),(dR rfl).trans (call_v ?_)⟩;rw[WX];refine aP (ρ':=rr ns M T [] .uD .uD .uD .uD .uD .uD .uD .uD) (dG (i:=2) (jD (xs:=[]) rfl (Nat.zero_le _)) rfl) ?_;refine aP (tR it h2) ?_;refine aP (ρ':=rr ns M T R y3 y4 y5 y6 y7 y8 y9 (.int at_)) (bZ (i:=10) (aK (x:=.int (drw ns 35)) (y:=.int n) (jX hn rfl rfl) (aR (xs:=[.int 1,.int (R.length:Nat)]) (aD rfl (aD (aR (xs:=[.lst (R.map rlD)]) (aD rfl rfl) (by rw[i_,List.length_map])) rfl)) hx) mn)) ?_;have sl:∀lo hi,aE8 (.lst (R.map rlD)) lo hi=.ok (.lst ((cutD R lo hi).map rlD)):=λlo hi=>by
  show aE5 (.lst (R.map rlD)) lo hi=_;rw[aE5,if_pos (a_ qN R),Z5]
 have e1:aCf eO (GJ fP) GK (rr ns M T R y3 y4 y5 y6 y7 y8 y9 (.int at_))=.ok (.lst ((cutD R (some at_) none).map rlD)):=sl (some at_) none;have e2:aCf eO GK (GJ fP) (rr ns M T R y3 y4 y5 y6 y7 y8 y9 (.int at_))=.ok (.lst ((cutD R none (some at_)).map rlD)):=sl none (some at_);have l1:=MK R (some at_) none;have l2:=MK R none (some at_);have e3:=nH ((cutD R (some at_) none).map rlD) ((cutD R none (some at_)).map rlD) (by rw[List.length_map,List.length_map];exact cC (by lia)) (a_ qN _) (a_ qN _);rw[<-List.map_append] at e3;exact iZ (d:=.tup ((cutD R (some at_) none++cutD R none (some at_)).map rlD)) (aR (xs:=[.lst ((cutD R (some at_) none++cutD R none (some at_)).map rlD)]) (aD (aK e1 e2 e3) rfl) rfl) (by rw[D.pure,a_ qN];rfl)
def pgD(ks:List Str)(M:List Mk)(T:List Tk)(R:List Rl):D:=.tup [.tup (ks.map D.str),.tup (M.map mkD),.tup (T.map tkD),.tup (R.map rlD)]
theorem aDk(ks:List Str)(M:List Mk)(T:List Tk)(R:List Rl):(pgD ks M T R).pure=true:=by
 show((D.tup (ks.map D.str)).pure&&((D.tup (M.map mkD)).pure&&((D.tup (T.map tkD)).pure&&((D.tup (R.map rlD)).pure&&true))))=true;rw[D.pure,D.pure,D.pure,D.pure,bH,a_ kO,a_ mD,a_ qN];rfl
theorem QH(hn:ns.length<=63):∃(many:Int)(ks:List Str)(M:List Mk)(T:List Tk)(R:List Rl),(0<many/\many<=3)/\MOk ns many many.toNat M/\(∀t∈T,gR ns many t)/\T.length<=3/\((∀k∈ks,IsK ns many k)/\ks.length=many.toNat)/\bW 1 gD [.scr (ns.map D.int)]=.ok (pgD ks M T R):=by
 have m3:=cD (drw ns 39) 3 (by decide);have a1:=cZ 1 (drw ns 39 % 3);generalize hmany:1+drw ns 39 % 3=many at a1;have hm:0<many:=by lia
 have hm3:many<=3:=by lia
 obtain⟨M,hM,eM⟩:=WM hn hm hm3;obtain⟨T,hT,hTl,eT⟩:=WN hn hm hm3;obtain⟨R,eR⟩:=Z6 hn hm hm3 hM hT hTl;have ml:=hM.len;obtain⟨ks,h1,h2,h3⟩:=qM (iB 4 h_ dZ (aL (bW 2 aN) (aA cA (aA iQ aM))) true [.scr (ns.map D.int),.int many,bkD M T,.uD]) D.str (IsK ns many) ((List.range many.toNat).map λ(k:Nat)=>D.int (0+(k:Int))) [] (λx hx acc=>by
  obtain⟨k,hk,rfl⟩:=List.mem_map.mp hx;have hk:=List.mem_range.mp hk;have w:=(nP hn (i:=0+(k:Int)) (by lia) (by lia)).1;exact⟨wrd ns (0+(k:Int)),⟨_,by lia,by lia,rfl⟩,oV (b:=true) (bs:=[.int (0+(k:Int))]) (y:=.str (wrd ns (0+(k:Int)))) rfl rfl rfl λ_=>⟨aR (xs:=[.scr (ns.map D.int),.int (0+(k:Int))]) (aD rfl (aD rfl rfl)) w,rfl⟩⟩)
 rw[List.nil_append] at h3;rw[List.length_map,List.length_range] at h2;refine⟨many,ks,M,T,R,⟨hm,hm3⟩,hM,hT,hTl,⟨h1,h2⟩,(dR rfl).trans (call_v ?_)⟩;refine aP (ρ':=[.scr (ns.map D.int),.int many,.uD,.uD]) (bZ (i:=1) (aK (x:=.int 1) (y:=.int (drw ns 39 % 3)) rfl (aK (x:=.int (drw ns 39)) (jX hn rfl rfl) rfl m3) a1)) ?_;refine aP (ρ':=[.scr (ns.map D.int),.int many,bkD M T,.uD]) (bZ (i:=2) (cY (xs:=[.tup (M.map mkD),.tup (T.map tkD)]) (aD (aR (xs:=[.scr (ns.map D.int),.int many]) (aD rfl (aD rfl rfl)) eM) (aD (aR (xs:=[.scr (ns.map D.int),.int many]) (aD rfl (aD rfl rfl)) eT) rfl)) uH)) ?_;refine aP (ρ':=[.scr (ns.map D.int),.int many,bkD M T,.tup (ks.map D.str)]) (iY (i:=3) (aR (xs:=[.lst (ks.map D.str)]) (aD (jA (vM (n:=many) (aD rfl rfl) (by lia) (by lia)) (by rw[List.length_map,List.length_range,eY];lia) h3) rfl) rfl) (by rw[D.pure,bH])) ?_;exact iZ (d:=pgD ks M T R) (cY (xs:=[.tup (ks.map D.str),.tup (M.map mkD),.tup (T.map tkD),.tup (R.map rlD)]) (aD rfl (aD (aK (x:=bkD M T) (y:=.int 0) rfl rfl rfl) (aD (aK (x:=bkD M T) (y:=.int 1) rfl rfl rfl) (aD (aR (xs:=[.scr (ns.map D.int),bkD M T]) (aD rfl (aD rfl rfl)) eR) rfl)))) (cC (Nat.le_of_ble_eq_true rfl))) (by rw[aDk];rfl)
structure KE{α:Type}[DecidableEq α](ek:α->D):Prop where
 eq:∀a b,eqD (ek a) (ek b)=decide (a=b)
 ok:∀a,keyOk (ek a)=true
 tu:∀a b,isTup (ek a)=isTup (ek b)
section
variable {α:Type} [DecidableEq α] {ek:α->D}
noncomputable def dD(ek:α->D)(L:List (α×D)):List (D×D):=L.map λp=>(ek p.1,p.2)
noncomputable def DK:List (α×D)->α->D->List (α×D)
 |[],a,v=>[(a,v)]
 |p::L,a,v=>if p.1=a then (p.1,v)::L else p::DK L a v
noncomputable def dY:List (α×D)->α->Option D
 |[],_=>none
 |p::L,a=>if p.1=a then some p.2 else dY L a
def fZ(L ps:List (α×D)):List (α×D):=ps.foldl (λL p=>DK L p.1 p.2) L
theorem rA(h:KE ek)(a:α)(v:D):∀L:List (α×D),putD (dD ek L) (ek a) v=dD ek (DK L a v)
 |[]=>rfl
 |p::L=>by
  show(if eqD (ek p.1) (ek a) then _ else _)=_;rw[h.eq,DK];by_cases z:p.1=a
  ·rw[if_pos z,if_pos (decide_eq_true z)];rfl
  ·rw[if_neg z,if_neg (by rw[decide_eq_false z];simp)];show _::putD (dD ek L) (ek a) v=_;rw[rA h a v L];rfl
theorem uL(h:KE ek)(a:α):∀L:List (α×D),dO (dD ek L) (ek a)=dY L a
 |[]=>rfl
 |p::L=>by
  show(if eqD (ek p.1) (ek a) then _ else _)=_;rw[h.eq,dY];by_cases z:p.1=a
  ·rw[if_pos z,if_pos (decide_eq_true z)]
  ·rw[if_neg z,if_neg (by rw[decide_eq_false z];simp)];exact uL h a L
theorem oX(h:KE ek)(L:List (α×D))(a:α):wC (dD ek L) (ek a)=true:=by
 unfold wC dD;rw[h.ok,Bool.true_and,List.all_eq_true];intro p hp;obtain⟨q,_,rfl⟩:=List.mem_map.mp hp;rw[h.tu q.1 a];exact beq_self_eq_true _
theorem vU(L:List (α×D)):(dD ek L).length=L.length:=List.length_map ..
theorem rR(a:α)(v:D):∀L:List (α×D),(DK L a v).length<=L.length+1
 |[]=>Nat.le_refl _
 |p::L=>by
  rw[DK];split
  ·exact Nat.le_succ _
  ·have:=rR a v L;rw[List.length_cons,List.length_cons];lia
theorem oY:∀(ps L:List (α×D)),(fZ L ps).length<=L.length+ps.length
 |[],_=>Nat.le_refl _
 |p::ps,L=>by
  have:=oY ps (DK L p.1 p.2);have:=rR p.1 p.2 L;rw[List.length_cons];show(fZ (DK L p.1 p.2) ps).length<=_;lia
theorem yI(a b:α)(v:D):∀L:List (α×D),dY (DK L a v) b=if a=b then some v else dY L b
 |[]=>rfl
 |p::L=>by
  rw[DK];by_cases z:p.1=a
  ·rw[if_pos z,dY,dY,z];split<;>rfl
  ·rw[if_neg z,dY,dY,yI a b v L];by_cases y:p.1=b
   ·rw[if_pos y,if_pos y,if_neg (λq=>z (y.trans q.symm))]
   ·rw[if_neg y,if_neg y]
theorem rT(a:α):∀(ps L:List (α×D)),a∉ps.map (·.1)->dY (fZ L ps) a=dY L a
 |[],_,_=>rfl
 |p::ps,L,h=>by
  rw[List.map_cons,List.mem_cons,not_or] at h;show dY (fZ (DK L p.1 p.2) ps) a=_;rw[rT a ps _ h.2,yI,if_neg (λq=>h.1 q.symm)]
theorem qO(a:α)(v:D):∀(ps L:List (α×D)),(ps.map (·.1)).Nodup->(a,v)∈ps->dY (fZ L ps) a=some v
 |[],_,_,h=>by cases h
 |p::ps,L,hn,h=>by
  rw[List.map_cons,List.nodup_cons] at hn;show dY (fZ (DK L p.1 p.2) ps) a=_;rcases List.mem_cons.mp h with rfl|h
  ·rw[rT _ ps _ hn.1,yI,if_pos rfl]
  ·exact qO a v ps _ hn.2 h
theorem CT(h:KE ek)(e:dY L a=some v):getD (.dct (dD ek L)) (ek a)=.ok v:=by
 have:getD (.dct (dD ek L)) (ek a)=(if keyOk (ek a) then Res.ofOpt (dO (dD ek L) (ek a)) else .bad):=by
  have:=h.ok a;generalize ek a=k at this ⊢;cases k<;>first|rfl|cases this
 rw[this,h.ok,if_pos rfl,uL h,e];rfl
end
theorem WY[DecidableEq α][BEq α][LawfulBEq α](a b:α):(a==b)=decide (a=b):=by
 by_cases z:a=b
 ·rw[decide_eq_true z,z,beq_self_eq_true]
 ·rw[decide_eq_false z,beq_eq_false_iff_ne];exact z
theorem gW:KE D.str:=⟨λa b=>by show(a==b)=_;exact WY a b,λ_=>rfl,λ_ _=>rfl⟩
theorem W0:KE D.int:=⟨λa b=>by show(a==b)=_;exact WY a b,λ_=>rfl,λ_ _=>rfl⟩
noncomputable abbrev En:=Int×Int
noncomputable def enD(e:En):D:=.tup [.int e.1,.int e.2]
theorem CV:KE enD:=⟨λa b=>by
 show((a.1==b.1)&&((a.2==b.2)&&true))=_;rw[Bool.and_true];by_cases z:a=b
 ·rw[decide_eq_true z,z,beq_self_eq_true,beq_self_eq_true];rfl
 ·rw[decide_eq_false z,Bool.and_eq_false_iff,beq_eq_false_iff_ne,beq_eq_false_iff_ne];by_cases y:a.1=b.1
  ·exact .inr λq=>z (Prod.ext y q)
  ·exact .inl y,λ_=>rfl,λ_ _=>rfl⟩
theorem uM(e:En):(enD e).pure=true:=rfl
theorem aDl(xs:List Str):dJ [.tup (xs.map D.str)]=.ok (.int (xs.length:Nat)):=by
 rw[show dJ [.tup (xs.map D.str)]=.ok (.int ((xs.map D.str).length:Nat)) from rfl,List.length_map]
theorem jE(h:n<=10000):n<lim:=by rw[eY];lia
theorem jY(h1:a ρ=.ok (.tup xs))(hp:D.bA xs=true)(h2:rK t body xs ρ=r):vD (bV a false) t body ρ=r:=by
 have it:=gU h1;rw[D.pure,hp] at it;exact tR it h2
theorem Z7(f:α->D):∀{l m:List D},l.Perm m->∀U:List α,m=U.map f->∃V:List α,V.Perm U/\l=V.map f:=by
 intro l m h;induction h with
 |nil=>intro U e;exact⟨U,.refl _,e⟩
 |cons x _ ih=>
  intro U e;cases U with
  |nil=>cases e
  |cons u U=>
   injection e with e1 e2
   obtain⟨V,p,e⟩:=ih U e2;exact⟨u::V,p.cons u,by rw[e,e1];rfl⟩
 |swap x y l=>
  intro U e
  match U,e with
  |u::v::U,e=>
   injection e with e1 e2
   injection e2 with e2 e3
   exact⟨v::u::U,.swap u v U,by rw[e1,e2,e3];rfl⟩
 |trans _ _ ih1 ih2=>
  intro U e;obtain⟨V,p,e⟩:=ih2 U e;obtain⟨W,q,e'⟩:=ih1 V e;exact⟨W,q.trans p,e'⟩
theorem yJ(f:α->D)(k:Nat)(hk:∀a,fM (f a)=k)(k0:(k !=0)=true)(hp:∀a,(f a).plain=true)(hq:∀a,(f a).eN aY=true)(ho:∀a b,(n_ .lt (f a) (f b)).isSome=true)(U:List α):∃V:List α,V.Perm U/\d_ [.lst (U.map f)]=.ok (.lst (V.map f)):=by
 obtain⟨V,p,e⟩:=Z7 f (mJ (U.map f)) U rfl;refine⟨V,p,?_⟩;have c:dF (U.map f)=true:=by
  unfold dF;refine List.all_eq_true.mpr λd hd=>?_
  obtain⟨t,ht,rfl⟩:=List.mem_map.mp hd;have hh:fM ((U.map f).headD .non)=k:=by
   cases U with
   |nil=>cases ht
   |cons u U=>exact hk u
  rw[hh,hk,hp,hq,k0,beq_self_eq_true];refine List.all_eq_true.mpr λb hb=>?_
  obtain⟨u,_,rfl⟩:=List.mem_map.mp hb;exact ho t u
 show(if dF (U.map f) then Res.ok (D.lst (zB (U.map f))) else .bad)=_;rw[c,if_pos rfl,e]
theorem W2(a b:En):(n_ .lt (enD a) (enD b)).isSome=true:=by
 show(if eqD (.int a.1) (.int b.1) then (if eqD (.int a.2) (.int b.2) then some (kY.lt.nat 0 0) else some (kY.lt.int a.2 b.2)) else some (kY.lt.int a.1 b.1)).isSome=true;split
 ·split<;>rfl
 ·rfl
abbrev Ti:=En×En
def tiD(t:Ti):D:=.tup [enD t.1,enD t.2]
theorem W3(t:Ti):(tiD t).pure=true:=rfl
theorem aH4(a b:Ti):(n_ .lt (tiD a) (tiD b)).isSome=true:=by
 show(if eqD (enD a.1) (enD b.1) then (if eqD (enD a.2) (enD b.2) then some (kY.lt.nat 0 0) else n_ .lt (enD a.2) (enD b.2)) else n_ .lt (enD a.1) (enD b.1)).isSome=true;split
 ·split
  ·rfl
  ·exact W2 _ _
 ·exact W2 _ _
noncomputable abbrev Pi:=Int×Str
def piD(p:Pi):D:=.tup [.int p.1,.str p.2]
theorem aDm(t:Pi):(piD t).pure=true:=rfl
theorem aH5(a b:Pi):(n_ .lt (piD a) (piD b)).isSome=true:=by
 show(if eqD (.int a.1) (.int b.1) then (if eqD (.str a.2) (.str b.2) then some (kY.lt.nat 0 0) else some (kY.lt.str a.2 b.2)) else some (kY.lt.int a.1 b.1)).isSome=true;split
 ·split<;>rfl
 ·rfl
theorem aDn(U:List En):∃V:List En,V.Perm U/\d_ [.lst (U.map enD)]=.ok (.lst (V.map enD)):=yJ enD 3 (λ_=>rfl) rfl (λ_=>rfl) (λ_=>rfl) W2 U
theorem aDo(U:List Ti):∃V:List Ti,V.Perm U/\d_ [.lst (U.map tiD)]=.ok (.lst (V.map tiD)):=yJ tiD 5 (λ_=>rfl) rfl (λ_=>rfl) (λ_=>rfl) aH4 U
theorem aDp(U:List Pi):∃V:List Pi,V.Perm U/\d_ [.lst (U.map piD)]=.ok (.lst (V.map piD)):=yJ piD 3 (λ_=>rfl) rfl (λ_=>rfl) (λ_=>rfl) aH5 U
theorem oZ[DecidableEq α](dB:β->D)(ps:β->List (α×D))(hps:∀b,(ps b).length<=2)(R:List (α×D)->List D->Prop)
 (step:∀b L ρ,R L ρ->L.length<=5000->∃ρ1 ρ2,t (dB b) ρ=.ok ρ1/\body ρ1=.ok (.nx ρ2)/\R (fZ L (ps b)) ρ2) :
  ∀(bs:List β)(L:List (α×D))(ρ:List D),R L ρ->L.length+2*bs.length<=5000->∃ρ',R (fZ L (bs.flatMap ps)) ρ'/\rK t body (bs.map dB) ρ=.ok (.nx ρ')
 |[],L,ρ,h,_=>⟨ρ,h,rfl⟩
 |b::bs,L,ρ,h,hl=>by
  rw[List.length_cons] at hl;obtain⟨ρ1,ρ2,e1,e2,h2⟩:=step b L ρ h (by lia);have:=oY (ps b) L;have:=hps b;obtain⟨ρ',h3,e3⟩:=oZ dB ps hps R step bs _ ρ2 h2 (by lia);refine⟨ρ',?_,dX e1 e2 e3⟩;rw[List.flatMap_cons];have:fZ L (ps b++bs.flatMap ps)=fZ (fZ L (ps b)) (bs.flatMap ps):=List.foldl_append ..;rw[this];exact h3
noncomputable def psM(M:List Mk):List (Str×D):=M.map λm=>(m.1,D.int (m.2.2.length:Nat))
noncomputable def psT(T:List Tk):List (Str×D):=T.map λt=>(t.1,D.int ((t.2.2.2.length:Nat)+1))
def stk(M:List Mk)(T:List Tk):List (Str×D):=fZ (fZ [("copy",.int 2),("drop",.int 0)] (psM M)) (psT T)
theorem yK(f:α->β)(L:List α):L.flatMap (λa=>[f a])=L.map f:=by
 induction L with
 |nil=>rfl
 |cons a L ih=>rw[List.flatMap_cons,ih];rfl
theorem Z8(hM:M.length<=9)(hT:T.length<=3):bW 1 gQ [pgD ks M T R]=.ok (.dct (dD D.str (stk M T))):=by
 refine(dR rfl).trans (call_v ?_);obtain⟨ρ1,⟨y2,y3,h1⟩,e1⟩:=oZ (t:=tg1 2) (body:=GQ 1 (b2 getD eO bQ) (aL dJ (aA (b2 getD eO jK) aM))) mkD (λm=>[(m.1,D.int (m.2.2.length:Nat))]) (λ_=>Nat.le_of_ble_eq_true rfl) (λL ρ=>∃x2 x3,ρ=[pgD ks M T R,.dct (dD D.str L),x2,x3]) (λm L ρ ⟨x2,x3,h⟩ hl=>by
  subst h;have p:=vN (i:=1) (ρ:=[pgD ks M T R,.dct (dD D.str L),mkD m,x3]) (f:=b2 getD eO bQ) (g:=aL dJ (aA (b2 getD eO jK) aM)) (kvs:=dD D.str L) (k:=.str m.1) (d:=.int (m.2.2.length:Nat)) (aR (xs:=[.tup (m.2.2.map D.str)]) (aD (aK (x:=mkD m) (y:=.int 2) rfl rfl rfl) rfl) (aDl _)) (aK (x:=mkD m) (y:=.int 0) rfl rfl rfl) rfl (by rw[vU];exact jE (by lia)) (oX gW L m.1) rfl;rw[rA gW] at p;exact⟨_,_,rfl,p,_,_,rfl⟩) M [("copy",.int 2),("drop",.int 0)] [pgD ks M T R,.dct (dD D.str [("copy",.int 2),("drop",.int 0)]),.uD,.uD] ⟨_,_,rfl⟩ (by show 2+_<=5000;lia)
 rw[yK] at h1;have l1:=oY (psM M) [("copy",.int 2),("drop",.int 0)];rw[psM,List.length_map] at l1;obtain⟨ρ2,⟨z2,z3,h2⟩,e2⟩:=oZ (t:=tg1 3) (body:=GQ 1 (b2 getD cM bQ) (b2 (aW .add) (aL dJ (aA (b2 getD cM lH) aM)) dI)) tkD (λt=>[(t.1,D.int ((t.2.2.2.length:Nat)+1))]) (λ_=>Nat.le_of_ble_eq_true rfl) (λL ρ=>∃x2 x3,ρ=[pgD ks M T R,.dct (dD D.str L),x2,x3]) (λm L ρ ⟨x2,x3,h⟩ hl=>by
  subst h;have p:=vN (i:=1) (ρ:=[pgD ks M T R,.dct (dD D.str L),x2,tkD m]) (f:=b2 getD cM bQ) (g:=b2 (aW .add) (aL dJ (aA (b2 getD cM lH) aM)) dI) (kvs:=dD D.str L) (k:=.str m.1) (d:=.int ((m.2.2.2.length:Nat)+1)) (aK (x:=.int (m.2.2.2.length:Nat)) (y:=.int 1) (aR (xs:=[.tup (m.2.2.2.map D.str)]) (aD (aK (x:=tkD m) (y:=.int 3) rfl rfl rfl) rfl) (aDl _)) rfl (cZ _ _)) (aK (x:=tkD m) (y:=.int 0) rfl rfl rfl) rfl (by rw[vU];exact jE (by lia)) (oX gW L m.1) rfl;rw[rA gW] at p;exact⟨_,_,rfl,p,_,_,rfl⟩) T _ ρ1 ⟨_,_,h1⟩ (by have:([("copy",D.int 2),("drop",D.int 0)]:List (Str×D)).length=2:=rfl;lia)
 rw[yK] at h2;refine aP (ρ':=[pgD ks M T R,.dct (dD D.str [("copy",.int 2),("drop",.int 0)]),.uD,.uD]) (dG (i:=1) (d:=.dct (dD D.str [("copy",.int 2),("drop",.int 0)])) (by unfold aCr;with_unfolding_all rfl) rfl) ?_;refine aP (jY (xs:=M.map mkD) (aK (x:=pgD ks M T R) (y:=.int 1) rfl rfl rfl) (a_ kO M) e1) ?_;subst h1;refine aP (jY (xs:=T.map tkD) (aK (x:=pgD ks M T R) (y:=.int 2) rfl rfl rfl) (a_ mD T) e2) ?_;subst h2;rfl
def hdM(m:Mk):Str×D:=(m.1,.tup [.str m.2.1,.tup (m.2.2.map D.str)])
def hdT(t:Tk):Str×D:=(t.1,.tup [.str t.2.1,.tup ((t.2.2.1::t.2.2.2).map D.str)])
def hds(M:List Mk)(T:List Tk):List (Str×D):=fZ (fZ [] (M.map hdM)) (T.map hdT)
theorem Z9(hM:M.length<=9)(hT:T.length<=3)(hTp:∀t∈T,t.2.2.2.length<=2):bW 1 mU [pgD ks M T R]=.ok (.dct (dD D.str (hds M T))):=by
 refine(dR rfl).trans (call_v ?_);obtain⟨ρ1,⟨y2,y3,y4,y5,y6,h1⟩,e1⟩:=oZ (t:=tgN [2,3,4]) (body:=GQ 1 eO (cU (aA cM (aA iQ aM)))) mkD (λm=>[hdM m]) (λ_=>Nat.le_of_ble_eq_true rfl) (λL ρ=>∃x2 x3 x4 x5 x6,ρ=[pgD ks M T R,.dct (dD D.str L),x2,x3,x4,x5,x6]) (λm L ρ ⟨x2,x3,x4,x5,x6,h⟩ hl=>by
  subst h;have p:=vN (i:=1) (ρ:=[pgD ks M T R,.dct (dD D.str L),.str m.1,.str m.2.1,.tup (m.2.2.map D.str),x5,x6]) (f:=fV 2) (g:=cU (aA cM (aA iQ aM))) (kvs:=dD D.str L) (k:=.str m.1) (d:=.tup [.str m.2.1,.tup (m.2.2.map D.str)]) (cY (xs:=[.str m.2.1,.tup (m.2.2.map D.str)]) (aD rfl (aD rfl rfl)) uH) rfl rfl (by rw[vU];exact jE (by lia)) (oX gW L m.1) (by show((D.tup (m.2.2.map D.str)).pure&&true)=true;rw[D.pure,bH];rfl);rw[rA gW] at p;exact⟨_,_,rfl,p,_,_,_,_,_,rfl⟩) M [] [pgD ks M T R,.dct [],.uD,.uD,.uD,.uD,.uD] ⟨_,_,_,_,_,rfl⟩ (by show 0+_<=5000;lia)
 rw[yK] at h1;have l1:=oY (M.map hdM) [];rw[List.length_map,List.length_nil] at l1;have hU:∀(U:List Tk),(∀t∈U,t.2.2.2.length<=2)->∀(L:List (Str×D))(ρ:List D),(∃x2 x3 x4 x5 x6,ρ=[pgD ks M T R,.dct (dD D.str L),x2,x3,x4,x5,x6])->L.length+U.length<=5000->∃ρ',(∃x2 x3 x4 x5 x6,ρ'=[pgD ks M T R,.dct (dD D.str (fZ L (U.map hdT))),x2,x3,x4,x5,x6])/\rK (tgN [2,3,5,6]) (GQ 1 eO (cU (aA cM (aA (b2 DG (cU (aA kZ aM)) lD) aM)))) (U.map tkD) ρ=.ok (.nx ρ'):=by
  intro U;induction U with
  |nil=>intro _ L ρ h _;exact⟨ρ,h,rfl⟩
  |cons m U ih=>
   intro hu L ρ ⟨x2,x3,x4,x5,x6,h⟩ hl;subst h;rw[List.length_cons] at hl;have h2:=hu m (List.mem_cons_self ..);have p:=vN (i:=1) (ρ:=[pgD ks M T R,.dct (dD D.str L),.str m.1,.str m.2.1,x4,.str m.2.2.1,.tup (m.2.2.2.map D.str)]) (f:=fV 2) (g:=cU (aA cM (aA (b2 DG (cU (aA kZ aM)) lD) aM))) (kvs:=dD D.str L) (k:=.str m.1) (d:=.tup [.str m.2.1,.tup ((m.2.2.1::m.2.2.2).map D.str)]) (cY (xs:=[.str m.2.1,.tup ((m.2.2.1::m.2.2.2).map D.str)]) (aD rfl (aD (aK (x:=.tup [.str m.2.2.1]) (y:=.tup (m.2.2.2.map D.str)) (cY (xs:=[.str m.2.2.1]) (aD rfl rfl) (cC (Nat.le_of_ble_eq_true rfl))) rfl (yG _ _ (by rw[List.length_map];show 1+_<=1000;lia))) rfl)) uH) rfl rfl (by rw[vU];exact jE (by lia)) (oX gW L m.1) (by show((D.tup ((m.2.2.1::m.2.2.2).map D.str)).pure&&true)=true;rw[D.pure,bH];rfl);rw[rA gW] at p;have pl:=rR m.1 (.tup [.str m.2.1,.tup ((m.2.2.1::m.2.2.2).map D.str)]) L;obtain⟨ρ',i1,i2⟩:=ih (λt ht=>hu t (List.mem_cons_of_mem _ ht)) (DK L m.1 (.tup [.str m.2.1,.tup ((m.2.2.1::m.2.2.2).map D.str)])) [pgD ks M T R,.dct (dD D.str (DK L m.1 (.tup [.str m.2.1,.tup ((m.2.2.1::m.2.2.2).map D.str)]))),.str m.1,.str m.2.1,x4,.str m.2.2.1,.tup (m.2.2.2.map D.str)] ⟨_,_,_,_,_,rfl⟩ (by lia);exact⟨ρ',i1,dX rfl p i2⟩
 obtain⟨ρ2,⟨z2,z3,z4,z5,z6,h2⟩,e2⟩:=hU T hTp _ ρ1 ⟨_,_,_,_,_,h1⟩ (by lia);refine aP (ρ':=[pgD ks M T R,.dct [],.uD,.uD,.uD,.uD,.uD]) (dG (i:=1) (d:=.dct []) rfl rfl) ?_;refine aP (jY (xs:=M.map mkD) (aK (x:=pgD ks M T R) (y:=.int 1) rfl rfl rfl) (a_ kO M) e1) ?_;subst h1;refine aP (jY (xs:=T.map tkD) (aK (x:=pgD ks M T R) (y:=.int 2) rfl rfl rfl) (a_ mD T) e2) ?_;subst h2;rfl
def nm(ns:List Int)(k:Nat):Int:=(1+drw ns (500+(k:Int)) % 1000000000)*500+(k:Int)
theorem aAy(ns:List Int)(k:Nat):0<nm ns k:=by
 unfold nm;have:=Int.emod_nonneg (drw ns (500+(k:Int))) (show(1000000000:Int)≠0 by decide);lia
theorem W4(hi:i<500)(hj:j<500)(h:nm ns i=nm ns j):i=j:=by
 unfold nm at h;lia
def hk(ns:List Int)(k a:Nat):List En:=(List.range a).map λ(h:Nat)=>(nm ns k,(h:Int)+1)
def aDq:FS:=(bF (bN false 11 (b2 (aW .add) (b2 j9 (b2 (aW .add) dI (b2 (aW .mod) (aL (bW 2 aJ) (aA cA (aA (b2 (aW .add) dW oA) aM))) (b2 (aW .pow) (bC (.int 10)) (bC (.int 9))))) R7) oA) true) (bF (bN false 12 (aL aHg (aA (b2 inX fP kZ) aM)) true) (bF (ZP 7 (xB1 dH false (xB1 d_ true (aAu (oN (cU (aA eU (aA fO aM))) (xN (uP 8) (ZG))))))) (bF (o7 6 (cU (aA eU (aA fP aM)))) (bN true 8 (b2 (aW .add) (c7 13 (gG (aA (b2 (aW .add) (b2 getD iQ fP) dI) aM) lQ) h_ (bTB (b2 (d9 .ne) lO fO)) (cU (aA eU (aA lO aM))) false) nD) true)))))
theorem Z_:t_=bF (bN false 4 (aL (bW 1 gQ) (aA cM aM)) true) (bF (bN false 5 (c7 13 (bV (b2 getD cM jK) false) h_ dZ (b2 getD lO bQ) false) true) (bF (bN true 6 (nQ aM) true) (bF (bN true 7 (nQ aM) true) (bF (bN true 8 (nQ (aA (cU (aA bQ (aA bQ aM))) aM)) true) (bF (vD (V1 eO) (tgN [9,10]) aDq) (nR (cU (aA (aL dH (aA (aL d_ (aA lD aM)) aM)) (aA (aL dH (aA (aL d_ (aA j6 aM)) aM)) (aA bQ aM)))) false)))))):=rfl
def la(ns:List Int)(ws:List Str)(pg:D)(S:List (Str×D))(Ts:List Str)(P:List Pi)(U:List Ti)(W:List En)(x9 x10 x11 x12:D):List D:=[.scr (ns.map D.int),.int 500,.tup (ws.map D.str),pg,.dct (dD D.str S),.lst (Ts.map D.str),.lst (P.map piD),.lst (U.map tiD),.lst (W.map enD),x9,x10,x11,x12]
theorem ne_int(a b:Int):d9 .ne (.int a) (.int b)=.ok (.bl (!(a==b))):=rfl
theorem qP(n:Nat):∀L:List Str,D.eQ n (L.map D.str)=true
 |[]=>by rw[List.map_nil,D.eQ]
 |x::L=>by rw[List.map_cons,D.eQ,qP n L];cases n<;>rfl
theorem aDr(w:Str)(L:List Str):inX (.str w) (.lst (L.map D.str))=.ok (.bl (decide (w∈L))):=by
 show(if (D.str w).eN aY&&D.eQ aY (L.map D.str) then Res.ok (D.bl ((L.map D.str).any λy=>eqD y (.str w))) else .bad)=_;rw[qP,show(D.str w).eN aY=true from rfl,Bool.and_self,if_pos rfl]
 congr 2
 rw[List.any_map];by_cases z:w∈L
 ·rw[decide_eq_true z,List.any_eq_true];exact⟨w,z,beq_self_eq_true w⟩
 ·rw[decide_eq_false z,List.any_eq_false];intro x hx y;exact z (eq_of_beq (show(x==w)=true from y)▸hx)
theorem aA0(hn:ns.length<=63)(hS:dY S w=some (.int (a:Nat)))(ha:a<=3)(hw:w∉Ts)(hP:P.length<=1000)(hU:U.length<=1000)(hW:W.length<=3000) :
  ∃(t:Ti)(y11 y12:D),(t=(e,(nm ns k,0))\/t=((nm ns k,0),e))/\aDq (la ns ws pg S Ts P U (e::W) (.int (k:Nat)) (.str w) x11 x12)=.ok (.nx (la ns ws pg S Ts (P++[(nm ns k,w)]) (U++[t]) (hk ns k a++W) (.int (k:Nat)) (.str w) y11 y12)):=by
 obtain⟨V,pV,eV⟩:=aDn [(nm ns k,0),e];obtain⟨t,ht,hV⟩:∃t:Ti,(t=(e,(nm ns k,0))\/t=((nm ns k,0),e))/\V=[t.1,t.2]:=by
  have hl:=pV.length_eq
  match V,hl with
  |[x,y],_=>
   have h1:=pV.mem_iff (a:=(nm ns k,0));have h2:=pV.mem_iff (a:=e);have h3:=pV.mem_iff (a:=x);have h4:=pV.mem_iff (a:=y);simp only[List.mem_cons,List.not_mem_nil,or_false,true_or,or_true,iff_true,true_iff] at h1 h2 h3 h4;refine⟨(x,y),?_,rfl⟩;rcases h3 with h3|h3<;>rcases h4 with h4|h4
   ·subst h3 h4;rcases h2 with h2|h2<;>(subst h2;exact .inl rfl)
   ·subst h3 h4;exact .inr rfl
   ·subst h3 h4;exact .inl rfl
   ·subst h3 h4;rcases h1 with h1|h1<;>(rw[<-h1];exact .inl rfl)
 refine⟨t,.int (nm ns k),.int 0,ht,?_⟩;have d1:=cZ 500 (k:Nat);have pw:=aGb 9 (by decide);have m1:=cD (drw ns (500+(k:Int))) (10 ^ 9) (by decide);have a1:=cZ 1 (drw ns (500+(k:Int)) % 1000000000);have mu1:j9 (.int (1+drw ns (500+(k:Int)) % 1000000000)) (.int 500)=.ok (.int ((1+drw ns (500+(k:Int)) % 1000000000)*500)):=(aIt _ _).trans (U3 _ _ (by decide));have a2:=cZ ((1+drw ns (500+(k:Int)) % 1000000000)*500) (k:Nat);refine aP (ρ':=la ns ws pg S Ts P U (e::W) (.int (k:Nat)) (.str w) (.int (nm ns k)) x12) (bZ (i:=11) (aK (x:=.int ((1+drw ns (500+(k:Int)) % 1000000000)*500)) (y:=.int (k:Nat)) (aK (x:=.int (1+drw ns (500+(k:Int)) % 1000000000)) (y:=.int 500) (aK (x:=.int 1) (y:=.int (drw ns (500+(k:Int)) % 1000000000)) rfl (aK (x:=.int (drw ns (500+(k:Int)))) (y:=.int (10 ^ 9)) (jX hn rfl (aK (x:=.int 500) (y:=.int (k:Nat)) rfl rfl d1)) (aK (x:=.int 10) (y:=.int (9:Nat)) rfl rfl pw) m1) a1) rfl mu1) rfl a2)) ?_;have hin:inX (.str w) (.lst (Ts.map D.str))=.ok (.bl false):=by rw[aDr,decide_eq_false hw]
 refine aP (ρ':=la ns ws pg S Ts P U (e::W) (.int (k:Nat)) (.str w) (.int (nm ns k)) (.int 0)) (bZ (i:=12) (aR (xs:=[.bl false]) (aD (aK (x:=.str w) (y:=.lst (Ts.map D.str)) rfl rfl hin) rfl) rfl)) ?_;refine aP (ρ':=la ns ws pg S Ts P (U++[t]) W (.int (k:Nat)) (.str w) (.int (nm ns k)) (.int 0)) ?_ ?_
 ·have q1:aAu (oN (cU (aA eU (aA fO aM))) (xN (uP 8) (ZG))) (la ns ws pg S Ts P U (e::W) (.int (k:Nat)) (.str w) (.int (nm ns k)) (.int 0))=.ok (.lst ([(nm ns k,0),e].map enD),la ns ws pg S Ts P U W (.int (k:Nat)) (.str w) (.int (nm ns k)) (.int 0)):=by
   have q0:cU (aA eU (aA fO aM)) (la ns ws pg S Ts P U (e::W) (.int (k:Nat)) (.str w) (.int (nm ns k)) (.int 0))=.ok (enD (nm ns k,0)):=cY (xs:=[.int (nm ns k),.int 0]) (aD rfl (aD rfl rfl)) uH;have q2:xN (uP 8) (ZG) (la ns ws pg S Ts P U (e::W) (.int (k:Nat)) (.str w) (.int (nm ns k)) (.int 0))=.ok ([enD e],la ns ws pg S Ts P U W (.int (k:Nat)) (.str w) (.int (nm ns k)) (.int 0)):=rfl;have q3:oN (cU (aA eU (aA fO aM))) (xN (uP 8) (ZG)) (la ns ws pg S Ts P U (e::W) (.int (k:Nat)) (.str w) (.int (nm ns k)) (.int 0))=.ok ([(nm ns k,0),e].map enD,la ns ws pg S Ts P U W (.int (k:Nat)) (.str w) (.int (nm ns k)) (.int 0)):=by
    unfold oN;rw[q0,Res.bB,q2];rfl
   unfold aAu;rw[q3,Res.bB];have l2:decide (([(nm ns k,0),e].map enD).length<=lim)=true:=decide_eq_true uH;rw[l2,a_ uM];rfl
  have q2:xB1 d_ true (aAu (oN (cU (aA eU (aA fO aM))) (xN (uP 8) (ZG)))) (la ns ws pg S Ts P U (e::W) (.int (k:Nat)) (.str w) (.int (nm ns k)) (.int 0))=.ok (.lst [enD t.1,enD t.2],la ns ws pg S Ts P U W (.int (k:Nat)) (.str w) (.int (nm ns k)) (.int 0)):=by
   unfold xB1;rw[q1,Res.bB];show(d_ [.lst ([(nm ns k,0),e].map enD)]).bind _=_;rw[eV,hV];rfl
  have q3:xB1 dH false (xB1 d_ true (aAu (oN (cU (aA eU (aA fO aM))) (xN (uP 8) (ZG))))) (la ns ws pg S Ts P U (e::W) (.int (k:Nat)) (.str w) (.int (nm ns k)) (.int 0))=.ok (tiD t,la ns ws pg S Ts P U W (.int (k:Nat)) (.str w) (.int (nm ns k)) (.int 0)):=by
   show(xB1 d_ true (aAu (oN (cU (aA eU (aA fO aM))) (xN (uP 8) (ZG)))) (la ns ws pg S Ts P U (e::W) (.int (k:Nat)) (.str w) (.int (nm ns k)) (.int 0))).bind _=_;rw[q2];rfl
  unfold ZP;rw[q3,Res.bB];show(if decide ((U.map tiD).length<lim)&&true then Res.ok (Fl.nx ((la ns ws pg S Ts P U W (.int (k:Nat)) (.str w) (.int (nm ns k)) (.int 0)).set 7 (.lst (U.map tiD++[tiD t])))) else .bad)=_;rw[List.length_map,decide_eq_true (jE (show U.length<=10000 by lia)),Bool.and_self,if_pos rfl];unfold la;rw[List.map_append];rfl
 refine aP (ρ':=la ns ws pg S Ts (P++[(nm ns k,w)]) (U++[t]) W (.int (k:Nat)) (.str w) (.int (nm ns k)) (.int 0)) ?_ ?_
 ·have ap:=lB (i:=6) (ρ:=la ns ws pg S Ts P (U++[t]) W (.int (k:Nat)) (.str w) (.int (nm ns k)) (.int 0)) (f:=cU (aA eU (aA fP aM))) (xs:=P.map piD) (d:=piD (nm ns k,w)) (cY (xs:=[.int (nm ns k),.str w]) (aD rfl (aD rfl rfl)) uH) rfl (by rw[List.length_map];exact jE (by lia)) rfl;refine ap.trans ?_;unfold la;rw[show(P++[(nm ns k,w)]).map piD=P.map piD++[piD (nm ns k,w)] from List.map_append ..];rfl
 have gs:getD (.dct (dD D.str S)) (.str w)=.ok (.int (a:Nat)):=CT gW hS;have c:gZ (iB 13 h_ (bTB (b2 (d9 .ne) lO fO)) (cU (aA eU (aA lO aM))) false (la ns ws pg S Ts (P++[(nm ns k,w)]) (U++[t]) W (.int (k:Nat)) (.str w) (.int (nm ns k)) (.int 0))) [] ((List.range ((a:Int)+1).toNat).map λ(k:Nat)=>D.int (0+(k:Int)))=.ok ((hk ns k a).map enD):=by
  have:=fK (iB 13 h_ (bTB (b2 (d9 .ne) lO fO)) (cU (aA eU (aA lO aM))) false (la ns ws pg S Ts (P++[(nm ns k,w)]) (U++[t]) W (.int (k:Nat)) (.str w) (.int (nm ns k)) (.int 0))) (λ(q:Nat)=>D.int (0+(q:Int))) (λq=>!(((0:Int)+(q:Int))==0)) (λq=>enD (nm ns k,0+(q:Int))) (λacc q=>gM (y:=enD (nm ns k,0+(q:Int))) rfl (eZ (aK (x:=.int (0+(q:Int))) (y:=.int 0) rfl rfl (ne_int _ _))) (λ_=>⟨cY (xs:=[.int (nm ns k),.int (0+(q:Int))]) (aD rfl (aD rfl rfl)) uH,rfl⟩)) (List.range ((a:Int)+1).toNat) [];rw[this,List.nil_append]
  congr 1
  rw[show((a:Int)+1).toNat=a+1 by lia,List.range_succ_eq_map,List.filter_cons,if_neg (by decide)];unfold hk;rw[List.filter_eq_self.mpr (λq hq=>by
   obtain⟨r,_,rfl⟩:=List.mem_map.mp hq;simp only[Bool.not_eq_true',beq_eq_false_iff_ne];lia),List.map_map,List.map_map]
  refine List.map_congr_left λq _=>?_
  show enD (nm ns k,0+((q+1:Nat):Int))=enD (nm ns k,(q:Int)+1);rw[show(0:Int)+((q+1:Nat):Int)=(q:Int)+1 by lia]
 have hl:(hk ns k a).length=a:=by unfold hk;rw[List.length_map,List.length_range]
 have e1:=dG (i:=8) (ρ:=la ns ws pg S Ts (P++[(nm ns k,w)]) (U++[t]) W (.int (k:Nat)) (.str w) (.int (nm ns k)) (.int 0)) (d:=.lst ((hk ns k a).map enD++W.map enD)) (aK (f:=aW .add) (x:=.lst ((hk ns k a).map enD)) (y:=.lst (W.map enD)) (jA (n:=13) (vM (f:=aA (b2 (aW .add) (b2 getD iQ fP) dI) aM) (n:=(a:Int)+1) (aD (aK (x:=.int (a:Nat)) (y:=.int 1) (aK (x:=.dct (dD D.str S)) (y:=.str w) rfl rfl gs) rfl (cZ _ _)) rfl) (by lia) (by lia)) (by rw[List.length_map,List.length_range,eY];lia) c) (b:=fV 8) rfl (nH _ _ (by simp only[List.length_map];exact Nat.le_of_lt (jE (by lia))) (a_ uM _) (a_ uM _))) (by rw[<-List.map_append];exact a_ uM _);rw[e1,<-List.map_append];rfl
def pr(ns:List Int)(ar:Str->Nat):Nat->List Str->List En->List (En×En)
 |k,w::ws,e::W=>(e,(nm ns k,0))::pr ns ar (k+1) ws (hk ns k (ar w)++W)
 |_,_,_=>[]
def pcs(ns:List Int):Nat->List Str->List Pi
 |_,[]=>[]
 |k,w::ws=>(nm ns k,w)::pcs ns (k+1) ws
inductive Sw:List Ti->List Ti->Prop
 |nil:Sw [] []
 |cons {t p:Ti} {U V:List Ti}:(t=p\/t=(p.2,p.1))->Sw U V->Sw (t::U) (p::V)
theorem MN(hn:ns.length<=63)(hS:∀m∈M,dY S m.1=some (.int (m.2.2.length:Nat))/\m.2.2.length<=3/\m.1∉Ts/\ar m.1=m.2.2.length):∀(ws:List Str)(st:List Str)(k:Nat)(P:List Pi)(U:List Ti)(W:List En)(x9 x10 x11 x12:D),Dv M st ws->st.length=W.length->P.length+ws.length<=500->U.length+ws.length<=500->W.length+3*ws.length<=3000->
  ∃(V:List Ti)(y9 y10 y11 y12:D),Sw V (pr ns ar k ws W)/\rK (tgN [9,10]) aDq ((ws.zipIdx k).map λp=>.tup [.int (p.2:Nat),.str p.1]) (la ns wa pg S Ts P U W x9 x10 x11 x12)=.ok (.nx (la ns wa pg S Ts (P++pcs ns k ws) (U++V) [] y9 y10 y11 y12))
 |[],st,k,P,U,W,x9,x10,x11,x12,hd,hl,_,_,_=>by
  cases hd;have:W=[]:=List.length_eq_zero_iff.mp hl.symm;subst this;exact⟨[],x9,x10,x11,x12,.nil,by rw[pcs,List.append_nil,List.append_nil];rfl⟩
 |w::ws,st,k,P,U,W,x9,x10,x11,x12,hd,hl,h1,h2,h3=>by
  cases hd with
  |@cons m st' _ hm hd=>
   rw[List.length_cons] at h1 h2 h3;obtain⟨s1,s2,s3,s4⟩:=hS m hm;cases W with
   |nil=>cases hl
   |cons e W=>
    rw[List.length_cons] at h3;rw[List.length_cons,List.length_cons] at hl;obtain⟨t,y11,y12,ht,es⟩:=aA0 hn (ws:=wa) (pg:=pg) (P:=P) (U:=U) (W:=W) (e:=e) (k:=k) (x11:=x11) (x12:=x12) s1 s2 s3 (by lia) (by lia) (by lia);have hkl:(hk ns k m.2.2.length).length=m.2.2.length:=by unfold hk;rw[List.length_map,List.length_range]
    obtain⟨V,z9,z10,z11,z12,hV,eV⟩:=MN hn hS ws (m.2.2++st') (k+1) (P++[(nm ns k,m.1)]) (U++[t]) (hk ns k m.2.2.length++W) (.int (k:Nat)) (.str m.1) y11 y12 hd (by rw[List.length_append,List.length_append,hkl];lia) (by rw[List.length_append];show P.length+1+_<=_;lia) (by rw[List.length_append];show U.length+1+_<=_;lia) (by rw[List.length_append,hkl];lia);refine⟨t::V,z9,z10,z11,z12,?_,?_⟩
    ·rw[pr,s4];exact .cons ht hV
    ·rw[List.zipIdx_cons,List.map_cons,pcs,show P++(nm ns k,m.1)::pcs ns (k+1) ws=P++[(nm ns k,m.1)]++pcs ns (k+1) ws by simp,show U++t::V=U++[t]++V by simp];exact dX (ρ1:=la ns wa pg S Ts P U (e::W) (.int (k:Nat)) (.str m.1) x11 x12) rfl es eV
theorem names_nodup(hn:ns.length<=63)(hm3:many<=3)(hM:MOk ns many many.toNat M):(M.map (·.1)).Nodup:=by
 obtain⟨ks,k1,k2,k3⟩:=hM.names;rw[k1];unfold List.Nodup;rw[List.pairwise_map];refine k2.imp_of_mem λ{a b} ha hb hab z=>?_
 have ha:=k3 a ha;have hb:=k3 b hb;have:=WL hn (by lia) (by lia) (by lia) (by lia) z;lia
noncomputable def tn(T:List Tk):List Str:=T.map (·.1)
theorem W5(hn:ns.length<=63)(hm3:many<=3)(hM:MOk ns many many.toNat M)(hT:∀t∈T,gR ns many t)(hm:m∈M):m.1∉tn T:=λz=>by
 obtain⟨t,ht,e⟩:=List.mem_map.mp z;obtain⟨k,q1,q2,q3⟩:=(hT t ht).1;obtain⟨ks,k1,k2,k3⟩:=hM.names;have:m.1∈ks.map (wrd ns):=by rw[<-k1];exact List.mem_map.mpr ⟨m,hm,rfl⟩
 obtain⟨j,hj,ej⟩:=List.mem_map.mp this;have:=k3 j hj;have:=WL hn (i:=j) (j:=k) (by lia) (by lia) (by lia) (by lia) (by rw[ej,<-q3];exact e.symm);lia
structure Fx(M:List Mk)(T:List Tk)(m:Mk):Prop where
 stk:dY (stk M T) m.1=some (.int (m.2.2.length:Nat))
 hds:dY (hds M T) m.1=some (.tup [.str m.2.1,.tup (m.2.2.map D.str)])
 sid:dY (fZ [] (psM M)) m.1=some (.int (m.2.2.length:Nat))
 tk:m.1∉tn T
 len:m.2.2.length<=3
theorem fx(hn:ns.length<=63)(hm3:many<=3)(hM:MOk ns many many.toNat M)(hT:∀t∈T,gR ns many t)(hm:m∈M):Fx M T m:=by
 have nd:=names_nodup hn hm3 hM;have nt:=W5 hn hm3 hM hT hm;have n1:((psM M).map (·.1)).Nodup:=by unfold psM;rw[List.map_map];exact nd
 have n2:((M.map hdM).map (·.1)).Nodup:=by rw[List.map_map];exact nd
 have t1:m.1∉(psT T).map (·.1):=by unfold psT;rw[List.map_map];exact nt
 have t2:m.1∉(T.map hdT).map (·.1):=by rw[List.map_map];exact nt
 have i1:(m.1,D.int (m.2.2.length:Nat))∈psM M:=List.mem_map.mpr ⟨m,hm,rfl⟩;have i2:(m.1,D.tup [.str m.2.1,.tup (m.2.2.map D.str)])∈M.map hdM:=List.mem_map.mpr ⟨m,hm,rfl⟩;refine⟨?_,?_,qO _ _ _ _ n1 i1,nt,(hM.part m hm).2.1⟩
 ·unfold Lk65.stk;rw[rT _ _ _ t1];exact qO _ _ _ _ n1 i1
 ·unfold Lk65.hds;rw[rT _ _ _ t2];exact qO _ _ _ _ n2 i2
def arS(M:List Mk)(T:List Tk)(w:Str):Nat:=match dY (stk M T) w with
 |some (.int a)=>a.toNat
 |_=>0
theorem W6(h:Fx M T m):arS M T m.1=m.2.2.length:=by
 unfold arS;rw[h.stk];show((m.2.2.length:Nat):Int).toNat=_;lia
def ntD(P:List Pi)(V:List Ti):D:=.tup [.tup (P.map piD),.tup (V.map tiD),.int 0]
theorem aDs(P:List Pi)(V:List Ti):(ntD P V).pure=true:=by
 show((D.tup (P.map piD)).pure&&((D.tup (V.map tiD)).pure&&true))=true;rw[D.pure,D.pure,a_ aDm,a_ W3];rfl
theorem aDt(hn:ns.length<=63)(hm3:many<=3)(hM:MOk ns many many.toNat M)(hT:∀t∈T,gR ns many t)(hTl:T.length<=3)(hd:Dv M [kind] ws)(hl:ws.length<=450) :
  ∃(P:List Pi)(V W:List Ti),P.Perm (pcs ns 0 ws)/\V.Perm W/\Sw W (pr ns (arS M T) 0 ws [(0,0)])/\bW 4 kI [.scr (ns.map D.int),.int 500,.tup (ws.map D.str),pgD ks M T R]=.ok (ntD P V):=by
 have ml:=hM.len;have hf:∀m∈M,dY (stk M T) m.1=some (.int (m.2.2.length:Nat))/\m.2.2.length<=3/\m.1∉tn T/\arS M T m.1=m.2.2.length:=λm hm=>by
  have f:=fx hn hm3 hM hT hm;exact⟨f.stk,f.len,f.tk,W6 f⟩
 obtain⟨W,y9,y10,y11,y12,hW,e⟩:=MN hn (wa:=ws) (pg:=pgD ks M T R) (Ts:=tn T) hf ws [kind] 0 [] [] [(0,0)] .uD .uD .uD .uD hd rfl (by show 0+_<=500;lia) (by show 0+_<=500;lia) (by show 1+_<=3000;lia);rw[List.nil_append,List.nil_append] at e;obtain⟨P,pP,eP⟩:=aDp (pcs ns 0 ws);obtain⟨V,pV,eV⟩:=aDo W;refine⟨P,V,W,pP,pV,hW,(dR rfl).trans (call_v ?_)⟩;rw[Z_];refine aP (ρ':=[.scr (ns.map D.int),.int 500,.tup (ws.map D.str),pgD ks M T R,.dct (dD D.str (stk M T)),.uD,.uD,.uD,.uD,.uD,.uD,.uD,.uD]) (bZ (i:=4) (aR (xs:=[pgD ks M T R]) (aD rfl rfl) (Z8 (by lia) hTl))) ?_;have c:=fK (iB 13 h_ dZ (b2 getD lO bQ) false [.scr (ns.map D.int),.int 500,.tup (ws.map D.str),pgD ks M T R,.dct (dD D.str (stk M T)),.uD,.uD,.uD,.uD,.uD,.uD,.uD,.uD]) tkD (λ_=>true) (λt=>D.str t.1) (λacc t=>gM (y:=.str t.1) (b:=true) rfl rfl (λ_=>⟨aK (x:=tkD t) (y:=.int 0) rfl rfl rfl,rfl⟩)) T [];rw[List.nil_append,List.filter_eq_self.mpr (λ_ _=>rfl)] at c;refine aP (ρ':=[.scr (ns.map D.int),.int 500,.tup (ws.map D.str),pgD ks M T R,.dct (dD D.str (stk M T)),.lst ((tn T).map D.str),.uD,.uD,.uD,.uD,.uD,.uD,.uD]) (bZ (i:=5) (jA (xs:=T.map tkD) (gU (aK (x:=pgD ks M T R) (y:=.int 2) rfl rfl rfl)) (by rw[List.length_map];exact cC (by lia)) (c.trans (by unfold tn;rw[List.map_map];rfl)))) ?_;refine aP (ρ':=[.scr (ns.map D.int),.int 500,.tup (ws.map D.str),pgD ks M T R,.dct (dD D.str (stk M T)),.lst ((tn T).map D.str),.lst [],.uD,.uD,.uD,.uD,.uD,.uD]) (dG (i:=6) (jD (xs:=[]) rfl (Nat.zero_le _)) rfl) ?_;refine aP (ρ':=[.scr (ns.map D.int),.int 500,.tup (ws.map D.str),pgD ks M T R,.dct (dD D.str (stk M T)),.lst ((tn T).map D.str),.lst [],.lst [],.uD,.uD,.uD,.uD,.uD]) (dG (i:=7) (jD (xs:=[]) rfl (Nat.zero_le _)) rfl) ?_;refine aP (ρ':=la ns ws (pgD ks M T R) (stk M T) (tn T) [] [] [(0,0)] .uD .uD .uD .uD) (dG (i:=8) (jD (xs:=[enD (0,0)]) (aD (cY (xs:=[.int 0,.int 0]) (aD rfl (aD rfl rfl)) uH) rfl) (cC (Nat.le_of_ble_eq_true rfl))) rfl) ?_;refine aP (tR (xs:=(ws.zipIdx 0).map λp=>.tup [.int (p.2:Nat),.str p.1]) ?_ e) ?_
 ·show(if D.bA (ws.map D.str) then Res.ok (zL (ws.map D.str),true) else .bad)=_;rw[bH,if_pos rfl]
  congr 2
  unfold zL;rw[List.zipIdx_map,List.map_map];rfl
 refine iZ (d:=ntD P V) (cY (xs:=[.tup (P.map piD),.tup (V.map tiD),.int 0]) (aD (aR (xs:=[.lst (P.map piD)]) (aD (aR (xs:=[.lst ((pcs ns 0 ws).map piD)]) (aD rfl rfl) eP) rfl) rfl) (aD (aR (xs:=[.lst (V.map tiD)]) (aD (aR (xs:=[.lst (W.map tiD)]) (aD rfl rfl) eV) rfl) rfl) (aD rfl rfl))) aIv) (by rw[aDs];rfl)
noncomputable def fl(U:List Ti):List En:=U.flatMap λt=>[t.1,t.2]
theorem qQ(t:Ti)(U:List Ti):fl (t::U)=t.1::t.2::fl U:=rfl
theorem aIx{U V:List Ti}(h:Sw U V):(fl U).Perm (fl V):=by
 induction h with
 |nil=>exact .refl _
 |cons q _ ih=>
  rw[qQ,qQ];rcases q with rfl|rfl
  ·exact(ih.cons _).cons _
  ·exact((ih.cons _).cons _).trans (.swap ..)
theorem aH6{U V:List Ti}(h:Sw U V):∀p∈V,p∈U\/(p.2,p.1)∈U:=by
 induction h with
 |nil=>intro p hp;cases hp
 |cons q _ ih=>
  intro p hp;rcases List.mem_cons.mp hp with rfl|hp
  ·rcases q with rfl|rfl
   ·exact .inl (List.mem_cons_self ..)
   ·exact .inr (List.mem_cons_self ..)
  ·exact(ih p hp).imp (List.mem_cons_of_mem _) (List.mem_cons_of_mem _)
def Old(ns:List Int)(k:Nat)(e:En):Prop:=e.1=0\/∃i:Nat,i<k/\e.1=nm ns i
theorem old_ne(h:Old ns k e)(hj:k<=j)(h5:j<500):e.1≠nm ns j:=λz=>by
 rcases h with h|⟨i,hi,h⟩
 ·have:=aAy ns j;lia
 ·have:=W4 (by lia) h5 (h.symm.trans z);lia
theorem CW(h:e∈hk ns k a):e.1=nm ns k/\e.2≠0:=by
 obtain⟨q,_,rfl⟩:=List.mem_map.mp h;exact⟨rfl,by show(q:Int)+1≠0;lia⟩
theorem aA1(ns:List Int)(k a:Nat):(hk ns k a).Nodup:=by
 unfold hk List.Nodup;rw[List.pairwise_map];refine List.nodup_range.imp λ{a b} h z=>h ?_
 have:=congrArg Prod.snd z;simp only at this;lia
theorem MP:∀(ws:List Str)(k:Nat)(W:List En),k+ws.length<=500->W.Nodup->(∀e∈W,Old ns k e)->(fl (pr ns ar k ws W)).Nodup/\∀e∈fl (pr ns ar k ws W),e∈W\/∃i:Nat,k<=i/\i<500/\e.1=nm ns i
 |[],k,W,_,_,_=>by cases W<;>exact⟨List.nodup_nil,λe he=>by cases he⟩
 |w::ws,k,[],_,_,_=>⟨List.nodup_nil,λe he=>by cases he⟩
 |w::ws,k,e::W,hl,hw,ho=>by
  rw[List.length_cons] at hl;rw[List.nodup_cons] at hw;have oe:=ho e (List.mem_cons_self ..);have oW:∀x∈W,Old ns k x:=λx hx=>ho x (List.mem_cons_of_mem _ hx)
  obtain⟨i1,i2⟩:=MP ws (k+1) (hk ns k (ar w)++W) (by lia) (by
   rw[List.nodup_append];refine⟨aA1 ..,hw.2,λa ha b hb z=>?_⟩;subst z;exact old_ne (oW _ hb) (Nat.le_refl k) (by lia) (CW ha).1) (λx hx=>by
   rcases List.mem_append.mp hx with hx|hx
   ·exact .inr ⟨k,Nat.lt_succ_self k,(CW hx).1⟩
   ·rcases oW x hx with h|⟨i,h1,h2⟩
    ·exact .inl h
    ·exact .inr ⟨i,by lia,h2⟩)
  rw[pr,qQ];have n1:e.1≠nm ns k:=old_ne oe (Nat.le_refl k) (by lia);refine⟨?_,λx hx=>?_⟩
  ·rw[List.nodup_cons,List.nodup_cons];refine⟨λz=>?_,λz=>?_,i1⟩
   ·rcases List.mem_cons.mp z with z|z
    ·exact n1 (congrArg Prod.fst z)
    ·rcases i2 e z with q|⟨i,h1,h2,h3⟩
     ·rcases List.mem_append.mp q with q|q
      ·exact n1 (CW q).1
      ·exact hw.1 q
     ·exact old_ne oe (by lia) h2 h3
   ·rcases i2 _ z with q|⟨i,h1,h2,h3⟩
    ·rcases List.mem_append.mp q with q|q
     ·exact(CW q).2 rfl
     ·exact old_ne (oW _ q) (Nat.le_refl k) (by lia) rfl
    ·have:=W4 (by lia) h2 h3;lia
  ·rcases List.mem_cons.mp hx with rfl|hx
   ·exact .inl (List.mem_cons_self ..)
   ·rcases List.mem_cons.mp hx with rfl|hx
    ·exact .inr ⟨k,Nat.le_refl k,by lia,rfl⟩
    ·rcases i2 x hx with q|⟨i,h1,h2⟩
     ·rcases List.mem_append.mp q with q|q
      ·exact .inr ⟨k,Nat.le_refl k,by lia,(CW q).1⟩
      ·exact .inl (List.mem_cons_of_mem _ q)
     ·exact .inr ⟨i,by lia,h2⟩
theorem aKa(ns:List Int):∀e∈[((0:Int),(0:Int))],Old ns 0 e:=λe he=>by
 rw[List.mem_singleton.mp he];exact .inl rfl
theorem aA2{V W:List Ti}(hl:ws.length<=450)(h0:ws≠[])(pV:V.Perm W)(hW:Sw W (pr ns ar 0 ws [(0,0)])):(fl V).Nodup/\((fl V).filter λe=>e.1==0).length=1:=by
 obtain⟨i1,i2⟩:=MP (ns:=ns) (ar:=ar) ws 0 [(0,0)] (by lia) (by simp) (aKa ns);have p:(fl V).Perm (fl (pr ns ar 0 ws [(0,0)])):=(pV.flatMap_right _).trans (aIx hW);refine⟨p.nodup_iff.mpr i1,?_⟩;rw[(p.filter _).length_eq];cases ws with
 |nil=>exact absurd rfl h0
 |cons w ws=>
  rw[pr,qQ] at i1 i2 ⊢;rw[List.nodup_cons] at i1;have q:((((0:Int),(0:Int)),(nm ns 0,(0:Int))).1.1==0)=true:=rfl;rw[List.filter_cons,if_pos q,List.length_cons,List.filter_eq_nil_iff.mpr]
  ·rfl
  ·intro e he z;have z:e.1=0:=by simpa using z
   rcases i2 e (List.mem_cons_of_mem _ he) with q|⟨i,_,_,q⟩
   ·rw[List.mem_singleton.mp q] at he;exact i1.1 he
   ·have:=aAy ns i;lia
theorem aDu(V:List Ti)(hV:V.length<=1000):bW 1 oR [.tup (V.map tiD)]=.ok (.lst ((fl V).map enD)):=by
 refine(dR rfl).trans (call_v ?_);have lp:∀(U:List Ti)(E:List En)(x2 x3:D),E.length+2*U.length<=5000->∃y2 y3:D,rK (tgN [2,3]) (bF (o7 1 eO) (o7 1 cM)) (U.map tiD) [.tup (V.map tiD),.lst (E.map enD),x2,x3]=.ok (.nx [.tup (V.map tiD),.lst ((E++fl U).map enD),y2,y3]):=by
  intro U;induction U with
  |nil=>intro E x2 x3 _;exact⟨x2,x3,by rw[show fl []=[] from rfl,List.append_nil];rfl⟩
  |cons t U ih=>
   intro E x2 x3 hl;rw[List.length_cons] at hl;obtain⟨y2,y3,e⟩:=ih (E++[t.1,t.2]) (enD t.1) (enD t.2) (by rw[List.length_append];show E.length+2+_<=_;lia);refine⟨y2,y3,?_⟩;rw[qQ,show E++t.1::t.2::fl U=E++[t.1,t.2]++fl U by simp];have a1:=lB (i:=1) (ρ:=[.tup (V.map tiD),.lst (E.map enD),enD t.1,enD t.2]) (f:=fV 2) (xs:=E.map enD) (d:=enD t.1) rfl rfl (by rw[List.length_map];exact jE (by lia)) rfl;have a2:=lB (i:=1) (ρ:=[.tup (V.map tiD),.lst (E.map enD++[enD t.1]),enD t.1,enD t.2]) (f:=fV 3) (xs:=E.map enD++[enD t.1]) (d:=enD t.2) rfl rfl (by rw[List.length_append,List.length_map];exact jE (by show E.length+1<=_;lia)) rfl;refine dX (ρ1:=[.tup (V.map tiD),.lst (E.map enD),enD t.1,enD t.2]) (ρ2:=[.tup (V.map tiD),.lst ((E++[t.1,t.2]).map enD),enD t.1,enD t.2]) rfl (aP a1 (a2.trans ?_)) e;rw[List.map_append];show _=Res.ok (Fl.nx [D.tup (V.map tiD),.lst (E.map enD++[enD t.1,enD t.2]),enD t.1,enD t.2]);rw[List.append_assoc];rfl
 obtain⟨y2,y3,e⟩:=lp V [] .uD .uD (by show 0+_<=_;lia);refine aP (ρ':=[.tup (V.map tiD),.lst [],.uD,.uD]) (dG (i:=1) (jD (xs:=[]) rfl (Nat.zero_le _)) rfl) ?_;refine aP (HH (i:=0) (d:=.tup (V.map tiD)) rfl rfl e) ?_;rfl
theorem aH7(P:List Pi)(V:List Ti)(hV:V.length<=1000):bW 1 V8 [ntD P V]=.ok (.int (((fl V).filter λe=>e.1==0).length:Nat)):=by
 have flen:(fl V).length=2*V.length:=by
  clear hV;induction V with
  |nil=>rfl
  |cons t V ih=>rw[qQ,List.length_cons,List.length_cons,List.length_cons,ih];lia
 have ra:bW 1 kE [.lst ((fl V).map enD)]=.ok (.int (((fl V).filter λe=>e.1==0).length:Nat)):=by
  refine(dR rfl).trans (call_v ?_);have c:=fK (iB 1 h_ (bTB (b2 (d9 .eq) (b2 getD dW bQ) bQ)) dW false [.lst ((fl V).map enD)]) enD (λe=>e.1==0) enD (λacc e=>gM (y:=enD e) rfl (eZ (aK (x:=.int e.1) (y:=.int 0) (aK (x:=enD e) (y:=.int 0) rfl rfl rfl) rfl (eq_int _ _))) (λ_=>⟨rfl,rfl⟩)) (fl V) [];rw[List.nil_append] at c;have hc:c7 1 (bV cA false) h_ (bTB (b2 (d9 .eq) (b2 getD dW bQ) bQ)) dW false [.lst ((fl V).map enD)]=.ok (.lst (((fl V).filter λe=>e.1==0).map enD)):=jA (xs:=(fl V).map enD) (kk:=(false||(D.lst ((fl V).map enD)).pure)) rfl (by rw[List.length_map];exact Nat.le_of_lt (jE (by lia))) c;have hb:aA (c7 1 (bV cA false) h_ (bTB (b2 (d9 .eq) (b2 getD dW bQ) bQ)) dW false) aM [.lst ((fl V).map enD)]=.ok [.lst (((fl V).filter λe=>e.1==0).map enD)]:=aD hc rfl;have hr:aL dJ (aA (c7 1 (bV cA false) h_ (bTB (b2 (d9 .eq) (b2 getD dW bQ) bQ)) dW false) aM) [.lst ((fl V).map enD)]=.ok (.int (((fl V).filter λe=>e.1==0).length:Nat)):=aR hb (by rw[i_,List.length_map]);exact iZ (k:=true) hr rfl
 refine(dR rfl).trans (call_v ?_);exact iZ (aR (xs:=[.lst ((fl V).map enD)]) (aD (aR (xs:=[.tup (V.map tiD)]) (aD (aK (x:=ntD P V) (y:=.int 1) rfl rfl rfl) rfl) (aDu V hV)) rfl) ra) rfl
def mts(V:List Ti):List (En×D):=fZ [] (V.flatMap λt=>[(t.1,enD t.2),(t.2,enD t.1)])
theorem aA3(P:List Pi)(V:List Ti)(hV:V.length<=1000):bW 1 jW [ntD P V]=.ok (.dct (dD enD (mts V))):=by
 refine(dR rfl).trans (call_v ?_);obtain⟨ρ1,⟨y2,y3,h1⟩,e1⟩:=oZ (t:=tgN [2,3]) (body:=bF (GQ 1 eO cM) (GQ 1 cM eO)) tiD (λt=>[(t.1,enD t.2),(t.2,enD t.1)]) (λ_=>Nat.le_refl _) (λL ρ=>∃x2 x3,ρ=[ntD P V,.dct (dD enD L),x2,x3]) (λt L ρ ⟨x2,x3,h⟩ hl=>by
  subst h;have p1:=vN (i:=1) (ρ:=[ntD P V,.dct (dD enD L),enD t.1,enD t.2]) (f:=fV 2) (g:=fV 3) (kvs:=dD enD L) (k:=enD t.1) (d:=enD t.2) rfl rfl rfl (by rw[vU];exact jE (by lia)) (oX CV L t.1) rfl;rw[rA CV] at p1;have pl:=rR t.1 (enD t.2) L;have p2:=vN (i:=1) (ρ:=[ntD P V,.dct (dD enD (DK L t.1 (enD t.2))),enD t.1,enD t.2]) (f:=fV 3) (g:=fV 2) (kvs:=dD enD (DK L t.1 (enD t.2))) (k:=enD t.2) (d:=enD t.1) rfl rfl rfl (by rw[vU];exact jE (by lia)) (oX CV _ t.2) rfl;rw[rA CV] at p2;exact⟨_,_,rfl,aP p1 p2,_,_,rfl⟩) V [] [ntD P V,.dct [],.uD,.uD] ⟨_,_,rfl⟩ (by show 0+_<=5000;lia)
 refine aP (ρ':=[ntD P V,.dct [],.uD,.uD]) (dG (i:=1) (d:=.dct []) rfl rfl) ?_;refine aP (jY (xs:=V.map tiD) (aK (x:=ntD P V) (y:=.int 1) rfl rfl rfl) (a_ W3 V) e1) ?_;subst h1;rfl
theorem aA4{V:List Ti}(hn:(fl V).Nodup)(h:p∈V\/(p.2,p.1)∈V):dY (mts V) p.1=some (enD p.2):=by
 refine qO _ _ _ _ ?_ ?_
 ·have e:(V.flatMap λt=>[(t.1,enD t.2),(t.2,enD t.1)]).map (·.1)=fl V:=by
   unfold fl;rw[List.map_flatMap];rfl
  rw[e];exact hn
 ·rw[List.mem_flatMap];rcases h with h|h
  ·exact⟨p,h,List.mem_cons_self ..⟩
  ·exact⟨_,h,List.mem_cons_of_mem _ (List.mem_cons_self ..)⟩
theorem yL[DecidableEq α](h:KE ek):∀(ps L:List (α×D)),lC (dD ek L) (dD ek ps)=dD ek (fZ L ps)
 |[],_=>rfl
 |p::ps,L=>by
  show lC (putD (dD ek L) (ek p.1) p.2) (dD ek ps)=_;rw[rA h,yL h ps];rfl
theorem yM(f:β->α×D)(ek:α->D)(hk:∀a,j5 (ek a)=true)(hp:∀b,(f b).2.pure=true):∀L:List β,lW (L.map λb=>.tup [ek (f b).1,(f b).2])=some (dD ek (L.map f))
 |[]=>rfl
 |b::L=>by
  rw[List.map_cons,lW,hk,hp,Bool.and_self,if_pos rfl,yM f ek hk hp L];rfl
def nms(P:List Pi):List (Int×D):=fZ [] (P.map λp=>(p.1,D.str p.2))
theorem W7(P:List Pi)(hP:P.length<=1000):tY (.tup (P.map piD))=.ok (.dct (dD D.int (nms P))):=by
 have e:lW (P.map piD)=some (dD D.int (P.map λp=>(p.1,D.str p.2))):=yM (λp:Pi=>(p.1,D.str p.2)) D.int (λ_=>rfl) (λ_=>rfl) P;show(match lW (P.map piD) with|some ps=>(if decide ((P.map piD).length<=1000) then Res.ok (D.dct (lC [] ps)) else .bad)|none=>.bad)=_;rw[e];show(if decide ((P.map piD).length<=1000) then Res.ok (D.dct (lC [] (dD D.int (P.map λp=>(p.1,D.str p.2))))) else .bad)=_;rw[List.length_map,decide_eq_true hP,if_pos rfl];exact congrArg (λx=>Res.ok (D.dct x)) (yL W0 _ [])
theorem aA5(hl:ws.length<=450)(pP:P.Perm (pcs ns 0 ws))(h:(nm ns k,w)∈pcs ns 0 ws):dY (nms P) (nm ns k)=some (.str w):=by
 have nd:∀(vs:List Str)(j:Nat),j+vs.length<=500->((pcs ns j vs).map (·.1)).Nodup/\∀x∈(pcs ns j vs).map (·.1),∃i:Nat,j<=i/\i<500/\x=nm ns i:=by
  intro vs;induction vs with
  |nil=>intro j _;exact⟨List.nodup_nil,λx hx=>by cases hx⟩
  |cons v vs ih=>
   intro j hj;rw[List.length_cons] at hj;obtain⟨i1,i2⟩:=ih (j+1) (by lia);rw[pcs,List.map_cons];refine⟨List.nodup_cons.mpr ⟨λz=>?_,i1⟩,λx hx=>?_⟩
   ·obtain⟨i,h1,h2,h3⟩:=i2 _ z;have:=W4 (by lia) h2 h3;lia
   ·rcases List.mem_cons.mp hx with rfl|hx
    ·exact⟨j,Nat.le_refl j,by lia,rfl⟩
    ·obtain⟨i,h1,h2⟩:=i2 x hx;exact⟨i,by lia,h2⟩
 refine qO _ _ _ _ ?_ (List.mem_map.mpr ⟨_,pP.mem_iff.mpr h,rfl⟩);rw[List.map_map];exact(pP.map _).nodup_iff.mpr (nd ws 0 (by lia)).1
def sdD(m:Mk):D:=.tup [.str m.1,.int (m.2.2.length:Nat)]
theorem W8(M:List Mk)(hM:M.length<=1000):zW (.lst (M.map sdD))=.ok (.dct (dD D.str (fZ [] (psM M)))):=by
 have e:lW (M.map sdD)=some (dD D.str (psM M)):=yM (λm:Mk=>(m.1,D.int (m.2.2.length:Nat))) D.str (λ_=>rfl) (λ_=>rfl) M;show(match lW (M.map sdD) with|some ps=>(if decide ((M.map sdD).length<=1000) then Res.ok (D.dct (lC [] ps)) else .bad)|none=>.bad)=_;rw[e];show(if decide ((M.map sdD).length<=1000) then Res.ok (D.dct (lC [] (dD D.str (psM M)))) else .bad)=_;rw[List.length_map,decide_eq_true hM,if_pos rfl];exact congrArg (λx=>Res.ok (D.dct x)) (yL gW _ [])
def aDv:FS:=(bF (VB false 7 (x2R getD iQ (tW 6))) (bF (bN false 8 (bM aBu cM (aA (b2 getD j6 bQ) aM)) false) (bF (sIf (bOr (bTB (b2 (d9 .notin) nD eO)) (bTB (b2 (d9 .ne) (b2 getD j6 dI) bQ))) QR o6) (bF (o7 5 nD) (aCn 6 (c7 9 (gG (aA (b2 getD eO nD) (aA bQ (aA (b1 aFj dI) aM))) aCz) h_ dZ (cU (aA (b2 getD j6 bQ) (aA oA aM))) false))))))
theorem W9:oO=bF (bN false 2 (b1 zW (c7 9 (bV (b2 getD cA dI) false) (aFk 3) dZ (cU (aA oA (aA (aL dJ (aA eU aM)) aM))) false)) true) (bF (bN false 3 (b1 tY (b2 getD dW bQ)) true) (bF (bN false 4 (aL (bW 1 jW) (aA dW aM)) true) (bF (bN true 5 (nQ aM) true) (bF (bN true 6 (nQ (aA (cU (aA bQ (aA bQ aM))) aM)) true) (bF (aGf (bTr lD) aDv) (nR (aL dH (aA kZ aM)) false)))))):=rfl
def al(pg nt:D)(S:List (Str×D))(N:List (Int×D))(E:List (En×D))(F:List Str)(W:List En)(x7 x8:D):List D:=[pg,nt,.dct (dD D.str S),.dct (dD D.int N),.dct (dD enD E),.lst (F.map D.str),.lst (W.map enD),x7,x8]
theorem aDw(hE:dY E e=some (enD (nm ns k,0)))(hN:dY N (nm ns k)=some (.str w))(hS:dY S w=some (.int (a:Nat)))(ha:a<=3)(hF:F.length<=1000)(hW:W.length<=3000) :
  ∃y7 y8:D,aDv (al pg nt S N E F ((e::W).reverse) x7 x8)=.ok (.nx (al pg nt S N E (F++[w]) ((hk ns k a++W).reverse) y7 y8)):=by
 refine⟨enD (nm ns k,0),.str w,?_⟩;have rv:(e::W).reverse.map enD=(W.reverse.map enD)++[enD e]:=by rw[List.reverse_cons,List.map_append];rfl
 refine aP (ρ':=al pg nt S N E F W.reverse (enD (nm ns k,0)) x8) ?_ ?_
 ·have q1:tW 6 (al pg nt S N E F ((e::W).reverse) x7 x8)=.ok (enD e,al pg nt S N E F W.reverse x7 x8):=by
   show(match ((e::W).reverse.map enD)[((e::W).reverse.map enD).length-1]? with|some x=>Res.ok (x,(al pg nt S N E F ((e::W).reverse) x7 x8).set 6 (.lst ((e::W).reverse.map enD).dropLast))|none=>.bad)=_;rw[rv,List.length_append,List.dropLast_concat];rw[show(W.reverse.map enD).length+[enD e].length-1=(W.reverse.map enD).length by simp,List.getElem?_concat_length];rfl
  have q2:x2R getD iQ (tW 6) (al pg nt S N E F ((e::W).reverse) x7 x8)=.ok (enD (nm ns k,0),al pg nt S N E F W.reverse x7 x8):=by
   unfold x2R;rw[show iQ (al pg nt S N E F ((e::W).reverse) x7 x8)=.ok (.dct (dD enD E)) from rfl,Res.bB,q1,Res.bB,CT CV hE];rfl
  unfold VB;rw[q2];rfl
 have g1:aBu (.dct (dD D.int N)) [.int (nm ns k)]=.ok (.str w):=by
  show(if wC (dD D.int N) (.int (nm ns k)) then Res.ok ((dO (dD D.int N) (.int (nm ns k))).getD .non) else .bad)=_;rw[oX W0,if_pos rfl,uL W0,hN];rfl
 refine aP (ρ':=al pg nt S N E F W.reverse (enD (nm ns k,0)) (.str w)) (iY (i:=8) ?_ rfl) ?_
 ·unfold bM;rw[show cM (al pg nt S N E F W.reverse (enD (nm ns k,0)) x8)=.ok (.dct (dD D.int N)) from rfl,Res.bB];exact g1
 have c1:d9 .notin (.str w) (.dct (dD D.str S))=.ok (.bl false):=by
  show(if wC (dD D.str S) (.str w) then Res.ok (D.bl (!(dO (dD D.str S) (.str w)).isSome)) else .bad)=_;rw[oX gW,if_pos rfl,uL gW,hS];rfl
 refine aP (ρ':=al pg nt S N E F W.reverse (enD (nm ns k,0)) (.str w)) (uO (aHi (eZ (aK (x:=.str w) (y:=.dct (dD D.str S)) rfl rfl c1)) (eZ (aK (x:=.int 0) (y:=.int 0) (aK (x:=enD (nm ns k,0)) (y:=.int 1) rfl rfl rfl) rfl rfl))) rfl) ?_;refine aP (ρ':=al pg nt S N E (F++[w]) W.reverse (enD (nm ns k,0)) (.str w)) ?_ ?_
 ·have ap:=lB (i:=5) (ρ:=al pg nt S N E F W.reverse (enD (nm ns k,0)) (.str w)) (f:=fV 8) (xs:=F.map D.str) (d:=.str w) rfl rfl (by rw[List.length_map];exact jE (by lia)) rfl;refine ap.trans ?_;unfold al;rw[show(F++[w]).map D.str=F.map D.str++[.str w] from List.map_append ..];rfl
 have gs:getD (.dct (dD D.str S)) (.str w)=.ok (.int (a:Nat)):=CT gW hS;have hr:(hk ns k a).reverse.map enD=(List.range a).map λ(q:Nat)=>enD (nm ns k,(a:Int)+(q:Nat)*-1):=by
  unfold hk;rw[<-List.map_reverse,List.map_map,List.map_reverse];refine List.ext_getElem (by simp) λi h1 h2=>?_
  simp only[List.length_reverse,List.length_map,List.length_range] at h1;simp only[List.getElem_reverse,List.getElem_map,List.getElem_range,List.length_map,List.length_range,Function.comp]
  congr 2
  lia
 have c:gZ (iB 9 h_ dZ (cU (aA (b2 getD j6 bQ) (aA oA aM))) false (al pg nt S N E (F++[w]) W.reverse (enD (nm ns k,0)) (.str w))) [] ((List.range ((a:Int)-0).toNat).map λ(q:Nat)=>D.int ((a:Int)+(q:Nat)*-1))=.ok ((hk ns k a).reverse.map enD):=by
  have:=fK (iB 9 h_ dZ (cU (aA (b2 getD j6 bQ) (aA oA aM))) false (al pg nt S N E (F++[w]) W.reverse (enD (nm ns k,0)) (.str w))) (λ(q:Nat)=>D.int ((a:Int)+(q:Nat)*-1)) (λ_=>true) (λq=>enD (nm ns k,(a:Int)+(q:Nat)*-1)) (λacc q=>gM (y:=enD (nm ns k,(a:Int)+(q:Nat)*-1)) (b:=true) rfl rfl (λ_=>⟨cY (xs:=[.int (nm ns k),.int ((a:Int)+(q:Nat)*-1)]) (aD (aK (x:=enD (nm ns k,0)) (y:=.int 0) rfl rfl rfl) (aD rfl rfl)) uH,rfl⟩)) (List.range ((a:Int)-0).toNat) [];rw[this,List.nil_append,List.filter_eq_self.mpr (λ_ _=>rfl),hr,show((a:Int)-0).toNat=a by lia]
 have hit:gG (aA (b2 getD eO nD) (aA bQ (aA (b1 aFj dI) aM))) aCz (al pg nt S N E (F++[w]) W.reverse (enD (nm ns k,0)) (.str w))=.ok ((List.range ((a:Int)-0).toNat).map λ(q:Nat)=>D.int ((a:Int)+(q:Nat)*-1),true):=by
  unfold gG;rw[show aA (b2 getD eO nD) (aA bQ (aA (b1 aFj dI) aM)) (al pg nt S N E (F++[w]) W.reverse (enD (nm ns k,0)) (.str w))=.ok [.int (a:Nat),.int 0,.int (-1)] from aD (aK (x:=.dct (dD D.str S)) (y:=.str w) rfl rfl gs) rfl,Res.bB,aCz,if_pos (by rw[decide_eq_true (show(0:Int)<=(a:Nat) by lia),decide_eq_true (show((a:Nat):Int)<=1000 by lia)];rfl)]
 have hc:=jA (n:=9) hit (by rw[List.length_map,List.length_range,eY];lia) c;have hl:(hk ns k a).length=a:=by unfold hk;rw[List.length_map,List.length_range]
 unfold aCn;rw[hc,Res.bB];show(if decide ((W.reverse.map enD).length+((hk ns k a).reverse.map enD).length<=lim)&&D.bA ((hk ns k a).reverse.map enD) then Res.ok (Fl.nx ((al pg nt S N E (F++[w]) W.reverse (enD (nm ns k,0)) (.str w)).set 6 (.lst (W.reverse.map enD++(hk ns k a).reverse.map enD)))) else .bad)=_;rw[a_ uM,decide_eq_true (show _<=lim by simp only[List.length_map,List.length_reverse,hl];exact Nat.le_of_lt (jE (by lia))),Bool.and_self,if_pos rfl,<-List.map_append,<-List.reverse_append];rfl
theorem W_(hS:∀m∈M,dY S m.1=some (.int (m.2.2.length:Nat))/\m.2.2.length<=3/\ar m.1=m.2.2.length):∀(ws:List Str)(st:List Str)(k:Nat)(F:List Str)(W:List En)(n:Nat)(x7 x8:D),Dv M st ws->st.length=W.length->F.length+ws.length<=500->W.length+3*ws.length<=3000->ws.length<n->
  (∀p∈pr ns ar k ws W,dY E p.1=some (enD p.2))->(∀p∈pcs ns k ws,dY N p.1=some (.str p.2))->
  ∃y7 y8:D,U6 (bTr lD) aDv n (al pg nt S N E F W.reverse x7 x8)=.ok (.nx (al pg nt S N E (F++ws) [] y7 y8))
 |ws,st,k,F,W,0,x7,x8,_,_,_,_,h,_,_=>absurd h (Nat.not_lt_zero _)
 |[],st,k,F,W,n+1,x7,x8,hd,hl,_,_,_,_,_=>by
  cases hd;have:W=[]:=List.length_eq_zero_iff.mp hl.symm;subst this;refine⟨x7,x8,?_⟩;rw[List.append_nil];rfl
 |w::ws,st,k,F,W,n+1,x7,x8,hd,hl,h1,h2,h3,hE,hN=>by
  cases hd with
  |@cons m st' _ hm hd=>
   rw[List.length_cons] at h1 h2 h3;obtain⟨s1,s2,s4⟩:=hS m hm;cases W with
   |nil=>cases hl
   |cons e W=>
    rw[List.length_cons] at h2;rw[List.length_cons,List.length_cons] at hl;rw[pr,s4] at hE;rw[pcs] at hN;obtain⟨y7,y8,es⟩:=aDw (ns:=ns) (pg:=pg) (nt:=nt) (F:=F) (W:=W) (e:=e) (k:=k) (x7:=x7) (x8:=x8) (hE _ (List.mem_cons_self ..)) (hN _ (List.mem_cons_self ..)) s1 s2 (by lia) (by lia);have hkl:(hk ns k m.2.2.length).length=m.2.2.length:=by unfold hk;rw[List.length_map,List.length_range]
    obtain⟨z7,z8,ez⟩:=W_ (pg:=pg) (nt:=nt) hS ws (m.2.2++st') (k+1) (F++[m.1]) (hk ns k m.2.2.length++W) n y7 y8 hd (by rw[List.length_append,List.length_append,hkl];lia) (by rw[List.length_append];show F.length+1+_<=_;lia) (by rw[List.length_append,hkl];lia) (by lia) (λp hp=>hE p (List.mem_cons_of_mem _ hp)) (λp hp=>hN p (List.mem_cons_of_mem _ hp));refine⟨z7,z8,?_⟩;have c:bTr lD (al pg nt S N E F ((e::W).reverse) x7 x8)=.ok true:=by
     show Res.ok (!((e::W).reverse.map enD).isEmpty)=_;rw[List.reverse_cons,List.map_append];cases W.reverse.map enD<;>rfl
    rw[U6,c,Res.bB,if_pos rfl,es,show F++m.1::ws=F++[m.1]++ws by simp];exact ez
theorem aIy(h:Dv M (k::st) ws):∃m∈M,∃us,m.2.1=k/\ws=m.1::us:=by
 cases h with
 |cons hm hd=>exact⟨_,hm,_,rfl,rfl⟩
theorem aH8(hS:∀m∈M,ar m.1=m.2.2.length):∀(ws st:List Str)(k:Nat)(W:List En),Dv M st ws->st.length=W.length->(pr ns ar k ws W).length=ws.length
 |[],st,k,W,hd,hl=>by cases W<;>rfl
 |w::ws,st,k,W,hd,hl=>by
  cases hd with
  |@cons m st' _ hm hd=>
   cases W with
   |nil=>cases hl
   |cons e W=>
    rw[List.length_cons,List.length_cons] at hl;have hkl:(hk ns k m.2.2.length).length=m.2.2.length:=by unfold hk;rw[List.length_map,List.length_range]
    rw[pr,List.length_cons,List.length_cons,hS m hm,aH8 hS ws (m.2.2++st') (k+1) _ hd (by rw[List.length_append,List.length_append,hkl];lia)]
theorem aH9{U V:List Ti}(h:Sw U V):U.length=V.length:=by
 induction h with
 |nil=>rfl
 |cons _ _ ih=>rw[List.length_cons,List.length_cons,ih]
theorem JG(ns:List Int):∀(ws:List Str)(k:Nat),(pcs ns k ws).length=ws.length
 |[],_=>rfl
 |w::ws,k=>by rw[pcs,List.length_cons,List.length_cons,JG ns ws]
theorem aAz:∀{ws:List Str}{k:Nat}{p:Pi},p∈pcs ns k ws->∃j:Nat,p.1=nm ns j
 |[],_,_,h=>by cases h
 |w::ws,k,p,h=>by
  rcases List.mem_cons.mp h with rfl|h
  ·exact⟨k,rfl⟩
  ·exact aAz h
theorem aA6{ws:List Str}{P:List Pi}{V W:List Ti}(hn:ns.length<=63)(hm3:many<=3)(hM:MOk ns many many.toNat M)(hT:∀t∈T,gR ns many t)(hd:Dv M [kind] ws)(hl:ws.length<=450)(pP:P.Perm (pcs ns 0 ws))(pV:V.Perm W)(hW:Sw W (pr ns (arS M T) 0 ws [(0,0)]))(hV:V.length<=1000)(hE:(fl V).Nodup) :
  bW 2 iI [pgD ks M T R,ntD P V]=.ok (.tup (ws.map D.str)):=by
 have ml:=hM.len;have hPl:P.length<=1000:=by rw[pP.length_eq,JG];lia
 have hf:∀m∈M,dY (fZ [] (psM M)) m.1=some (.int (m.2.2.length:Nat))/\m.2.2.length<=3/\arS M T m.1=m.2.2.length:=λm hm=>by
  have f:=fx hn hm3 hM hT hm;exact⟨f.sid,f.len,W6 f⟩
 obtain⟨y7,y8,e⟩:=W_ (ns:=ns) (pg:=pgD ks M T R) (nt:=ntD P V) (N:=nms P) (E:=mts V) hf ws [kind] 0 [] [(0,0)] 1000 .uD .uD hd rfl (by show 0+_<=500;lia) (by show 1+_<=3000;lia) (by lia) (λp hp=>aA4 hE ((aH6 hW p hp).imp (λq=>pV.mem_iff.mpr q) (λq=>pV.mem_iff.mpr q))) (λp hp=>by
  obtain⟨j,ej⟩:=aAz hp;have:p=(nm ns j,p.2):=Prod.ext ej rfl;rw[this] at hp ⊢;exact aA5 hl pP hp)
 refine(dR rfl).trans (call_v ?_);rw[W9];have c:=fK (iB 9 (aFk 3) dZ (cU (aA oA (aA (aL dJ (aA eU aM)) aM))) false [pgD ks M T R,ntD P V,.uD,.uD,.uD,.uD,.uD,.uD,.uD]) mkD (λ_=>true) sdD (λacc m=>oV (b:=true) (bs:=[.str m.1,.str m.2.1,.tup (m.2.2.map D.str)]) (y:=sdD m) rfl rfl rfl (λ_=>⟨cY (xs:=[.str m.1,.int (m.2.2.length:Nat)]) (aD rfl (aD (aR (xs:=[.tup (m.2.2.map D.str)]) (aD rfl rfl) (aDl _)) rfl)) uH,rfl⟩)) M [];rw[List.nil_append,List.filter_eq_self.mpr (λ_ _=>rfl)] at c;have pJ:∀{f:D->Res D}{a:FE}{ρ:List D}{x y:D},a ρ=.ok x->f x=.ok y->b1 f a ρ=.ok y:=λ{f a ρ x y} h1 h2=>by
  unfold b1;rw[h1];exact h2
 refine aP (ρ':=[pgD ks M T R,ntD P V,.dct (dD D.str (fZ [] (psM M))),.uD,.uD,.uD,.uD,.uD,.uD]) (bZ (i:=2) (pJ (jA (xs:=M.map mkD) (gU (aK (x:=pgD ks M T R) (y:=.int 1) rfl rfl rfl)) (by rw[List.length_map];exact cC (by lia)) c) (W8 M (by lia)))) ?_;refine aP (ρ':=[pgD ks M T R,ntD P V,.dct (dD D.str (fZ [] (psM M))),.dct (dD D.int (nms P)),.uD,.uD,.uD,.uD,.uD]) (bZ (i:=3) (pJ (aK (x:=ntD P V) (y:=.int 0) (z:=.tup (P.map piD)) rfl rfl rfl) (W7 P hPl))) ?_;refine aP (ρ':=[pgD ks M T R,ntD P V,.dct (dD D.str (fZ [] (psM M))),.dct (dD D.int (nms P)),.dct (dD enD (mts V)),.uD,.uD,.uD,.uD]) (bZ (i:=4) (aR (xs:=[ntD P V]) (aD rfl rfl) (aA3 P V hV))) ?_;refine aP (ρ':=[pgD ks M T R,ntD P V,.dct (dD D.str (fZ [] (psM M))),.dct (dD D.int (nms P)),.dct (dD enD (mts V)),.lst [],.uD,.uD,.uD]) (dG (i:=5) (jD (xs:=[]) rfl (Nat.zero_le _)) rfl) ?_;refine aP (ρ':=al (pgD ks M T R) (ntD P V) (fZ [] (psM M)) (nms P) (mts V) [] [(0,0)] .uD .uD) (dG (i:=6) (jD (xs:=[enD (0,0)]) (aD (cY (xs:=[.int 0,.int 0]) (aD rfl (aD rfl rfl)) uH) rfl) (cC (Nat.le_of_ble_eq_true rfl))) rfl) ?_;refine aP e ?_;exact iZ (d:=.tup (ws.map D.str)) (aR (xs:=[.lst (ws.map D.str)]) (aD rfl rfl) rfl) (by rw[D.pure,bH];rfl)
theorem aDx(e:dY H w=some h)(hp:h.pure=true):bW 3 lY [.dct (dD D.str H),.str w,.dct []]=.ok h:=by
 refine(dR rfl).trans (call_v ?_);have c:inX (.str w) (.dct (dD D.str H))=.ok (.bl true):=by
  show(if wC (dD D.str H) (.str w) then Res.ok (D.bl (dO (dD D.str H) (.str w)).isSome) else .bad)=_;rw[oX gW,if_pos rfl,uL gW,e];rfl
 exact aAv (XH (eZ (aK (x:=.str w) (y:=.dct (dD D.str H)) rfl rfl c)) (iZ (d:=h) (aK (x:=.dct (dD D.str H)) (y:=.str w) rfl rfl (CT gW e)) (by rw[hp];rfl)))
def aDy:FS:=(bF (sIf (YG (bTr iQ)) QR o6) (bF (bN false 6 (aL (bW 3 lY) (aA cA (aA kZ (aA cM aM)))) true) (bF (aHh (xTB (x2R (d9 .ne) (bPu (b2 getD lD bQ)) (tW 4))) QR o6) (aCn 4 (b1 aCt (b2 getD lD dI))))))
theorem aA7:jO=bF (bN true 4 (nJ (aA eO aM)) true) (bF (GR 1 (tg1 5) aDy) (sIf (bTr iQ) QR o6)):=rfl
def kw(H:List (Str×D))(ws:List Str)(kind:Str)(st:List Str)(x5 x6:D):List D:=[.dct (dD D.str H),.tup (ws.map D.str),.str kind,.dct [],.lst (st.reverse.map D.str),x5,x6]
theorem aHa{m:Mk}(hH:dY H m.1=some (.tup [.str m.2.1,.tup (m.2.2.map D.str)]))(h3:m.2.2.length<=3)(hs:st.length<=5000):∃y6:D,aDy (kw H wa kind (m.2.1::st) (.str m.1) x6)=.ok (.nx (kw H wa kind (m.2.2++st) (.str m.1) y6)):=by
 refine⟨.tup [.str m.2.1,.tup (m.2.2.map D.str)],?_⟩;have rv:(m.2.1::st).reverse.map D.str=(st.reverse.map D.str)++[.str m.2.1]:=by rw[List.reverse_cons,List.map_append];rfl
 have ne:bTr iQ (kw H wa kind (m.2.1::st) (.str m.1) x6)=.ok true:=by
  show Res.ok (!((m.2.1::st).reverse.map D.str).isEmpty)=_;rw[rv];cases st.reverse.map D.str<;>rfl
 have nn:YG (bTr iQ) (kw H wa kind (m.2.1::st) (.str m.1) x6)=.ok false:=by
  unfold YG;rw[ne];rfl
 refine aP (ρ':=kw H wa kind (m.2.1::st) (.str m.1) x6) (uO nn rfl) ?_;refine aP (ρ':=kw H wa kind (m.2.1::st) (.str m.1) (.tup [.str m.2.1,.tup (m.2.2.map D.str)])) (bZ (i:=6) (aR (xs:=[.dct (dD D.str H),.str m.1,.dct []]) (aD rfl (aD rfl (aD rfl rfl))) (aDx hH (by show((D.tup (m.2.2.map D.str)).pure&&true)=true;rw[D.pure,bH];rfl)))) ?_;have q1:tW 4 (kw H wa kind (m.2.1::st) (.str m.1) (.tup [.str m.2.1,.tup (m.2.2.map D.str)]))=.ok (.str m.2.1,kw H wa kind st (.str m.1) (.tup [.str m.2.1,.tup (m.2.2.map D.str)])):=by
  show(match ((m.2.1::st).reverse.map D.str)[((m.2.1::st).reverse.map D.str).length-1]? with|some x=>Res.ok (x,(kw H wa kind (m.2.1::st) (.str m.1) (.tup [.str m.2.1,.tup (m.2.2.map D.str)])).set 4 (.lst ((m.2.1::st).reverse.map D.str).dropLast))|none=>.bad)=_;rw[rv,List.length_append,List.dropLast_concat];rw[show(st.reverse.map D.str).length+[D.str m.2.1].length-1=(st.reverse.map D.str).length by simp,List.getElem?_concat_length];rfl
 have q2:xTB (x2R (d9 .ne) (bPu (b2 getD lD bQ)) (tW 4)) (kw H wa kind (m.2.1::st) (.str m.1) (.tup [.str m.2.1,.tup (m.2.2.map D.str)]))=.ok (false,kw H wa kind st (.str m.1) (.tup [.str m.2.1,.tup (m.2.2.map D.str)])):=by
  have q0:bPu (b2 getD lD bQ) (kw H wa kind (m.2.1::st) (.str m.1) (.tup [.str m.2.1,.tup (m.2.2.map D.str)]))=.ok (.str m.2.1):=rfl;have q3:x2R (d9 .ne) (bPu (b2 getD lD bQ)) (tW 4) (kw H wa kind (m.2.1::st) (.str m.1) (.tup [.str m.2.1,.tup (m.2.2.map D.str)]))=.ok (.bl false,kw H wa kind st (.str m.1) (.tup [.str m.2.1,.tup (m.2.2.map D.str)])):=by
   unfold x2R;rw[q0,Res.bB,q1,Res.bB,show d9 .ne (.str m.2.1) (.str m.2.1)=.ok (.bl (!(m.2.1==m.2.1))) from rfl,beq_self_eq_true];rfl
  unfold xTB;rw[q3];rfl
 refine aP (ρ':=kw H wa kind st (.str m.1) (.tup [.str m.2.1,.tup (m.2.2.map D.str)])) ?_ ?_
 ·unfold aHh;rw[q2];rfl
 have g:b1 aCt (b2 getD lD dI) (kw H wa kind st (.str m.1) (.tup [.str m.2.1,.tup (m.2.2.map D.str)]))=.ok (.lst (m.2.2.reverse.map D.str)):=by
  show aCt (.tup (m.2.2.map D.str))=_;rw[aCt,bH,List.length_map,decide_eq_true (show m.2.2.length<=lim from cC (by lia)),Bool.and_self,if_pos rfl,List.map_reverse]
 unfold aCn;rw[g,Res.bB];show(if decide ((st.reverse.map D.str).length+(m.2.2.reverse.map D.str).length<=lim)&&D.bA (m.2.2.reverse.map D.str) then Res.ok (Fl.nx ((kw H wa kind st (.str m.1) (.tup [.str m.2.1,.tup (m.2.2.map D.str)])).set 4 (.lst (st.reverse.map D.str++m.2.2.reverse.map D.str)))) else .bad)=_;rw[bH,decide_eq_true (show _<=lim by simp only[List.length_map,List.length_reverse];exact Nat.le_of_lt (jE (by lia))),Bool.and_self,if_pos rfl,<-List.map_append,<-List.reverse_append];rfl
theorem aB0(hH:∀m∈M,dY H m.1=some (.tup [.str m.2.1,.tup (m.2.2.map D.str)])/\m.2.2.length<=3):∀(ws st:List Str)(x5 x6:D),Dv M st ws->st.length+3*ws.length<=5000->∃y5 y6:D,rK (tg1 5) aDy (ws.map D.str) (kw H wa kind st x5 x6)=.ok (.nx (kw H wa kind [] y5 y6))
 |[],st,x5,x6,hd,_=>by
  cases hd;exact⟨x5,x6,rfl⟩
 |w::ws,st,x5,x6,hd,hl=>by
  cases hd with
  |@cons m st' _ hm hd=>
   rw[List.length_cons,List.length_cons] at hl;obtain⟨y6,e⟩:=aHa (wa:=wa) (kind:=kind) (st:=st') (x6:=x6) (hH m hm).1 (hH m hm).2 (by lia);obtain⟨z5,z6,e2⟩:=aB0 hH ws (m.2.2++st') (.str m.1) y6 hd (by have:=(hH m hm).2;rw[List.length_append];lia);exact⟨z5,z6,dX (ρ1:=kw H wa kind (m.2.1::st') (.str m.1) x6) rfl e e2⟩
theorem aDz(hH:∀m∈M,dY H m.1=some (.tup [.str m.2.1,.tup (m.2.2.map D.str)])/\m.2.2.length<=3)(hd:Dv M [kind] ws)(hl:ws.length<=450):bW 4 gP [.dct (dD D.str H),.tup (ws.map D.str),.str kind,.dct []]=.ok .non:=by
 obtain⟨y5,y6,e⟩:=aB0 (wa:=ws) (kind:=kind) hH ws [kind] .uD .uD hd (by show 1+_<=_;lia);have b:jO [.dct (dD D.str H),.tup (ws.map D.str),.str kind,.dct [],.uD,.uD,.uD]=.ok (.nx (kw H ws kind [] y5 y6)):=by
  rw[aA7];refine aP (ρ':=kw H ws kind [kind] .uD .uD) (dG (i:=4) (uI (xs:=[.str kind]) (aD rfl rfl) (cC (Nat.le_of_ble_eq_true rfl)) rfl) rfl) ?_;refine aP (HH (i:=1) (d:=.tup (ws.map D.str)) rfl rfl e) ?_;exact uO rfl rfl
 refine(dR rfl).trans ?_;show fnS 4 7 jO _=_;unfold fnS;rw[show[D.dct (dD D.str H),.tup (ws.map D.str),.str kind,.dct []]++List.replicate (7-4) D.uD=[.dct (dD D.str H),.tup (ws.map D.str),.str kind,.dct [],.uD,.uD,.uD] from rfl,b];rfl
theorem QJ{ws:List Str}{P:List Pi}{V W:List Ti}(hn:ns.length<=63)(hm3:many<=3)(hM:MOk ns many many.toNat M)(hT:∀t∈T,gR ns many t)(hTl:T.length<=3)(hd:Dv M [kind] ws)(hl:ws.length<=450)(pP:P.Perm (pcs ns 0 ws))(pV:V.Perm W)(hW:Sw W (pr ns (arS M T) 0 ws [(0,0)])) :
  bW 2 oU [pgD ks M T R,ntD P V]=.ok (.tup (ws.map D.str)):=by
 have ml:=hM.len;obtain⟨m,hm,us,hmk,hws⟩:=aIy hd;have hV:V.length=ws.length:=by
  rw[pV.length_eq,aH9 hW];exact aH8 (λm hm=>W6 (fx hn hm3 hM hT hm)) ws [kind] 0 [(0,0)] hd rfl
 obtain⟨nd,one⟩:=aA2 hl (by rw[hws];simp) pV hW;have ri:=aH7 P V (by lia);rw[one] at ri;have al:=aA6 (ks:=ks) (R:=R) hn hm3 hM hT hd hl pP pV hW (by lia) nd;have hP:P.length=ws.length:=by rw[pP.length_eq,JG]
 have wk:=aDz (H:=hds M T) (M:=M) (λm hm=>by have f:=fx hn hm3 hM hT hm;exact⟨f.hds,f.len⟩) hd hl;have f:=fx hn hm3 hM hT hm;refine(dR rfl).trans (call_v ?_);have c0:bTB (b2 (d9 .ne) (aL (bW 1 V8) (aA dW aM)) dI) [pgD ks M T R,ntD P V,.uD,.uD]=.ok false:=eZ (aK (x:=.int ((1:Nat):Int)) (y:=.int 1) (aR (xs:=[ntD P V]) (aD rfl rfl) ri) rfl rfl);have c1:bTB (b2 (d9 .ne) (b2 getD dW jK) bQ) [pgD ks M T R,ntD P V,.uD,.uD]=.ok false:=eZ (aK (x:=.int 0) (y:=.int 0) (aK (x:=ntD P V) (y:=.int 2) rfl rfl rfl) rfl rfl);refine aP (ρ':=[pgD ks M T R,ntD P V,.uD,.uD]) (uO (aHi c0 c1) rfl) ?_;refine aP (ρ':=[pgD ks M T R,ntD P V,.tup (ws.map D.str),.uD]) (bZ (i:=2) (aR (xs:=[pgD ks M T R,ntD P V]) (aD rfl (aD rfl rfl)) al)) ?_;have lp:dJ [.tup (P.map piD)]=.ok (.int (P.length:Nat)):=by
  rw[show dJ [.tup (P.map piD)]=.ok (.int ((P.map piD).length:Nat)) from rfl,List.length_map]
 have c2:bTB (b2 (d9 .ne) (aL dJ (aA eO aM)) (aL dJ (aA (b2 getD dW bQ) aM))) [pgD ks M T R,ntD P V,.tup (ws.map D.str),.uD]=.ok (!(((ws.length:Nat):Int)==((P.length:Nat):Int))):=eZ (aK (x:=.int (ws.length:Nat)) (y:=.int (P.length:Nat)) (aR (xs:=[.tup (ws.map D.str)]) (aD rfl rfl) (aDl _)) (aR (xs:=[.tup (P.map piD)]) (aD (aK (x:=ntD P V) (y:=.int 0) rfl rfl rfl) rfl) lp) (ne_int _ _));rw[hP,beq_self_eq_true] at c2;refine aP (ρ':=[pgD ks M T R,ntD P V,.tup (ws.map D.str),.uD]) (uO c2 rfl) ?_;refine aP (ρ':=[pgD ks M T R,ntD P V,.tup (ws.map D.str),.dct (dD D.str (hds M T))]) (aP (ρ':=[pgD ks M T R,ntD P V,.tup (ws.map D.str),.dct (dD D.str (hds M T))]) (bZ (i:=3) (aR (xs:=[pgD ks M T R]) (aD rfl rfl) (Z9 (by lia) hTl (λt ht=>(hT t ht).2.2.2.1)))) ?_) ?_
 ·have g0:getD (.tup (ws.map D.str)) (.int 0)=.ok (.str m.1):=by
   rw[hws];show Res.ofOpt ((ixD ((m.1::us).map D.str).length 0).bind λj=>((m.1::us).map D.str)[j]?)=_;have:ixD ((m.1::us).map D.str).length 0=some 0:=by
    unfold ixD;rw[if_pos (Int.le_refl 0),if_pos (by rw[List.length_map,List.length_cons];lia)];rfl
   rw[this];rfl
  have a:aA cM (aA eO (aA (b2 getD (b2 getD cM (b2 getD eO bQ)) bQ) (aA (bC (.dct [])) aM))) [pgD ks M T R,ntD P V,.tup (ws.map D.str),.dct (dD D.str (hds M T))]=.ok [.dct (dD D.str (hds M T)),.tup (ws.map D.str),.str kind,.dct []]:=by
   rw[<-hmk];exact aD rfl (aD rfl (aD (aK (x:=.tup [.str m.2.1,.tup (m.2.2.map D.str)]) (y:=.int 0) (aK (x:=.dct (dD D.str (hds M T))) (y:=.str m.1) rfl (aK (x:=.tup (ws.map D.str)) (y:=.int 0) rfl rfl g0) (CT gW f.hds)) rfl rfl) (aD rfl rfl)))
  have cc:=aR (f:=bW 4 gP) a wk;unfold aBv;rw[cc];rfl
 exact iZ (d:=.tup (ws.map D.str)) rfl (by rw[D.pure,bH];rfl)
theorem aE0(ws:List Str):d9 .eq (.tup (ws.map D.str)) (.tup (ws.map D.str))=.ok (.bl true):=by
 have e:∀L:List Str,uN (L.map D.str) (L.map D.str)=true:=by
  intro L;induction L with
  |nil=>rfl
  |cons x L ih=>
   show((x==x)&&uN (L.map D.str) (L.map D.str))=true;rw[ih,beq_self_eq_true];rfl
 have q:(D.tup (ws.map D.str)).eN aY=true:=qP 11 ws;show(if (D.tup (ws.map D.str)).eN aY&&(D.tup (ws.map D.str)).eN aY then Res.ok (D.bl (uN (ws.map D.str) (ws.map D.str))) else .bad)=_;rw[q,e];rfl
theorem main:∀ns:List Int,ns.length<=63->QB [.scr (ns.map D.int)]=.ok (.bl true):=by
 intro ns hn;obtain⟨many,ks,M,T,R,⟨hm,hm3⟩,hM,hT,hTl,⟨hk1,hk2⟩,ep⟩:=QH hn;have kl:((ks.length:Nat):Int)=many:=by lia
 have m60:=cD (drw ns 60) many hm;have p1:=Int.emod_nonneg (drw ns 60) (show many≠0 by lia);have p2:=Int.emod_lt_of_pos (drw ns 60) hm;obtain⟨kind,hkind,gk⟩:∃kind∈ks,getD (.tup (ks.map D.str)) (.int (drw ns 60 % many))=.ok (.str kind):=by
  have hix:ixD (ks.map D.str).length (drw ns 60 % many)=some (drw ns 60 % many).toNat:=by
   unfold ixD;rw[if_pos p1,List.length_map,if_pos (by lia)]
  have hlt:(drw ns 60 % many).toNat<ks.length:=by lia
  refine⟨ks[(drw ns 60 % many).toNat],List.getElem_mem ..,?_⟩;show Res.ofOpt ((ixD (ks.map D.str).length (drw ns 60 % many)).bind λj=>(ks.map D.str)[j]?)=_;rw[hix];simp only[Option.bind_some];rw[List.getElem?_map,List.getElem?_eq_getElem hlt];rfl
 have m62:=cD (drw ns 62) 2 (by decide);have g2:=uJ (.int 4) (.int 60) (drw ns 62 % 2) (Int.emod_nonneg _ (by decide)) (Int.emod_lt_of_pos _ (by decide));obtain⟨b,b0,bb,g2'⟩:∃b:Int,0<b/\b<=60/\getD (.lst [.int 4,.int 60]) (.int (drw ns 62 % 2))=.ok (.int b):=by
  by_cases z:drw ns 62 % 2=0
  ·rw[if_pos z] at g2;exact⟨4,by decide,by decide,g2⟩
  ·rw[if_neg z] at g2;exact⟨60,by decide,by decide,g2⟩
 have m61:=cD (drw ns 61) b b0;have q1:=Int.emod_nonneg (drw ns 61) (show b≠0 by lia);have q2:=Int.emod_lt_of_pos (drw ns 61) b0;obtain⟨le,hle⟩:∃le:Nat,(le:Int)=drw ns 61 % b:=⟨(drw ns 61 % b).toNat,by lia⟩
 rw[<-hle] at m61;obtain⟨ws,⟨wl,wd⟩,ew⟩:=L_ (at_:=400) (M:=M) (T:=[]) (K:=[]) (kind:=kind) (mo:=le+8) (le:=le) hn hm hm3 hM (λ_ h=>by cases h) (Nat.zero_le _) (Nat.zero_le _) (by lia) (by lia) (hk1 kind hkind);have hd:=wd rfl rfl;obtain⟨P,V,W,pP,pV,hW,el⟩:=aDt (ks:=ks) (R:=R) hn hm3 hM hT hTl hd wl;have eu:=QJ (ks:=ks) (R:=R) hn hm3 hM hT hTl hd wl pP pV hW;have a8:=cZ (le:Nat) 8;refine call_v ?_;refine aP (ρ':=[.scr (ns.map D.int),pgD ks M T R,.uD,.uD,.uD,.uD,.uD]) (bZ (i:=1) (aR (xs:=[.scr (ns.map D.int)]) (aD rfl rfl) ep)) ?_;refine aP (ρ':=[.scr (ns.map D.int),pgD ks M T R,.str kind,.uD,.uD,.uD,.uD]) (iY (i:=2) (aK (x:=.tup (ks.map D.str)) (y:=.int (drw ns 60 % many)) (aK (x:=pgD ks M T R) (y:=.int 0) rfl rfl rfl) (aK (x:=.int (drw ns 60)) (y:=.int many) (jX hn rfl rfl) (aR (xs:=[.tup (ks.map D.str)]) (aD (aK (x:=pgD ks M T R) (y:=.int 0) rfl rfl rfl) rfl) (by rw[aDl,kl])) m60) gk) rfl) ?_;refine aP (ρ':=[.scr (ns.map D.int),pgD ks M T R,.str kind,.int (le:Nat),.uD,.uD,.uD]) (bZ (i:=3) (aK (x:=.int (drw ns 61)) (y:=.int b) (jX hn rfl rfl) (aK (x:=.lst [.int 4,.int 60]) (y:=.int (drw ns 62 % 2)) (jD (xs:=[.int 4,.int 60]) (aD rfl (aD rfl rfl)) uH) (aK (x:=.int (drw ns 62)) (y:=.int 2) (jX hn rfl rfl) rfl m62) g2') m61)) ?_;refine aP (ρ':=[.scr (ns.map D.int),pgD ks M T R,.str kind,.int (le:Nat),.tup (ws.map D.str),.uD,.uD]) (bZ (i:=4) (aR (xs:=[.scr (ns.map D.int),.int 400,bkD M [],.dct (knD []),.str kind,.int ((le+8:Nat):Int),.int (le:Nat)]) (aD rfl (aD rfl (aD (cY (xs:=[.tup (M.map mkD),.tup []]) (aD (aK (x:=pgD ks M T R) (y:=.int 1) rfl rfl rfl) (aD (cY (xs:=[]) rfl (Nat.zero_le _)) rfl)) uH) (aD rfl (aD rfl (aD (aK (x:=.int (le:Nat)) (y:=.int 8) rfl rfl a8) (aD rfl rfl))))))) ew)) ?_;refine aP (ρ':=[.scr (ns.map D.int),pgD ks M T R,.str kind,.int (le:Nat),.tup (ws.map D.str),.tup (ws.map D.str),.uD]) (bZ (i:=5) (aR (xs:=[pgD ks M T R,ntD P V]) (aD rfl (aD (aR (xs:=[.scr (ns.map D.int),.int 500,.tup (ws.map D.str),pgD ks M T R]) (aD rfl (aD rfl (aD rfl (aD rfl rfl)))) el) rfl)) eu)) ?_;have c1:YG (bTr (b1 (R9 .tuple) kZ)) [.scr (ns.map D.int),pgD ks M T R,.str kind,.int (le:Nat),.tup (ws.map D.str),.tup (ws.map D.str),.uD]=.ok false:=rfl
 have c2:bTB (b2 (d9 .ne) (aL dJ (aA kZ aM)) (aL dJ (aA iQ aM))) [.scr (ns.map D.int),pgD ks M T R,.str kind,.int (le:Nat),.tup (ws.map D.str),.tup (ws.map D.str),.uD]=.ok (!(((ws.length:Nat):Int)==((ws.length:Nat):Int))):=eZ (aK (x:=.int (ws.length:Nat)) (y:=.int (ws.length:Nat)) (aR (xs:=[.tup (ws.map D.str)]) (aD rfl rfl) (aDl _)) (aR (xs:=[.tup (ws.map D.str)]) (aD rfl rfl) (aDl _)) (ne_int _ _));rw[beq_self_eq_true] at c2;refine aP (ρ':=[.scr (ns.map D.int),pgD ks M T R,.str kind,.int (le:Nat),.tup (ws.map D.str),.tup (ws.map D.str),.uD]) (uO (aHi c1 c2) rfl) ?_;have lp:∀(us:List Str)(x6:D),∃y6:D,rK (tg1 6) (sIf (YG (bTr (b1 (R9 .str) lD))) (nR (bC (.bl false)) true) o6) (us.map D.str) [.scr (ns.map D.int),pgD ks M T R,.str kind,.int (le:Nat),.tup (ws.map D.str),.tup (ws.map D.str),x6]=.ok (.nx [.scr (ns.map D.int),pgD ks M T R,.str kind,.int (le:Nat),.tup (ws.map D.str),.tup (ws.map D.str),y6]):=by
  intro us;induction us with
  |nil=>intro x6;exact⟨x6,rfl⟩
  |cons u us ih=>
   intro x6;obtain⟨y6,e⟩:=ih (.str u);exact⟨y6,dX (ρ1:=[.scr (ns.map D.int),pgD ks M T R,.str kind,.int (le:Nat),.tup (ws.map D.str),.tup (ws.map D.str),.str u]) rfl (uO rfl rfl) e⟩
 obtain⟨y6,e6⟩:=lp ws .uD;refine aP (HH (i:=5) (d:=.tup (ws.map D.str)) rfl rfl e6) ?_;exact iZ (k:=true) (aK (x:=.tup (ws.map D.str)) (y:=.tup (ws.map D.str)) rfl rfl (aE0 ws)) rfl
end Lk65
section
open PySem PySem.W PyProof.Rows
def PySem.W.Fast.tw1439565827506225997 : Unit:=()
def PySem.W.Fast.tw15596691762011617085 : Unit:=()
def PySem.W.Fast.tw10813525038879950099 : Unit:=()
def PySem.W.Fast.tw10014417641941286408 : Unit:=()
def PySem.W.Fast.tw6405496939764948697 : Unit:=()
def PySem.W.Fast.tw14288233382883784667 : Unit:=()
def PySem.W.Fast.tw2525991966258595366 : Unit:=()
def PySem.W.Fast.tw4714426790503696205 : Unit:=()
def PySem.W.Fast.tw14540211867250871484 : Unit:=()
def PySem.W.Fast.tw9455073613325380351 : Unit:=()
def PySem.W.Fast.tw1193373560665232858 : Unit:=()
def PySem.W.Fast.tw373973497695998445 : Unit:=()
def PySem.W.Fast.tw17707531341785611336 : Unit:=()
def PySem.W.Fast.tw14153510078226855282 : Unit:=()
def PySem.W.Fast.tw16016266059142672224 : Unit:=()
def PySem.W.Fast.tw16124518383515215031 : Unit:=()
def PySem.W.Fast.tw6555906967816058716 : Unit:=()
def PySem.W.Fast.tw9233787814325909475 : Unit:=()
def PySem.W.Fast.tw10189812369502670311 : Unit:=()
def PySem.W.Fast.tw14084710078311694123 : Unit:=()
def PySem.W.Fast.tw2293470636410628332 : Unit:=()
def PySem.W.Fast.tw17487706463711642120 : Unit:=()
def PySem.W.Fast.tw5760708804669657068 : Unit:=()
def PySem.W.Fast.tw8453901377692987570 : Unit:=()
def PySem.W.Fast.tw240844437136868651 : Unit:=()
def PySem.W.Fast.tw17553535254320249323 : Unit:=()
def PySem.W.Fast.tw5856441510560455105 : Unit:=()
def PySem.W.Fast.tw6821312407001681991 : Unit:=()
def PySem.W.Fast.tw4076284610478175070 : Unit:=()
def PySem.W.Fast.tw13778637960933700394 : Unit:=()
def PySem.W.Fast.tw12770806936783140821 : Unit:=()
def PySem.W.Fast.tw2430414072390270488 : Unit:=()
def PySem.W.Fast.tw13607597800430871335 : Unit:=()
def PySem.W.Fast.tw18376186177093224336 : Unit:=()
def PySem.W.Fast.tw13166578263598368892 : Unit:=()
def PySem.W.Fast.tw16137754769297279180 : Unit:=()
def PySem.W.Fast.tw11229117456132154595 : Unit:=()
def PySem.W.Fast.tw15993771437277820625 : Unit:=()
def PySem.W.Fast.tw17996062598951379152 : Unit:=()
def PySem.W.Fast.tw13466894210019206411 : Unit:=()
def PySem.W.Fast.tw16103835398699476194 : Unit:=()
def PySem.W.Fast.tw3455166131843819174 : Unit:=()
def PySem.W.Fast.tw4172187277034430066 : Unit:=()
def PySem.W.Fast.tw13207541908434447769 : Unit:=()
def PySem.W.Fast.tw4142209770232515101 : Unit:=()
def PySem.W.Fast.tw972696498134365990 : Unit:=()
def PySem.W.Fast.tw4069496374521148074 : Unit:=()
def PySem.W.Fast.tw8600231802959019298 : Unit:=()
def PySem.W.Fast.tw17923540363369446216 : Unit:=()
def PySem.W.Fast.tw12960290195807789476 : Unit:=()
def PySem.W.Fast.tw12518797066544946358 : Unit:=()
def PySem.W.Fast.tw369074716473405344 : Unit:=()
def PySem.W.Fast.tw14855793423398792850 : Unit:=()
def PySem.W.Fast.tw13293820463371889126 : Unit:=()
def PySem.W.Fast.tw11531815412891952101 : Unit:=()
def PySem.W.Fast.tw10233305435319431786 : Unit:=()
def PySem.W.Fast.tw7762024155826872420 : Unit:=()
def PySem.W.Fast.tw7976907312517902339 : Unit:=()
def PySem.W.Fast.tw11365750640810297038 : Unit:=()
def PySem.W.Fast.tw13080483989735786753 : Unit:=()
def PySem.W.Fast.tw7011060681371770397 : Unit:=()
def PySem.W.Fast.tw192166548907134232 : Unit:=()
def PySem.W.Fast.tw9504027703970370049 : Unit:=()
def PySem.W.Fast.tw1940097297092739197 : Unit:=()
def PySem.W.Fast.tw15423933910515144526 : Unit:=()
def PySem.W.Fast.tw8610857220876943613 : Unit:=()
def PySem.W.Fast.tw16369871878577019509 : Unit:=()
def PySem.W.Fast.tw16732311944200114207 : Unit:=()
def PySem.W.Fast.tw9320769669446162678 : Unit:=()
def PySem.W.Fast.tw8878373494033796521 : Unit:=()
def PySem.W.Fast.tw2964126216365203900 : Unit:=()
def PySem.W.Fast.tw15643417351649065273 : Unit:=()
def PySem.W.Fast.tw8541897546628678291 : Unit:=()
def PySem.W.Fast.tw2206241572601415078 : Unit:=()
def PySem.W.Fast.tw2157329214469296208 : Unit:=()
def PySem.W.Fast.tw1523724274208934064 : Unit:=()
def PySem.W.Fast.tw12618388177374414976 : Unit:=()
def PySem.W.Fast.tw10795503720307524129 : Unit:=()
def PySem.W.Fast.tw6832536988495885268 : Unit:=()
def PySem.W.Fast.tw9734255392164114536 : Unit:=()
def PySem.W.Fast.tw6558113709854197566 : Unit:=()
def PySem.W.Fast.tw8862774253141668501 : Unit:=()
def PySem.W.Fast.tw6255300498321432406 : Unit:=()
def PySem.W.Fast.tw17690797545240288183 : Unit:=()
def PySem.W.Fast.tw2512914993225580363 : Unit:=()
def PySem.W.Fast.tw12655561296767621334 : Unit:=()
def PySem.W.Fast.tw12479784914912365778 : Unit:=()
def PySem.W.Fast.tw412754928545140172 : Unit:=()
def PySem.W.Fast.tw11909594034514441749 : Unit:=()
def PySem.W.Fast.tw1727633837660686618 : Unit:=()
def PySem.W.Fast.tw8044224894318848912 : Unit:=()
def PySem.W.Fast.tw4415034948186586314 : Unit:=()
def PySem.W.Fast.tw16557185339858190787 : Unit:=()
def PySem.W.Fast.tw11919401405369133324 : Unit:=()
def PySem.W.Fast.tw1904387131188014858 : Unit:=()
def PySem.W.Fast.tw11032653063401117487 : Unit:=()
def PySem.W.Fast.tw8997633953579352842 : Unit:=()
def PySem.W.Fast.tw13594192836918744407 : Unit:=()
def PySem.W.Fast.tw1815817268270945238 : Unit:=()
def PySem.W.Fast.tw14622551144231373498 : Unit:=()
set_option maxRecDepth 100000 in
set_option maxHeartbeats 0 in
theorem PySem.Challenge.cw_hookmill_k65_unwoven_back_holds : PySem.Challenge.rw_hookmill_k65_unwoven_back.Holds := by
 w_on;o_law;k_head;(case hw=>w_witness2)
 k_fill
 refine Lk65.walk (l:=PySem.Challenge.rw_hookmill_k65_unwoven_back) Lk65.main rfl rfl (fun w h Y=>PySem.W.kIn_of Y) ?F
 case F=>
  intro w mg fa h KX G hmg
  refine' Lk65.aGw KX G hmg ?a0 ?a1 ?a2 ?a3 ?a4 ?l4 ?c4 ?k4 ?t4 ?a5 ?a6 ?a7 ?a8 ?a9 ?a10 ?a11 ?a12 ?a13 ?a14 ?a15 ?a16 ?a17 ?a18 ?l18 ?c18 ?k18 ?p9 ?pc ?pf ?ph ?pi ?pj ?pk ?po ?pq ?pz ?pA ?pB ?pC ?pD ?pE ?pF ?pG ?pH
  (case a0|a1|a2|a3|a5|a6|a7|a8|a9|a10|a11|a12|a13|a14|a15|a16|a17=>refine' Lk65.aIs ?a ?b ?c ?d;(case a=>k_is);(case b=>k_is);(case c=>k_is);case d=>k_is)
  (case a4|l4|c4|k4|t4|a18|l18|c18|k18|p9|pc|pf|ph|pi|pj|pk|po|pq|pz|pA|pB|pC|pD|pE|pF|pG|pH=>k_is)
end
