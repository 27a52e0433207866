import PyProof.Rows.All
import Wide.All
import OpenK.AllK
import Wide.FinOn
import PySem.Challenge.RW_hookmill_k55_whole_kinds_kept
set_option Elab.async false
set_option maxRecDepth 100000
set_option maxHeartbeats 4000000
noncomputable section
local macro_rules|`(0x0)=>`(by trivial)|`(0x1)=>`(by lia)|`(0x2)=>`(by simp)|`(0x3)=>`(by rfl)|`(0x4)=>`(by decide)|`(0x5)=>`(by with_unfolding_all rfl)|`(0x6)=>`(by decide +kernel)|`(0x7)=>`(by intro z;cases z)|`(0x8)=>`(by kernel_rfl)
set_option linter.all false
set_option autoImplicit true
set_option genSizeOfSpec false
set_option genInjectivity true
abbrev nDb(x:PySem.Str):Prop:= (x==("__debug__" : PySem.Str))=false
abbrev nCd(x:PySem.Str):Prop:= (x==("__classdict__" : PySem.Str))=false
namespace L2
open PySem PySem.Spec PyProof.Rows
noncomputable abbrev Key:=Sum Int Str
noncomputable def J0:Key->Value->Bool
 |.inl k,v=>Value.isInt k v
 |.inr x,v=>Value.isStrOf x v
noncomputable def aPa(w:World):Key->Int
 |.inl k=>hashInt k
 |.inr x=>hashStr w x
def cQ:∀{k:Key}{v:Value},J0 k v=true->(∃i t,k=Sum.inl i/\v=Value.int i t)\/(∃x t,k=Sum.inr x/\v=Value.str x t)
 |.inl i,v,h=>by
  obtain⟨t,e⟩:=Value.isInt_shape h;exact .inl ⟨i,t,rfl,e⟩
 |.inr x,v,h=>by
  obtain⟨t,e⟩:=Value.isStrOf_shape h;exact .inr ⟨x,t,rfl,e⟩
def VH(i:Int)(t:Tok):J0 (.inl i) (.int i t)=true:=by simp[J0,Value.isInt]
def VJ(x:Str)(t:Tok):J0 (.inr x) (.str x t)=true:=by simp[J0,Value.isStrOf]
def aIh(a b:Int):decide ((Sum.inl a:Key)=Sum.inl b)=(a==b):=by
 by_cases e:a=b
 ·subst e;simp
 ·have h:¬(Sum.inl a:Key)=Sum.inl b:=λq=>e (Sum.inl.inj q)
  rw[decide_eq_false h];exact(beq_eq_false_iff_ne.mpr e).symm
def aIi(a b:Str):decide ((Sum.inr a:Key)=Sum.inr b)=decide (a=b):=by
 by_cases e:a=b
 ·subst e;simp
 ·have h:¬(Sum.inr a:Key)=Sum.inr b:=λq=>e (Sum.inr.inj q)
  rw[decide_eq_false h,decide_eq_false e]
def aIj(a:Int)(b:Str):decide ((Sum.inl a:Key)=Sum.inr b)=false:=decide_eq_false (λq=>nomatch q)
def aIk(a:Str)(b:Int):decide ((Sum.inr a:Key)=Sum.inl b)=false:=decide_eq_false (λq=>nomatch q)
def cC(prog:Program)(w:World):PySem.KeyKind prog w Key where
 is:=J0
 hash:=aPa w
 inj:=λv a b ha hb=>by
  rcases cQ ha with ⟨i,t,rfl,rfl⟩|⟨x,t,rfl,rfl⟩
  ·rcases cQ hb with ⟨j,u,rfl,e⟩|⟨y,u,rfl,e⟩
   ·injection e with e1 _;rw[e1]
   ·exact nomatch e
  ·rcases cQ hb with ⟨j,u,rfl,e⟩|⟨y,u,rfl,e⟩
   ·exact nomatch e
   ·injection e with e1 _;rw[e1]
 byValue:=λk v h=>by
  rcases cQ h with ⟨i,t,rfl,rfl⟩|⟨x,t,rfl,rfl⟩<;>rfl
 pyHash:=λhv h=>by
  rcases cQ hv with ⟨i,t,rfl,rfl⟩|⟨x,t,rfl,rfl⟩
  ·exact wpAny_pyHash_int h
  ·exact wpAny_pyHash_str h
 eqBool:=λhu hv h=>by
  rcases cQ hu with ⟨i,t,rfl,rfl⟩|⟨x,t,rfl,rfl⟩
  ·rcases cQ hv with ⟨j,u,rfl,rfl⟩|⟨y,u,rfl,rfl⟩
   ·rw[aIh] at h;exact wpAny_eqBool_int h
   ·rw[aIj] at h;exact SeqAt.EqAt.int_str i t y u _ _ _ _ h
  ·rcases cQ hv with ⟨j,u,rfl,rfl⟩|⟨y,u,rfl,rfl⟩
   ·rw[aIk] at h;exact SeqAt.EqAt.str_int x t j u _ _ _ _ h
   ·rw[aIi] at h;exact wpAny_eqBool_str h
 «strs»:=λk x t v h=>by
  rcases cQ h with ⟨i,u,rfl,e⟩|⟨y,u,rfl,e⟩
  ·exact nomatch e
  ·injection e with e1 _
   subst e1;cases v<;>rfl
def J1(prog:Program)(w:World)(i:Int)(t:Tok):(cC prog w).is (.inl i) (.int i t)=true:=VH i t
def J2(prog:Program)(w:World)(x:Str)(t:Tok):(cC prog w).is (.inr x) (.str x t)=true:=VJ x t
inductive V where
 |non|bl (b:Bool)|int (i:Int)|str (x:Str)|byt (b:Array UInt8)|flt (b:UInt64)|ref (a:Addr)|ty (n:String)
 deriving DecidableEq
def RelV:V->Value->Prop
 |.non,u=>u=Value.none
 |.bl b,u=>u=Value.bool b
 |.int i,u=>∃t,u=Value.int i t
 |.str x,u=>∃t,u=Value.str x t
 |.byt b,u=>∃t,u=Value.bytes b t
 |.flt b,u=>∃t,u=Value.float b t
 |.ref a,u=>u=Value.ref a
 |.ty n,u=>u=Value.type n
abbrev Vals:List V->List Value->Prop:=Paired RelV
def Vals.length(r:Vals xs us):xs.length=us.length:=Paired.length r
theorem Vals.get:∀{xs:List V}{us:List Value}{i:Nat}{x:V},Vals xs us->xs[i]?=some x->∃u,us[i]?=some u/\RelV x u
 |_,_,_,_,.nil,e=>by simp at e
 |_,_,0,_,.cons r _,e=>by simp at e;subst e;exact⟨_,rfl,r⟩
 |_,_,i+1,x,.cons _ t,e=>by
  obtain⟨u,h1,h2⟩:=Vals.get t (by simpa using e);exact⟨u,by simpa using h1,h2⟩
theorem Vals.set(r:RelV x u):∀{xs:List V}{us:List Value}(i:Nat),Vals xs us->Vals (xs.set i x) (us.set i u)
 |_,_,_,.nil=>.nil
 |_,_,0,.cons _ t=>.cons r t
 |_,_,i+1,.cons q t=>.cons q (Vals.set r i t)
def Vals.append:∀{xs ys:List V}{us ws:List Value},Vals xs us->Vals ys ws->Vals (xs++ys) (us++ws)
 |_,_,_,_,.nil,s=>s
 |_,_,_,_,.cons r t,s=>.cons r (Vals.append t s)
theorem Vals.take:∀{xs:List V}{us:List Value}(n:Nat),Vals xs us->Vals (xs.take n) (us.take n)
 |_,_,0,_=>.nil
 |_,_,_+1,.nil=>.nil
 |_,_,n+1,.cons r t=>.cons r (Vals.take n t)
def Vals.drop:∀{xs:List V}{us:List Value}(n:Nat),Vals xs us->Vals (xs.drop n) (us.drop n)
 |_,_,0,r=>r
 |_,_,_+1,.nil=>.nil
 |_,_,n+1,.cons _ t=>Vals.drop n t
def JV:Option V->Option Value->Prop
 |some v,some u=>RelV v u
 |none,none=>True
 |_,_=>False
def KV{κ:Type}:List (κ×V)->List (κ×Value)->Prop:=Paired λ(p:κ×V)(q:κ×Value)=>p.1=q.1/\RelV p.2 q.2
noncomputable def kV:Key->V
 |.inl i=>.int i
 |.inr x=>.str x
inductive HO where
 |lst (xs:List V)
 |tup (xs:List V)
 |dK (kvs:List (Key×V))|dT (kvs:List (List Key×V))
 |set (S:Int->Bool) (n:Nat)
 |ins (C dx:Addr) (fs:List (Str×V))
 |own (x:Addr)
 |xd (fs:List (Str×V))
 |met (f x:Addr)
 |rng (lo hi:Int)
 |frz (o:Obj) (u:HO)
 |tbl (ps:Array Value)
 |ext (φ:Heap->Prop)
noncomputable abbrev Hp:=Addr->Option HO
noncomputable def upd(H:Hp)(a:Addr)(o:HO):Hp:=λb=>if b=a then some o else H b
def aH:upd H a o a=some o:=by unfold upd;rw[if_pos rfl]
def aR(h:b≠a):upd H a o b=H b:=by unfold upd;rw[if_neg h]
def J3:upd (upd H a o) a u=upd H a u:=by
 funext b;unfold upd;split<;>rfl
def oH{H:Hp}(h:H a=some o)(h':H b=some u)(d:o≠u):a≠b:=by
 intro e;subst e;rw[h] at h';exact d (Option.some.inj h')
def bI{H:Hp}(h:H a=some o)(h':H b=none):a≠b:=by
 intro e;subst e;rw[h] at h';cases h'
def j0(h:Heap)(a:Addr)(its:Array Value):Prop:=∃o,h.get? a=some o/\o.cls=.type "tuple"/\∃n,(o.data,o.dict)=(Data.seq its n,none)
def j0.tup(t:j0 h a its):IsTup h a its:=let ⟨o,e,c,n,d⟩:=t;⟨o,e,c,n,congrArg (·.1) d⟩
def j0.bare(t:j0 h a its):∃o,h.get? a=some o/\o.dict=none:=let ⟨o,e,_,_,d⟩:=t;⟨o,e,congrArg (·.2) d⟩
def j0.new(h:Heap)(items:Array Value):j0 (h.push {cls:=.type "tuple",data:=.seq items}) h.objs.size items:=⟨_,Heap.get?_push_size _ rfl,rfl,_,rfl⟩
section
variable (P:Program) (w:World)
def gQ(H:Hp)(h:Heap)(a:Addr):HO->Prop
 |.lst xs=>xs.length<=sizeLine/\∃(its:List Value)(n:Nat),Vals xs its/\h.get? a=some {cls:=.type "list",data:=.seq its.toArray n}
 |.tup xs=>xs.length<=sizeLine/\∃its:List Value,Vals xs its/\j0 h a its.toArray
 |.dK kvs=>kvs.length<=sizeLine/\(a==sysModules)=false/\∃vs,KV kvs vs/\h.DictOf (cC P w) a vs
 |.dT kvs=>kvs.length<=sizeLine/\(a==sysModules)=false/\∃xs:List (List Key×Addr×Value),
   Paired (λ(p:List Key×V)(q:List Key×Addr×Value)=>p.1=q.1/\H q.2.1=some (.tup (p.1.map kV))/\RelV p.2 q.2.2) kvs xs/\
   ∃o es ep,h.get? a=some o/\o.ExactDict/\o.data=.dict es ep/\es.toList=xs.map (entryOfKey (tupleKind (cC P w)))/\(xs.map (·.1)).Nodup
 |.set S n=>h.SetOf (intKind P w) a S n
 |.ins C dx fs=>H dx=some (.own a)/\fs.length<=1000/\dx≠a/\h.get? a=some (PySem.W.instObj C dx)/\
   ∃mA,h.Ns1 dx mA/\(∀f,JV (fs.lookup f) (mA f))/\PySem.Within mA (fs.map (·.1))
 |.own _=>∃o,h.get? a=some o
 |.xd fs=>∃mA,h.Ns1 a mA/\∀f,JV (fs.lookup f) (mA f)
 |.rng lo hi=>∃t u v,h.get? a=some {cls:=.type "range",data:=.fields #[.int lo t,.int hi u,.int 1 v]}
 |.frz o u=>h.get? a=some o/\gQ H h a u
 |.tbl ps=>h.get? a=some {cls:=.none,data:=.fields ps}
 |.met f x=>h.get? a=some (PySem.W.methodObj (.ref f) (.ref x))
 |.ext φ=>φ h/\(∃o,h.get? a=some o)/\∀h1 h2:Heap,φ h1->(∀o,h1.get? a=some o->h2.get? a=some o)->φ h2
def HOk(H:Hp)(h:Heap):Prop:=∀a o,H a=some o->gQ P w H h a o
end
section
def gQ.lt(x:gQ P w H h a o):a<h.objs.size:=by
 cases o with
 |lst xs=>obtain⟨_,_,_,_,e⟩:=x;exact Heap.lt_size e
 |tup xs=>obtain⟨_,_,_,p⟩:=x;exact p.tup.lt
 |dK kvs=>obtain⟨_,_,_,_,o,_,_,e,_⟩:=x;exact Heap.lt_size e
 |dT kvs=>obtain⟨_,_,_,_,o,_,_,e,_⟩:=x;exact Heap.lt_size e
 |set S n=>obtain⟨o,_,_,_,e,_⟩:=x;exact Heap.lt_size e
 |ins C dx fs=>obtain⟨_,_,_,e,_⟩:=x;exact Heap.lt_size e
 |own y=>obtain⟨_,e⟩:=x;exact Heap.lt_size e
 |xd fs=>obtain⟨_,⟨_,_,_,e,_⟩,_⟩:=x;exact Heap.lt_size e
 |rng lo hi=>obtain⟨_,_,_,e⟩:=x;exact Heap.lt_size e
 |frz ob u=>obtain⟨e,_⟩:=x;exact Heap.lt_size e
 |tbl ps=>exact Heap.lt_size (show h.get? a=some _ from x)
 |met f y=>exact Heap.lt_size (show h.get? a=some _ from x)
 |ext φ=>obtain⟨_,⟨_,e⟩,_⟩:=x;exact Heap.lt_size e
theorem Paired.aMn:∀{l₁:List α}{l₂:List β},Paired F l₁ l₂->(∀a b,F a b->G a b)->Paired G l₁ l₂
 |_,_,.nil,_=>.nil
 |_,_,.cons r t,f=>.cons (f _ _ r) (Paired.aMn t f)
def gQ.stay(x:gQ P w H h a o)(k:∀b u,(b=a\/H b=some (.own a))->h.get? b=some u->h'.get? b=some u)
 (ho:∀b,H b=some (.own a)->H' b=some (.own a))(ht:∀b xs,H b=some (.tup xs)->H' b=some (.tup xs)):gQ P w H' h' a o:=by
 induction o with
 |lst xs=>obtain⟨z,its,n,r,e⟩:=x;exact⟨z,its,n,r,k _ _ (.inl rfl) e⟩
 |tup xs=>obtain⟨z,its,r,ob,e,c⟩:=x;exact⟨z,its,r,ob,k _ _ (.inl rfl) e,c⟩
 |dK kvs=>obtain⟨z,y,vs,r,ob,es,ep,e,c⟩:=x;exact⟨z,y,vs,r,ob,es,ep,k _ _ (.inl rfl) e,c⟩
 |dT kvs=>
  obtain⟨z,y,xs,r,ob,es,ep,e,c⟩:=x;exact⟨z,y,xs,Paired.aMn r λp q z=>⟨z.1,ht _ _ z.2.1,z.2.2⟩,ob,es,ep,k _ _ (.inl rfl) e,c⟩
 |set S n=>obtain⟨ob,es,ep,t,e,c⟩:=x;exact⟨ob,es,ep,t,k _ _ (.inl rfl) e,c⟩
 |ins C dx fs=>
  obtain⟨d,z,ne,e,mA,⟨od,es,ep,e2,c⟩,r⟩:=x;exact⟨ho _ d,z,ne,k _ _ (.inl rfl) e,mA,⟨od,es,ep,k _ _ (.inr d) e2,c⟩,r⟩
 |own y=>obtain⟨ob,e⟩:=x;exact⟨ob,k _ _ (.inl rfl) e⟩
 |xd fs=>obtain⟨mA,⟨od,es,ep,e,c⟩,r⟩:=x;exact⟨mA,⟨od,es,ep,k _ _ (.inl rfl) e,c⟩,r⟩
 |rng lo hi=>obtain⟨t,u,v,e⟩:=x;exact⟨t,u,v,k _ _ (.inl rfl) e⟩
 |frz ob u ih=>obtain⟨e,q⟩:=x;exact⟨k _ _ (.inl rfl) e,ih q⟩
 |tbl ps=>
  have e:h.get? a=some {cls:=.none,data:=.fields ps}:=x;show h'.get? a=some {cls:=.none,data:=.fields ps};exact k a _ (.inl rfl) e
 |met f y=>
  have e:h.get? a=some (PySem.W.methodObj (.ref f) (.ref y)):=x;show h'.get? a=some (PySem.W.methodObj (.ref f) (.ref y));exact k a _ (.inl rfl) e
 |ext φ=>obtain⟨p,⟨o,e⟩,st⟩:=x;exact⟨st _ _ p λo q=>k _ _ (.inl rfl) q,⟨o,k _ _ (.inl rfl) e⟩,st⟩
def HOk.lt(x:HOk P w H h)(e:H a=some o):a<h.objs.size:=(x a o e).lt
def HOk.fresh(x:HOk P w H h)(e:h.objs.size<=a):H a=none:=by
 cases q:H a with
 |none=>rfl
 |some u=>exact absurd (Nat.lt_of_lt_of_le (x.lt q) e) (Nat.lt_irrefl _)
def HOk.kept(x:HOk P w H h)(k:∀b u,h.get? b=some u->h'.get? b=some u):HOk P w H h':=λa o e=>
 (x a o e).stay (λb u _ q=>k b u q) (λ_ q=>q) λ_ _ q=>q
def HOk.laid(x:HOk P w H h)(k:∀b u,h.get? b=some u->h'.get? b=some u)(hp:h.objs.size<=a)(new:gQ P w (upd H a o) h' a o):HOk P w (upd H a o) h':=λb u e=>by
 have hn:=x.fresh hp;by_cases hb:b=a
 ·subst hb;rw[aH] at e;cases e;exact new
 ·rw[aR hb] at e;exact(x b u e).stay (λc v _ q=>k c v q) (λc q=>by rw[aR (bI q hn)];exact q) λc xs q=>by rw[aR (bI q hn)];exact q
end
def Rd(H:Hp)(a:Addr)(u:HO):Prop:=H a=some u\/∃o,H a=some (.frz o u)
def Rd.of(h:H a=some u):Rd H a u:=.inl h
def Rd.ok(r:Rd H a u)(x:HOk P w H h):gQ P w H h a u:=by
 rcases r with r|⟨o,r⟩
 ·exact x a u r
 ·obtain⟨_,q⟩:=x a _ r;exact q
def Mut:Option HO->Prop
 |some (.lst _)=>True
 |some (.dK _)=>True
 |some (.dT _)=>True
 |some (.set _ _)=>True
 |some (.ins _ _ _)=>True
 |some (.ext _)=>True
 |_=>False
section
def HOk.write(ok:HOk P w H h)(mu:Mut (H x))(he:e=x\/H e=some (.own x))(k:∀b u,b≠e->h.get? b=some u->h'.get? b=some u)(heo:∃u,h'.get? e=some u)
 (new:gQ P w (upd H x o') h' x o'):HOk P w (upd H x o') h':=λb u q=>by
 have nown:∀c y,H c=some (.own y)->c≠x:=λc y r z=>by subst z;rw[r] at mu;exact mu
 have ntup:∀c xs,H c=some (.tup xs)->c≠x:=λc xs r z=>by subst z;rw[r] at mu;exact mu
 by_cases hb:b=x
 ·subst hb;rw[aH] at q;cases q;exact new
 ·rw[aR hb] at q;by_cases hbe:b=e
  ·have q':H b=some (.own x):=by
    rcases he with z|z
    ·exact absurd (hbe.trans z) hb
    ·rw[hbe];exact z
   rw[q] at q';cases q';obtain⟨v,hv⟩:=heo;exact⟨v,by rw[hbe];exact hv⟩
  ·refine(ok b u q).stay (λc v hc r=>k c v ?_ r) (λc r=>by rw[aR (nown c b r)];exact r) λc xs r=>by rw[aR (ntup c xs r)];exact r
   rcases hc with rfl|hc
   ·exact hbe
   ·rintro rfl;rcases he with z|z
    ·exact nown c b hc z
    ·rw[hc] at z;cases z;exact hb rfl
end
structure Un(fs ex:List Addr)(H H':Hp)(h h':Heap):Prop where
 keep:∀b o,h.get? b=some o->H b=none->b∉fs->b∉ex->h'.get? b=some o
 slot:∀b o,h.get? b=some o->H b=none->b∈fs->b∉ex->∃sl,h'.get? b=some {o with slots:=sl}
 free:∀b o,h.get? b=some o->H b=none->b∉ex->H' b=none
 there:∀b o,h.get? b=some o->b∉ex->∃o',h'.get? b=some o'
 tups:∀b xs,H b=some (.tup xs)->H' b=some (.tup xs)
 frzs:∀b o u,H b=some (.frz o u)->H' b=some (.frz o u)
 tbls:∀b ps,H b=some (.tbl ps)->∃more,H' b=some (.tbl (ps++more))
section
def Un.any(u:Un fs ex H H1 h h1)(q:h.get? b=some ob)(n:H b=none)(hx:b∉ex):∃sl,h1.get? b=some {ob with slots:=sl}:=by
 by_cases hb:b∈fs
 ·exact u.slot b ob q n hb hx
 ·exact⟨ob.slots,u.keep b ob q n hb hx⟩
def Un.kept(k:∀b u,h.get? b=some u->h'.get? b=some u):Un fs ex H H h h':=
 ⟨λb ob q _ _ _=>k b ob q,λb ob q _ _ _=>⟨ob.slots,k b ob q⟩,λ_ _ _ n _=>n,λb ob q _=>⟨ob,k b ob q⟩,λ_ _ q=>q,λ_ _ _ q=>q,λ_ ps q=>⟨#[],by rw[q];simp⟩⟩
def Un.refl:Un fs ex H H h h:=Un.kept λ_ _ q=>q
def Un.laid(k:∀b u,h.get? b=some u->h'.get? b=some u)(hp:h.objs.size<=a)(hn:H a=none):Un fs ex H (upd H a o) h h' where
 keep:=λb u q _ _ _=>k b u q
 slot:=λb u q _ _ _=>⟨u.slots,k b u q⟩
 free:=λb u q n _=>by rw[aR (Nat.ne_of_lt (Nat.lt_of_lt_of_le (Heap.lt_size q) hp))];exact n
 there:=λb u q _=>⟨u,k b u q⟩
 tups:=λb xs q=>by rw[aR (bI q hn)];exact q
 frzs:=λb u xs q=>by rw[aR (bI q hn)];exact q
 tbls:=λb ps q=>⟨#[],by rw[aR (bI q hn),q];simp⟩
def Un.write(mu:Mut (H x))(he:e=x\/H e=some (.own x))(k:∀b u,b≠e->h.get? b=some u->h'.get? b=some u)(heo:∃u,h'.get? e=some u):Un fs ex H (upd H x o) h h':=by
 have hx:∀b,H b=none->b≠x:=λb n z=>by subst z;rw[n] at mu;exact mu
 have hb:∀b,H b=none->b≠e:=λb n z=>by
  subst z;rcases he with r|r
  ·exact hx b n r
  ·rw[n] at r;cases r
 have hm:∀b u,H b=some u->¬Mut (some u)->b≠x:=λb u q nm z=>by subst z;rw[q] at mu;exact nm mu
 refine⟨λb u q n _ _=>k b u (hb b n) q,λb u q n _ _=>⟨u.slots,k b u (hb b n) q⟩,λb u q n _=>by rw[aR (hx b n)];exact n,λb u q _=>?_,
  λb xs q=>by rw[aR (hm b _ q λz=>z)];exact q,λb u xs q=>by rw[aR (hm b _ q λz=>z)];exact q,λb ps q=>⟨#[],by rw[aR (hm b _ q λz=>z),q];simp⟩⟩
 by_cases hbe:b=e
 ·subst hbe;exact heo
 ·exact⟨u,k b u hbe q⟩
end
noncomputable def trk(h:Heap)(H:Hp):List Addr:=(List.range h.objs.size).filter λa=>(H a).isSome
def aB7(h:Heap)(H:Hp):Heap:=PySem.W.hideAll h (trk h H)
def VL(h:Heap)(H:Hp):(aB7 h H).objs.size=h.objs.size:=PySem.W.hideAll_size _ _
def aB8(e:h.get? b=some o)(n:H b=none):(aB7 h H).get? b=some o:=
 PySem.W.hideAll_get _ e λhm=>by
  have q:(H b).isSome=true:=(List.mem_filter.mp hm).2;rw[n] at q;simp at q
def aF5(e:(aB7 h H).get? b=some o):h.get? b=some o/\H b=none:=by
 have e':h.get? b=some o:=PySem.W.of_hideAll (trk h H) e;refine⟨e',?_⟩;cases q:H b with
 |none=>rfl
 |some x=>
  have hm:b∈trk h H:=List.mem_filter.mpr ⟨List.mem_range.mpr (Heap.lt_size e'),by simp[q]⟩;have z:(aB7 h H).get? b=none:=PySem.W.hideAll_none (trk h H) hm;rw[z] at e;cases e
structure Mod(K:PySem.W.Frag)(mg:Str->Option Value)(base:Heap):Prop where
 kin:K.In base
 glob:base.Ns mainGlobals mg
 blt:∃mb,base.Ns builtinsNs mb/\∀x:Str,x ≠ "__name__"->mb x=bootBuiltins x
 nolimit:base.NoLimit
/-- the context: a def's body (or a comprehension's block) running. base: fixed through the whole law;s₀,H₀: the entry;outer: the frames whose slots others may change (a def's callers);stack: all frames that run;
   ex: iterators that were made ahead of the entry and are walked here (a comprehension's);fn: the names whose cells were made at the entry (a def: all;a comprehension's block: its own);calm: not within an except suite;pn: pins that every state bears;xe: what is wanted of an exception that leaves the code -/
structure Cx where
 prog:Program
 w:World
 K:PySem.W.Frag
 mg:Str->Option Value
 base:Heap
 A:Around
 N:List Str
 s₀:Shared
 H₀:Hp
 env:Env
 outer:List Env
 stack:List Env
 ex:List Addr
 fn:Str->Bool
 calm:Bool
 pn:List (Addr×Obj)
 xe:Value->Shared->Prop
noncomputable def frs(l:List Env):List Addr:=l.filterMap (·.frame)
abbrev Cx.fs(X:Cx):List Addr:=frs X.outer
def Vis(sc:Scope)(x:Str):Prop:=sc.names.lookup x=some .local\/sc.names.lookup x=some .cell\/sc.names.lookup x=some .free
def Loc(sc:Scope)(x:Str):Prop:=sc.names.lookup x=some .local\/sc.names.lookup x=some .cell
def Look(env:Env)(h:Heap)(m:Str->Option Value)(x:Str)(u:Value):Prop:=
 (env.kindOf x=some .local/\m x=some u)\/((env.kindOf x=some .cell\/env.kindOf x=some .free)/\∃c,env.cells.lookup x=some c/\h.IsCell c (some u))
structure Cx.Ok(X:Cx):Prop where
 mod:Mod X.K X.mg X.base
 kind:X.env.scope.kind=.function
 glob:X.env.globals=mainGlobals
 blt:X.env.builtins=builtinsNs
 above:X.s₀.heap.objs.size<=X.env.locals
 inj:∀x y c,X.env.cells.lookup x=some c->X.env.cells.lookup y=some c->x=y
 has:∀x,(X.env.kindOf x=some .cell\/X.env.kindOf x=some .free)->∃c,X.env.cells.lookup x=some c
 cab:∀x c,X.fn x=true->X.env.cells.lookup x=some c->X.s₀.heap.objs.size<=c
 hd:X.calm=true->X.A.handled=none
 frames:X.A.frames=some X.stack
 stk:X.stack=X.outer\/(X.stack=X.env::X.outer/\X.env.frame=some X.env.locals)
 exf:∀b∈X.ex,b≠X.env.locals/\∀x c,X.env.cells.lookup x=some c->c≠b
 bs:∀b o,X.base.get? b=some o->X.s₀.heap.get? b=some o/\X.H₀ b=none
 bsz:X.base.objs.size<=X.s₀.heap.objs.size
 noex:∀b o,X.base.get? b=some o->b∉X.ex
 exfs:∀b∈X.ex,b∉X.fs
 R4:X.s₀.heap.FunFrames X.base X.outer
 frf:∀b∈X.fs,X.H₀ b=none
structure Inv(X:Cx)(pins:List (Addr×Obj))(σ:List (Option V))(H:Hp)(s:Shared):Prop where
 ok:X.Ok
 os:s.os=X.s₀.os
 bare:AllBare s.gens
 base:Un X.fs X.ex X.H₀ H X.s₀.heap s.heap
 loc:∃m,s.heap.Ns X.env.locals m/\∀(i:Nat)(x:Str)(v:V),X.N[i]?=some x->σ[i]?=some (some v)->Vis X.env.scope x->∃u,RelV v u/\Look X.env s.heap m x u
 cell:∀x c,X.env.cells.lookup x=some c->∃v,s.heap.IsCell c v
 free:H X.env.locals=none
 freeC:∀x c,X.env.cells.lookup x=some c->H c=none
 pin:∀p∈X.pn++pins,s.heap.get? p.1=some p.2/\H p.1=none/\p.1≠X.env.locals/\p.1∉X.fs/\∀v,p.2.data≠.cell v
 hok:HOk X.prog X.w H s.heap
 len:σ.length=X.N.length
section
variable {X:Cx} {pins:List (Addr×Obj)} {σ:List (Option V)} {H H':Hp} {s:Shared} {h':Heap}
def Cx.Ok.aPb(ok:X.Ok)(e:X.base.get? b=some o):b∉X.fs:=λhb=>by
 have:=(ok.R4.mem hb).1;rw[e] at this;cases this
def Inv.bs(I:Inv X pins σ H s):∀b o,X.base.get? b=some o->s.heap.get? b=some o/\H b=none:=λb o e=>
 ⟨I.base.keep b o (I.ok.bs b o e).1 (I.ok.bs b o e).2 (I.ok.aPb e) (I.ok.noex b o e),I.base.free b o (I.ok.bs b o e).1 (I.ok.bs b o e).2 (I.ok.noex b o e)⟩
def Inv.bk(I:Inv X pins σ H s):∀b o,X.base.get? b=some o->s.heap.get? b=some o:=λb o e=>(I.bs b o e).1
def Inv.mod(I:Inv X pins σ H s):Mod X.K X.mg X.base:=I.ok.mod
def Inv.kIn(I:Inv X pins σ H s):X.K.In s.heap:=I.ok.mod.kin.keeps I.bk
def Inv.lt(I:Inv X pins σ H s):X.env.locals<s.heap.objs.size:=let ⟨_,hn,_⟩:=I.loc;hn.lt
def Inv.sz(I:Inv X pins σ H s):X.s₀.heap.objs.size<=s.heap.objs.size:=Nat.le_trans I.ok.above (Nat.le_of_lt I.lt)
def Inv.aOe(I:Inv X pins σ H s)(h:s.heap.objs.size<=a):a∉X.fs:=λhb=>by
 obtain⟨_,o,ho,_⟩:=I.ok.R4.mem hb;exact absurd (Nat.lt_of_lt_of_le (Heap.lt_size ho) (Nat.le_trans I.sz h)) (Nat.lt_irrefl _)
def Inv.cne(I:Inv X pins σ H s):∀x c,X.env.cells.lookup x=some c->c≠X.env.locals:=λx c e z=>by
 obtain⟨v,o,ho,hd⟩:=I.cell x c e;obtain⟨m,⟨o',es,ep,ho',hd',_⟩,_⟩:=I.loc;rw[z,ho'] at ho;cases ho;rw[hd'] at hd;cases hd
def Inv.R4(I:Inv X pins σ H s):s.heap.FunFrames X.base X.outer:=by
 have all:∀(l:List Env),(∀b∈frs l,b∈X.fs)->X.s₀.heap.FunFrames X.base l->s.heap.FunFrames X.base l:=by
  intro l;induction l with
  |nil=>intro _ _;trivial
  |cons env r ih=>
   intro hs hl;obtain⟨hk,⟨L,o,hf,hn,ho,hd⟩,hr⟩:=hl;have hL:L∈X.fs:=hs L (by unfold frs;rw[List.filterMap_cons,hf];exact List.mem_cons_self);obtain⟨sl,e⟩:=I.base.slot L o ho (I.ok.frf L hL) hL λz=>I.ok.exfs L z hL
   exact⟨hk,⟨L,_,hf,hn,e,hd⟩,ih (λb hb=>hs b (by unfold frs;rw[List.filterMap_cons,hf];exact List.mem_cons_of_mem _ hb)) hr⟩
 exact all X.outer (λ_ hb=>hb) I.ok.R4
def Inv.stack(I:Inv X pins σ H s):s.heap.FunFrames X.base X.stack:=by
 rcases I.ok.stk with e|⟨e,hf⟩
 ·rw[e];exact I.R4
 ·rw[e];obtain⟨m,hn,_⟩:=I.loc;refine .cons (by rw[I.ok.kind];decide) hf hn ?_ I.R4;exact Heap.get?_none_of_le (Nat.le_trans I.ok.bsz I.ok.above)
def Inv.N6(I:Inv X pins σ H s):∀b∈frs X.stack,b∈X.env.locals::X.fs:=λb hb=>by
 rcases I.ok.stk with e|⟨e,hf⟩
 ·rw[e] at hb;exact List.mem_cons_of_mem _ hb
 ·rw[e] at hb;unfold frs at hb;rw[List.filterMap_cons,hf] at hb;exact hb
def Inv.J4(I:Inv X pins σ H s):∀b∈frs X.stack,H b=none:=λb hb=>by
 rcases List.mem_cons.mp (I.N6 b hb) with e|hb
 ·rw[e];exact I.free
 ·obtain⟨_,o,ho,_⟩:=I.ok.R4.mem hb;exact I.base.free b o ho (I.ok.frf b hb) λz=>I.ok.exfs b z hb
def Inv.step{g':Array GenState}{t':Nat}{d':Drawn}{ch:List Addr}(I:Inv X pins σ H s)
 (hch:∀b∈ch,(b∈X.ex\/X.s₀.heap.objs.size<=b)/\b≠X.env.locals/\(∀x c,X.env.cells.lookup x=some c->c≠b)/\∀p∈X.pn++pins,p.1≠b)
 (keep:∀b o,b≠X.env.locals->b∉X.fs->b∉ch->s.heap.get? b=some o->H b=none->h'.get? b=some o)
 (slot:∀b o,b≠X.env.locals->b∈X.fs->b∉ch->s.heap.get? b=some o->H b=none->∃sl,h'.get? b=some {o with slots:=sl})(free:∀b o,b∉ch->s.heap.get? b=some o->H b=none->H' b=none)
 (there:∀b o,b∉ch->s.heap.get? b=some o->∃o',h'.get? b=some o')
 (tups:∀b xs,H b=some (.tup xs)->H' b=some (.tup xs))(frzs:∀b o u,H b=some (.frz o u)->H' b=some (.frz o u))(tbls:∀b ps,H b=some (.tbl ps)->∃more,H' b=some (.tbl (ps++more)))
 (ns:∀m,s.heap.Ns X.env.locals m->h'.Ns X.env.locals m)(hok:HOk X.prog X.w H' h')(hg:AllBare g') :
  Inv X pins σ H' {s with heap:=h',gens:=g',drawn:=d',toks:=t'}:=by
 have neL:∀b o,X.s₀.heap.get? b=some o->b≠X.env.locals:=λb o e=>Nat.ne_of_lt (Nat.lt_of_lt_of_le (Heap.lt_size e) I.ok.above)
 have neC:∀b o,X.s₀.heap.get? b=some o->b∉X.ex->b∉ch:=λb o e hx hb=>by
  rcases(hch b hb).1 with z|z
  ·exact hx z
  ·exact absurd (Nat.lt_of_lt_of_le (Heap.lt_size e) z) (Nat.lt_irrefl _)
 have cellK:∀x c,X.env.cells.lookup x=some c->∀v,s.heap.IsCell c v->h'.IsCell c v:=λx c e v ⟨o,ho,hd⟩=>by
  have nch:c∉ch:=λz=>(hch c z).2.2.1 x c e rfl
  by_cases hc:c∈X.fs
  ·obtain⟨sl,q⟩:=slot c o (I.cne x c e) hc nch ho (I.freeC x c e);exact⟨_,q,hd⟩
  ·exact⟨o,keep c o (I.cne x c e) hc nch ho (I.freeC x c e),hd⟩
 refine⟨I.ok,I.os,hg,⟨λb o e n hb hx=>?_,λb o e n hb hx=>?_,λb o e n hx=>?_,λb o e hx=>?_,λb xs e=>tups b xs (I.base.tups b xs e),λb o xs e=>frzs b o xs (I.base.frzs b o xs e),λb ps e=>?_⟩,?_,λx c e=>?_,?_,λx c e=>?_,λp hp=>?_,hok,I.len⟩
 ·exact keep b o (neL b o e) hb (neC b o e hx) (I.base.keep b o e n hb hx) (I.base.free b o e n hx)
 ·obtain⟨sl,e1⟩:=I.base.slot b o e n hb hx;obtain⟨sl',e2⟩:=slot b _ (neL b o e) hb (neC b o e hx) e1 (I.base.free b o e n hx);exact⟨sl',e2⟩
 ·obtain⟨o',e1⟩:=I.base.there b o e hx;exact free b o' (neC b o e hx) e1 (I.base.free b o e n hx)
 ·obtain⟨o',e1⟩:=I.base.there b o e hx;exact there b o' (neC b o e hx) e1
 ·obtain⟨m1,e1⟩:=I.base.tbls b ps e;obtain⟨m2,e2⟩:=tbls b _ e1;exact⟨m1++m2,by rw[e2,Array.append_assoc]⟩
 ·obtain⟨m,hn,hl⟩:=I.loc;refine⟨m,ns m hn,λi x v e1 e2 e3=>?_⟩;obtain⟨u,r,l⟩:=hl i x v e1 e2 e3;refine⟨u,r,?_⟩;rcases l with l|⟨k,c,e,z⟩
  ·exact .inl l
  ·exact .inr ⟨k,c,e,cellK x c e _ z⟩
 ·obtain⟨v,z⟩:=I.cell x c e;exact⟨v,cellK x c e v z⟩
 ·obtain⟨m,⟨o,_,_,ho,_⟩,_⟩:=I.loc;exact free _ o (λz=>(hch _ z).2.1 rfl) ho I.free
 ·obtain⟨v,o,ho,hd⟩:=I.cell x c e;exact free c o (λz=>(hch c z).2.2.1 x c e rfl) ho (I.freeC x c e)
 ·obtain⟨e,n,ne,nf,d⟩:=I.pin p hp;have nch:p.1∉ch:=λz=>(hch p.1 z).2.2.2 p hp rfl
  exact⟨keep p.1 p.2 ne nf nch e n,free p.1 p.2 nch e n,ne,nf,d⟩
theorem Inv.un(I:Inv X pins σ H s)(u:Un X.fs [] H H' s.heap h')(hok:HOk X.prog X.w H' h'):Inv X pins σ H' {s with heap:=h',toks:=t'}:=by
 obtain⟨m,⟨o,es,ep,ho,r⟩,_⟩:=id I.loc;obtain⟨sl,hL⟩:=u.any ho I.free 0x2;exact I.step (ch:=[]) (λ_ z=>nomatch z) (λb o _ hb _ e n=>u.keep b o e n hb 0x2) (λb o _ hb _ e n=>u.slot b o e n hb 0x2) (λb o _ e n=>u.free b o e n 0x2) (λb o _ e=>u.there b o e 0x2) u.tups u.frzs u.tbls (λm' hm=>by
  obtain⟨o',es',ep',ho',r'⟩:=hm;rw[ho] at ho';cases ho';exact⟨_,es',ep',hL,r'⟩) hok I.bare
theorem Inv.call(I:Inv X pins σ H s)(u:Un (frs X.stack) ch H H' s.heap h')(hok:HOk X.prog X.w H' h')(hg:AllBare g')
 (hch:∀b∈ch,(b∈X.ex\/X.s₀.heap.objs.size<=b)/\b≠X.env.locals/\(∀x c,X.env.cells.lookup x=some c->c≠b)/\∀p∈X.pn++pins,p.1≠b) :
  Inv X pins σ H' {s with heap:=h',gens:=g',drawn:=d',toks:=t'}:=by
 obtain⟨m,⟨o,es,ep,ho,r⟩,_⟩:=id I.loc;obtain⟨sl,hL⟩:=u.any ho I.free λz=>(hch _ z).2.1 rfl
 exact I.step hch (λb o hL hb hc e n=>u.keep b o e n (λz=>(List.mem_cons.mp (I.N6 b z)).elim hL hb) hc) (λb o _ _ hc e n=>u.any e n hc) (λb o hc e n=>u.free b o e n hc) (λb o hc e=>u.there b o e hc) u.tups u.frzs u.tbls (λm' hm=>by
  obtain⟨o',es',ep',ho',r'⟩:=hm;rw[ho] at ho';cases ho';exact⟨_,es',ep',hL,r'⟩) hok hg
def Inv.turned(I:Inv X pins σ H s)(k:∀b o,b≠it->s.heap.get? b=some o->h'.get? b=some o)(hn:H it=none)(hL:it≠X.env.locals)
 (h1:it∈X.ex\/X.s₀.heap.objs.size<=it)(h2:∀x c,X.env.cells.lookup x=some c->c≠it)(h3:∀p∈X.pn++pins,p.1≠it):Inv X pins σ H {s with heap:=h',toks:=t'}:=by
 have nit:∀b u,H b=some u->b≠it:=λb u e z=>by rw[z,hn] at e;cases e
 refine I.step (ch:=[it]) (λb hb=>?_) (λb o _ _ hc e _=>k b o (λz=>hc (by simp[z])) e) (λb o _ _ hc e _=>⟨o.slots,k b o (λz=>hc (by simp[z])) e⟩) (λ_ _ _ _ n=>n)
  (λb o hc e=>⟨o,k b o (λz=>hc (by simp[z])) e⟩) (λ_ _ e=>e) (λ_ _ _ e=>e) (λb ps e=>⟨#[],by rw[e];simp⟩) (λm hm=>?_) (λb u e=>?_) I.bare
 ·have e:b=it:=by simpa using hb
  subst e;exact⟨h1,hL,h2,h3⟩
 ·obtain⟨o,es,ep,ho,r⟩:=hm;exact⟨o,es,ep,k _ o (Ne.symm hL) ho,r⟩
 ·refine(I.hok b u e).stay (λc v hc q=>k c v ?_ q) (λ_ q=>q) λ_ _ q=>q
  rcases hc with z|z
  ·rw[z];exact nit b u e
  ·exact nit c _ z
def Inv.tok(I:Inv X pins σ H s)(t:Nat):Inv X pins σ H {s with toks:=t}:=I.un Un.refl I.hok
def Inv.kept(I:Inv X pins σ H s)(k:∀b u,s.heap.get? b=some u->h'.get? b=some u):Inv X pins σ H {s with heap:=h',toks:=t'}:=I.un (Un.kept k) (I.hok.kept k)
def Inv.laid(I:Inv X pins σ H s)(k:∀b u,s.heap.get? b=some u->h'.get? b=some u)(hp:s.heap.objs.size<=a)(new:gQ X.prog X.w (upd H a o) h' a o) :
  Inv X pins σ (upd H a o) {s with heap:=h',toks:=t'}:=I.un (Un.laid k hp (I.hok.fresh hp)) (I.hok.laid k hp new)
def Inv.write(I:Inv X pins σ H s)(mu:Mut (H x))(he:e=x\/H e=some (.own x))(k:∀b u,b≠e->s.heap.get? b=some u->h'.get? b=some u)(heo:∃u,h'.get? e=some u)
 (new:gQ X.prog X.w (upd H x o) h' x o):Inv X pins σ (upd H x o) {s with heap:=h',toks:=t'}:=I.un (Un.write mu he k heo) (I.hok.write mu he k heo new)
def Inv.weak(I:Inv X pins σ H s)(hl:σ'.length=σ.length)(w:∀(i:Nat) v,σ'[i]?=some (some v)->σ[i]?=some (some v)):Inv X pins σ' H s:=
 ⟨I.ok,I.os,I.bare,I.base,let ⟨m,hn,hl'⟩:=I.loc;⟨m,hn,λi x v e1 e2 e3=>hl' i x v e1 (w i v e2) e3⟩,I.cell,I.free,I.freeC,I.pin,I.hok,hl.trans I.len⟩
def Inv.J5(I:Inv X pins σ H s)(h:∀p∈pins',s.heap.get? p.1=some p.2/\H p.1=none/\p.1≠X.env.locals/\p.1∉X.fs/\∀v,p.2.data≠.cell v):Inv X pins' σ H s:=
 ⟨I.ok,I.os,I.bare,I.base,I.loc,I.cell,I.free,I.freeC,λp hp=>(List.mem_append.mp hp).elim (λz=>I.pin p (List.mem_append_left _ z)) (h p),I.hok,I.len⟩
def yW{N:List Str}(hN:N.Nodup){i j:Nat}(a:N[i]?=some x)(b:N[j]?=some x):i=j:=by
 obtain⟨h1,e1⟩:=List.getElem?_eq_some_iff.mp a;obtain⟨h2,e2⟩:=List.getElem?_eq_some_iff.mp b;exact(List.getElem_inj hN).mp (e1.trans e2.symm)
theorem DN(I:Inv X pins σ H s)(hN:X.N.Nodup)(hi:X.N[i]?=some x)(hx:Loc X.env.scope x)(r:RelV v u)
 (h:∀s',Inv X pins (σ.set i (some v)) H s'->(∃a,Heap.SameBut a s.heap s'.heap/\(a=X.env.locals\/X.env.cells.lookup x=some a))->Q () s')(hf:X.fn x=true\/X.env.scope.names.lookup x=some .local:=by first|exact .inl rfl|exact .inr rfl|assumption):wpAny M A (storeName X.env x u) Q E s:=by
 obtain⟨m,hn,hl⟩:=id I.loc;have hcls:(X.env.scope.kind==.class||(X.env.scope.kind==.module&&X.env.locals !=X.env.globals))=false:=by rw[I.ok.kind];rfl
 have hiσ:i<σ.length:=by rw[I.len];exact(List.getElem?_eq_some_iff.mp hi).1
 have cne:=I.cne;have tracked:∀{a:Addr}{h':Heap},(∃o,s.heap.get? a=some o/\H a=none)->Heap.SameBut a s.heap h'->HOk X.prog X.w H h':=λ{a h'} ha hs b ob e=>by
  obtain⟨_,_,hfree⟩:=ha;refine(I.hok b ob e).stay (λc w' hc q=>(hs.2 c ?_).trans q) (λ_ q=>q) λ_ _ q=>q
  rintro rfl;rcases hc with rfl|hc
  ·rw[hfree] at e;cases e
  ·rw[hfree] at hc;cases hc
 rcases hx with hk|hk
 ·refine wpAny_storeName_local hk hn (λh' hn' hs=>?_) hcls;obtain⟨oL,_,_,hoL,_⟩:=id hn;refine h _ ⟨I.ok,I.os,I.bare,⟨λb o e n hb hx=>?_,λb o e n hb hx=>?_,I.base.free,λb o e hx=>?_,I.base.tups,I.base.frzs,I.base.tbls⟩,⟨_,hn',λj y v' e1 e2 e3=>?_⟩,λy c e=>?_,I.free,I.freeC,λp hp=>?_,tracked ⟨oL,hoL,I.free⟩ hs,by simpa using I.len⟩ ⟨_,hs,.inl rfl⟩
  ·exact(hs.2 b (Nat.ne_of_lt (Nat.lt_of_lt_of_le (Heap.lt_size e) I.ok.above))).trans (I.base.keep b o e n hb hx)
  ·obtain⟨sl,e1⟩:=I.base.slot b o e n hb hx;exact⟨sl,(hs.2 b (Nat.ne_of_lt (Nat.lt_of_lt_of_le (Heap.lt_size e) I.ok.above))).trans e1⟩
  ·obtain⟨o',e1⟩:=I.base.there b o e hx;exact⟨o',(hs.2 b (Nat.ne_of_lt (Nat.lt_of_lt_of_le (Heap.lt_size e) I.ok.above))).trans e1⟩
  ·by_cases hj:j=i
   ·subst hj;rw[hi] at e1;cases e1;rw[List.getElem?_set_self hiσ] at e2;cases e2;exact⟨u,r,.inl ⟨hk,by simp⟩⟩
   ·rw[List.getElem?_set_ne (Ne.symm hj)] at e2;obtain⟨u',r',q⟩:=hl j y v' e1 e2 e3;refine⟨u',r',?_⟩;rcases q with ⟨k,e⟩|⟨k,c,e,z⟩
    ·refine .inl ⟨k,?_⟩;have:y≠x:=λe=>hj (yW hN e1 (e▸hi))
     simp[this,e]
    ·exact .inr ⟨k,c,e,z.sameBut hs (cne y c e)⟩
  ·obtain⟨w',z⟩:=I.cell y c e;exact⟨w',z.sameBut hs (cne y c e)⟩
  ·obtain⟨e,n,ne,nf,d⟩:=I.pin p hp;exact⟨(hs.2 p.1 ne).trans e,n,ne,nf,d⟩
 ·have hfn:X.fn x=true:=by
   rcases hf with z|z
   ·exact z
   ·rw[z] at hk;cases hk
  obtain⟨c,hc⟩:=I.ok.has x (.inl hk);obtain⟨w',z⟩:=I.cell x c hc;refine wpAny_storeName_cell I.ok.kind hk hc z (λh' hc' hs=>?_);obtain⟨oc,hoc,hocd⟩:=id z;refine h {s with heap:=h'} ⟨I.ok,I.os,I.bare,⟨λb o e n hb hx=>?_,λb o e n hb hx=>?_,I.base.free,λb o e hx=>?_,I.base.tups,I.base.frzs,I.base.tbls⟩,⟨m,hn.sameBut hs (Ne.symm (cne x c hc)),λj y v' e1 e2 e3=>?_⟩,λy c' e=>?_,I.free,I.freeC,λp hp=>?_,tracked ⟨oc,hoc,I.freeC x c hc⟩ hs,by simpa using I.len⟩ ⟨c,hs,.inr hc⟩
  ·exact(hs.2 b (Nat.ne_of_lt (Nat.lt_of_lt_of_le (Heap.lt_size e) (I.ok.cab x c hfn hc)))).trans (I.base.keep b o e n hb hx)
  ·obtain⟨sl,e1⟩:=I.base.slot b o e n hb hx;exact⟨sl,(hs.2 b (Nat.ne_of_lt (Nat.lt_of_lt_of_le (Heap.lt_size e) (I.ok.cab x c hfn hc)))).trans e1⟩
  ·obtain⟨o',e1⟩:=I.base.there b o e hx;exact⟨o',(hs.2 b (Nat.ne_of_lt (Nat.lt_of_lt_of_le (Heap.lt_size e) (I.ok.cab x c hfn hc)))).trans e1⟩
  ·by_cases hj:j=i
   ·subst hj;rw[hi] at e1;cases e1;rw[List.getElem?_set_self hiσ] at e2;cases e2;exact⟨u,r,.inr ⟨.inl hk,c,hc,hc'⟩⟩
   ·rw[List.getElem?_set_ne (Ne.symm hj)] at e2;obtain⟨u',r',q⟩:=hl j y v' e1 e2 e3;refine⟨u',r',?_⟩;rcases q with q|⟨k,c',e,z'⟩
    ·exact .inl q
    ·refine .inr ⟨k,c',e,z'.sameBut hs ?_⟩;rintro rfl;exact hj (yW hN e1 (I.ok.inj _ _ _ e hc▸hi))
  ·by_cases hcc:c'=c
   ·subst hcc;exact⟨_,hc'⟩
   ·obtain⟨w2,z2⟩:=I.cell y c' e;exact⟨w2,z2.sameBut hs hcc⟩
  ·obtain⟨e,n,ne,nf,d⟩:=I.pin p hp;refine⟨(hs.2 p.1 ?_).trans e,n,ne,nf,d⟩;intro q;rw[q,hoc] at e;have q':oc=p.2:=Option.some.inj e;exact d w' (by rw[<-q'];exact hocd)
def yX(I:Inv X pins σ H s)(hN:X.N.Nodup)(hi:X.N[i]?=some x)(hx:Loc X.env.scope x)(r:RelV v u)
 (h:∀s',Inv X pins (σ.set i (some v)) H s'->Q () s')(hf:X.fn x=true\/X.env.scope.names.lookup x=some .local:=by first|exact .inl rfl|exact .inr rfl|assumption):wpAny M A (storeName X.env x u) Q E s:=
 DN I hN hi hx r (λs' I' _=>h s' I') hf
def Inv.call'(I:Inv X pins σ H s)(ho:s'.os=s.os)(u:Un (frs X.stack) ch H H' s.heap s'.heap)(hok:HOk X.prog X.w H' s'.heap)(hg:AllBare s'.gens)
 (hch:∀b∈ch,(b∈X.ex\/X.s₀.heap.objs.size<=b)/\b≠X.env.locals/\(∀x c,X.env.cells.lookup x=some c->c≠b)/\∀p∈X.pn++pins,p.1≠b):Inv X pins σ H' s':=by
 obtain⟨h',g',d',t',o'⟩:=s';have e:o'=s.os:=ho;subst e;exact I.call u hok hg hch
end
abbrev XK:=Value->Option Addr->Hp->Prop
noncomputable abbrev St:=List (Option V)
abbrev VK:=V->Hp->Prop
abbrev TE:=St->Hp->VK->Prop
abbrev TT:=St->Hp->(Bool->Hp->Prop)->Prop
abbrev TA:=St->Hp->(List V->Hp->Prop)->Prop
structure Ends where
 nx:St->Hp->Prop
 rt:VK
 bk:St->Hp->Prop:=λ_ _=>False
 ct:St->Hp->Prop:=λ_ _=>False
abbrev TS:=Ends->St->Hp->Prop
def EP(X:Cx)(pins:List (Addr×Obj))(σ:St)(Q:VK)(u:Value)(s':Shared):Prop:=∃v H',Inv X pins σ H' s'/\RelV v u/\Q v H'
def TP(X:Cx)(pins:List (Addr×Obj))(σ:St)(Q:Bool->Hp->Prop)(b:Bool)(s':Shared):Prop:=∃H',Inv X pins σ H' s'/\Q b H'
def AP(X:Cx)(pins:List (Addr×Obj))(σ:St)(Q:List V->Hp->Prop)(us:List Value)(s':Shared):Prop:=∃vs H',Inv X pins σ H' s'/\Vals vs us/\Q vs H'
def SP(X:Cx)(pins:List (Addr×Obj))(D:Ends)(f:Flow)(s':Shared):Prop:=
 match f with
 |.next=>∃σ' H',Inv X pins σ' H' s'/\D.nx σ' H'
 |.brk=>∃σ' H',Inv X pins σ' H' s'/\D.bk σ' H'
 |.cont=>∃σ' H',Inv X pins σ' H' s'/\D.ct σ' H'
 |.ret u=>∃v σ' H',Inv X pins σ' H' s'/\RelV v u/\D.rt v H'
def PE(X:Cx)(e:Expr)(t:TE):Prop:=
 ∀(pins:List (Addr×Obj))(s:Shared)(σ:St)(H:Hp)(Q:VK),Inv X pins σ H s->t σ H Q->wpAny (model X.prog X.w) X.A (eval e X.env) (EP X pins σ Q) X.xe s
def PT(X:Cx)(e:Expr)(t:TT):Prop:=
 ∀(pins:List (Addr×Obj))(s:Shared)(σ:St)(H:Hp)(Q:Bool->Hp->Prop),Inv X pins σ H s->t σ H Q->wpAny (model X.prog X.w) X.A (isTrue e X.env (eval e X.env)) (TP X pins σ Q) X.xe s
def PW(X:Cx)(e:Expr)(t:TT):Prop:=
 ∀(whole:Sem Value)(pins:List (Addr×Obj))(s:Shared)(σ:St)(H:Hp)(Q:Bool->Hp->Prop),Inv X pins σ H s->t σ H Q->wpAny (model X.prog X.w) X.A (isTrue e X.env whole) (TP X pins σ Q) X.xe s
def PW.pt(h:PW X e t):PT X e t:=h _
def PA(X:Cx)(es:List Expr)(t:TA):Prop:=
 ∀(pos:Pos)(pins:List (Addr×Obj))(s:Shared)(σ:St)(H:Hp)(Q:List V->Hp->Prop),Inv X pins σ H s->t σ H Q->wpAny (model X.prog X.w) X.A (spliced (backTo pos (starEach es X.env))) (AP X pins σ Q) X.xe s
def PS(X:Cx)(st:Stmt)(t:TS):Prop:=
 ∀(pins:List (Addr×Obj))(s:Shared)(σ:St)(H:Hp)(D:Ends),Inv X pins σ H s->t D σ H->wpAny (model X.prog X.w) X.A (exec st X.env) (SP X pins D) X.xe s
def PSs(X:Cx)(st:List Stmt)(t:TS):Prop:=
 ∀(pins:List (Addr×Obj))(s:Shared)(σ:St)(H:Hp)(D:Ends),Inv X pins σ H s->t D σ H->wpAny (model X.prog X.w) X.A (execs st X.env) (SP X pins D) X.xe s
def thn(h:wpAny M A t Q E s)(hQ:∀a s,Q a s->Q' a s):wpAny M A t Q' E s:=wpAny_mono h hQ λ_ _ x=>x
section
variable {X:Cx}
def bin(ha:PE X a ta)(hb:PE X b tb){R:V->V->Hp->Prop}(I:Inv X pins σ H s)(h:ta σ H λx H1=>tb σ H1 λy H2=>R x y H2)
 {α:Type}{Q:α->Shared->Prop}{f:Value->Value->Sem α}
 (hf:∀v u s2 x y H2,Inv X pins σ H2 s2->RelV x v->RelV y u->R x y H2->wpAny (model X.prog X.w) X.A (f v u) Q X.xe s2) :
  wpAny (model X.prog X.w) X.A (eval a X.env) (λv s₁=>wpAny (model X.prog X.w) X.A (eval b X.env) (λu s₂=>wpAny (model X.prog X.w) X.A (f v u) Q X.xe s₂) X.xe s₁) X.xe s:=by
 refine thn (ha pins s σ H _ I h) λv s1 ⟨x,H1,I1,r1,q1⟩=>?_
 refine thn (hb pins s1 σ H1 _ I1 q1) λu s2 ⟨y,H2,I2,r2,q2⟩=>?_
 exact hf v u s2 x y H2 I2 r1 r2 q2
noncomputable def gK(i:Nat):TE:=λσ H Q=>∃v,σ[i]?=some (some v)/\Q v H
noncomputable def tC(v:V):TE:=λ_ H Q=>Q v H
def aW(hN:X.N[i]?=some x)(hv:Vis X.env.scope x)(hd:nDb x:=by decide)(hcd:nCd x:=by decide):PE X (.Name x pos) (gK i):=by
 intro pins s σ H Q I h;obtain⟨v,e,h⟩:=h;obtain⟨m,hn,hl⟩:=I.loc;obtain⟨u,r,l⟩:=hl i x v hN e hv;have fin:EP X pins σ Q u s:=⟨v,H,I,r,h⟩
 rcases l with ⟨hk,hm⟩|⟨hk,c,hc,hcell⟩
 ·exact wpAny_Name (wpAny_loadName_local I.ok.kind hk hn hm fin) hd
 ·rcases hk with hk|hk
  ·exact wpAny_Name (wpAny_loadName_cell I.ok.kind hk hc hcell fin) hd
  ·exact wpAny_Name (wpAny_loadName_free I.ok.kind hk hc hcell fin hcd) hd
def oJ{i j pos}:PE X (.Constant (.int i) j pos) (tC (.int i)):=λ_ _ _ H _ I h=>wpAny_Constant_int ⟨.int i,H,I.tok _,⟨_,rfl⟩,h⟩
def aMo{b j pos}:PE X (.Constant (.bool b) j pos) (tC (.bl b)):=λ_ _ _ H _ I h=>Constant_bool ⟨.bl b,H,I,rfl,h⟩
def aIl{j pos}:PE X (.Constant .none j pos) (tC .non):=λ_ _ _ H _ I h=>Constant_none ⟨.non,H,I,rfl,h⟩
def aDp{x j pos}:PE X (.Constant (.str x) j pos) (tC (.str x)):=λ_ _ _ H _ I h=>Calls.Constant_str ⟨.str x,H,I.tok _,⟨_,rfl⟩,h⟩
def Gl(X:Cx)(x:Str):Prop:=X.env.kindOf x=some .globalImplicit
def p_(I:Inv X pins σ H s)(hg:Gl X x)(hm:X.mg x=some u)(h:Q u s)
 (hd:nDb x:=by decide):wpAny (model X.prog X.w) X.A (eval (.Name x pos) X.env) Q E s:=
 Calls.Name_function_global I.ok.kind hg (Calls.loadGlobal_global (by rw[I.ok.glob];exact I.mod.glob.keeps I.bk) hm h) hd
def nF(I:Inv X pins σ H s)(hg:Gl X x)(hm:X.mg x=none)(hv:bootBuiltins x=some u)(h:Q u s)
 (hn:x ≠ "__name__":=by decide)(hd:nDb x:=by decide):wpAny (model X.prog X.w) X.A (eval (.Name x pos) X.env) Q E s:=by
 obtain⟨mb,h1,h2⟩:=I.mod.blt;exact Calls.Name_function_global I.ok.kind hg (Calls.loadGlobal_builtin (by rw[I.ok.glob];exact I.mod.glob.keeps I.bk) hm (by rw[I.ok.blt];exact h1.keeps I.bk) ((h2 x hn).trans hv) h) hd
def aF6(hg:Gl X x)(hm:X.mg x=some u)(r:RelV v u)(hd:nDb x:=by decide):PE X (.Name x pos) (tC v):=
 λ_ _ _ H _ I h=>p_ I hg hm ⟨v,H,I,r,h⟩ hd
def aF7(hg:Gl X x)(hm:X.mg x=none)(hv:bootBuiltins x=some u)(r:RelV v u)(hn:x ≠ "__name__":=by decide)(hd:nDb x:=by decide):PE X (.Name x pos) (tC v):=
 λ_ _ _ H _ I h=>nF I hg hm hv ⟨v,H,I,r,h⟩ hn hd
def t2I(ta tb:TE)(k:Int->Int->Hp->Prop):St->Hp->Prop:=λσ H=>ta σ H λx H1=>tb σ H1 λy H2=>∃i j,x=.int i/\y=.int j/\k i j H2
noncomputable def aI8(ta tb:TE):TE:=λσ H Q=>t2I ta tb (λi j H2=>Q (.int (i+j)) H2) σ H
noncomputable def aMp(ta tb:TE):TE:=λσ H Q=>t2I ta tb (λi j H2=>Q (.int (i-j)) H2) σ H
noncomputable def aOf(ta tb:TE):TE:=λσ H Q=>t2I ta tb (λi j H2=>(-(2 ^ 64)<i/\i<2 ^ 64)/\Q (.int (i*j)) H2) σ H
variable {a b:Expr} {ta tb:TE} {pos:Pos}
def DP(ha:PE X a ta)(hb:PE X b tb):PE X (.BinOp a .Add b pos) (aI8 ta tb):=by
 intro pins s σ H Q I h;refine wpAny_BinOp (bin ha hb I h λv u s2 x y H2 I2 rx ry q=>?_);obtain⟨i,j,rfl,rfl,q⟩:=q;obtain⟨t,rfl⟩:=rx;obtain⟨t',rfl⟩:=ry;exact add_int ⟨.int _,H2,I2.tok _,⟨_,rfl⟩,q⟩
def aDq(ha:PE X a ta)(hb:PE X b tb):PE X (.BinOp a .Sub b pos) (aMp ta tb):=by
 intro pins s σ H Q I h;refine wpAny_BinOp (bin ha hb I h λv u s2 x y H2 I2 rx ry q=>?_);obtain⟨i,j,rfl,rfl,q⟩:=q;obtain⟨t,rfl⟩:=rx;obtain⟨t',rfl⟩:=ry;exact sub_int ⟨.int _,H2,I2.tok _,⟨_,rfl⟩,q⟩
def aIm(ha:PE X a ta)(hb:PE X b tb):PE X (.BinOp a .Mult b pos) (aOf ta tb):=by
 intro pins s σ H Q I h;refine wpAny_BinOp (bin ha hb I h λv u s2 x y H2 I2 rx ry q=>?_);obtain⟨i,j,rfl,rfl,⟨q1,q2⟩,q⟩:=q;obtain⟨t,rfl⟩:=rx;obtain⟨t',rfl⟩:=ry;exact mul_int ⟨.int _,H2,I2.tok _,⟨_,rfl⟩,q⟩ (.of_left (intBits_le_64 q1 q2))
def PC(X:Cx)(op:CmpOp)(a b:Expr)(t:TE):Prop:=
 ∀(pins:List (Addr×Obj))(s:Shared)(σ:St)(H:Hp)(Q:VK),Inv X pins σ H s->t σ H Q->
  wpAny (model X.prog X.w) X.A (eval a X.env) (λv s₁=>wpAny (model X.prog X.w) X.A (eval b X.env) (λu s₂=>wpAny (model X.prog X.w) X.A (compareOp op v u) (EP X pins σ Q) X.xe s₂) X.xe s₁) X.xe s
def aB9(b:Expr)(h:op≠.In)(h2:op≠.NotIn):behindInMarks op b=false:=by
 have e1:(op==CmpOp.In)=false:=by cases op<;>first|rfl|exact absurd rfl h
 have e2:(op==CmpOp.NotIn)=false:=by cases op<;>first|rfl|exact absurd rfl h2
 cases b<;>simp[behindInMarks,e1,e2]
noncomputable def aMq(p:Int->Int->Bool)(ta tb:TE):TE:=λσ H Q=>t2I ta tb (λi j H2=>Q (.bl (p i j)) H2) σ H
abbrev tGt:TE->TE->TE:=aMq λi j=>decide (j<i)
abbrev aMr:TE->TE->TE:=aMq λi j=>decide (i=j)
def aDr(ha:PE X a ta)(hb:PE X b tb)
 (rule:∀(i j:Int) (t u:Tok) (Q:Value->Shared->Prop) (s:Shared),Q (.bool (p i j)) s->wpAny (model X.prog X.w) X.A (compareOp op (.int i t) (.int j u)) Q X.xe s):PC X op a b (aMq p ta tb):=by
 intro pins s σ H Q I h;refine bin ha hb I h λv u s2 x y H2 I2 rx ry q=>?_
 obtain⟨i,j,rfl,rfl,q⟩:=q;obtain⟨t,rfl⟩:=rx;obtain⟨t',rfl⟩:=ry;exact rule i j t t' _ s2 ⟨.bl _,H2,I2,rfl,q⟩
def aMs(ha:PE X a ta)(hb:PE X b tb):PC X .Gt a b (tGt ta tb):=aDr ha hb λ_ _ _ _ _ _ h=>gt_int h
def aDs(ha:PE X a ta)(hb:PE X b tb):PC X .Eq a b (aMr ta tb):=aDr ha hb λ_ _ _ _ _ _ h=>eq_int (by rw[Bool.beq_eq_decide_eq];exact h)
noncomputable def tB(t:TE):TT:=λσ H Q=>t σ H λx H1=>∃c,x=.bl c/\Q c H1
def VM(h:PC X op a b t)(h1:behindInMarks op b=false:=by first|exact aB9 _ 0x4 0x4|rfl):PT X (.Compare a [op] [b] pos) (tB t):=by
 intro pins s σ H Q I hw;refine wpAny_isTrue_Compare1 (thn (h pins s σ H _ I hw) λv s1 h1=>thn h1 λu s2 h2=>thn h2 λc s3 ⟨x,H1,I1,r1,q1⟩=>?_) h1;obtain⟨d,rfl,q⟩:=q1;cases r1;exact wpAny_truthy_bool ⟨H1,I1,q⟩
variable {tA tB':TT} {rest:List Expr}
noncomputable def aPc(t u:TT):TT:=λσ H Q=>t σ H λc H1=>if c=true then u σ H1 Q else Q false H1
noncomputable def tOr(t u:TT):TT:=λσ H Q=>t σ H λc H1=>if c=true then Q true H1 else u σ H1 Q
noncomputable def aPd(t:TT):TT:=λσ H Q=>t σ H λc H1=>Q (!c) H1
def VN(ha:PT X a tA):PW X (.BoolOp .And [a] pos) tA:=by
 intro wh pins s σ H Q I h;refine isTrue_and (thn (ha pins s σ H Q I h) λc s1 e=>?_);cases c with
 |true=>exact isTrue_and_nil e
 |false=>exact e
def aIn(ha:PT X a tA):PW X (.BoolOp .Or [a] pos) tA:=by
 intro wh pins s σ H Q I h;refine isTrue_or (thn (ha pins s σ H Q I h) λc s1 e=>?_);cases c with
 |false=>exact isTrue_or_nil e
 |true=>exact e
def aDt(ha:PT X a tA)(hb:PW X (.BoolOp .And (b::rest) pos) tB'):PW X (.BoolOp .And (a::b::rest) pos) (aPc tA tB'):=by
 intro wh pins s σ H Q I h;refine isTrue_and (thn (ha pins s σ H _ I h) λc s1 ⟨H1,I1,q1⟩=>?_);cases c with
 |true=>exact hb wh pins s1 σ H1 Q I1 q1
 |false=>exact⟨H1,I1,q1⟩
def aMt(ha:PT X a tA)(hb:PW X (.BoolOp .Or (b::rest) pos) tB'):PW X (.BoolOp .Or (a::b::rest) pos) (tOr tA tB'):=by
 intro wh pins s σ H Q I h;refine isTrue_or (thn (ha pins s σ H _ I h) λc s1 ⟨H1,I1,q1⟩=>?_);cases c with
 |true=>exact⟨H1,I1,q1⟩
 |false=>exact hb wh pins s1 σ H1 Q I1 q1
def aIo(ha:PT X a tA):PT X (.UnaryOp .Not a pos) (aPd tA):=by
 intro pins s σ H Q I h;exact isTrue_not (ha pins s σ H (λc H1=>Q (!c) H1) I h)
noncomputable def aPe(ta tb:TE):TE:=λσ H Q=>ta σ H λx H1=>∃c,x=.bl c/\if c=true then Q (.bl true) H1 else tb σ H1 Q
def aIp{op}(h:PE X a t):PE X (.BoolOp op [a] pos) t:=λpins s σ H Q I hw=>BoolOp_one (h pins s σ H Q I hw)
def aMu(ha:PE X a ta)(hb:PE X (.BoolOp .Or (b::rest) pos) tb):PE X (.BoolOp .Or (a::b::rest) pos) (aPe ta tb):=by
 intro pins s σ H Q I h;refine BoolOp_or (thn (ha pins s σ H _ I h) λv s1 ⟨x,H1,I1,r1,q1⟩=>?_);obtain⟨c,rfl,q1⟩:=q1;cases r1;refine wpAny_truthy_bool ?_;cases c with
 |false=>exact hb pins s1 σ H1 Q I1 q1
 |true=>exact⟨.bl true,H1,I1,rfl,q1⟩
end
def SqL(K:PySem.W.Frag)(H:Hp)(a:Addr)(xs:List V):Prop:=
 Rd H a (.lst xs)\/
  ∃(o:Obj)(its:Array Value)(n:Nat),K.lookup a=some o/\o.cls=.type "list"/\o.dict=none/\o.data=.seq its n/\its.size<=sizeLine/\Vals xs its.toList
def SqT(K:PySem.W.Frag)(H:Hp)(a:Addr)(xs:List V):Prop:=
 Rd H a (.tup xs)\/
  ∃(o:Obj)(its:Array Value)(n:Nat),K.lookup a=some o/\o.cls=.type "tuple"/\o.data=.seq its n/\its.size<=sizeLine/\Vals xs its.toList
noncomputable def aPf:Value->Option V
 |.none=>some .non
 |.bool b=>some (.bl b)
 |.int i _=>some (.int i)
 |.str x _=>some (.str x)
 |.bytes b _=>some (.byt b)
 |.float b _=>some (.flt b)
 |.ref a=>some (.ref a)
 |.type n=>some (.ty n)
 |_=>none
def RelV.abs(r:RelV x u):aPf u=some x:=by
 cases x with
 |non=>cases r;rfl
 |bl _=>cases r;rfl
 |int _=>obtain⟨t,rfl⟩:=r;rfl
 |str _=>obtain⟨t,rfl⟩:=r;rfl
 |byt _=>obtain⟨t,rfl⟩:=r;rfl
 |flt _=>obtain⟨t,rfl⟩:=r;rfl
 |ref _=>cases r;rfl
 |ty _=>cases r;rfl
def RelV.inj(r:RelV x u)(q:RelV y u):x=y:=Option.some.inj (r.abs.symm.trans q.abs)
theorem Vals.inj:∀{xs ys:List V}{us:List Value},Vals xs us->Vals ys us->xs=ys
 |_,_,_,.nil,.nil=>rfl
 |_,_,_,.cons r t,.cons r' t'=>by rw[r.inj r',Vals.inj t t']
section
def SqL.of{K:PySem.W.Frag}(h:H a=some (.lst xs)):SqL K H a xs:=.inl (.inl h)
def SqT.of{K:PySem.W.Frag}(h:H a=some (.tup xs)):SqT K H a xs:=.inl (.inl h)
def Inv.list(I:Inv X pins σ H s)(h:SqL X.K H a xs):∃its:List Value,Vals xs its/\PlainL s.heap a its.toArray/\xs.length<=sizeLine:=by
 rcases h with h|⟨o,its,n,hk,hc,hd,hs,hz,r⟩
 ·obtain⟨z,its,n,r,e⟩:=h.ok I.hok;exact⟨its,r,⟨_,n,e,rfl,rfl,rfl⟩,z⟩
 ·refine⟨its.toList,r,⟨o,n,I.kIn a o hk,hc,hd,by simpa using hs⟩,?_⟩;have e:=r.length;simp only[Array.length_toList] at e;lia
def Inv.tuple(I:Inv X pins σ H s)(h:SqT X.K H a xs):∃its:List Value,Vals xs its/\IsTup s.heap a its.toArray/\xs.length<=sizeLine:=by
 rcases h with h|⟨o,its,n,hk,hc,hs,hz,r⟩
 ·obtain⟨z,its,r,p⟩:=h.ok I.hok;exact⟨its,r,p.tup,z⟩
 ·refine⟨its.toList,r,⟨o,I.kIn a o hk,hc,n,by simpa using hs⟩,?_⟩;have e:=r.length;simp only[Array.length_toList] at e;lia
def Inv.aBa(I:Inv X pins σ H s)(h:SqL X.K H a xs)(h':SqL X.K H a ys):xs=ys:=by
 obtain⟨its,r,⟨o,n,e,_,_,d⟩,_⟩:=I.list h;obtain⟨its',r',⟨o',n',e',_,_,d'⟩,_⟩:=I.list h';rw[e] at e';cases e';rw[d] at d';injection d' with d1 _
 have:its=its':=by simpa using congrArg Array.toList d1
 subst this;exact r.inj r'
def Inv.VP(I:Inv X pins σ H s)(h:SqT X.K H a xs)(h':SqT X.K H a ys):xs=ys:=by
 obtain⟨its,r,⟨o,e,_,n,d⟩,_⟩:=I.tuple h;obtain⟨its',r',⟨o',e',_,n',d'⟩,_⟩:=I.tuple h';rw[e] at e';cases e';rw[d] at d';injection d' with d1 _
 have:its=its':=by simpa using congrArg Array.toList d1
 subst this;exact r.inj r'
end
noncomputable abbrev Cx.wish(X:Cx)(E:Value->Shared->Prop):Cx:={X with xe:=E}
noncomputable abbrev Cx.nox(X:Cx):Cx:=X.wish λ_ _=>False
def Cx.Ok.wish{X:Cx}(ok:X.Ok)(E:Value->Shared->Prop):(X.wish E).Ok:=
 ⟨ok.mod,ok.kind,ok.glob,ok.blt,ok.above,ok.inj,ok.has,ok.cab,ok.hd,ok.frames,ok.stk,ok.exf,ok.bs,ok.bsz,ok.noex,ok.exfs,ok.R4,ok.frf⟩
def Cx.Ok.nG{X:Cx}(ok:(X.wish E).Ok):X.Ok:=
 ⟨ok.mod,ok.kind,ok.glob,ok.blt,ok.above,ok.inj,ok.has,ok.cab,ok.hd,ok.frames,ok.stk,ok.exf,ok.bs,ok.bsz,ok.noex,ok.exfs,ok.R4,ok.frf⟩
section
def Inv.wish(I:Inv X pins σ H s)(E:Value->Shared->Prop):Inv (X.wish E) pins σ H s:=⟨I.ok.wish E,I.os,I.bare,I.base,I.loc,I.cell,I.free,I.freeC,I.pin,I.hok,I.len⟩
def Inv.nG(I:Inv (X.wish E) pins σ H s):Inv X pins σ H s:=⟨I.ok.nG,I.os,I.bare,I.base,I.loc,I.cell,I.free,I.freeC,I.pin,I.hok,I.len⟩
def SP.nG(h:SP (X.wish E) pins D f s'):SP X pins D f s':=by
 cases f with
 |next=>obtain⟨σ',H',I,q⟩:=h;exact⟨σ',H',I.nG,q⟩
 |brk=>obtain⟨σ',H',I,q⟩:=h;exact⟨σ',H',I.nG,q⟩
 |cont=>obtain⟨σ',H',I,q⟩:=h;exact⟨σ',H',I.nG,q⟩
 |ret u=>obtain⟨v,σ',H',I,r,q⟩:=h;exact⟨v,σ',H',I.nG,r,q⟩
def PSs.nox{st:List Stmt}{t:TS}(h:PSs X.nox st t):PSs X st t:=λpins s σ H D I hw=>
 wpAny_mono (h pins s σ H D (I.wish _) hw) (λ_ _ q=>q.nG) λ_ _ z=>False.elim z
end
section
variable {t u:TS} {te:TE}
noncomputable def aF8:TS:=λD σ H=>D.nx σ H
noncomputable def xN(t u:TS):TS:=λD σ H=>t {D with nx:=u D} σ H
def yZ:PSs X [] aF8:=λ_ _ σ H _ I h=>wpAny_execs_nil ⟨σ,H,I,h⟩
def bR{X:Cx}{st:Stmt}{rest:List Stmt}(h1:PS X st t)(h2:PSs X rest u):PSs X (st::rest) (xN t u):=by
 intro pins s σ H D I h;refine wpAny_execs_cons (thn (h1 pins s σ H {D with nx:=u D} I h) λf s1 q=>?_);cases f with
 |next=>
  obtain⟨σ',H',I',q⟩:=q;exact h2 pins s1 σ' H' D I' q
 |ret v=>exact q
 |brk=>exact q
 |cont=>exact q
def dY{X:Cx}{st:Stmt}(h1:PS X st t):PSs X [st] t:=by
 intro pins s σ H D I h;refine wpAny_execs_cons (thn (h1 pins s σ H D I h) λf s1 q=>?_);cases f with
 |next=>exact wpAny_execs_nil q
 |ret v=>exact q
 |brk=>exact q
 |cont=>exact q
def Inv.quiet(I:Inv X pins σ H s):interactive X.env=false:=by simp[interactive,I.ok.kind]
noncomputable def y_(te:TE):TS:=λD σ H=>te σ H λ_ H1=>D.nx σ H1
def kO(he:PE X e te)(hs:swapsWith e none pos.line X.env=pure false:=by rfl):PS X (.Expr e pos) (y_ te):=by
 intro pins s σ H D I h;exact wpAny_Expr_any (thn (he pins s σ H _ I h) λv s1 ⟨x,H1,I1,r1,q1⟩=>⟨σ,H1,I1,q1⟩) I.quiet hs
noncomputable def aIq(te:TE):TS:=λD σ H=>te σ H D.rt
def oK(he:PE X e te):PS X (.Return (some e) pos) (aIq te):=by
 intro pins s σ H D I h;exact wpAny_Return_some (thn (he pins s σ H _ I h) λv s1 ⟨x,H1,I1,r1,q1⟩=>⟨x,σ,H1,I1,r1,q1⟩)
noncomputable def aI9(c:TT)(t u:TS):TS:=λD σ H=>c σ H λb H1=>if b=true then t D σ H1 else u D σ H1
def J6(hc:PT X c tc)(ha:PSs X a t)(hb:PSs X b u):PS X (.If c a b pos) (aI9 tc t u):=by
 intro pins s σ H D I h;refine wpAny_If (thn (hc pins s σ H _ I h) λd s1 ⟨H1,I1,q1⟩=>?_);cases d with
 |true=>exact ha pins s1 σ H1 D I1 q1
 |false=>exact hb pins s1 σ H1 D I1 q1
end
abbrev TG:=V->St->Hp->(St->Hp->Prop)->Prop
abbrev TGs:=List V->St->Hp->(St->Hp->Prop)->Prop
def PG(X:Cx)(target:Expr)(t:TG):Prop:=
 ∀(pins:List (Addr×Obj))(s:Shared)(σ:St)(H:Hp)(v:V)(u:Value)(Q:St->Hp->Prop),Inv X pins σ H s->RelV v u->t v σ H Q->
  wpAny (model X.prog X.w) X.A (assign target X.env u) (λ_ s'=>∃σ' H',Inv X pins σ' H' s'/\Q σ' H') X.xe s
def PGs(X:Cx)(ts:List Expr)(t:TGs):Prop:=
 ∀(pins:List (Addr×Obj))(s:Shared)(σ:St)(H:Hp)(vs:List V)(us:List Value)(Q:St->Hp->Prop),Inv X pins σ H s->Vals vs us->t vs σ H Q->
  wpAny (model X.prog X.w) X.A (assignInOrder ((assignEach ts X.env).map (·.2)) us) (λ_ s'=>∃σ' H',Inv X pins σ' H' s'/\Q σ' H') X.xe s
abbrev aPg:=V->V->V->Hp->(Hp->Prop)->Prop
def aPh(X:Cx)(t:aPg):Prop:=
 ∀(pins:List (Addr×Obj))(s:Shared)(σ:St)(H:Hp)(o i v:V)(ov iv u:Value)(Q:Hp->Prop),Inv X pins σ H s->RelV o ov->RelV i iv->RelV v u->t o i v H Q->
  wpAny (model X.prog X.w) X.A (setItem ov iv u) (λ_ s'=>∃H',Inv X pins σ H' s'/\Q H') X.xe s
section
noncomputable def fZ(i:Nat):TG:=λv σ H Q=>Q (σ.set i (some v)) H
def a_(hN:X.N.Nodup)(hi:X.N[i]?=some x)(hx:Loc X.env.scope x)(hf:X.fn x=true\/X.env.scope.names.lookup x=some .local:=by first|exact .inl rfl|exact .inr rfl|assumption):PG X (.Name x pos) (fZ i):=by
 intro pins s σ H v u Q I r h;exact wpAny_assign_Name (yX I hN hi hx r (λs' I'=>⟨_,H,I',h⟩) hf)
noncomputable def aM6:TGs:=λvs σ H Q=>vs=[]/\Q σ H
noncomputable def R5(t:TG)(u:TGs):TGs:=λvs σ H Q=>∃v r,vs=v::r/\t v σ H λσ' H'=>u r σ' H' Q
def zA:PGs X [] aM6:=by
 intro pins s σ H vs us Q I r h;obtain⟨e,h⟩:=h;subst e;cases r;exact assignInOrder_nil ⟨σ,H,I,h⟩
def eN(h1:PG X e t)(h2:PGs X es u)
 (hs:(assignEach (e::es) X.env).map (·.2)=assign e X.env::(assignEach es X.env).map (·.2):=by rfl):PGs X (e::es) (R5 t u):=by
 intro pins s σ H vs us Q I r h;obtain⟨v,vr,e1,h⟩:=h;subst e1;cases r with
 |cons r rr=>
  rw[hs];refine assignInOrder_cons (thn (h1 pins s σ H _ _ _ I r h) λ_ s1 ⟨σ1,H1,I1,q1⟩=>?_);exact h2 pins s1 σ1 H1 _ _ Q I1 rr q1
noncomputable def aM7(K:PySem.W.Frag)(n:Nat)(t:TGs):TG:=λv σ H Q=>∃a xs,v=.ref a/\SqT K H a xs/\xs.length=n/\t xs σ H Q
def VR(hc:X.calm=true)(h:PGs X es t)
 (hn:(assignEach es X.env).length=n:=by rfl)(hst:(assignEach es X.env).findIdx? (·.1)=none:=by rfl):PG X (.Tuple es k pos) (aM7 X.K n t):=by
 intro pins s σ H v u Q I r hw;obtain⟨a,xs,e1,hq,hl,hw⟩:=hw;subst e1;cases r;obtain⟨its,rv,ht,hz⟩:=I.tuple hq;refine assign_Tuple_tuple (I.ok.hd hc) ht (by simp[hn,<-hl,rv.length]) hst λh' hx=>?_
 have I1:Inv X pins σ H {s with heap:=h'}:=I.kept λb o e=>hx b o (Nat.ne_of_lt (Heap.lt_size e)) e
 exact h pins _ σ H xs _ Q I1 (by simpa using rv) hw
noncomputable def zB(te:TE)(g:TG):TS:=λD σ H=>te σ H λx H1=>g x σ H1 D.nx
def nH(he:PE X e te)(hg:PG X tg g)(hs:swapsWithSole [tg] e pos.line X.env=pure false:=by rfl)(hw:swappedStores [tg] e X.env=pure none:=by rfl)
 (h1:(assignEach [tg] X.env).map (·.2)=[assign tg X.env]:=by rfl):PS X (.Assign [tg] e pos) (zB te g):=by
 intro pins s σ H D I h;refine wpAny_Assign_stores (thn (he pins s σ H _ I h) λv s1 ⟨x,H1,I1,r1,q1⟩=>?_) hs hw;rw[h1];exact thn (hg pins s1 σ H1 x v _ I1 r1 q1) λ_ s2 q=>q
def N7(hN:X.N.Nodup)(hi:X.N[i]?=some x)(hx:Loc X.env.scope x)(he:PE X e te)(hs:swapsWith e (some (.Name x pos')) pos.line X.env=pure false:=by rfl)(hf:X.fn x=true\/X.env.scope.names.lookup x=some .local:=by first|exact .inl rfl|exact .inr rfl|assumption) :
  PS X (.Assign [.Name x pos'] e pos) (zB te (fZ i)):=by
 intro pins s σ H D I h;refine wpAny_Assign_Name (thn (he pins s σ H _ I h) λv s1 ⟨y,H1,I1,r1,q1⟩=>?_) hs;exact yX I1 hN hi hx r1 (λs2 I2=>⟨_,H1,I2,q1⟩) hf
end
section
def VV(c:TT)(tb:TS):TS:=λD σ H=>∃W:Nat->St->Hp->Prop,(∃m,W m σ H)/\∀m σ H,W m σ H->
 c σ H λb H1=>if b=true then ∃N:St->Hp->Prop,(∀σ' H',N σ' H'->∃m',m'<m/\W m' σ' H')/\tb {D with nx:=N,ct:=N,bk:=D.nx} σ H1 else D.nx σ H1
def N8(hp:PassesOwn (model X.prog X.w) X.A X.env X.xe)(hc:PT X c tc)(hb:PSs X body tb):PS X (.While c body [] pos) (VV tc tb):=by
 intro pins s σ H D I h;obtain⟨W,⟨m0,w0⟩,turn⟩:=h;refine wpAny_While (codeAny_whileLoop (λn s'=>∃σ' H',Inv X pins σ' H' s'/\W n σ' H') ?_ m0 ⟨σ,H,I,w0⟩);rintro n s1 ⟨σ1,H1,I1,w1⟩;refine wpAny_passesOwn hp (thn (hc pins s1 σ1 H1 _ I1 (turn n σ1 H1 w1)) λb s2 ⟨H2,I2,q2⟩=>?_);cases b with
 |true=>
  obtain⟨N,hN,q2⟩:=q2;rw[if_pos rfl];refine wpAny_passesOwn hp (thn (hb pins s2 σ1 H2 _ I2 q2) λf s3 q3=>?_);cases f with
  |next=>
   obtain⟨σ3,H3,I3,n3⟩:=q3;obtain⟨m',hm,w3⟩:=hN σ3 H3 n3;exact⟨m',hm,σ3,H3,I3,w3⟩
  |cont=>
   obtain⟨σ3,H3,I3,n3⟩:=q3;obtain⟨m',hm,w3⟩:=hN σ3 H3 n3;exact⟨m',hm,σ3,H3,I3,w3⟩
  |brk=>exact q3
  |ret v=>exact q3
 |false=>
  rw[if_neg Bool.false_ne_true];exact wpAny_execs_nil ⟨σ1,H2,I2,q2⟩
end
structure It where
 go:Nat->Hp->Prop
 yld:Nat->Hp->V->Hp->Prop
 stop:Nat->Hp->Prop
def U_(X:Cx)(pins:List (Addr×Obj))(H:Hp)(b:Addr):Prop:=
 H b=none/\b≠X.env.locals/\b∉X.fs/\(b∈X.ex\/X.s₀.heap.objs.size<=b)/\(∀x c,X.env.cells.lookup x=some c->c≠b)/\∀p∈X.pn++pins,p.1≠b
def Inv.aIr(I:Inv X pins σ H s)(hb:s.heap.objs.size<=b)(hn:H' b=none):U_ X pins H' b:=by
 refine⟨hn,Nat.ne_of_gt (Nat.lt_of_lt_of_le I.lt hb),I.aOe hb,.inr (Nat.le_trans I.sz hb),λx c e z=>?_,λp hp z=>?_⟩
 ·obtain⟨v,q⟩:=I.cell x c e;exact absurd (Nat.lt_of_lt_of_le q.lt (by rw[z];exact hb)) (Nat.lt_irrefl _)
 ·exact absurd (Nat.lt_of_lt_of_le (Heap.lt_size (I.pin p hp).1) (by rw[z];exact hb)) (Nat.lt_irrefl _)
structure Turn(P:Program)(w:World)(K:PySem.W.Frag)(tg:Expr)(J:It)(fp:List Addr)(it:Addr)(tn:Nat->Heap->Prop):Prop where
 mem:it∈fp
 obj:∀i h,tn i h->∀b∈fp,∃o,h.get? b=some o/\∀v,o.data≠.cell v
 keep:∀i h h',tn i h->(∀b∈fp,∀o,h.get? b=some o->h'.get? b=some o)->tn i h'
 item:∀(X:Cx),X.prog=P->X.w=w->X.K=K->X.calm=true->∀(i:Nat)(pins:List (Addr×Obj))(s:Shared)(σ:St)(H:Hp)(E:Value->Shared->Prop),Inv X pins σ H s->(∀b∈fp,U_ X pins H b)->tn i s.heap->J.go i H->
  wpAny (model P w) X.A (pyNext (.ref it)) (λr s1=>∃u,r=some u/\
   wpAny (model P w) X.A (letOwnedTupleGo tg (.ref it) u) (λ_ s2=>∃x H',Inv X pins σ H' s2/\RelV x u/\J.yld i H x H'/\tn (i+1) s2.heap/\∀b∈fp,H' b=none) E s1) E s
 done:∀(X:Cx),X.prog=P->X.w=w->X.K=K->X.calm=true->∀(i:Nat)(pins:List (Addr×Obj))(s:Shared)(σ:St)(H:Hp)(E:Value->Shared->Prop),Inv X pins σ H s->(∀b∈fp,U_ X pins H b)->tn i s.heap->J.stop i H->
  wpAny (model P w) X.A (pyNext (.ref it)) (λr s1=>r=none/\Inv X pins σ H s1) E s
 self:∀(A:Around)(i:Nat)(s:Shared)(Q:Value->Shared->Prop)(E:Value->Shared->Prop),tn i s.heap->Q (.ref it) s->wpAny (model P w) A (pyIter (.ref it)) Q E s
abbrev TI:=St->Hp->(It->Hp->Prop)->Prop
def PIE(X:Cx)(pins:List (Addr×Obj))(σ:St)(tg:Expr)(R:It->Hp->Prop)(itv:Value)(s2:Shared):Prop:=
 ∃(it:Addr)(fp:List Addr)(tn:Nat->Heap->Prop)(J:It)(H':Hp),itv=.ref it/\Inv X pins σ H' s2/\Turn X.prog X.w X.K tg J fp it tn/\tn 0 s2.heap/\(∀b∈fp,U_ X pins H' b)/\R J H'
def PI(X:Cx)(tg iter:Expr)(wi:TI):Prop:=
 ∀(pins:List (Addr×Obj))(s:Shared)(σ:St)(H:Hp)(R:It->Hp->Prop),Inv X pins σ H s->wi σ H R->
  wpAny (model X.prog X.w) X.A (eval iter X.env) (λv s1=>wpAny (model X.prog X.w) X.A (pyIter v) (PIE X pins σ tg R) X.xe s1) X.xe s
def aBb(ho:s.heap.get? it=some o)(hc:o.cls=.type n)(hd:o.data=.fields vs)
 (hn:["enumerate","zip","dict_itemiterator","dict_reverseitemiterator","odict_iterator","itertools.zip_longest","itertools.pairwise"].contains n=false)(hQ:Q () s):wpAny M A (letOwnedTupleGo tg (.ref it) u) Q E s:= by
  unfold letOwnedTupleGo;cases tg<;>first
    |exact wpAny_pure hQ
    | (cases u<;>first
        |exact wpAny_pure hQ
        | (refine wpAny_bind (wpAny_load ho ?_)
           rw[hc,hd];show wpAny M A (if (["enumerate","zip","dict_itemiterator","dict_reverseitemiterator","odict_iterator","itertools.zip_longest","itertools.pairwise"].contains n&&vs[0]?==some (rawInt _))=true then _ else _) Q E s;rw[if_neg (by intro h;rw[hn,Bool.false_and] at h;cases h)];exact wpAny_pure hQ))
noncomputable def Itl(K:PySem.W.Frag)(a:Addr):It:=
 ⟨λi H=>∃xs x,SqL K H a xs/\xs[i]?=some x,λi H x H'=>H'=H/\∀xs,SqL K H a xs->xs[i]?=some x,λi H=>∃xs,SqL K H a xs/\xs.length<=i⟩
noncomputable def Itt(K:PySem.W.Frag)(a:Addr):It:=
 ⟨λi H=>∃xs x,SqT K H a xs/\xs[i]?=some x,λi H x H'=>H'=H/\∀xs,SqT K H a xs->xs[i]?=some x,λi H=>∃xs,SqT K H a xs/\xs.length<=i⟩
noncomputable def Itr(lo:Int)(n:Nat):It:=⟨λi _=>i<n,λi H x H'=>H'=H/\x=.int (lo+i),λi _=>n<=i⟩
theorem V0{K:PySem.W.Frag}(a it:Addr):Turn P w K tg (Itl K a) [it] it (λi h=>h.IsListIter it a i) where
 mem:=by simp
 obj:=λi h st b hb=>by
  have e:b=it:=by simpa using hb
  subst e;obtain⟨o,e,c,d⟩:=st;exact⟨o,e,λv z=>by rw[d] at z;cases z⟩
 keep:=λi h h' st k=>st.at λo e=>k it 0x2 o e
 item:=by
  intro X hP hw hK hc i pins s σ H E I hf st hg;subst hP hw hK;obtain⟨xs,x,hq,hx⟩:=hg;obtain⟨its,rv,p,hz⟩:=I.list hq;obtain⟨u,hu,ru⟩:=rv.get hx;obtain⟨f0,f1,f2,f3,f4,f5⟩:=hf it 0x2;refine wpAny_pyNext_list_item st p.isList (by simpa using hu) λh' st' sb=>?_
  have I1:Inv X pins σ H {s with heap:=h'}:=I.turned (λb o hb e=>(sb.2 b hb).trans e) f0 f1 f3 f4 f5;obtain⟨o,e,c,d⟩:=id st';exact⟨u,rfl,aBb e c d 0x4 ⟨x,H,I1,ru,⟨rfl,λys hy=>by rw[I.aBa hy hq];exact hx⟩,st',λb hb=>(hf b hb).1⟩⟩
 done:=by
  intro X hP hw hK hc i pins s σ H E I hf st hg;subst hP hw hK;obtain⟨xs,hq,hx⟩:=hg;obtain⟨its,rv,p,hz⟩:=I.list hq;obtain⟨f0,f1,f2,f3,f4,f5⟩:=hf it 0x2;have hl:=rv.length;exact wpAny_pyNext_list_end (I.ok.hd hc) st p.isList (by simp;lia) λh' eb=>⟨rfl,I.turned (λb o hb e=>eb b o hb e) f0 f1 f3 f4 f5⟩
 self:=λ_ _ _ _ _ st h=>wpAny_pyIter_listiter st h
theorem R6{K:PySem.W.Frag}(a it:Addr):Turn P w K tg (Itt K a) [it] it (λi h=>h.IsTupleIter it a i) where
 mem:=by simp
 obj:=λi h st b hb=>by
  have e:b=it:=by simpa using hb
  subst e;obtain⟨o,e,c,d⟩:=st;exact⟨o,e,λv z=>by rw[d] at z;cases z⟩
 keep:=λi h h' st k=>st.at λo e=>k it 0x2 o e
 item:=by
  intro X hP hw hK hc i pins s σ H E I hf st hg;subst hP hw hK;obtain⟨xs,x,hq,hx⟩:=hg;obtain⟨its,rv,p,hz⟩:=I.tuple hq;obtain⟨u,hu,ru⟩:=rv.get hx;obtain⟨f0,f1,f2,f3,f4,f5⟩:=hf it 0x2;refine wpAny_pyNext_tuple_item st (show s.heap.IsTuple a its.toArray from p) (by simpa using hu) λh' st' sb=>?_
  have I1:Inv X pins σ H {s with heap:=h'}:=I.turned (λb o hb e=>(sb.2 b hb).trans e) f0 f1 f3 f4 f5;obtain⟨o,e,c,d⟩:=id st';exact⟨u,rfl,aBb e c d 0x4 ⟨x,H,I1,ru,⟨rfl,λys hy=>by rw[I.VP hy hq];exact hx⟩,st',λb hb=>(hf b hb).1⟩⟩
 done:=by
  intro X hP hw hK hc i pins s σ H E I hf st hg;subst hP hw hK;obtain⟨xs,hq,hx⟩:=hg;obtain⟨its,rv,p,hz⟩:=I.tuple hq;obtain⟨f0,f1,f2,f3,f4,f5⟩:=hf it 0x2;have hl:=rv.length;exact wpAny_pyNext_tuple_end (I.ok.hd hc) st (show s.heap.IsTuple a its.toArray from p) (by simp;lia) λh' eb=>⟨rfl,I.turned (λb o hb e=>eb b o hb e) f0 f1 f3 f4 f5⟩
 self:=λ_ _ _ _ _ st h=>wpAny_pyIter_tupleiter st h
def R7{K:PySem.W.Frag}(it:Addr)(lo:Int)(n:Nat):Turn P w K tg (Itr lo n) [it] it (λi h=>IsRangeIter h it (lo+(i:Nat)*1) ((n:Int)-(i:Nat)) 1) where
 mem:=by simp
 obj:=λi h st b hb=>by
  have e:b=it:=by simpa using hb
  subst e;exact⟨_,st,λv z=>by
   have z':Data.fields _=Data.cell v:=z;cases z'⟩
 keep:=λi h h' st k=>k it 0x2 _ st
 item:=by
  intro X hP hw hK hc i pins s σ H E I hf st hg;subst hP hw hK;obtain⟨f0,f1,f2,f3,f4,f5⟩:=hf it 0x2;have W:=Walks.range (prog:=X.prog) (w:=X.w) (I.ok.hd hc) it lo 1 n;refine W.item i s _ _ hg st λv h' tk hv st' kk=>?_
  obtain⟨t,rfl⟩:=hv;have I1:Inv X pins σ H {s with heap:=h',toks:=tk}:=I.turned (λb o hb e=>kk b o (by simpa using hb) e) f0 f1 f3 f4 f5;refine⟨_,rfl,aBb st' rfl rfl 0x4 ⟨.int (lo+i),H,I1,⟨t,?_⟩,⟨rfl,rfl⟩,st',λb hb=>(hf b hb).1⟩⟩;rw[Int.mul_one]
 done:=by
  intro X hP hw hK hc i pins s σ H E I hf st hg;subst hP hw hK;obtain⟨f0,f1,f2,f3,f4,f5⟩:=hf it 0x2;exact wpAny_pyNext_range_end (I.ok.hd hc) st (by have:n<=i:=hg;lia) λh' eb=>⟨rfl,I.turned (λb o hb e=>eb b o hb e) f0 f1 f3 f4 f5⟩
 self:=λ_ _ _ _ _ st h=>wpAny_pyIter_rangeiter st h
section
variable {X:Cx} {tg:Expr}
def aBc{lo hi:Int}{t u v:Tok}{tk:Nat}(I:Inv X pins σ H s)(h1:-(2 ^ 62)<=lo)(h2:lo<2 ^ 62)(h3:-(2 ^ 62)<=hi)(h4:hi<2 ^ 62)
 (q:R (Itr lo (hi-lo).toNat) H):wpAny (model X.prog X.w) X.A (pyIter (.ref s.heap.objs.size)) (PIE X pins σ tg R) E {s with heap:=s.heap.push {cls:=.type "range",data:=.fields #[.int lo t,.int hi u,.int 1 v]},toks:=tk}:=by
 refine wpAny_pyIter_range (IsRange.new ..) (small_one h1 h2 h3 h4) ?_;have I1:Inv X pins σ H {s with heap:=s.heap.push {cls:=.type "range",data:=.fields #[.int lo t,.int hi u,.int 1 v]},toks:=tk}:=I.kept λb o e=>Heap.get?_push_of_some _ e
 refine⟨(s.heap.push {cls:=.type "range",data:=.fields #[.int lo t,.int hi u,.int 1 v]}).objs.size,[(s.heap.push {cls:=.type "range",data:=.fields #[.int lo t,.int hi u,.int 1 v]}).objs.size],_,_,H,rfl,
  I1.kept λb o e=>Heap.get?_push_of_some _ e,R7 _ lo (hi-lo).toNat,?_,λb hb=>?_,q⟩
 ·have e1:lo+((0:Nat):Int)*1=lo:=by simp
  have e2:(((hi-lo).toNat:Nat):Int)-((0:Nat):Int)=Builtin.Range.rangeSize lo hi 1:=by rw[rangeSize_one];split<;>lia
  show IsRangeIter _ _ (lo+((0:Nat):Int)*1) ((((hi-lo).toNat:Nat):Int)-((0:Nat):Int)) 1;rw[e1,e2];exact Heap.get?_push_size _ rfl
 ·have e:b=(s.heap.push {cls:=.type "range",data:=.fields #[.int lo t,.int hi u,.int 1 v]}).objs.size:=by simpa using hb
  subst e;exact I1.aIr (Nat.le_refl _) (I1.hok.fresh (Nat.le_refl _))
def aMv(ta:TA):TI:=λσ H R=>ta σ H λvs H1=>∃j:Int,vs=[.int j]/\-(2 ^ 62)<=j/\j<2 ^ 62/\R (Itr 0 j.toNat) H1
def DQ(hg:Gl X "range")(hm:X.mg "range"=none)(ha:PA X [a] ta)(hs:starEach [a] X.env=[(false,eval a X.env)]:=by rfl):PI X tg (.Call (.Name "range" p) [a] [] pos) (aMv ta):=by
 intro pins s σ H R I h;refine Call_ (nF I hg hm boot_range (PyProof.Rows.callWith_type1 (thn (ha pos pins s σ H _ I h) λus s1 ⟨vs,H1,I1,r1,q1⟩=>?_) hs rfl));obtain⟨j,e,q1,q2,q⟩:=q1;subst e;cases r1 with
 |cons r rr=>
  cases rr;obtain⟨t,rfl⟩:=r;exact call_range_1 (aBc I1 0x1 0x1 q1 q2 (by simpa using q))
def aOg(wi:TI)(g:TG)(tb:TS):TS:=λD σ H=>wi σ H λJ H1=>∃W:Nat->Nat->St->Hp->Prop,(∃m,W 0 m σ H1)/\∀i m σ H,W i m σ H->
 (J.stop i H/\D.nx σ H)\/(J.go i H/\∃N:St->Hp->Prop,(∀σ' H',N σ' H'->∃m',m'<m/\W (i+1) m' σ' H')/\∀x H',J.yld i H x H'->g x σ H' λσ2 H2=>tb {D with nx:=N,ct:=N,bk:=D.nx} σ2 H2)
noncomputable def vN(fp:List Addr)(h:Heap):List (Addr×Obj):=fp.filterMap λb=>(h.get? b).map λo=>(b,o)
def m9(hb:b∈fp)(e:h.get? b=some o):(b,o)∈vN fp h:=List.mem_filterMap.mpr ⟨b,hb,by rw[e];rfl⟩
def V1(hp:p∈vN fp h):p.1∈fp/\h.get? p.1=some p.2:=by
 obtain⟨b,hb,e⟩:=List.mem_filterMap.mp hp;cases q:h.get? b with
 |none=>rw[q] at e;cases e
 |some o=>
  rw[q] at e;have e':(b,o)=p:=Option.some.inj e;subst e';exact⟨hb,q⟩
def Inv.pinned(I:Inv X pins σ H s)(hf:∀b∈fp,U_ X pins H b)(ho:∀b∈fp,∃o,s.heap.get? b=some o/\∀v,o.data≠.cell v):Inv X (pins++vN fp s.heap) σ H s:=
 I.J5 λp hp=>(List.mem_append.mp hp).elim (λz=>I.pin p (List.mem_append_right _ z)) λz=>by
  obtain⟨hb,e⟩:=V1 z;obtain⟨f0,f1,f2,_⟩:=hf p.1 hb;obtain⟨o,e',d⟩:=ho p.1 hb;rw[e] at e';cases e';exact⟨e,f0,f1,f2,d⟩
def Inv.oM(I:Inv X (pins++pl) σ H s):Inv X pins σ H s:=I.J5 λp hp=>I.pin p (List.mem_append_right _ (List.mem_append_left _ hp))
def N_(hp:PassesOwn (model X.prog X.w) X.A X.env X.xe)(hc:X.calm=true)(hi:PI X tg iter wi)(hg:PG X tg g)(hb:PSs X body tb)
 (hs:∀x,foldedSetIterable iter X.env x=pure x:=by intro _;rfl):PS X (.For tg iter body [] pos) (aOg wi g tb):=by
 intro pins s σ H D I h;refine wpAny_For (thn (hi pins s σ H _ I h) λv s1 h1=>thn h1 λitv s2 h2=>?_) hs;obtain⟨it,fp,tn,J,H2,e,I2,T,st2,f2,W,⟨m0,w0⟩,turn⟩:=h2;subst e
 -- what stays true of the iterator's objects through the loop
 have stat:∀{H':Hp},(∀b∈fp,H' b=none)->∀b∈fp,U_ X pins H' b:=λhn b hb=>⟨hn b hb,(f2 b hb).2⟩
 refine codeAny_forLoop_any (λn s'=>∃i σ' H',Inv X pins σ' H' s'/\tn i s'.heap/\(∀b∈fp,H' b=none)/\W i n σ' H') ?_ m0 ⟨0,σ,H2,I2,st2,λb hb=>(f2 b hb).1,w0⟩;rintro n s3 ⟨i,σ3,H3,I3,st3,fr3,w3⟩;rcases turn i n σ3 H3 w3 with ⟨stop,qn⟩|⟨go,N,hN,step⟩
 ·refine wpAny_passesOwn hp (thn (T.done X rfl rfl rfl hc i pins s3 σ3 H3 X.xe I3 (stat fr3) st3 stop) λr s4 ⟨hr,I4⟩=>?_);subst hr;exact wpAny_execs_nil ⟨σ3,H3,I4,qn⟩
 ·refine wpAny_passesOwn hp (thn (T.item X rfl rfl rfl hc i pins s3 σ3 H3 X.xe I3 (stat fr3) st3 go) λr s4 ⟨u,hr,h4⟩=>?_);subst hr;refine wpAny_passesOwn hp (thn h4 λ_ s5 ⟨x,H5,I5,r5,y5,st5,fr5⟩=>?_);have I5':=I5.pinned (stat fr5) (T.obj _ _ st5);refine wpAny_passesOwn hp (thn (hg _ s5 σ3 H5 x u _ I5' r5 (step x H5 y5)) λ_ s6 ⟨σ6,H6,I6,q6⟩=>?_);refine wpAny_passesOwn hp (thn (hb _ s6 σ6 H6 _ I6 q6) λf s7 q7=>?_);have again:∀{σ7:St}{H7:Hp},Inv X (pins++vN fp s5.heap) σ7 H7 s7->N σ7 H7->∃m,m<n/\∃i σ' H',Inv X pins σ' H' s7/\tn i s7.heap/\(∀b∈fp,H' b=none)/\W i m σ' H':=λ{σ7 H7} I7 n7=>by
   obtain⟨m',hm,w7⟩:=hN σ7 H7 n7;refine⟨m',hm,i+1,σ7,H7,I7.oM,T.keep _ _ _ st5 λb hb o e=>(I7.pin (b,o) (List.mem_append_right _ (List.mem_append_right _ (m9 hb e)))).1,λb hb=>?_,w7⟩;obtain⟨o,e,d⟩:=T.obj _ _ st5 b hb;exact(I7.pin (b,o) (List.mem_append_right _ (List.mem_append_right _ (m9 hb e)))).2.1
  cases f with
  |next=>obtain⟨σ7,H7,I7,n7⟩:=q7;exact again I7 n7
  |cont=>obtain⟨σ7,H7,I7,n7⟩:=q7;exact again I7 n7
  |brk=>obtain⟨σ7,H7,I7,q7⟩:=q7;exact⟨σ7,H7,I7.oM,q7⟩
  |ret v=>obtain⟨x7,σ7,H7,I7,r7,q7⟩:=q7;exact⟨x7,σ7,H7,I7.oM,r7,q7⟩
end
abbrev R2:=V->V->Hp->VK->Prop
def OpR(X:Cx)(f:Value->Value->Sem Value)(r:R2):Prop:=
 ∀(pins:List (Addr×Obj))(s:Shared)(σ:St)(H:Hp)(x y:V)(v u:Value)(Q:VK),Inv X pins σ H s->RelV x v->RelV y u->r x y H Q->
  wpAny (model X.prog X.w) X.A (f v u) (EP X pins σ Q) X.xe s
def UnR(X:Cx)(f:Value->Sem Value)(r:V->Hp->VK->Prop):Prop:=
 ∀(pins:List (Addr×Obj))(s:Shared)(σ:St)(H:Hp)(x:V)(v:Value)(Q:VK),Inv X pins σ H s->RelV x v->r x H Q->
  wpAny (model X.prog X.w) X.A (f v) (EP X pins σ Q) X.xe s
def nQ(X:Cx)(f:Value)(r:List V->Hp->VK->Prop):Prop:=
 ∀(pins:List (Addr×Obj))(s:Shared)(σ:St)(H:Hp)(xs:List V)(us:List Value)(Q:VK),Inv X pins σ H s->Vals xs us->r xs H Q->
  wpAny (model X.prog X.w) X.A (call f us) (EP X pins σ Q) X.xe s
def aPi(X:Cx)(r:V->Hp->(Bool->Hp->Prop)->Prop):Prop:=
 ∀(pins:List (Addr×Obj))(s:Shared)(σ:St)(H:Hp)(x:V)(v:Value)(Q:Bool->Hp->Prop),Inv X pins σ H s->RelV x v->r x H Q->
  wpAny (model X.prog X.w) X.A (truthy v) (TP X pins σ Q) X.xe s
noncomputable def tOp(r:R2)(ta tb:TE):TE:=λσ H Q=>ta σ H λx H1=>tb σ H1 λy H2=>r x y H2 Q
noncomputable def tUn(r:V->Hp->VK->Prop)(ta:TE):TE:=λσ H Q=>ta σ H λx H1=>r x H1 Q
noncomputable def rI(C:Int->Int->Prop)(g:Int->Int->V):R2:=λx y H Q=>∃i j,x=.int i/\y=.int j/\C i j/\Q (g i j) H
noncomputable def rI0(g:Int->Int->V):R2:=λx y H Q=>∃i j,x=.int i/\y=.int j/\Q (g i j) H
def rU(g:Int->V):V->Hp->VK->Prop:=λx H Q=>∃i,x=.int i/\Q (g i) H
section
def aMw(ha:PE X a ta)(hb:PE X b tb){R:V->V->Hp->Prop}(I:Inv X pins σ H s)
 (h:ta σ H λx H1=>tb σ H1 λy H2=>R x y H2){Q:Value->Shared->Prop}{f:Value->Value->Sem Value}
 (hf:∀v u s2 x y H2,Inv X pins σ H2 s2->RelV x v->RelV y u->R x y H2->wpAny (model X.prog X.w) X.A (f v u) Q X.xe s2) :
  wpAny (model X.prog X.w) X.A (eval a X.env) (λv s₁=>wpAny (model X.prog X.w) X.A (eval b X.env) (λu s₂=>wpAny (model X.prog X.w) X.A (f v u) Q X.xe s₂) X.xe s₁) X.xe s:=by
 refine thn (ha pins s σ H _ I h) λv s1 ⟨x,H1,I1,r1,q1⟩=>?_
 refine thn (hb pins s1 σ H1 _ I1 q1) λu s2 ⟨y,H2,I2,r2,q2⟩=>?_
 exact hf v u s2 x y H2 I2 r1 r2 q2
def aF9(ho:OpR X (binaryOp op) r)(ha:PE X a ta)(hb:PE X b tb):PE X (.BinOp a op b pos) (tOp r ta tb):=by
 intro pins s σ H Q I h;exact wpAny_BinOp (aMw ha hb I h λv u s2 x y H2 I2 rx ry q=>ho pins s2 σ H2 x y v u Q I2 rx ry q)
def aFa(ho:UnR X (unaryOp op) r)(ha:PE X a ta):PE X (.UnaryOp op a pos) (tUn r ta):=by
 intro pins s σ H Q I h;exact UnaryOp_ (thn (ha pins s σ H _ I h) λv s1 ⟨x,H1,I1,r1,q1⟩=>ho pins s1 σ H1 x v Q I1 r1 q1)
def opI{g:Int->Int->Int}
 (rule:∀(i j:Int) (t u:Tok) (s:Shared) (Q:Value->Shared->Prop) (E:Value->Shared->Prop),C i j->Q (.int (g i j) s.toks) {s with toks:=s.toks+1}->wpAny (model X.prog X.w) X.A (f (.int i t) (.int j u)) Q E s) :
  OpR X f (rI C λi j=>.int (g i j)):=by
 intro pins s σ H x y v u Q I rx ry h;obtain⟨i,j,rfl,rfl,hc,q⟩:=h;obtain⟨t,rfl⟩:=rx;obtain⟨t',rfl⟩:=ry;exact rule i j t t' s _ _ hc ⟨.int (g i j),H,I.tok _,⟨_,rfl⟩,q⟩
def aOh{g:Int->Int->Int}
 (rule:∀(i j:Int) (t u:Tok) (s:Shared) (Q:Value->Shared->Prop) (E:Value->Shared->Prop),Q (.int (g i j) s.toks) {s with toks:=s.toks+1}->wpAny (model X.prog X.w) X.A (f (.int i t) (.int j u)) Q E s) :
  OpR X f (rI0 λi j=>.int (g i j)):=by
 intro pins s σ H x y v u Q I rx ry h;obtain⟨i,j,rfl,rfl,q⟩:=h;obtain⟨t,rfl⟩:=rx;obtain⟨t',rfl⟩:=ry;exact rule i j t t' s _ _ ⟨.int (g i j),H,I.tok _,⟨_,rfl⟩,q⟩
def aPj(i j:Int):Prop:=0<j/\j<1073741824
def aMx(i j:Int):Prop:=(-(2 ^ 64)<i/\i<2 ^ 64)\/(-(2 ^ 64)<j/\j<2 ^ 64)
def aMx.ok(h:aMx i j):IntMulOk i j:=by
 rcases h with ⟨h1,h2⟩|⟨h1,h2⟩
 ·exact .of_left (intBits_le_64 h1 h2)
 ·exact .of_right (intBits_le_64 h1 h2)
def aIs:OpR X (binaryOp .Add) (rI0 λi j=>.int (i+j)):=aOh λ_ _ _ _ _ _ _ q=>add_int q
def aIt:OpR X (binaryOp .Sub) (rI0 λi j=>.int (i-j)):=aOh λ_ _ _ _ _ _ _ q=>sub_int q
def aIu:OpR X (binaryOp .Mult) (rI aMx λi j=>.int (i*j)):=opI λ_ _ _ _ _ _ _ hc q=>mul_int q hc.ok
def aFb:OpR X (binaryOp .FloorDiv) (rI aPj λi j=>.int (i / j)):=opI λi j _ _ _ _ _ hc q=>by
 have h1:(0:Int)<j:=hc.1;have h2:j<1073741824:=hc.2;exact floordiv_int 0x1 (by rw[Int.fdiv_eq_ediv_of_nonneg i 0x1];exact q) (.inl (PyProof.noPylong_small 0x1))
def aIv:OpR X (binaryOp .Mod) (rI (λ_ j=>0<j) λi j=>.int (i % j)):=opI λi j _ _ _ _ _ hc q=>by
 have h1:(0:Int)<j:=hc;exact mod_int' 0x1 (by rw[Int.fmod_eq_emod_of_nonneg i 0x1];exact q)
def unI{g:Int->Int}
 (rule:∀(i:Int) (t:Tok) (s:Shared) (Q:Value->Shared->Prop) (E:Value->Shared->Prop),Q (.int (g i) s.toks) {s with toks:=s.toks+1}->wpAny (model X.prog X.w) X.A (f (.int i t)) Q E s) :
  UnR X f (rU λi=>.int (g i)):=by
 intro pins s σ H x v Q I rx h;obtain⟨i,rfl,q⟩:=h;obtain⟨t,rfl⟩:=rx;exact rule i t s _ _ ⟨.int (g i),H,I.tok _,⟨_,rfl⟩,q⟩
def V3:UnR X (unaryOp .USub) (rU λi=>.int (-i)):=unI λ_ _ _ _ _ q=>neg_int q
end
section
variable {a b c:Expr}
def aIw(I:Inv X pins σ H s)(q:Q (.bl k) H)(e:k=k'):EP X pins σ Q (.bool k') s:=by
 subst e;exact⟨.bl k,H,I,rfl,q⟩
def V4:OpR X (compareOp .In) (λx y H Q=>∃i j,x=.str i/\y=.str j/\Q (.bl (!(Builtin.Str.occurrences j i 0 j.length 1).isEmpty)) H):=by
 intro pins s σ H x y v u Q I rx ry h;obtain⟨i,j,rfl,rfl,q⟩:=h;obtain⟨t,rfl⟩:=rx;obtain⟨t',rfl⟩:=ry;exact in_str (aIw I q rfl)
def cU(b:Expr)(h:op≠.In:=by decide)(h2:op≠.NotIn:=by decide):behindInMarks op b=false:=by
 have e1:(op==CmpOp.In)=false:=by cases op<;>first|rfl|exact absurd rfl h
 have e2:(op==CmpOp.NotIn)=false:=by cases op<;>first|rfl|exact absurd rfl h2
 cases b<;>simp[behindInMarks,e1,e2]
def aFc(ho:OpR X (compareOp op) r)(ha:PE X a ta)(hb:PE X b tb)(hm:behindInMarks op b=false):PE X (.Compare a [op] [b] pos) (tOp r ta tb):=by
 intro pins s σ H Q I h;exact wpAny_Compare1 (aMw ha hb I h λv u s2 x y H2 I2 rx ry q=>ho pins s2 σ H2 x y v u Q I2 rx ry q) hm
noncomputable def aMy(t:TE):TT:=λσ H Q=>t σ H λx H'=>∃k,x=.bl k/\Q k H'
def V5(ho:OpR X (compareOp op) r)(ha:PE X a ta)(hb:PE X b tb)(hm:behindInMarks op b=false):PT X (.Compare a [op] [b] pos) (aMy (tOp r ta tb)):=by
 intro pins s σ H Q I h;refine wpAny_isTrue_Compare1 (thn (ha pins s σ H _ I h) λv s1 ⟨x,H1,I1,r1,q1⟩=>thn (hb pins s1 σ H1 _ I1 q1) λu s2 ⟨y,H2,I2,r2,q2⟩=>
  thn (ho pins s2 σ H2 x y v u _ I2 r1 r2 q2) λc s3 ⟨z,H3,I3,r3,k,e,q3⟩=>?_) hm
 subst e;cases r3;exact wpAny_truthy_bool ⟨H3,I3,q3⟩
def aM8(K:PySem.W.Frag)(x:V)(H:Hp)(k:Bool):Prop:=
 match x with
 |.non=>k=false
 |.bl b=>k=b
 |.int i=>k=(i !=0)
 |.str y=>y.length<=sizeLine/\k=((y.length:Int)!=0)
 |.byt y=>y.size<=sizeLine/\k=((y.size:Int)!=0)
 |.ref p=>(∃xs,SqL K H p xs/\k=!xs.isEmpty)\/(∃xs,SqT K H p xs/\k=!xs.isEmpty)\/∃kvs,H p=some (.dK kvs)/\k=!kvs.isEmpty
 |_=>False
def R8(r:KV kvs vs):(!vs.isEmpty)=!kvs.isEmpty:=by
 cases r<;>rfl
def x_(r:Vals xs its):(!its.toArray.isEmpty)=!xs.isEmpty:=by
 cases r<;>simp
def vO:(sizeLine:Nat)<2 ^ 63:=by rw[sizeLine_eq];decide
def aIx:aPi X (λx H Q=>∃k,aM8 X.K x H k/\Q k H):=by
 intro pins s σ H x v Q I rx h;obtain⟨k,e,q⟩:=h;have hl:=vO;have hs:sizeLine=16777216:=sizeLine_eq;cases x with
 |non=>
  cases rx;have e':k=false:=e;subst e';exact truthy_none ⟨H,I,q⟩
 |bl b=>
  cases rx;have e':k=b:=e;subst e';exact wpAny_truthy_bool ⟨H,I,q⟩
 |int i=>
  obtain⟨t,rfl⟩:=rx;have e':k=(i !=0):=e;subst e';exact PySem.P.truthy_int ⟨H,I,q⟩
 |str y=>
  obtain⟨t,rfl⟩:=rx;obtain⟨hy,e'⟩:y.length<=sizeLine/\k=((y.length:Int)!=0):=e;subst e';exact PySem.P.truthy_str 0x1 ⟨H,I.tok _,q⟩
 |byt y=>
  obtain⟨t,rfl⟩:=rx;obtain⟨hy,e'⟩:y.size<=sizeLine/\k=((y.size:Int)!=0):=e;subst e';exact PySem.W.truthy_bytes 0x1 ⟨H,I.tok _,q⟩
 |ref p=>
  cases rx;have e':(∃xs,SqL X.K H p xs/\k=!xs.isEmpty)\/(∃xs,SqT X.K H p xs/\k=!xs.isEmpty)\/∃kvs,H p=some (.dK kvs)/\k=!kvs.isEmpty:=e;rcases e' with ⟨xs,hx,e'⟩|⟨xs,hx,e'⟩|⟨kvs,hx,e'⟩
  ·subst e';obtain⟨its,r,pl,hz⟩:=I.list hx;have hlen:=r.length;exact wpAny_truthy_list pl.isList (by simp only[List.size_toArray];lia) ⟨H,I.tok _,by rw[x_ r];exact q⟩
  ·subst e';obtain⟨its,r,pl,hz⟩:=I.tuple hx;have hlen:=r.length;exact truthy_tuple pl (by simp only[List.size_toArray];lia) ⟨H,I.tok _,by rw[x_ r];exact q⟩
  ·subst e';obtain⟨hz,hS,vs,r,m⟩:kvs.length<=sizeLine/\(p==sysModules)=false/\∃vs,KV kvs vs/\s.heap.DictOf (cC X.prog X.w) p vs:=I.hok p _ hx;have hlen:kvs.length=vs.length:=Paired.length r;exact wpAny_truthy_dict hS m 0x1 ⟨H,I.tok _,by rw[R8 r];exact q⟩
 |_=>exact(show False from e).elim
def OD(ha:PE X a ta)(he:∀whole,isTrue a X.env whole=(do let v <- whole;standAt a.pos;holding [v] (truthy v))) :
  PT X a (λσ H Q=>ta σ H λx H'=>∃k,aM8 X.K x H' k/\Q k H'):=by
 intro pins s σ H Q I h;exact isTrue_plain (thn (ha pins s σ H _ I h) λv s1 ⟨x,H1,I1,r1,q1⟩=>aIx pins s1 σ H1 x v Q I1 r1 q1) (he _)
def R9:OpR X (binaryOp .Add) (λx y H Q=>∃i j,x=.str i/\y=.str j/\i.length+j.length<=sizeLine/\Q (.str (i++j)) H):=by
 intro pins s σ H x y v u Q I rx ry h;obtain⟨i,j,rfl,rfl,hz,q⟩:=h;obtain⟨t,rfl⟩:=rx;obtain⟨t',rfl⟩:=ry;exact add_str (λt' tk=>⟨.str (i++j),H,I.tok _,⟨_,rfl⟩,q⟩) hz
def vals1(r:Vals [x] us):∃u,us=[u]/\RelV x u:=by
 cases r with
 |cons r1 r2=>cases r2;exact⟨_,rfl,r1⟩
end
structure aFd(h:Heap)(x dx C:Addr)(mA:Str->Option Value):Prop where
 obj:h.get? x=some (PySem.W.instObj C dx)
 ns:h.Ns1 dx mA
 ne:dx≠x
def V6{h:Heap}(n:h.Ns1 dx mA):∃od,h.get? dx=some od/\∀name,PySem.W.lookIn name od=some (mA name):=by
 obtain⟨o,es,ep,ho,hd,hk,_,hm⟩:=n;refine⟨o,ho,λname=>?_⟩;have e:=hm name;unfold nsFind findBy at e;rw[<-Array.find?_toList] at e;unfold PySem.W.lookIn;rw[hd];dsimp only;split
 ·rename_i y q;rw[q] at e;exact congrArg some e
 ·rename_i q;rw[q] at e;have a:es.toList.any (·.refKey)=false:=by
   rw[List.any_eq_false];intro y hy;obtain⟨z,t,hkey⟩:=hk y (Array.mem_toList_iff.mp hy);simp[DictEntry.refKey,hkey]
  have a':¬es.toList.any (·.refKey)=true:=by rw[a];exact Bool.false_ne_true
  rw[if_neg a'];exact congrArg some e
def aFd.look(I:aFd h x dx C mA):∃od,PySem.W.InstAt h x (PySem.W.instObj C dx) C (some od)/\∀name,PySem.W.lookIn name od=some (mA name):=
 let ⟨od,ho,hl⟩:=V6 I.ns
 ⟨od,⟨I.obj,rfl,rfl,ho⟩,hl⟩
section
variable {prog:Program} {w:World} {A:Around} {E:Value->Shared->Prop} {s:Shared} {K:PySem.W.Frag} {x dx C f:Addr} {mA:Str->Option Value} {name:Str} {v:Value}
def mG(X:K.In s.heap)(I:aFd s.heap x dx C mA)(hg:PySem.W.plainGet K C name=true)(hh:PySem.W.hasDictIn K C=true)
 (ha:PySem.W.findIn K (.ref C) name=some none)(hv:mA name=some v)(hv':PySem.W.handedIn v=true)(h:Q v {s with toks:=s.toks+1}) :
  wpAny (model prog w) A (getAttr (.ref x) name expr) Q E s:=by
 obtain⟨od,J,hl⟩:=I.look;exact PySem.W.get_value X J (PySem.W.plainGet_of hg).1 (PySem.W.findObj_own hh ha rfl (by rw[hl,hv])) hv' h
def aBd(X:K.In s.heap)(I:aFd s.heap x dx C mA)(hg:PySem.W.plainGet K C name=true)
 (hf:PySem.W.findIn K (.ref C) name=some (some (.ref f)))(ht:PySem.W.isFn K (.ref f)=true)(hv:mA name=none)(h:Q (.ref f,[.ref x]) s) :
  wpAny (model prog w) A (getMethod (.ref x) name pl) Q E s:=by
 obtain⟨od,J,hl⟩:=I.look;exact PySem.W.method_fn X J (PySem.W.plainGet_of hg).1 (PySem.W.plainGet_of hg).2 hf (beq_iff_eq.mp ht) (by show(PySem.W.lookIn name od).map (·.isSome)=some false;rw[hl,hv];rfl) h
def aFe(X:K.In s.heap)(I:aFd s.heap x dx C mA)
 (hs:PySem.W.findIn K (.ref C) "__setattr__"=some (some (.builtin "object.__setattr__")))(hp:PySem.W.plainOver K C=true)(ht:PySem.W.takerIn K C name=some none)(hh:PySem.W.hasDictIn K C=true)
 (hw:PySem.Within mA ns)(hsz:ns.length<=sizeLine)
 (h:∀h',aFd h' x dx C (λy=>if y=name then some v else mA y)->Heap.SameBut dx s.heap h'->Q () {s with heap:=h',toks:=s.toks+2}) :
  wpAny (model prog w) A (setAttr (.ref x) name v) Q E s:=by
 obtain⟨od,J,hl⟩:=I.look;refine PySem.W.set_plain X J hs (PySem.W.osa_open X J hp ht λb=>?_);obtain⟨cd,hc,hd'⟩:=PySem.W.any_some hh;have hx:s.heap.get? x=some ⟨.ref C,some dx,.plain,#[]⟩:=I.obj;refine wpAny_bind (wpAny_pure (wpAny_bind (wpAny_bind (wpAny_loadPart hx (wpAny_bind (PySem.W.Looks.here (PySem.W.looks_clsIn X hc) ?_))))));rw[hd'];refine wpAny_pure (wpAny_bind (wpAny_pure (wpAny_bind ?_)));refine wpAny_nsSet1 I.ns λh' hn2 hs2=>?_
 obtain⟨oD,esD,epD,hoD,hdD,hcD⟩:=hn2.count (PySem.Within.cons name v hw);refine wpAny_bind (wpAny_lookBehind hoD (by rw[hdD];exact pastItsLine_dict (Nat.le_trans hcD (by rw[List.length_cons];lia))) ?_);exact wpAny_pure (h _ ⟨(hs2.2 _ (Ne.symm I.ne)).trans I.obj,hn2,I.ne⟩ hs2)
def aBe(X:K.In s.heap)(hm:PySem.W.makesIn K C=true)
 (hi:PySem.W.findIn K (.ref C) "__init__"=some (some (.ref f)))(hf:PySem.W.typeIn K (.ref f)=some (.type "function"))
 (h:codeAny (model prog w) (A.under (.builtin "type.__call__" ⟨.ref C::vs,kw⟩)) (.call (.ref f) ⟨.ref (s.heap.objs.size+1)::vs,kw⟩) (PySem.W.InitBack (s.heap.objs.size+1) R)
   {s with heap:=(s.heap.push PySem.W.emptyDict).push (PySem.W.instObj C s.heap.objs.size)}) :
  codeAny (model prog w) A (.call (.ref C) ⟨vs,kw⟩) R s:=by
 obtain⟨hh,g,d,t,os⟩:=s;exact PySem.W.make_core (PySem.W.makes_of X hm) (PySem.W.looks_findIn X hi) (λself=>PySem.W.bind_fn X self hf) (.inl rfl) h
end
noncomputable def uI(f:Str)(v:V):List (Str×V)->List (Str×V)
 |[]=>[(f,v)]
 | (g,x)::r=>if g=f then (g,v)::r else (g,x)::uI f v r
theorem vP(f g:Str)(v:V):∀fs:List (Str×V),(uI f v fs).lookup g=if g=f then some v else fs.lookup g
 |[]=>by
  show List.lookup g [(f,v)]=_;by_cases h:g=f
  ·have hb:(g==f)=true:=beq_iff_eq.mpr h;simp only[List.lookup,hb,if_pos h]
  ·have hb:(g==f)=false:=beq_eq_false_iff_ne.mpr h;simp only[List.lookup,hb,if_neg h]
 | (k,x)::r=>by
  have ih:=vP f g v r;rw[show uI f v ((k,x)::r)=(if k=f then (k,v)::r else (k,x)::uI f v r) from rfl];by_cases hk:k=f
  ·rw[if_pos hk];by_cases h:g=k
   ·have hb:(g==k)=true:=beq_iff_eq.mpr h;simp only[List.lookup,hb,if_pos (h.trans hk)]
   ·have hb:(g==k)=false:=beq_eq_false_iff_ne.mpr h;simp only[List.lookup,hb,if_neg (λe:g=f=>h (e.trans hk.symm))]
  ·rw[if_neg hk];by_cases h:g=k
   ·have hb:(g==k)=true:=beq_iff_eq.mpr h;simp only[List.lookup,hb,if_neg (λe:g=f=>hk (h.symm.trans e))]
   ·have hb:(g==k)=false:=beq_eq_false_iff_ne.mpr h;simp only[List.lookup,hb];exact ih
theorem vQ(f:Str)(v:V):∀fs:List (Str×V),f∈(uI f v fs).map (·.1)/\∀g,g∈fs.map (·.1)->g∈(uI f v fs).map (·.1)
 |[]=>⟨by simp[uI],λg h=>by simp at h⟩
 | (k,x)::r=>by
  obtain⟨i1,i2⟩:=vQ f v r;rw[show uI f v ((k,x)::r)=(if k=f then (k,v)::r else (k,x)::uI f v r) from rfl];by_cases hk:k=f
  ·rw[if_pos hk];subst hk;exact⟨by simp,λg h=>by simpa using h⟩
  ·rw[if_neg hk];refine⟨?_,λg h=>?_⟩
   ·rw[List.map_cons];exact List.mem_cons_of_mem _ i1
   ·rw[List.map_cons] at h ⊢;rcases List.mem_cons.mp h with e|e
    ·exact List.mem_cons.mpr (.inl e)
    ·exact List.mem_cons_of_mem _ (i2 g e)
theorem vR(f:Str)(v:V):∀fs:List (Str×V),(uI f v fs).length<=fs.length+1
 |[]=>by simp[uI]
 | (k,x)::r=>by
  have ih:=vR f v r;rw[show uI f v ((k,x)::r)=(if k=f then (k,v)::r else (k,x)::uI f v r) from rfl];by_cases hk:k=f
  ·rw[if_pos hk,List.length_cons,List.length_cons];lia
  ·rw[if_neg hk,List.length_cons,List.length_cons];lia
def JV.some_of(r:JV (some v) o):∃u,o=some u/\RelV v u:=by
 cases o with
 |none=>exact(show False from r).elim
 |some u=>exact⟨u,rfl,r⟩
def JV.none_of(r:JV none o):o=none:=by
 cases o with
 |none=>rfl
 |some u=>exact(show False from r).elim
def V7(r:RelV v u):PySem.W.handedIn u=true:=by
 cases v with
 |non=>cases (show u=Value.none from r);rfl
 |bl b=>cases (show u=Value.bool b from r);rfl
 |int i=>obtain⟨t,e⟩:=(show ∃t,u=Value.int i t from r);cases e;rfl
 |str x=>obtain⟨t,e⟩:=(show ∃t,u=Value.str x t from r);cases e;rfl
 |byt b=>obtain⟨t,e⟩:=(show ∃t,u=Value.bytes b t from r);cases e;rfl
 |flt b=>obtain⟨t,e⟩:=(show ∃t,u=Value.float b t from r);cases e;rfl
 |ref a=>cases (show u=Value.ref a from r);rfl
 |ty n=>cases (show u=Value.type n from r);rfl
section
def J7(hok:HOk P w H h)(e:H a=some (.ins C dx fs)):∃mA,aFd h a dx C mA/\(∀f,JV (fs.lookup f) (mA f))/\PySem.Within mA (fs.map (·.1))/\fs.length<=1000/\H dx=some (.own a):=by
 obtain⟨d,z,ne,ob,mA,n,r,q⟩:=(show gQ P w H h a (.ins C dx fs) from hok a _ e)
 exact⟨mA,⟨ob,n,ne⟩,r,q,z,d⟩
end
structure Cls(K:PySem.W.Frag)(C:Addr):Prop where
 pg:PySem.W.plainGet K C Str.empty=true
 hd:PySem.W.hasDictIn K C=true
 po:PySem.W.plainOver K C=true
 sa:PySem.W.findIn K (.ref C) "__setattr__"=some (some (.builtin "object.__setattr__"))
def Cls.get{K:PySem.W.Frag}(c:Cls K C)(f:Str):PySem.W.plainGet K C f=true:=c.pg
def cD(K:PySem.W.Frag)(C:Addr)(f:Str):Prop:=PySem.W.findIn K (.ref C) f=some none
def cD.taker{K:PySem.W.Frag}(n:cD K C f):PySem.W.takerIn K C f=some none:=by
 unfold PySem.W.takerIn;rw[show PySem.W.findIn K (.ref C) f=some none from n];rfl
structure Meth(K:PySem.W.Frag)(C:Addr)(m:Str)(f:Addr):Prop where
 at_:PySem.W.findIn K (.ref C) m=some (some (.ref f))
 fn:PySem.W.isFn K (.ref f)=true
 kp:PySem.W.keepIn K (.ref f)=true
section
def R_(I:Inv X pins σ H s)(e:H a=some (.ins C dx fs))(c:Cls X.K C)(n:cD X.K C f)(l:fs.lookup f=some v)
 (h:∀u s',Inv X pins σ H s'->RelV v u->Q u s'):wpAny (model X.prog X.w) A (getAttr (.ref a) f b) Q E s:=by
 obtain⟨mA,O,r,_,_,_⟩:=J7 I.hok e;obtain⟨u,hu,ru⟩:=JV.some_of (by rw[<-l];exact r f);exact mG I.kIn O (c.get f) c.hd n hu (V7 ru) (h u _ (I.tok _) ru)
def SJ(I:Inv X pins σ H s)(e:H a=some (.ins C dx fs))(c:Cls X.K C)(k:Meth X.K C m g)(l:fs.lookup m=none)
 (h:Q (.ref g,[.ref a]) s):wpAny (model X.prog X.w) A (getMethod (.ref a) m pl) Q E s:=by
 obtain⟨mA,O,r,_,_,_⟩:=J7 I.hok e;have hn:mA m=none:=JV.none_of (by rw[<-l];exact r m);exact aBd I.kIn O (c.get m) k.at_ k.fn hn h
def SM(I:Inv X pins σ H s)(e:H a=some (.ins C dx fs))(c:Cls X.K C)(n:cD X.K C f)(hl:fs.length<1000)(ry:RelV y u)
 (h:∀s',Inv X pins σ (upd H a (.ins C dx (uI f y fs))) s'->Q () s'):wpAny (model X.prog X.w) A (setAttr (.ref a) f u) Q E s:=by
 obtain⟨mA,O,r,wi,_,ho⟩:=J7 I.hok e;have hz:(fs.map (·.1)).length<=sizeLine:=by rw[List.length_map,sizeLine_eq];lia
 refine aFe I.kIn O c.sa c.po n.taker c.hd wi hz λh' O' sb=>h _ ?_
 have hd:∃o,h'.get? dx=some o:=let ⟨o,_,_,e',_⟩:=O'.ns;⟨o,e'⟩
 refine I.write (by rw[e];exact True.intro) (.inr ho) (λb q hb z=>(sb.2 b hb).trans z) hd ?_;refine⟨by rw[aR O.ne];exact ho,?_,O.ne,O'.obj,_,O'.ns,λg=>?_,λg hg=>?_⟩
 ·have:=vR f y fs;lia
 ·show JV ((uI f y fs).lookup g) (if g=f then some u else mA g);rw[vP];by_cases q:g=f
  ·rw[if_pos q,if_pos q];exact ry
  ·rw[if_neg q,if_neg q];exact r g
 ·by_cases q:g=f
  ·rw[q];exact(vQ f y fs).1
  ·refine(vQ f y fs).2 g (wi g λz=>hg ?_);show(if g=f then some u else mA g)=none;rw[if_neg q];exact z
def Inv.made(I:Inv X pins σ H s):Inv X pins σ (upd (upd H s.heap.objs.size (.own (s.heap.objs.size+1))) (s.heap.objs.size+1) (.ins C s.heap.objs.size []))
  {s with heap:=(s.heap.push PySem.W.emptyDict).push (PySem.W.instObj C s.heap.objs.size)}:=by
 have e1:(s.heap.push PySem.W.emptyDict).get? s.heap.objs.size=some PySem.W.emptyDict:=Heap.get?_push_size s.heap rfl;have e2:((s.heap.push PySem.W.emptyDict).push (PySem.W.instObj C s.heap.objs.size)).get? (s.heap.objs.size+1)=some (PySem.W.instObj C s.heap.objs.size):=by
  have:=Heap.get?_push_size (s.heap.push PySem.W.emptyDict) (o:=PySem.W.instObj C s.heap.objs.size) rfl;rwa [Heap.size_push] at this
 have e3:(s.heap.push PySem.W.emptyDict).Ns s.heap.objs.size (λ_=>none):=⟨PySem.W.emptyDict,#[],_,e1,rfl,(λe he=>absurd he 0x2),λ_=>rfl⟩
 have I1:=I.laid (o:=.own (s.heap.objs.size+1)) (h':=s.heap.push PySem.W.emptyDict) (t':=s.toks) (λb u q=>Heap.get?_push_of_some _ q) (Nat.le_refl _) ⟨_,e1⟩;refine I1.laid (a:=s.heap.objs.size+1) (o:=.ins C s.heap.objs.size []) (t':=s.toks) (λb u q=>Heap.get?_push_of_some _ q) (Nat.le_of_eq (Heap.size_push _ _)) ?_;have ne:s.heap.objs.size≠s.heap.objs.size+1:=Nat.ne_of_lt (Nat.lt_succ_self _);refine⟨by rw[aR ne,aH],Nat.zero_le _,ne,e2,λ_=>none,(Heap.Ns1.of_empty e3).at λo q=>Heap.get?_push_of_some _ q,λ_=>True.intro,λy hy=>absurd rfl hy⟩
def aFf(hb:attributeBase e f env (eval e env)=eval e env)
 (h:wpAny (model prog w) A (eval e env) (λo s₁=>wpAny (model prog w) A (getAttr o f true) Q E s₁) E s):wpAny (model prog w) A (eval (.Attribute e f pos) env) Q E s:=
 Attribute_any_ h (by rw[arm_eval_Attribute,hb])
end
noncomputable def OJ(K:PySem.W.Frag)(ta:TE)(f:Str):TE:=λσ H Q=>ta σ H λx H1=>∃a C dx fs v,x=.ref a/\H1 a=some (.ins C dx fs)/\Cls K C/\cD K C f/\fs.lookup f=some v/\Q v H1
def aIa(K:PySem.W.Frag)(ta tv:TE)(f:Str):TS:=λD σ H=>tv σ H λy H1=>ta σ H1 λx H2=>∃a C dx fs,x=.ref a/\H2 a=some (.ins C dx fs)/\Cls K C/\cD K C f/\fs.length<1000/\
 D.nx σ (upd H2 a (.ins C dx (uI f y fs)))
section
def jO(he:PE X e ta)(hb:attributeBase e f X.env (eval e X.env)=eval e X.env):PE X (.Attribute e f pos) (OJ X.K ta f):=by
 intro pins s σ H Q I h;refine aFf hb (thn (he pins s σ H _ I h) λu s1 ⟨x,H1,I1,rx,a,C,dx,fs,v,ex,ea,c,n,l,q⟩=>?_);subst ex;obtain rfl:u=Value.ref a:=rx;exact R_ I1 ea c n l λu' s2 I2 ru=>⟨v,H1,I2,ru,q⟩
def jP(ha:PE X o ta)(hv:PE X value tv)(hs:swapsWith value (some (.Attribute o f pos')) pos.line X.env=pure false):PS X (.Assign [.Attribute o f pos'] value pos) (aIa X.K ta tv f):=by
 intro pins s σ H D I h;refine plainObj_wpAny_Assign_Attribute (thn (hv pins s σ H _ I h) λu s1 ⟨y,H1,I1,ry,q⟩=>thn (ha pins s1 σ H1 _ I1 q) λov s2 ⟨x,H2,I2,rx,a,C,dx,fs,ex,ea,c,n,l,q2⟩=>?_) hs;subst ex;obtain rfl:ov=Value.ref a:=rx;exact SM I2 ea c n l ry λs3 I3=>⟨σ,_,I3,q2⟩
end
structure lX(k:Nat)(A:Around):Prop where
 hd:A.handled=none
 dp:A.depth+3*k+5<recursionLimit
 un:A.units+16*k+200<cLine
def lX.mono(r:lX k A)(h:j<=k):lX j A:=⟨r.hd,by have:=r.dp;lia,by have:=r.un;lia⟩
def lX.deeper(r:lX (k+1) A)(env:Env):lX k (A.deeper env):=
 ⟨r.hd,by have:=r.dp;show A.depth+1+3*k+5<_;lia,by have:=r.un;show A.units+3+16*k+200<_;lia⟩
def SN{A:Around}:(A.under (.builtin "type.__call__" ⟨.ref C::us,kw⟩)).depth=A.depth+1:=by
 first|rfl|simp[Around.under,Code.weight,Code.isCreation,Code.isGuard,Code.isCaller,Code.frames,Code.isFrame,guardIds]
def SQ{A:Around}:(A.under (.builtin "type.__call__" ⟨.ref C::us,kw⟩)).units=A.units+1:=by
 first|rfl|simp[Around.under,Code.cUnits,Code.frames,Code.isFrame]
def lX.make(r:lX (k+1) A)(C:Addr)(us:List Value)(kw:List (Str×Value)):lX k (A.under (.builtin "type.__call__" ⟨.ref C::us,kw⟩)):=
 ⟨r.hd,by have:=r.dp;rw[SN];lia,by have:=r.un;rw[SQ];lia⟩
def lX.depth(r:lX k A):A.depth<recursionLimit:=by have:=r.dp;lia
def lX.units(r:lX k A):A.units+64<cLine:=by have:=r.un;lia
noncomputable def vU:TA:=λ_ H Q=>Q [] H
noncomputable def dG(ta:TE)(tr:TA):TA:=λσ H Q=>ta σ H λx H1=>tr σ H1 λxs H2=>Q (x::xs) H2
section
variable {t:TA}
def dZ:PA X [] vU:=λ_ _ _ _ H Q I h=>Calls.spliced_nil ⟨[],H,I,.nil,h⟩
def bJ(ha:PE X e te)(hr:PA X es t)(hs:starEach (e::es) X.env=(false,eval e X.env)::starEach es X.env:=by rfl):PA X (e::es) (dG te t):=by
 intro pos pins s σ H Q I h;rw[hs];show wpAny _ _ (spliced ((false,eval e X.env)::backTo pos (starEach es X.env))) _ _ s;refine Calls.spliced_cons (thn (ha pins s σ H _ I h) λu s1 ⟨x,H1,I1,r1,q1⟩=>?_);exact thn (hr pos pins s1 σ H1 _ I1 q1) λus s2 ⟨xs,H2,I2,r2,q2⟩=>⟨x::xs,H2,I2,.cons r1 r2,q2⟩
def aOi(t:TA):TE:=λσ H Q=>t σ H λxs H1=>xs.length<=sizeLine/\∀p,H1 p=none->Q (.ref p) (upd H1 p (.tup xs))
def aM9(t:TA):TE:=λσ H Q=>t σ H λxs H1=>xs.length<=sizeLine/\∀p,H1 p=none->Q (.ref p) (upd H1 p (.lst xs))
def aDu{x1}(h:PA X es t):PE X (.Tuple es x1 pos) (aOi t):=by
 intro pins s σ H Q I hq;refine wpAny_Tuple_spliced (thn (h pos pins s σ H _ I hq) λus s1 ⟨xs,H1,I1,r,z,q⟩=>⟨by rw[<-r.length];exact z,?_⟩);have hf:H1 s1.heap.objs.size=none:=I1.hok.fresh (Nat.le_refl _);refine⟨.ref s1.heap.objs.size,upd H1 s1.heap.objs.size (.tup xs),I1.laid (λb u e=>Heap.get?_push_of_some _ e) (Nat.le_refl _) ?_,rfl,q _ hf⟩;exact⟨z,us,r,⟨_,Heap.get?_push_size _ rfl,rfl,_,rfl⟩⟩
def O3(h:PA X es t):PE X (.List es pos) (aM9 t):=by
 intro pins s σ H Q I hq;refine wpAny_List_spliced (thn (h pos pins s σ H _ I hq) λus s1 ⟨xs,H1,I1,r,z,q⟩=>⟨by rw[<-r.length];exact z,?_⟩);have hf:H1 s1.heap.objs.size=none:=I1.hok.fresh (Nat.le_refl _);refine⟨.ref s1.heap.objs.size,upd H1 s1.heap.objs.size (.lst xs),I1.laid (λb u e=>Heap.get?_push_of_some _ e) (Nat.le_refl _) ?_,rfl,q _ hf⟩;exact⟨z,us,0,r,Heap.get?_push_size _ rfl⟩
end
abbrev Sp:=List V->Hp->VK->XK->Prop
abbrev CXT:=List Env->Hp->Shared->XK->Value->Shared->Prop
structure aFg(P:Program)(w:World)(K:PySem.W.Frag)(mg:Str->Option Value)(base:Heap)(A:Around)(outer:List Env)(s:Shared)(H:Hp):Prop where
 frames:A.frames=some outer
 mod:Mod K mg base
 bs:∀b o,base.get? b=some o->s.heap.get? b=some o/\H b=none
 bsz:base.objs.size<=s.heap.objs.size
 R4:s.heap.FunFrames base outer
 frf:∀b∈frs outer,H b=none
 hok:HOk P w H s.heap
 bare:AllBare s.gens
def CE(outer:List Env)(P:Program)(w:World)(H:Hp)(s:Shared)(Q:VK)(u:Value)(s':Shared):Prop:=
 ∃v H',s'.os=s.os/\AllBare s'.gens/\Un (frs outer) [] H H' s.heap s'.heap/\HOk P w H' s'.heap/\RelV v u/\Q v H'
def CR(CX:CXT)(outer:List Env)(P:Program)(w:World)(H:Hp)(s:Shared)(Q:VK)(E:XK)(r:Result)(s':Shared):Prop:=
 match r with
 |.ok (.ret u)=>CE outer P w H s Q u s'
 |.ok _=>False
 |.error e=>CX outer H s E e s'
structure lR(P:Program)(w:World)(K:PySem.W.Frag)(mg:Str->Option Value)(base:Heap)(CX:CXT)(k:Nat)(f:Addr)(fd:FuncData)(ps:List Str)(sp:Sp):Prop where
 len:∀vs H Q E,sp vs H Q E->vs.length=ps.length
 run:∀(A:Around)(outer:List Env)(s:Shared)(H:Hp)(args:Args)(us:List Value)(vs:List V)(Q:VK)(E:XK),lX k A->aFg P w K mg base A outer s H->BindsTo s fd args (ps.zip us)->Vals vs us->sp vs H Q E->
  codeAny (model P w) A (.call (.ref f) args) (CR CX outer P w H s Q E) s
def aFg.make{K:PySem.W.Frag}{mg:Str->Option Value}{base:Heap}{A:Around}{outer:List Env}{s:Shared}{H:Hp}(e:aFg P w K mg base A outer s H)(C:Addr)(us:List Value)(kw:List (Str×Value)) :
  aFg P w K mg base (A.under (.builtin "type.__call__" ⟨.ref C::us,kw⟩)) outer s H:=⟨by first|exact e.frames|(simpa[Around.under,Code.envs,Code.isFrame,pushEnvs] using e.frames),e.mod,e.bs,e.bsz,e.R4,e.frf,e.hok,e.bare⟩
section
def Inv.env0(I:Inv X pins σ H s):aFg X.prog X.w X.K X.mg X.base X.A X.stack s H:=
 ⟨I.ok.frames,I.ok.mod,I.bs,Nat.le_trans I.ok.bsz I.sz,I.stack,I.J4,I.hok,I.bare⟩
def Inv.after(I:Inv X pins σ H s)(h:CE X.stack X.prog X.w H s Q u s'):EP X pins σ Q u s':=by
 obtain⟨v,H',os,bare,un,hok,r,q⟩:=h;obtain⟨hh,g,d,t,os'⟩:=s';obtain rfl:os'=s.os:=os;exact⟨v,H',I.call un hok bare (λb z=>absurd z 0x2),r,q⟩
end
noncomputable def aMz(sp:Sp)(dvs:List V)(E:XK)(t:TA):TE:=λσ H Q=>t σ H λvs H1=>sp (vs++dvs) H1 Q E
noncomputable def SX(C:Addr)(m:Str)(sp:Sp)(dvs:List V)(E:XK)(ta:TE)(t:TA):TE:=λσ H Q=>ta σ H λx H1=>∃a dx fs,x=.ref a/\H1 a=some (.ins C dx fs)/\fs.lookup m=none/\
 t σ H1 λvs H2=>sp (x::(vs++dvs)) H2 Q E
def aN0(C:Addr)(sp:Sp)(dvs:List V)(E:XK)(t:TA):TE:=λσ H Q=>t σ H λvs H1=>∀x dx,H1 x=none->H1 dx=none->dx≠x->
 sp (.ref x::(vs++dvs)) (upd (upd H1 dx (.own x)) x (.ins C dx [])) (λv H2=>v=.non/\Q (.ref x) H2) E
def Binds(K:PySem.W.Frag)(fd:FuncData)(ps:List Str)(ds:List Value):Prop:=
 ∀(s:Shared)(us:List Value),K.In s.heap->(us++ds).length=ps.length->BindsTo s fd ⟨us,[]⟩ (ps.zip (us++ds))
def Binds.all{K:PySem.W.Frag}(h:∀us:List Value,us.length=ps.length->bindArgs fd ⟨us,[]⟩=pure (ps.zip us)):Binds K fd ps []:=λs us _ hl=>by
 rw[List.append_nil] at hl ⊢;exact .of_eq (h us hl)
def vV(CX:CXT)(X:Cx)(E:XK):Prop:=∀(pins:List (Addr×Obj))(σ:St)(H:Hp)(s:Shared)(e:Value)(s':Shared),Inv X pins σ H s->CX X.stack H s E e s'->X.xe e s'
section
variable {f C:Addr}
def aDv(F:lR X.prog X.w X.K X.mg X.base CX k f fd ps sp)(hr:lX k X.A)(hb:Binds X.K fd ps ds)(hd:Vals dvs ds)(hx:vV CX X E)
 (I:Inv X pins σ H s)(r:Vals vs us)(h:sp (vs++dvs) H Q E):wpAny (model X.prog X.w) X.A (call (.ref f) us) (EP X pins σ Q) X.xe s:=by
 have r2:Vals (vs++dvs) (us++ds):=r.append hd;have hl:(us++ds).length=ps.length:=by rw[<-r2.length];exact F.len _ _ _ _ h
 refine wpAny_call (codeAny_mono (F.run X.A X.stack s H ⟨us,[]⟩ (us++ds) (vs++dvs) Q E hr I.env0 (hb s us I.kIn hl) r2 h) λr s' hq=>?_);cases r with
 |error e=>exact hx pins σ H s e s' I hq
 |ok fl=>
  cases fl with
  |ret u=>exact I.after hq
  |next=>exact False.elim hq
  |brk=>exact False.elim hq
  |cont=>exact False.elim hq
def V8(F:lR X.prog X.w X.K X.mg X.base CX k f fd ps sp)(hr:lX k X.A)(hg:Gl X x)(hm:X.mg x=some (.ref f))(hk:PySem.W.keepIn X.K (.ref f)=true)(hb:Binds X.K fd ps ds)(hd:Vals dvs ds)(hx:vV CX X E)
 (ha:PA X (e::es) t)(hdb:nDb x:=by decide)(he:starEach (e::es) X.env=(false,eval e X.env)::starEach es X.env:=by rfl)(hpl:(backTo pos (starEach es X.env)).any (·.1)=false:=by rfl) :
  PE X (.Call (.Name x p) (e::es) [] pos) (aMz sp dvs E t):=by
 intro pins s σ H Q I h;refine wpAny_Call_Name_kw (p_ I hg hm ?_ hdb);refine PySem.W.callWith_K I.ok.mod.kin hk (thn (ha pos pins s σ H _ I h) λus s1 ⟨vs,H1,I1,r,q⟩=>⟨I1.kIn,?_⟩) he hpl;exact aDv F hr hb hd hx I1 r q
def zE(he:PE X o ta)(c:Cls X.K C)(hm:Meth X.K C m f)(F:lR X.prog X.w X.K X.mg X.base CX k f fd ps sp)(hr:lX k X.A)(hb:Binds X.K fd ps ds)(hd:Vals dvs ds)(hx:vV CX X E)(ha:PA X (e::es) t)
 (hst:starEach (e::es) X.env=(false,eval e X.env)::starEach es X.env:=by rfl)(hpl:(backTo pos (starEach es X.env)).any (·.1)=false:=by rfl)
 (ht:eval (.Call (.Attribute o m apos) (e::es) [] pos) X.env=(do
   let ov <- eval o X.env
   standAt apos.atName
   let (f,first) <- holding [ov] (getMethod ov m pl)
   callWith pos f first (backTo pos (starEach (e::es) X.env)) (backToKw pos (keywordEach [] X.env))):=by rfl) :
  PE X (.Call (.Attribute o m apos) (e::es) [] pos) (SX C m sp dvs E ta t):=by
 intro pins s σ H Q I h;refine PySem.W.methodCall_KW (thn (he pins s σ H _ I h) λu s1 ⟨x,H1,I1,rx,a,dx,fs,ex,ea,l,q⟩=>?_) ht;subst ex;obtain rfl:u=Value.ref a:=rx;refine SJ I1 ea c hm l ?_;refine PySem.W.callWith_K I.ok.mod.kin hm.kp (thn (ha pos pins s1 σ H1 _ I1 q) λus s2 ⟨vs,H2,I2,r,q2⟩=>⟨I2.kIn,?_⟩) hst hpl;exact aDv (us:=.ref a::us) (vs:=.ref a::vs) F hr hb hd hx I2 (.cons rfl r) q2
structure Mk(K:PySem.W.Frag)(C f:Addr):Prop where
 makes:PySem.W.makesIn K C=true
 init:PySem.W.findIn K (.ref C) "__init__"=some (some (.ref f))
 fn:PySem.W.isFn K (.ref f)=true
 kp:PySem.W.keepIn K (.ref C)=true
def aBf(M:Mk X.K C f)(F:lR X.prog X.w X.K X.mg X.base CX k f fd ps sp)(hr:lX (k+1) X.A)(hb:Binds X.K fd ps ds)(hd:Vals dvs ds)
 (hx:vV CX X E)(I:Inv X pins σ H s)(r:Vals vs us)
 (h:∀x dx,H x=none->H dx=none->dx≠x->sp (.ref x::(vs++dvs)) (upd (upd H dx (.own x)) x (.ins C dx [])) (λv H2=>v=.non/\Q (.ref x) H2) E) :
  wpAny (model X.prog X.w) X.A (call (.ref C) us) (EP X pins σ Q) X.xe s:=by
 have hq:=h (s.heap.objs.size+1) s.heap.objs.size (I.hok.fresh (Nat.le_succ _)) (I.hok.fresh (Nat.le_refl _)) (Nat.ne_of_lt (Nat.lt_succ_self _));have I2:=Inv.made (C:=C) I;have r2:Vals (V.ref (s.heap.objs.size+1)::(vs++dvs)) (Value.ref (s.heap.objs.size+1)::(us++ds)):=.cons rfl (r.append hd);have hl:(Value.ref (s.heap.objs.size+1)::us++ds).length=ps.length:=by
  have e:=r2.length;rw[F.len _ _ _ _ hq] at e;exact e.symm
 refine wpAny_call (aBe (f:=f) I.kIn M.makes M.init (beq_iff_eq.mp M.fn) (codeAny_mono (F.run _ X.stack _ _ ⟨Value.ref (s.heap.objs.size+1)::us,[]⟩ (Value.ref (s.heap.objs.size+1)::(us++ds)) _ _ E (hr.make C us [])
  (I2.env0.make C us []) (hb _ (Value.ref (s.heap.objs.size+1)::us) I2.kIn hl) r2 hq) λr s' hq'=>?_))
 cases r with
 |error e=>exact hx pins σ _ _ e s' I2 hq'
 |ok fl=>
  cases fl with
  |ret u=>
   obtain⟨v,H',I3,rv,ev,q3⟩:=I2.after hq';subst ev;exact⟨rv,⟨V.ref (s.heap.objs.size+1),H',I3,rfl,q3⟩⟩
  |next=>exact False.elim hq'
  |brk=>exact False.elim hq'
  |cont=>exact False.elim hq'
def aFh(M:Mk X.K C f)(F:lR X.prog X.w X.K X.mg X.base CX k f fd ps sp)(hr:lX (k+1) X.A)(hg:Gl X x)(hm:X.mg x=some (.ref C))(hb:Binds X.K fd ps ds)(hd:Vals dvs ds)(hx:vV CX X E)
 (ha:PA X (e::es) t)(hdb:nDb x:=by decide)(he:starEach (e::es) X.env=(false,eval e X.env)::starEach es X.env:=by rfl)(hpl:(backTo pos (starEach es X.env)).any (·.1)=false:=by rfl) :
  PE X (.Call (.Name x p) (e::es) [] pos) (aN0 C sp dvs E t):=by
 intro pins s σ H Q I h;refine wpAny_Call_Name_kw (p_ I hg hm ?_ hdb);refine PySem.W.callWith_K I.ok.mod.kin M.kp (thn (ha pos pins s σ H _ I h) λus s1 ⟨vs,H1,I1,r,q⟩=>⟨I1.kIn,?_⟩) he hpl;exact aBf M F hr hb hd hx I1 r q
end
structure bY(N P:List Str)(sc:Scope):Prop where
 kind:sc.kind=.function
 co:sc.isCoroutine=false
 gen:sc.isGenerator=false
 nd:N.Nodup
 pre:N.take P.length=P
 par:∀x∈P,sc.names.lookup x=some .local\/sc.names.lookup x=some .cell
 nofree:∀y∈sc.names,y.2≠.free
theorem DR{kindOf:Str->Option NameKind}:∀{binds:List (Str×Value)}{m:Str->Option Value},(∀v,(x,v)∉binds)->bindL kindOf binds m x=m x
 |[],_,_=>rfl
 | (n,v)::r,m,h=>by
  unfold bindL;rw[DR λw hw=>h w (List.mem_cons_of_mem _ hw)];split
  ·have:x≠n:=by rintro rfl;exact h v List.mem_cons_self
   simp[this]
  ·rfl
theorem DW{kindOf:Str->Option NameKind}:∀{binds:List (Str×Value)}{m:Str->Option Value},(∀v,(x,v)∉binds)->bindC kindOf binds m x=m x
 |[],_,_=>rfl
 | (n,v)::r,m,h=>by
  unfold bindC;rw[DW λw hw=>h w (List.mem_cons_of_mem _ hw)];split
  ·rfl
  ·have:x≠n:=by rintro rfl;exact h v List.mem_cons_self
   simp[this]
theorem DX{kindOf:Str->Option NameKind}:∀{P:List Str}{vs:List Value}{i:Nat}{m:Str->Option Value},P.Nodup->P[i]?=some x->vs[i]?=some v->kindOf x=some .local->
  bindL kindOf (P.zip vs) m x=some v
 |[],_,_,_,_,h,_,_=>by simp at h
 |_::_,[],_,_,_,_,h,_=>by simp at h
 |p::P,w::vs,0,m,nd,h1,h2,hk=>by
  simp at h1 h2;subst h1;subst h2;show bindL kindOf ((p,w)::P.zip vs) m p=_;unfold bindL;rw[DR λv hv=>(List.nodup_cons.mp nd).1 (List.of_mem_zip hv).1,if_pos hk];simp
 |p::P,w::vs,i+1,m,nd,h1,h2,hk=>by
  show bindL kindOf ((p,w)::P.zip vs) m x=_;unfold bindL;exact DX (List.nodup_cons.mp nd).2 (by simpa using h1) (by simpa using h2) hk
theorem DY{kindOf:Str->Option NameKind}:∀{P:List Str}{vs:List Value}{i:Nat}{m:Str->Option Value},P.Nodup->P[i]?=some x->vs[i]?=some v->kindOf x≠some .local->
  bindC kindOf (P.zip vs) m x=some v
 |[],_,_,_,_,h,_,_=>by simp at h
 |_::_,[],_,_,_,_,h,_=>by simp at h
 |p::P,w::vs,0,m,nd,h1,h2,hk=>by
  simp at h1 h2;subst h1;subst h2;show bindC kindOf ((p,w)::P.zip vs) m p=_;unfold bindC;rw[DW λv hv=>(List.nodup_cons.mp nd).1 (List.of_mem_zip hv).1,if_neg hk];simp
 |p::P,w::vs,i+1,m,nd,h1,h2,hk=>by
  show bindC kindOf ((p,w)::P.zip vs) m x=_;unfold bindC;exact DY (List.nodup_cons.mp nd).2 (by simpa using h1) (by simpa using h2) hk
noncomputable def start(N:List Str)(vs:List V):St:=vs.map some++List.replicate (N.length-vs.length) none
noncomputable def JW(CX:CXT)(P:Program)(w:World)(K:PySem.W.Frag)(mg:Str->Option Value)(base:Heap)(N:List Str)(qual:Str)(scope:Scope)(f:Addr)(cd:Value)(A:Around)(outer:List Env)(s:Shared)(H:Hp)(E:XK):Cx where
 prog:=P
 w:=w
 K:=K
 mg:=mg
 base:=base
 A:=A.deeper (envOfC qual scope s.heap.objs.size f cd)
 N:=N
 s₀:=s
 H₀:=H
 env:=envOfC qual scope s.heap.objs.size f cd
 outer:=outer
 stack:=envOfC qual scope s.heap.objs.size f cd::outer
 ex:=[]
 calm:=true
 fn:=λ_=>true
 pn:=[]
 xe:=λe s'=>wpAny (model P w) (A.deeper (envOfC qual scope s.heap.objs.size f cd)) (leaving (envOfC qual scope s.heap.objs.size f cd) e) (λ_ s''=>CX outer H s E e s'') (λe' s''=>CX outer H s E e' s'') s'
def O4{sc:Scope}(h:sc.names.lookup x=some .cell):∃c,(cellsFrom n sc.names []).lookup x=some c:=by
 have q:=PySem.W.cellsFrom_some sc.names n [] (.inl h);exact Option.isSome_iff_exists.mp q
def V9{CX:CXT}{P:Program}{w:World}{K:PySem.W.Frag}{mg:Str->Option Value}{base:Heap}{N ps:List Str}{qual:Str}{scope:Scope}{f:Addr}{cd:Value}{A:Around}{outer:List Env}{s s1:Shared}{H:Hp}{E:XK}{us:List Value}{vs:List V}
 (S:bY N ps scope)(hd:A.handled=none)(e0:aFg P w K mg base A outer s H)(hl:vs.length=ps.length)(r:Vals vs us)
 (x:InCallC s s.heap.objs.size (bindL (envOfC qual scope s.heap.objs.size f cd).kindOf (ps.zip us) λ_=>none) (cellsFrom (s.heap.objs.size+1) scope.names []) (bindC (envOfC qual scope s.heap.objs.size f cd).kindOf (ps.zip us) λ_=>none) s1) :
  Inv (JW CX P w K mg base N qual scope f cd A outer s H E) [] (start N vs) H s1:=by
 have hpl:ps.length<=N.length:=by have:=congrArg List.length S.pre;rw[List.length_take] at this;lia
 obtain⟨h1,tk,rfl,hk⟩:=x.done;have noA:∀b:Addr,b∉(JW CX P w K mg base N qual scope f cd A outer s H E).ex:=λb z=>absurd (show b∈([]:List Addr) from z) 0x2
 refine⟨⟨e0.mod,S.kind,rfl,rfl,Nat.le_refl _,λy z c h1 h2=>?_,λy hy=>?_,λy c _ h=>?_,λ_=>hd,Around.frames_deeper e0.frames,.inr ⟨rfl,rfl⟩,λb z=>absurd z (noA b),e0.bs,e0.bsz,λb _ _=>noA b,λb z=>absurd z (noA b),e0.R4,e0.frf⟩,
  rfl,e0.bare,Un.kept hk,⟨_,x.toInCall.ns,λi y v h1 h2 h3=>?_⟩,λy c h=>⟨_,x.cell y c h⟩,e0.hok.fresh (Nat.le_refl _),λy c h=>?_,λp hp=>absurd (show p∈([]:List (Addr×Obj)) from hp) 0x2,e0.hok.kept hk,?_⟩
 ·exact name_of_addr x.apart (PySem.mem_of_lookup h1) (PySem.mem_of_lookup h2)
 ·have hy:scope.names.lookup y=some .cell\/scope.names.lookup y=some .free:=hy;rcases hy with hy|hy
  ·exact O4 hy
  ·exact absurd rfl (S.nofree _ (PySem.mem_of_lookup hy))
 ·exact Nat.le_of_lt (x.above y c (PySem.mem_of_lookup h))
 ·have hi:i<vs.length:=by
   unfold start at h2;by_cases hi:i<vs.length
   ·exact hi
   ·rw[List.getElem?_append_right (by simpa using hi)] at h2;rw[List.getElem?_replicate] at h2;split at h2<;>cases h2
  have ha:vs[i]?=some v:=by
   unfold start at h2;rw[List.getElem?_append_left (by simpa using hi),List.getElem?_map] at h2;cases e:vs[i]? with
   |none=>rw[e] at h2;cases h2
   |some a=>rw[e] at h2;cases h2;rfl
  obtain⟨u,hu,rv⟩:=r.get ha;have hp:ps[i]?=some y:=by
   rw[<-S.pre,List.getElem?_take_of_lt 0x1];exact h1
  have ndP:ps.Nodup:=by rw[<-S.pre];exact S.nd.sublist (List.take_sublist _ _)
  refine⟨u,rv,?_⟩;rcases S.par y (List.mem_of_getElem? hp) with k|k
  ·exact .inl ⟨k,DX ndP hp hu k⟩
  ·obtain⟨c,e⟩:=O4 k;refine .inr ⟨.inl k,c,e,?_⟩;have q:=x.cell y c e;rw[DY ndP hp hu (by show scope.names.lookup y≠_;rw[k];decide)] at q;exact q
 ·exact e0.hok.fresh (Nat.le_of_lt (x.above y c (PySem.mem_of_lookup h)))
 ·unfold start;show _=N.length;rw[List.length_append,List.length_map,List.length_replicate];lia
def aFi{CX:CXT}{P:Program}{w:World}{K:PySem.W.Frag}{mg:Str->Option Value}{base:Heap}{k:Nat}{f:Addr}{name qual:Str}{params:Arguments}{body:List Stmt}{scope:Scope}{dV kV doc pm cdv ct oc:Value}{an od:Option Addr}
 {osl:Array (Option Value)}{N ps:List Str}{sp:Sp}(lk:K.lookup f=some ⟨oc,od,.func (PySem.W.fnOf name qual params body scope dV kV doc pm an cdv ct),osl⟩)(hcd:PySem.W.codeIn K cdv qual=true)(S:bY N ps scope)
 (len:∀vs H Q E,sp vs H Q E->vs.length=ps.length)
 (hbody:∀(A:Around) (outer:List Env) (s:Shared) (H:Hp) (vs:List V) (Q:VK) (E:XK),lX k (A.deeper (envOfC qual scope s.heap.objs.size f cdv))->sp vs H Q E->
   ∃t,PSs (JW CX P w K mg base N qual scope f cdv A outer s H E) body t/\t {nx:=λ_ H'=>Q .non H',rt:=Q} (start N vs) H) :
  lR P w K mg base CX (k+1) f (PySem.W.fnOf name qual params body scope dV kV doc pm an cdv ct) ps sp:=by
 refine⟨len,λA outer s H args us vs Q E hr e0 hb r hsp=>?_⟩;have hl:=len _ _ _ _ hsp;have KX:K.In s.heap:=e0.mod.kin.keeps λb o e=>(e0.bs b o e).1
 have lim:s.heap.NoLimit:=e0.mod.nolimit.keeps λb o e=>(e0.bs b o e).1
 have hkind:∀y∈ps.zip us,scope.names.lookup y.1=some .local\/(scope.names.lookup y.1=some .cell/\((cellsFrom (s.heap.objs.size+1) scope.names []).lookup y.1).isSome=true):=λ⟨n,v⟩ hy=>by
  rcases S.par n (List.of_mem_zip hy).1 with q|q
  ·exact .inl q
  ·exact .inr ⟨q,PySem.W.cellsFrom_some _ _ _ (.inl q)⟩
 refine codeAny_call_function hr.depth (KX _ _ lk) rfl S.co S.gen rfl (PySem.W.codeRec_of KX hcd) (hb _ _ _ _ ?_);refine wpAny_newFunctionEnv_cells S.kind hkind λenv he s1 x=>?_
 subst he;refine⟨lim.keeps x.toInCall.keep,codeAny_func ?_⟩;obtain⟨t,ht,hq⟩:=hbody A outer s H vs Q E (hr.deeper _) hsp;have I:Inv (JW CX P w K mg base N qual scope f cdv A outer s H E) [] (start N vs) H s1:=V9 S hr.hd e0 hl r x;refine wpAny_mono (ht [] s1 (start N vs) H _ I hq) (λfl s' hs=>?_) λe s' hs=>hs
 have fin:∀{σ':St}{H':Hp}{v:V}{u:Value},Inv (JW CX P w K mg base N qual scope f cdv A outer s H E) [] σ' H' s'->RelV v u->Q v H'->CE outer P w H s Q u s':=
  λ{σ' H' v u} J rv q=>⟨v,H',J.os,J.bare,J.base,J.hok,rv,q⟩
 cases fl with
 |ret u=>
  obtain⟨v,σ',H',J,rv,q⟩:=hs;exact fin J rv q
 |next=>
  obtain⟨σ',H',J,q⟩:=hs;exact fin (v:=V.non) J rfl q
 |brk=>
  obtain⟨_,_,_,q⟩:=hs;exact False.elim q
 |cont=>
  obtain⟨_,_,_,q⟩:=hs;exact False.elim q
section
variable {X:Cx} {x:Str} {p pos:Pos} {e:Expr} {es:List Expr} {t:TA} {id T:String} {r:List V->Hp->VK->Prop}
noncomputable def tCB(r:List V->Hp->VK->Prop)(t:TA):TE:=λσ H Q=>t σ H λvs H1=>r vs H1 Q
theorem zF(hc:nQ X (.builtin id) r)(hg:Gl X x)(hm:X.mg x=none)(hv:bootBuiltins x=some (.builtin id))(ha:PA X (e::es) t)(hn:x ≠ "__name__":=by decide)(hdb:nDb x:=by decide)
 (he:starEach (e::es) X.env=(false,eval e X.env)::starEach es X.env:=by rfl)(hpl:(backTo pos (starEach es X.env)).any (·.1)=false:=by rfl):PE X (.Call (.Name x p) (e::es) [] pos) (tCB r t):=by
 intro pins s σ H Q I h;refine wpAny_Call_Name_kw (nF I hg hm hv ?_ hn hdb);exact PyProof.Rows.callWith_builtin1 (thn (ha pos pins s σ H _ I h) λus s1 ⟨vs,H1,I1,r1,q1⟩=>hc pins s1 σ H1 vs us Q I1 r1 q1) he hpl
def D_(hc:nQ X (.type T) r)(hg:Gl X x)(hm:X.mg x=none)(hv:bootBuiltins x=some (.type T))(ha:PA X (e::es) t)(hn:x ≠ "__name__":=by decide)(hdb:nDb x:=by decide)
 (he:starEach (e::es) X.env=(false,eval e X.env)::starEach es X.env:=by rfl)(hpl:(backTo pos (starEach es X.env)).any (·.1)=false:=by rfl):PE X (.Call (.Name x p) (e::es) [] pos) (tCB r t):=by
 intro pins s σ H Q I h;refine wpAny_Call_Name_kw (nF I hg hm hv ?_ hn hdb);exact PyProof.Rows.callWith_type1 (thn (ha pos pins s σ H _ I h) λus s1 ⟨vs,H1,I1,r1,q1⟩=>hc pins s1 σ H1 vs us Q I1 r1 q1) he hpl
end
end L2
namespace HT
open PySem PyProof.Rows
section
theorem aFj(ht:IsTup s.heap t vs.toArray)(hb:IsTup s.heap b ws.toArray)(hv:vs≠[])
 (h1:ws=[]->Q (.ref t) s)(h2:ws≠[]->Q (.ref s.heap.objs.size) {s with heap:=s.heap.push {cls:=.type "tuple",data:=.seq (vs++ws).toArray}})
 (hsz:vs.length+ws.length<=sizeLine):wpAny (model prog w) A (binaryOp .Add (.ref t) (.ref b)) Q E s:=by
 obtain⟨⟨cls,dd,data,sl⟩,ho,hc,n,hd⟩:=id ht;obtain⟨⟨cls2,dd2,data2,sl2⟩,ho2,hc2,n2,hd2⟩:=id hb;simp only at hc hd hc2 hd2;subst hc hd hc2 hd2;have e:vs.toArray++ws.toArray=(vs++ws).toArray:=by simp
 by_cases hw:ws=[]
 ·exact concat_meets ⟨_,ho,rfl⟩ ⟨_,ho2,rfl⟩ noFill_tuple_add seq_tuple_add PySem.F.slot_tuple_add PySem.F.entry_tuple_add (PySem.F.args_tuple_add_2 _ _)
   (tuple_addW1 t b vs.toArray ws.toArray n n2 dd dd2 sl sl2 (by simpa using hv) (by simp[hw])) ⟨ho,ho2,h1 hw⟩
 ·refine concat_meets ⟨_,ho,rfl⟩ ⟨_,ho2,rfl⟩ noFill_tuple_add seq_tuple_add PySem.F.slot_tuple_add PySem.F.entry_tuple_add (PySem.F.args_tuple_add_2 _ _)
   (tuple_addW2 t b vs.toArray ws.toArray n n2 dd dd2 sl sl2 (by simpa using hv) (by simpa using hw) (by rw[List.size_toArray,List.size_toArray];exact hsz)) ⟨ho,ho2,?_⟩
  rw[e];exact h2 hw
noncomputable def sIx(n d:Nat):Option Int->Nat
 |none=>d
 |some v=>if v<0 then (v+(n:Int)).toNat else min v.toNat n
def aIy(n d:Nat)(hd:d<=n)(o:Option Int):sIx n d o<=n:=by
 cases o with
 |none=>exact hd
 |some v=>
  show(if v<0 then (v+(n:Int)).toNat else min v.toNat n)<=n;by_cases hv:v<0
  ·rw[if_pos hv];lia
  ·rw[if_neg hv];exact Nat.min_le_right _ _
def V_(v:Int)(n d:Nat):(if v<0 then max (v+(n:Int)) 0 else min v (n:Int))=((sIx n d (some v):Nat):Int):=by
 show(if v<0 then max (v+(n:Int)) 0 else min v (n:Int))=(((if v<0 then (v+(n:Int)).toNat else min v.toNat n):Nat):Int);by_cases hv:v<0
 ·simp only[if_pos hv];lia
 ·simp only[if_neg hv];lia
def S5(lo hi:Option Int)(n:Nat):Builtin.Slice.sliceAdjust lo hi 1 (n:Int)=(((sIx n 0 lo:Nat):Int),((sIx n n hi:Nat):Int)):=by
 have h1:¬((1:Int)<0):=by lia
 unfold Builtin.Slice.sliceAdjust;simp only[h1,if_false];refine Prod.ext ?_ ?_
 ·cases lo with
  |none=>rfl
  |some v=>exact V_ v n 0
 ·cases hi with
  |none=>rfl
  |some v=>exact V_ v n n
def S6(i j:Nat):Builtin.Slice.slicePlaces (i:Int) (j:Int) 1=j-i:=by
 unfold Builtin.Slice.slicePlaces;have h1:(1:Int) > 0:=by lia
 simp only[h1,if_true,Int.ediv_one];split<;>lia
def yC(p:IsPart v o)(h:Q o s):wpAny (model prog w) A (Builtin.Slice.slicePartIndex v) Q E s:=by
 cases p with
 |none=>exact slicePart_none h
 |int i t=>exact slicePart_int h
theorem uU{lo hi:Option Int}{n:Nat}{Q:Int×Int×Nat->Shared->Prop}(hs:s.heap.IsSliceOf sl vl vu .none)(pl:IsPart vl lo)(pu:IsPart vu hi)
 (h:Q (((sIx n 0 lo:Nat):Int),1,sIx n n hi-sIx n 0 lo) s):wpAny (model prog w) A (Builtin.Slice.sliceApplied (.ref sl) (pure (n:Int))) Q E s:=by
 obtain⟨os,hos,hcs,hds⟩:=id hs;unfold Builtin.Slice.sliceApplied Builtin.Slice.sliceFields;refine wpAny_bind (wpAny_bind (wpAny_field hos hds rfl (wpAny_bind (wpAny_field hos hds rfl (wpAny_bind (wpAny_field hos hds rfl (wpAny_pure ?_)))))));refine wpAny_bind (slicePart_none ?_);show wpAny _ _ (if ((1:Int)==0)=true then _ else _) _ _ s;rw[if_neg 0x4];refine wpAny_bind (yC pl (wpAny_bind (yC pu (wpAny_bind (wpAny_pure ?_)))));show wpAny _ _ (match Builtin.Slice.sliceAdjust lo hi 1 (n:Int) with|(lo,hi)=>pure (lo,(1:Int),Builtin.Slice.slicePlaces lo hi 1)) _ _ s;rw[S5 lo hi n];show wpAny _ _ (pure (((sIx n 0 lo:Nat):Int),(1:Int),Builtin.Slice.slicePlaces ((sIx n 0 lo:Nat):Int) ((sIx n n hi:Nat):Int) 1)) _ _ s;rw[S6];exact wpAny_pure h
def aBg(xs:Array Value)(i k:Nat):((List.range k).filterMap λ(m:Nat)=>xs[((i:Int)+(m:Int)*1).toNat]?).toArray=((xs.toList.drop i).take k).toArray:=by
 have e:(λ(m:Nat)=>xs[((i:Int)+(m:Int)*1).toNat]?)=λm=>xs[i+m]?:=by
  funext m
  have:((i:Int)+(m:Int)*1).toNat=i+m:=by lia
  rw[this]
 rw[e];have:=pick_run xs i k;rw[List.filterMap_map] at this;have e2:((λx=>xs[x]?) ∘ λx=>i+x)=λm=>xs[i+m]?:=rfl
 rw[e2] at this;rw[this]
theorem q_{vl vu:Value}{lo hi:Option Int}{Q:Value->Shared->Prop}(ht:IsTup s.heap t items)(hs:s.heap.IsSliceOf sl vl vu .none)(pl:IsPart vl lo)(pu:IsPart vu hi)
 (hw:¬(sIx items.size 0 lo=0/\sIx items.size items.size hi=items.size))
 (h:Q (.ref s.heap.objs.size) {s with heap:=s.heap.push {cls:=.type "tuple",data:=.seq ((items.toList.drop (sIx items.size 0 lo)).take (sIx items.size items.size hi-sIx items.size 0 lo)).toArray}})
 (hsz:items.size<=sizeLine):wpAny (model prog w) A (getItem (.ref t) (.ref sl)) Q E s:=by
 have htake:sizeOk (.seq ((items.toList.drop (sIx items.size 0 lo)).take (sIx items.size items.size hi-sIx items.size 0 lo)).toArray):=by
  show((items.toList.drop (sIx items.size 0 lo)).take (sIx items.size items.size hi-sIx items.size 0 lo)).toArray.size<=sizeLine;rw[List.size_toArray,List.length_take,List.length_drop,Array.length_toList];lia
 have hj:sIx items.size items.size hi<=items.size:=aIy _ _ (Nat.le_refl _) hi;obtain⟨os,hos,hcs,hds⟩:=id hs;have hTs:s.TypeIs (.ref sl) "slice":=⟨os,hos,hcs⟩
 unfold getItem
 try with_reducible refine wpAny_holding ?_
 first|refine wpAny_bind (wpAny_pure ?_)|skip
 refine wpAny_bind (wpAny_sequenceKey ht.typeIs 0x4 ?_);refine wpAny_bind (wpAny_callSpecial?_slot ht.typeIs PyProof.Rows.slot_tuple_getitem
  (wpAny_call_entry PyProof.Rows.slot_tuple_getitem ht.typeIs entry_tuple_getitem ?_ (args_tuple_getitem _ _)))
 show wpAny _ _ (Builtin.Tuple.tupleItemsOf (.ref t) >>= _) _ _ s;refine wpAny_bind (tupleItemsOf_ ht ?_);refine wpAny_bind (wpAny_typeOf hTs ?_);rw[if_pos 0x4];refine wpAny_bind (uU hs pl pu ?_);have hno:¬((((sIx items.size 0 lo:Nat):Int)==0&&(1:Int)==1&&(sIx items.size items.size hi-sIx items.size 0 lo)==items.size)=true):=by
  intro q;rw[Bool.and_eq_true,Bool.and_eq_true] at q;have q1:((sIx items.size 0 lo:Nat):Int)=0:=eq_of_beq q.1.1;have q2:sIx items.size items.size hi-sIx items.size 0 lo=items.size:=eq_of_beq q.2;exact hw ⟨by lia,by lia⟩
 show wpAny _ _ (if (((sIx items.size 0 lo:Nat):Int)==0&&(1:Int)==1&&(sIx items.size items.size hi-sIx items.size 0 lo)==items.size)=true then _ else _) _ _ s;rw[if_neg hno,aBg]
 first
  |exact wpAny_bind (wpAny_newObj_type (wpAny_pure ⟨_,rfl,wpAny_pure h⟩) htake)
  |exact wpAny_bind (wpAny_newObj_type (wpAny_bind (wpAny_pure (wpAny_pure ⟨_,rfl,wpAny_pure h⟩))) htake)
  |exact wpAny_bind (wpAny_bind (wpAny_newObj_type (wpAny_pure (wpAny_pure ⟨_,rfl,wpAny_pure h⟩)) htake))
  |exact wpAny_bind (wpAny_bind (wpAny_newObj_type (wpAny_pure ⟨_,rfl,wpAny_pure h⟩) htake))
end
end HT
namespace L2
open PySem PySem.Spec PyProof.Rows
abbrev TO:=St->Hp->(Option Int->Hp->Prop)->Prop
def PO(X:Cx)(e:Option Expr)(t:TO):Prop:=
 ∀(pins:List (Addr×Obj))(s:Shared)(σ:St)(H:Hp)(Q:Option Int->Hp->Prop),Inv X pins σ H s->t σ H Q->
  wpAny (model X.prog X.w) X.A (evalPart e X.env) (λu s'=>∃o H',Inv X pins σ H' s'/\IsPart u o/\Q o H') X.xe s
noncomputable def aFk:TO:=λ_ H Q=>Q none H
noncomputable def aN1(t:TE):TO:=λσ H Q=>t σ H λx H1=>∃i,x=.int i/\Q (some i) H1
section
variable {X:Cx} {te:TE} {lo hi:Option Expr} {tl th:TO}
def aFl:PO X none aFk:=by
 intro pins s σ H Q I h;rw[evalPart_none];exact wpAny_pure ⟨none,H,I,.none,h⟩
def aFm(h:PE X e te):PO X (some e) (aN1 te):=by
 intro pins s σ H Q I hw;rw[evalPart_some];refine thn (h pins s σ H _ I hw) λu s1 ⟨x,H1,I1,r1,q1⟩=>?_
 obtain⟨i,rfl,q⟩:=q1;obtain⟨t,rfl⟩:=r1;exact⟨some i,H1,I1,.int i t,q⟩
def SlR(X:Cx)(r:V->Option Int->Option Int->Hp->VK->Prop):Prop:=
 ∀(pins:List (Addr×Obj))(s:Shared)(σ:St)(H:Hp)(x:V)(v vl vu:Value)(lo hi:Option Int)(sl:Addr)(Q:VK),Inv X pins σ H s->RelV x v->s.heap.IsSliceOf sl vl vu .none->IsPart vl lo->IsPart vu hi->r x lo hi H Q->
  ∃T id,typeLookup (.type T) "__getitem__"=pure (some (.builtin id))/\s.TypeIs v T/\wpAny (model X.prog X.w) X.A (getItem v (.ref sl)) (EP X pins σ Q) X.xe s
noncomputable def tSl(r:V->Option Int->Option Int->Hp->VK->Prop)(te:TE)(tl th:TO):TE:=λσ H Q=>te σ H λx H1=>tl σ H1 λl H2=>th σ H2 λu H3=>r x l u H3 Q
theorem aBh(hr:SlR X r)(he:PE X e te)(hl:PO X lo tl)(hu:PO X hi th):PE X (.Subscript e (.Slice lo hi none p2) pos) (tSl r te tl th):=by
 intro pins s σ H Q I h;refine Subscript_ (thn (he pins s σ H _ I h) λv s1 ⟨x,H1,I1,r1,q1⟩=>?_);refine wpAny_Slice (thn (hl pins s1 σ H1 _ I1 q1) λvl s2 ⟨l,H2,I2,pl,q2⟩=>thn (hu pins s2 σ H2 _ I2 q2) λvu s3 ⟨u,H3,I3,pu,q3⟩=>?_);rw[evalPart_none];refine wpAny_pure ?_;have I4:Inv X pins σ H3 {s3 with heap:=s3.heap.push {cls:=.type "slice",data:=.fields #[vl,vu,.none]}}:=I3.kept λb ob q=>Heap.get?_push_of_some _ q
 obtain⟨T,id,hT,ht,hg⟩:=hr pins {s3 with heap:=s3.heap.push {cls:=.type "slice",data:=.fields #[vl,vu,.none]}} σ H3 x v vl vu l u s3.heap.objs.size Q I4 r1 (Heap.IsSliceOf.new ..) pl pu q3;show wpAny (model X.prog X.w) X.A (subscriptTail e (.Slice lo hi none p2) v (.ref s3.heap.objs.size)) (EP X pins σ Q) X.xe {s3 with heap:=s3.heap.push {cls:=.type "slice",data:=.fields #[vl,vu,.none]}};exact tail_any ht hT hg 0x5
noncomputable def WD(xs:List V)(lo hi:Option Int):List V:=(xs.drop (HT.sIx xs.length 0 lo)).take (HT.sIx xs.length xs.length hi-HT.sIx xs.length 0 lo)
def vX(xs:List V)(lo hi:Option Int):(WD xs lo hi).length<=xs.length:=by
 unfold WD;rw[List.length_take,List.length_drop];lia
def aPk(K:PySem.W.Frag):V->Option Int->Option Int->Hp->VK->Prop:=λx lo hi H Q=>∃a xs,x=.ref a/\SqT K H a xs/\
 ¬(HT.sIx xs.length 0 lo=0/\HT.sIx xs.length xs.length hi=xs.length)/\∀p,H p=none->Q (.ref p) (upd H p (.tup (WD xs lo hi)))
def aIz:SlR X (aPk X.K):=by
 intro pins s σ H x v vl vu lo hi sl Q I rx hs pl pu h;obtain⟨a,xs,rfl,hx,hw,q⟩:=h;cases rx;obtain⟨its,r,ht,hz⟩:=I.tuple hx;have hlen:its.toArray.size=xs.length:=by rw[List.size_toArray];exact r.length.symm
 refine⟨"tuple",_,PyProof.Rows.slot_tuple_getitem.lookup,ht.typeIs,?_⟩;refine HT.q_ ht hs pl pu (by rw[hlen];exact hw) ?_ (by rw[hlen];exact hz);rw[hlen];refine⟨.ref s.heap.objs.size,_,I.laid (λb ob q=>Heap.get?_push_of_some _ q) (Nat.le_refl _) ?_,rfl,q _ (I.hok.fresh (Nat.le_refl _))⟩;exact⟨Nat.le_trans (vX xs lo hi) hz,_,(r.drop (HT.sIx xs.length 0 lo)).take (HT.sIx xs.length xs.length hi-HT.sIx xs.length 0 lo),j0.new _ _⟩
def aN2(K:PySem.W.Frag):R2:=λx y H Q=>∃a b xs ys,x=.ref a/\y=.ref b/\SqT K H a xs/\SqT K H b ys/\xs≠[]/\xs.length+ys.length<=sizeLine/\
 (ys=[]->Q (.ref a) H)/\(ys≠[]->∀p,H p=none->Q (.ref p) (upd H p (.tup (xs++ys))))
def Vals.vY(r:Vals xs us):us=[]↔xs=[]:=by
 cases r with
 |nil=>simp
 |cons _ _=>simp
def aFn:OpR X (binaryOp .Add) (aN2 X.K):=by
 intro pins s σ H x y v u Q I rx ry h;obtain⟨a,b,xs,ys,rfl,rfl,ha,hb,hx,hz,q1,q2⟩:=h;cases rx;cases ry;obtain⟨its,r1,p1,_⟩:=I.tuple ha;obtain⟨its2,r2,p2,_⟩:=I.tuple hb;refine HT.aFj p1 p2 (λz=>hx (r1.vY.mp z)) (λz=>⟨.ref a,H,I,rfl,q1 (r2.vY.mp z)⟩) (λz=>?_) (by rw[<-r1.length,<-r2.length];exact hz);refine⟨.ref s.heap.objs.size,_,I.laid (λb ob q=>Heap.get?_push_of_some _ q) (Nat.le_refl _) ?_,rfl,q2 (λw=>z (r2.vY.mpr w)) _ (I.hok.fresh (Nat.le_refl _))⟩;exact⟨by rw[List.length_append];exact hz,_,r1.append r2,j0.new _ _⟩
end
noncomputable def ixN(n:Nat)(i:Int):Option Nat:=if 0<=i then (if i<n then some i.toNat else none) else if -(n:Int)<=i then some (i+n).toNat else none
def atI{α:Type}(xs:List α)(i:Int):Option α:=(ixN xs.length i).bind λj=>xs[j]?
def WF(h:ixN n i=some j):seqIndex? i n=some j/\j<n/\-(n:Int)<=i/\i<n:=by
 unfold ixN at h;by_cases h0:0<=i
 ·rw[if_pos h0] at h;by_cases h1:i<n
  ·rw[if_pos h1] at h;have e:i.toNat=j:=Option.some.inj h;exact⟨by rw[seqIndex_of h0 h1,e],by lia,by lia,h1⟩
  ·rw[if_neg h1] at h;cases h
 ·rw[if_neg h0] at h;by_cases h1:-(n:Int)<=i
  ·rw[if_pos h1] at h;have e:(i+n).toNat=j:=Option.some.inj h;exact⟨by rw[seqIndex_neg 0x1 h1,e],by lia,h1,by lia⟩
  ·rw[if_neg h1] at h;cases h
def J8(h:atI xs i=some v):∃j,seqIndex? i xs.length=some j/\xs[j]?=some v/\j<xs.length/\-(xs.length:Int)<=i/\i<xs.length:=by
 unfold atI at h;cases e:ixN xs.length i with
 |none=>rw[e] at h;cases h
 |some j=>
  rw[e] at h;obtain⟨h1,h2,h3,h4⟩:=WF e;exact⟨j,h1,h,h2,h3,h4⟩
def aFo{j:Nat}(h:xs[j]?=some v):atI xs (j:Int)=some v:=by
 have hj:j<xs.length:=(List.getElem?_eq_some_iff.mp h).1;have e:ixN xs.length (j:Int)=some j:=by
  unfold ixN;rw[if_pos 0x1,if_pos 0x1];simp
 unfold atI;rw[e];exact h
def O5(xs:List α)(v:α):atI (xs++[v]) (-1)=some v:=by
 have hl:(xs++[v]).length=xs.length+1:=by simp
 have e:ixN (xs++[v]).length (-1)=some xs.length:=by
  unfold ixN;rw[hl,if_neg 0x4,if_pos 0x1]
  congr 1
  lia
 unfold atI;rw[e];show(xs++[v])[xs.length]?=some v;simp
def zG(b:Expr):Prop:=∀o i,subscripted b false o i=operate [o,i] (getItem o i)
def IxR(X:Cx)(r:R2):Prop:=
 ∀(value slice:Expr)(pins:List (Addr×Obj))(s:Shared)(σ:St)(H:Hp)(x y:V)(v u:Value)(Q:VK),Inv X pins σ H s->RelV x v->RelV y u->r x y H Q->
  subscripted slice false v u=operate [v,u] (getItem v u)->wpAny (model X.prog X.w) X.A (subscriptTail value slice v u) (EP X pins σ Q) X.xe s
def MtR(X:Cx)(id:String)(r:V->List V->Hp->VK->Prop):Prop:=
 ∀(pins:List (Addr×Obj))(s:Shared)(σ:St)(H:Hp)(x:V)(xs:List V)(v:Value)(us:List Value)(Q:VK),Inv X pins σ H s->RelV x v->Vals xs us->r x xs H Q->
  wpAny (model X.prog X.w) X.A (call (.builtin id) (v::us)) (EP X pins σ Q) X.xe s
section
variable {X:Cx} {a b:Expr} {ta tb:TE} {pos:Pos}
def WK(hr:IxR X r)(ha:PE X a ta)(hb:PE X b tb)(hs:zG b):PE X (.Subscript a b pos) (tOp r ta tb):=by
 intro pins s σ H Q I h;exact Subscript_ (aMw ha hb I h λv u s2 x y H2 I2 rx ry q=>hr a b pins s2 σ H2 x y v u Q I2 rx ry q (hs _ _))
def aMa(K:PySem.W.Frag):R2:=λx y H Q=>∃p xs i v,x=.ref p/\y=.int i/\SqL K H p xs/\atI xs i=some v/\Q v H
def aPl(K:PySem.W.Frag):R2:=λx y H Q=>∃p xs i v,x=.ref p/\y=.int i/\SqT K H p xs/\atI xs i=some v/\Q v H
def aPm:R2:=λx y H Q=>∃z i c,x=.str z/\y=.int i/\z.length<=sizeLine/\atI z.cps.toList i=some c/\Q (.str ⟨#[c]⟩) H
def sE:IxR X (aMa X.K):=by
 intro value slice pins s σ H x y v u Q I rx ry h hs;obtain⟨p,xs,i,z,rfl,rfl,hq,he,q⟩:=h;cases rx;obtain⟨t,rfl⟩:=ry;obtain⟨its,r,pl,hz⟩:=I.list hq;obtain⟨j,h1,h2,h3,h4,h5⟩:=J8 he;obtain⟨w,ew,rw'⟩:=r.get h2;have hl:=r.length;have hn:=vO;have fin:EP X pins σ Q w s:=⟨z,H,I,rw',q⟩
 by_cases h0:0<=i
 ·have hj:i.toNat=j:=by
   rw[seqIndex_of h0 h5] at h1;exact Option.some.inj h1
  exact item_listR pl.isList h0 0x1 (by rw[hj];simpa using ew) fin hs
 ·have hj:(i+(its.toArray.size:Int)).toNat=j:=by
   rw[seqIndex_neg 0x1 h4] at h1;rw[List.size_toArray,<-hl];exact Option.some.inj h1
  exact subscriptTail_builtinR pl.isList.typeIs slot_list_getitem.lookup
   (wpAny_getItem_list_neg pl.isList 0x1 (by rw[List.size_toArray]<;>lia) 0x1 (by rw[hj];simpa using ew) ⟨rfl,fin⟩) hs
def aJ0:IxR X (aPl X.K):=by
 intro value slice pins s σ H x y v u Q I rx ry h hs;obtain⟨p,xs,i,z,rfl,rfl,hq,he,q⟩:=h;cases rx;obtain⟨t,rfl⟩:=ry;obtain⟨its,r,pl,hz⟩:=I.tuple hq;obtain⟨j,h1,h2,h3,h4,h5⟩:=J8 he;obtain⟨w,ew,rw'⟩:=r.get h2;have hl:=r.length;have hn:=vO;have fin:EP X pins σ Q w s:=⟨z,H,I,rw',q⟩
 exact subscriptTail_builtinR pl.typeIs slot_tuple_getitem.lookup
  (getItem_tuple pl 0x1 0x1 (by rw[List.size_toArray,<-hl];exact h1) (by simpa using ew) ⟨rfl,fin⟩) hs
def aJ1:IxR X aPm:=by
 intro value slice pins s σ H x y v u Q I rx ry h hs;obtain⟨z,i,c,rfl,rfl,hz,he,q⟩:=h;obtain⟨t,rfl⟩:=rx;obtain⟨t',rfl⟩:=ry;obtain⟨j,h1,h2,h3,h4,h5⟩:=J8 he;have hl:z.cps.toList.length=z.length:=by simp[Str.length]
 rw[hl] at h1 h4 h5;have hn:=vO;exact tail_any (typeIs_str s z t) slot_str_getitem.lookup (getItem_str (by
  have e1:decide (i < -(2 ^ 63:Int))=false:=decide_eq_false 0x1;have e2:decide (i >= 2 ^ 63)=false:=decide_eq_false 0x1;rw[e1,e2,Bool.or_false]) (by rw[h1];simpa using h2) ⟨.str ⟨#[c]⟩,H,I.tok _,⟨_,rfl⟩,q⟩) hs
def S7(its:List Value)(n j:Nat)(u:Value):Obj.mapSeq (·.setIfInBounds j u) {cls:=.type "list",data:=.seq its.toArray n}={cls:=.type "list",data:=.seq (its.set j u).toArray n}:=by
 simp[Obj.mapSeq]
def Inv.lst{pins:List (Addr×Obj)}{σ:St}{H:Hp}{s:Shared}{p:Addr}{xs:List V}(I:Inv X pins σ H s)(h:H p=some (.lst xs)) :
  ∃(its:List Value)(n:Nat),Vals xs its/\s.heap.get? p=some {cls:=.type "list",data:=.seq its.toArray n}/\xs.length<=sizeLine:=by
 obtain⟨z,its,n,r,e⟩:=I.hok p _ h;exact⟨its,n,r,e,z⟩
def Inv.aJ2{its its':List Value}{n n':Nat}{f:Obj->Obj}(I:Inv X pins σ H s)(h:H p=some (.lst xs))
 (ho:s.heap.get? p=some {cls:=.type "list",data:=.seq its.toArray n})(hf:f {cls:=.type "list",data:=.seq its.toArray n}={cls:=.type "list",data:=.seq its'.toArray n'})(r:Vals ys its')(hz:ys.length<=sizeLine)(t:Nat) :
  Inv X pins σ (upd H p (.lst ys)) {s with heap:=s.heap.update p f,toks:=t}:=by
 have e:(s.heap.update p f).get? p=some {cls:=.type "list",data:=.seq its'.toArray n'}:=by
  rw[Heap.get?_update_self f ho (by rw[hf]<;>rfl),hf]
 refine I.write (by rw[h];trivial) (.inl rfl) (λb u hb q=>(Heap.get?_update_other _ _ (Ne.symm hb)).trans q) ⟨_,e⟩ ?_;exact⟨hz,its',n',r,e⟩
def aN3:V->V->V->Hp->(Hp->Prop)->Prop:=λo i v H Q=>∃p xs k j,o=.ref p/\i=.int k/\H p=some (.lst xs)/\ixN xs.length k=some j/\Q (upd H p (.lst (xs.set j v)))
def set_list:aPh X aN3:=by
 intro pins s σ H o i v ov iv u Q I ro ri rv h;obtain⟨p,xs,k,j,rfl,rfl,hp,hj,q⟩:=h;cases ro;obtain⟨t,rfl⟩:=ri;obtain⟨its,n,r,ho,hz⟩:=I.lst hp;obtain⟨h1,h2,h3,h4⟩:=WF hj;have hl:=r.length;have hn:=vO;have I':Inv X pins σ (upd H p (.lst (xs.set j v))) {s with heap:=s.heap.update p (Obj.mapSeq (·.setIfInBounds j u))}:=
  I.aJ2 hp ho (S7 its n j u) (r.set rv j) (by rw[List.length_set];exact hz) s.toks
 by_cases h0:0<=k
 ·have hk:k.toNat=j:=by
   rw[seqIndex_of h0 h4] at h1;exact Option.some.inj h1
  exact PySem.W.ki_setAt ho h0 0x1 (by rw[List.size_toArray,<-hl];exact h4) (by rw[hk];exact⟨_,I',q⟩)
 ·have hk:(k+(its.toArray.size:Int)).toNat=j:=by
   rw[seqIndex_neg 0x1 h3] at h1;rw[List.size_toArray,<-hl];exact Option.some.inj h1
  exact PySem.W.ki_setBack ho 0x1 (by rw[List.size_toArray,<-hl];exact h3) 0x1 (by rw[hk];exact⟨_,I',q⟩)
def EY(lo hi:Option Int)(n:Nat):(sliceBounds lo hi none n).1=((HT.sIx n 0 lo:Nat):Int)/\(sliceBounds lo hi none n).2.1=((HT.sIx n n hi:Nat):Int)/\(sliceBounds lo hi none n).2.2=1:=by
 refine⟨?_,?_,rfl⟩
 ·cases lo with
  |none=>simp[sliceBounds,HT.sIx]
  |some i=>
   simp only[sliceBounds,HT.sIx,Option.getD_none,show(1:Int) > 0 by decide,if_true];by_cases h:i<0
   ·simp only[h,if_true]<;>lia
   ·simp only[h,if_false]<;>lia
 ·cases hi with
  |none=>simp[sliceBounds,HT.sIx]
  |some i=>
   simp only[sliceBounds,HT.sIx,Option.getD_none,show(1:Int) > 0 by decide,if_true];by_cases h:i<0
   ·simp only[h,if_true]<;>lia
   ·simp only[h,if_false]<;>lia
def zH(its:List Value)(lo hi:Option Int):slicePick its.toArray lo hi none=((its.drop (HT.sIx its.length 0 lo)).take (HT.sIx its.length its.length hi-HT.sIx its.length 0 lo)).toArray:=by
 obtain⟨h1,h2,h3⟩:=EY lo hi its.toArray.size;unfold slicePick;rw[h1,h2,h3];simp only[sliceRange_one,pick_run,List.size_toArray]<;>rfl
def aPn(K:PySem.W.Frag):V->Option Int->Option Int->Hp->VK->Prop:=λx lo hi H Q=>∃a xs,x=.ref a/\SqL K H a xs/\∀p,H p=none->Q (.ref p) (upd H p (.lst (WD xs lo hi)))
def WL:SlR X (aPn X.K):=by
 intro pins s σ H x v vl vu lo hi sl Q I rx hs pl pu h;obtain⟨a,xs,rfl,hx,q⟩:=h;cases rx;obtain⟨its,r,ht,hz⟩:=I.list hx;have hlen:=r.length;refine⟨"list",_,slot_list_getitem.lookup,ht.isList.typeIs,?_⟩;refine wpAny_getItem_list_slice ht.isList hs pl pu .none 0x2 ?_ (by rw[List.size_toArray]<;>lia);rw[zH,<-hlen];refine⟨.ref s.heap.objs.size,_,I.laid (λb ob q=>Heap.get?_push_of_some _ q) (Nat.le_refl _) ?_,rfl,q _ (I.hok.fresh (Nat.le_refl _))⟩;exact⟨Nat.le_trans (vX xs lo hi) hz,_,0,(r.drop (HT.sIx xs.length 0 lo)).take (HT.sIx xs.length xs.length hi-HT.sIx xs.length 0 lo),Heap.get?_push_size _ rfl⟩
def jQ:nQ X (.builtin "len") (λxs H Q=>∃p ys,xs=[.ref p]/\(SqL X.K H p ys\/SqT X.K H p ys)/\Q (.int ys.length) H):=by
 intro pins s σ H xs us Q I r h;obtain⟨p,ys,rfl,hq,q⟩:=h;obtain⟨u,rfl,rx⟩:=vals1 r;cases rx;have hn:=vO;rcases hq with hq|hq
 ·obtain⟨its,r',pl,hz⟩:=I.list hq;have hlen:=r'.length;exact Calls.call_len_list pl.isList (by simp only[List.size_toArray]<;>lia) ⟨.int ys.length,H,I.tok _,⟨s.toks+1,by rw[List.size_toArray,hlen]⟩,q⟩
 ·obtain⟨its,r',pl,hz⟩:=I.tuple hq;have hlen:=r'.length;exact len_tuple pl (by simp only[List.size_toArray]<;>lia) ⟨.int ys.length,H,I.tok _,⟨s.toks+1,by rw[List.size_toArray,hlen]⟩,q⟩
def E_:nQ X (.builtin "len") (λxs H Q=>∃z,xs=[.str z]/\z.length<=sizeLine/\Q (.int z.length) H):=by
 intro pins s σ H xs us Q I r h;obtain⟨z,rfl,hz,q⟩:=h;obtain⟨u,rfl,t,rfl⟩:=vals1 r;have hn:=vO;exact len_str 0x1 ⟨.int z.length,H,I.tok _,⟨_,rfl⟩,q⟩
def uJ:nQ X (.type "list") (λxs H Q=>∃p ys,xs=[.ref p]/\(SqL X.K H p ys\/SqT X.K H p ys)/\∀l,H l=none->Q (.ref l) (upd H l (.lst ys))):=by
 intro pins s σ H xs us Q I r h;obtain⟨p,ys,rfl,hq,q⟩:=h;obtain⟨u,rfl,rx⟩:=vals1 r;cases rx;have fin:∀(its:List Value),Vals ys its->ys.length<=sizeLine->∀(h':Heap)(c':Nat),(∀b o',s.heap.get? b=some o'->h'.get? b=some o')->
   h'.get? s.heap.objs.size=some {cls:=.type "list",dict:=none,data:=.seq its.toArray c',slots:=#[]}->EP X pins σ Q (.ref s.heap.objs.size) {s with heap:=h'}:=λits r' hz h' c' kp e=>
  ⟨.ref s.heap.objs.size,_,I.laid kp (Nat.le_refl _) (show gQ X.prog X.w _ h' _ (.lst ys) from ⟨hz,its,c',r',e⟩),rfl,q _ (I.hok.fresh (Nat.le_refl _))⟩
 rcases hq with hq|hq
 ·obtain⟨its,r',pl,hz⟩:=I.list hq;have hlen:=r'.length;obtain⟨o,ho,hc,n,hd⟩:=pl.isList;exact call_list_seq p (.inl rfl) ho hc hd (λh' c' kp e=>fin its r' hz h' c' kp e) (by simp only[List.size_toArray]<;>lia)
 ·obtain⟨its,r',pl,hz⟩:=I.tuple hq;have hlen:=r'.length;obtain⟨o,ho,hc,n,hd⟩:=pl;exact call_list_seq p (.inr rfl) ho hc hd (λh' c' kp e=>fin its r' hz h' c' kp e) (by simp only[List.size_toArray]<;>lia)
def oN:nQ X (.type "tuple") (λxs H Q=>∃p ys,xs=[.ref p]/\((SqL X.K H p ys/\∀l,H l=none->Q (.ref l) (upd H l (.tup ys)))\/(SqT X.K H p ys/\Q (.ref p) H))):=by
 intro pins s σ H xs us Q I r h;obtain⟨p,ys,rfl,h⟩:=h;obtain⟨u,rfl,rx⟩:=vals1 r;cases rx;rcases h with ⟨hq,q⟩|⟨hq,q⟩
 ·obtain⟨its,r',pl,hz⟩:=I.list hq;have hlen:=r'.length;refine call_tuple_list pl.isList (λh' kp=>?_) (by simp only[List.size_toArray]<;>lia);have I1:Inv X pins σ H {s with heap:=h'}:=I.kept kp;have I2:Inv X pins σ (upd H h'.objs.size (.tup ys)) {s with heap:=h'.push {cls:=.type "tuple",data:=.seq its.toArray}}:=
   I1.laid (λb o e=>Heap.get?_push_of_some _ e) (Nat.le_refl _) (show gQ X.prog X.w _ _ _ (.tup ys) from ⟨hz,its,r',j0.new _ _⟩)
  exact⟨.ref h'.objs.size,_,I2,rfl,q _ (I1.hok.fresh (Nat.le_refl _))⟩
 ·obtain⟨its,r',pl,hz⟩:=I.tuple hq;exact call_tuple_same pl ⟨.ref p,H,I,rfl,q⟩
def tyV(K:PySem.W.Frag)(T:String)(x:V)(H:Hp):Prop:=match x with
 |.str _=>T="str"
 |.int _=>T="int"
 |.ref p=>(T="list"/\∃xs,SqL K H p xs)\/(T="tuple"/\((∃o,K.lookup p=some o/\o.cls=.type "tuple"/\o.dict=none)\/∃xs,H p=some (.tup xs)))\/
   (T="dict"/\((∃kvs,H p=some (.dK kvs))\/∃kvs,H p=some (.dT kvs)))\/(T="set"/\∃S n,H p=some (.set S n))
 |_=>False
def aDw(I:Inv X pins σ H s)(r:RelV x v)(ty:tyV X.K T x H) :
  s.TypeIs v T/\∀a,v=.ref a->∃ob,s.heap.get? a=some ob/\ob.dict=none:=by
 cases x with
 |str z=>
  obtain⟨t,rfl⟩:=r;cases (show T="str" from ty);exact⟨typeIs_str s z t,λ_ e=>nomatch e⟩
 |int i=>
  obtain⟨t,rfl⟩:=r;cases (show T="int" from ty);exact⟨typeIs_int s i t,λ_ e=>nomatch e⟩
 |ref p=>
  cases r;rcases ty with ⟨rfl,xs,hq⟩|⟨rfl,⟨o,hk,hc,hd⟩|⟨xs,hk⟩⟩|⟨rfl,hk⟩|⟨rfl,S,n,hk⟩
  ·obtain⟨its,_,pl,_⟩:=I.list hq;refine⟨pl.isList.typeIs,λa e=>?_⟩;cases e;obtain⟨o,n,e,c,hd,_⟩:=pl;exact⟨o,e,hd⟩
  ·refine⟨⟨o,I.kIn p o hk,hc⟩,λa e=>?_⟩;cases e;exact⟨o,I.kIn _ o hk,hd⟩
  ·obtain⟨_,its,_,pl⟩:=I.hok p _ hk;refine⟨(j0.tup pl).typeIs,λa e=>?_⟩;cases e;exact j0.bare pl
  ·have z:∃o,s.heap.get? p=some o/\o.ExactDict:=by
    rcases hk with ⟨kvs,hk⟩|⟨kvs,hk⟩
    ·obtain⟨_,_,_,_,o,_,_,e,ex,_⟩:=I.hok p _ hk;exact⟨o,e,ex⟩
    ·obtain⟨_,_,_,_,o,_,_,e,ex,_⟩:=I.hok p _ hk;exact⟨o,e,ex⟩
   obtain⟨o,e,ex⟩:=z;refine⟨⟨o,e,ex.1⟩,λa e2=>?_⟩;cases e2;exact⟨o,e,ex.2.1⟩
  ·obtain⟨o,_,_,_,e,ex,_⟩:=I.hok p _ hk;refine⟨⟨o,e,ex.1⟩,λa e2=>?_⟩;cases e2;exact⟨o,e,ex.2.1⟩
 |_=>exact False.elim ty
noncomputable def aOj(K:PySem.W.Frag)(T:String)(r:V->List V->Hp->VK->Prop)(to:TE):TE:=λσ H Q=>to σ H λx H1=>tyV K T x H1/\r x [] H1 Q
noncomputable def tBM(K:PySem.W.Frag)(T:String)(r:V->List V->Hp->VK->Prop)(to:TE)(t:TA):TE:=λσ H Q=>to σ H λx H1=>tyV K T x H1/\t σ H1 λxs H2=>r x xs H2 Q
variable {o e:Expr} {es:List Expr} {to:TE} {t:TA} {name:Str} {apos cpos:Pos} {T id:String} {r:V->List V->Hp->VK->Prop}
theorem FJ(pa:PlainAttrs T)(slot:Slot T name id)(hty:typeOf (.builtin id)=pure (.type "method_descriptor"))(hm:MtR X id r)(ho:PE X o to)
 (hbase:attributeBase o name X.env (eval o X.env)=eval o X.env:=by rfl)(hline:(apos.endLine==cpos.line)=true:=by rfl):PE X (.Call (.Attribute o name apos) [] [] cpos) (aOj X.K T r to):=by
 intro pins s σ H Q I h;refine wpAny_Call_method0_late hbase hline (thn (ho pins s σ H _ I h) λv s1 ⟨x,H1,I1,r1,ty,q1⟩=>?_);obtain⟨h1,h2⟩:=aDw I1 r1 ty;exact⟨T,id,pa,slot,hty,h1,h2,Calls.callWith_builtin rfl (PySem.evalArgs_none (hm pins s1 σ H1 x [] v [] Q I1 r1 .nil q1))⟩
theorem J9(pa:PlainAttrs T)(slot:Slot T name id)(hty:typeOf (.builtin id)=pure (.type "method_descriptor"))(hm:MtR X id r)(ho:PE X o to)(ha:PA X (e::es) t)
 (hbase:attributeBase o name X.env (eval o X.env)=eval o X.env:=by rfl)
 (hfew:((backTo cpos (starEach (e::es) X.env)).all (λx=>!x.1)&&(backToKw cpos (keywordEach [] X.env)).all (λx=>x.1.isSome)
  &&decide ((e::es).length+([]:List Keyword).length+(if ([]:List Keyword).isEmpty then 0 else 1)<30))=true:=by rfl)
 (hline:(apos.endLine==cpos.line)=true:=by rfl)(hs:starEach (e::es) X.env=(false,eval e X.env)::starEach es X.env:=by rfl)(hplain:(backTo cpos (starEach es X.env)).any (·.1)=false:=by rfl) :
  PE X (.Call (.Attribute o name apos) (e::es) [] cpos) (tBM X.K T r to t):=by
 intro pins s σ H Q I h;refine wpAny_Call_method_late hbase hfew hline rfl (thn (ho pins s σ H _ I h) λv s1 ⟨x,H1,I1,r1,ty,q1⟩=>?_);obtain⟨h1,h2⟩:=aDw I1 r1 ty;refine⟨T,id,pa,slot,hty,h1,h2,?_⟩;have hA:=ha cpos pins s1 σ H1 _ I1 q1;rw[hs] at hA ⊢;refine Calls.callWith_builtin (by show(false||(backTo cpos (starEach es X.env)).any (·.1))=false;rw[hplain]<;>rfl) (Calls.evalArgs_plain ?_);exact thn hA λus s2 ⟨vs,H2,I2,r2,q2⟩=>hm pins s2 σ H2 x vs v us Q I2 r1 r2 q2
end
def MtM(X:Cx)(id:String)(r:V->List V->Hp->VK->Prop):Prop:=
 ∀(pins:List (Addr×Obj))(s:Shared)(σ:St)(H:Hp)(x:V)(xs:List V)(v:Value)(us:List Value)(Q:VK),Inv X pins σ H s->RelV x v->Vals xs us->r x xs H Q->
  wpAny (model X.prog X.w) X.A (call (.builtin id) (v::us)) (EP X pins σ Q) X.xe s
def Vals.one:∀{x:V}{us:List Value},Vals [x] us->∃u,us=[u]/\RelV x u
 |_,_,.cons r .nil=>⟨_,rfl,r⟩
def Vals.zero:∀{us:List Value},Vals [] us->us=[]
 |_,.nil=>rfl
def Vals.dropLast(h:Vals xs us):Vals xs.dropLast us.dropLast:=by
 induction h with
 |nil=>exact .nil
 |cons r t ih=>
  cases t with
  |nil=>exact .nil
  |cons q t'=>exact .cons r ih
def S8(l:List α):l.eraseIdx (l.length-1)=l.dropLast:=by
 induction l with
 |nil=>rfl
 |cons a r ih=>
  cases r with
  |nil=>rfl
  |cons b r=>
   have e:(a::b::r).length-1=((b::r).length-1)+1:=by
    have h1:(a::b::r).length=r.length+2:=rfl;have h2:(b::r).length=r.length+1:=rfl;lia
   rw[e,List.eraseIdx_cons_succ,ih]
   all_goals rfl
section
def Inv.aN4{its its':List Value}(I:Inv X pins σ H s)(hH:H l=some (.lst xs))
 (e:s.heap.get? l=some {cls:=.type "list",data:=.seq its.toArray n})(hf:f its.toArray=its'.toArray)(hv:Vals ys its')(hz:ys.length<=sizeLine) :
  Inv X pins σ (upd H l (.lst ys)) {s with heap:=s.heap.update l (Obj.mapSeq f),toks:=t'}:=by
 have q:=PySem.IsL.update e f;rw[hf] at q;refine I.write (by rw[hH];exact trivial) (.inl rfl) (λb' u hb hu=>(Heap.get?_update_other s.heap (Obj.mapSeq f) (Ne.symm hb)).trans hu) ⟨_,q⟩ ?_;exact⟨hz,its',_,hv,q⟩
def Inv.aPo(I:Inv X pins σ H s)(hv:Vals ys its)(hz:ys.length<=sizeLine) :
  Inv X pins σ (upd H s.heap.objs.size (.lst ys)) {s with heap:=s.heap.push {cls:=.type "list",data:=.seq its.toArray},toks:=t'}:=
 I.laid (λ_ _ q=>Heap.get?_push_of_some _ q) (Nat.le_refl _) ⟨hz,its,0,hv,Heap.get?_push_size _ rfl⟩
def Inv.fresh(I:Inv X pins σ H s):H s.heap.objs.size=none:=I.hok.fresh (Nat.le_refl _)
def Inv.aMb(I:Inv X pins σ H s)(hH:H l=some (.lst xs)):xs.length<=sizeLine/\∃(its:List Value)(n:Nat),Vals xs its/\xs.length=its.length/\s.heap.get? l=some {cls:=.type "list",data:=.seq its.toArray n}:=by
 obtain⟨z,its,n,r,e⟩:=I.hok l _ hH;exact⟨z,its,n,r,r.length,e⟩
def aBi(h:n<=sizeLine):Builtin.List.listTooLong n=false:=by
 unfold Builtin.List.listTooLong;exact decide_eq_false 0x1
end
section
def zJ:V->List V->Hp->VK->Prop:=λx vs H Q=>∃l xs y,x=.ref l/\vs=[y]/\H l=some (.lst xs)/\xs.length<sizeLine/\Q .non (upd H l (.lst (xs++[y])))
def mH:MtM X "list.append" zJ:=by
 intro pins s σ H x vs v us Q I rx rv h;obtain⟨l,xs,y,rfl,rfl,hH,hz,q⟩:=h;cases rx;obtain⟨u,rfl,ru⟩:=rv.one;obtain⟨z,its,n,r,hl,e⟩:=I.aMb hH;refine call_meets F.slot_list_append ⟨_,e,rfl⟩ F.entry_list_append (F.args_list_append_2 _ _) (PySem.list_append l its.toArray n u (by rw[List.size_toArray];lia)) ⟨e,?_⟩;refine⟨.non,_,I.aN4 hH e 0x2 (r.append (.cons ru .nil)) ?_,rfl,q⟩;rw[List.length_append,List.length_singleton];lia
def aFp:V->List V->Hp->VK->Prop:=λx vs H Q=>∃l b xs zs,x=.ref l/\vs=[.ref b]/\H l=some (.lst xs)/\H b=some (.lst zs)/\xs.length+zs.length<=sizeLine/\Q .non (upd H l (.lst (xs++zs)))
def FN:MtM X "list.extend" aFp:=by
 intro pins s σ H x vs v us Q I rx rv h;obtain⟨l,b,xs,zs,rfl,rfl,hH,hB,hz,q⟩:=h;cases rx;obtain⟨u,rfl,ru⟩:=rv.one;cases ru;obtain⟨z,its,n,r,hl,e⟩:=I.aMb hH;obtain⟨z2,its2,n2,r2,hl2,e2⟩:=I.aMb hB;have hsz:its.toArray.size+its2.toArray.size<=sizeLine:=by rw[List.size_toArray,List.size_toArray];lia
 have hlong:¬(!its.toArray.isEmpty&&Builtin.List.listTooLong (its.toArray.size+its2.toArray.size))=true:=by
  rw[aBi hsz,Bool.and_false];exact Bool.false_ne_true
 refine call_meets F.slot_list_extend ⟨_,e,rfl⟩ F.entry_list_extend (F.args_list_extend_2 _ _)
  (AutoSeq1.list_extend_list_list_0 l its.toArray n b its2.toArray n2 hlong (by rw[List.size_toArray];lia) 0x1) ⟨e,e2,?_⟩
 refine⟨.non,_,I.aN4 hH e 0x2 (r.append r2) ?_,rfl,q⟩;rw[List.length_append];lia
def aOk:V->List V->Hp->VK->Prop:=λx vs H Q=>∃l xs y,x=.ref l/\vs=[]/\H l=some (.lst xs)/\xs[xs.length-1]?=some y/\Q y (upd H l (.lst xs.dropLast))
def O6:MtM X "list.pop" aOk:=by
 intro pins s σ H x vs v us Q I rx rv h;obtain⟨l,xs,y,rfl,rfl,hH,hy,q⟩:=h;cases rx;have hus:=rv.zero;subst hus;obtain⟨z,its,n,r,hl,e⟩:=I.aMb hH;obtain⟨u,hu,ru⟩:=r.get hy;have hy':its.toArray[its.toArray.size-1]?=some u:=by
  show its.toArray[its.length-1]?=some u;rw[<-Array.getElem?_toList,<-hl];exact hu
 refine call_meets F.slot_list_pop ⟨_,e,rfl⟩ F.entry_list_pop (F.args_list_pop_1 _) (MeetsSeq.list_pop_last l its.toArray n u hy' (by rw[List.size_toArray];lia)) ⟨e,?_⟩;refine⟨y,_,I.aN4 hH e ?_ r.dropLast ?_,ru,q⟩
 ·show its.toArray.eraseIdxIfInBounds (its.toArray.size-1)=its.dropLast.toArray;rw[List.size_toArray,List.eraseIdxIfInBounds_toArray,S8]
 ·rw[List.length_dropLast];lia
end
section
variable {κ:Type} [DecidableEq κ]
noncomputable def yD(kvs:List (κ×V))(k:κ):Option V:=(kvs.find? λkv=>decide (kv.1=k)).map (·.2)
noncomputable def putK(kvs:List (κ×V))(k:κ)(v:V):List (κ×V):=
 if (kvs.any λkv=>decide (kv.1=k))=true then kvs.map (λkv=>if kv.1=k then (kv.1,v) else kv) else kvs++[(k,v)]
def oO{k:κ}(e:p.1=k):yD (p::r) k=some p.2:=by simp[yD,List.find?_cons,e]
def oR{k:κ}(e:¬p.1=k):yD (p::r) k=yD r k:=by simp[yD,List.find?_cons,e]
theorem oU(k:κ):∀kvs:List (κ×V),(kvs.any λkv=>decide (kv.1=k))=(yD kvs k).isSome
 |[]=>rfl
 |p::r=>by
  rw[List.any_cons];by_cases e:p.1=k
  ·simp only[oO e,decide_eq_true e,Bool.true_or,Option.isSome_some]
  ·rw[oR e,decide_eq_false e,Bool.false_or];exact oU k r
def kW(kvs:List (κ×V))(k:κ)(v:V):(putK kvs k v).length<=kvs.length+1:=by
 unfold putK;split
 ·rw[List.length_map];lia
 ·rw[List.length_append,List.length_cons,List.length_nil];lia
def aBj{k:κ}(v:V)(h:yD kvs k=none):putK kvs k v=kvs++[(k,v)]:=by
 unfold putK;rw[oU,h];exact if_neg 0x4
def JV.mJ(r:JV o u):o.isSome=u.isSome:=by
 cases o with
 |none=>cases u with
  |none=>rfl
  |some _=>exact(show False from r).elim
 |some _=>cases u with
  |none=>exact(show False from r).elim
  |some _=>rfl
def KV.val(r:KV kvs vs)(k:κ):JV (yD kvs k) (valueAt vs k):=by
 unfold KV at r;induction r with
 |nil=>exact True.intro
 |@cons p q ps qs h t ih=>
  obtain⟨h1,h2⟩:=h;by_cases e:p.1=k
  ·have e':q.1=k:=h1.symm.trans e;have b:valueAt (q::qs) k=some q.2:=by simp[valueAt,List.find?_cons,e']
   rw[oO e,b];exact h2
  ·have e':¬q.1=k:=λz=>e (h1.trans z)
   have b:valueAt (q::qs) k=valueAt qs k:=by simp[valueAt,List.find?_cons,e']
   rw[oR e,b];exact ih
def KV.any(r:KV kvs vs)(k:κ):(kvs.any λkv=>decide (kv.1=k))=vs.any λkv=>decide (kv.1=k):=by
 unfold KV at r;induction r with
 |nil=>rfl
 |cons h t ih=>rw[List.any_cons,List.any_cons,ih,h.1]
def KV.repl(r:KV kvs vs)(k:κ)(ry:RelV y u) :
  KV (kvs.map λkv=>if kv.1=k then (kv.1,y) else kv) (vs.map λkv=>if kv.1=k then (kv.1,u) else kv):=by
 unfold KV at r ⊢;induction r with
 |nil=>exact .nil
 |@cons p q ps qs h t ih=>
  rw[List.map_cons,List.map_cons];refine .cons ?_ ih;obtain⟨h1,h2⟩:=h;by_cases e:p.1=k
  ·rw[if_pos e,if_pos (h1.symm.trans e)];exact⟨h1,ry⟩
  ·rw[if_neg e,if_neg (λz=>e (h1.trans z))];exact⟨h1,h2⟩
def KV.put(r:KV kvs vs)(k:κ)(ry:RelV y u):KV (putK kvs k y) (stored vs k u):=by
 unfold putK stored;rw[r.any k];by_cases e:(vs.any λkv=>decide (kv.1=k))=true
 ·rw[if_pos e,if_pos e];exact r.repl k ry
 ·rw[if_neg e,if_neg e];exact Paired.snoc r ⟨rfl,ry⟩
def KV.length(r:KV kvs vs):kvs.length=vs.length:=Paired.length r
end
def zK(r:RelV (kV k) u):(cC P w).is k u=true:=by
 cases k with
 |inl i=>obtain⟨t,e⟩:=(show ∃t,u=Value.int i t from r);subst e;exact J1 P w i t
 |inr x=>obtain⟨t,e⟩:=(show ∃t,u=Value.str x t from r);subst e;exact J2 P w x t
theorem FP:∀{ks:List Key}{us:List Value},Vals (ks.map kV) us->ItemsAre (cC P w) ks us
 |[],_,r=>by rw[List.map_nil] at r;cases r;exact .nil
 |k::ks,_,r=>by
  rw[List.map_cons] at r;cases r with
  |cons h t=>exact .cons (zK h) (FP t)
abbrev KT(H:Hp):List (List Key×V)->List (List Key×Addr×Value)->Prop:=Paired λp q=>p.1=q.1/\H q.2.1=some (.tup (p.1.map kV))/\RelV p.2 q.2.2
def KT.val(r:KT H kvs xs)(k:List Key):JV (yD kvs k) ((atKey xs k).map (·.2)):=by
 induction r with
 |nil=>exact True.intro
 |@cons p q ps qs h t ih=>
  obtain⟨h1,_,h2⟩:=h;by_cases e:p.1=k
  ·have e':q.1=k:=h1.symm.trans e;have b:atKey (q::qs) k=some q.2:=by simp[atKey,List.find?_cons,e']
   rw[oO e,b];exact h2
  ·have e':¬q.1=k:=λz=>e (h1.trans z)
   have b:atKey (q::qs) k=atKey qs k:=by simp[atKey,List.find?_cons,e']
   rw[oR e,b];exact ih
def KT.repl(r:KT H kvs xs)(k:List Key)(ry:RelV y u) :
  KT H (kvs.map λkv=>if kv.1=k then (kv.1,y) else kv) (xs.map (putAt k u)):=by
 induction r with
 |nil=>exact .nil
 |@cons p q ps qs h t ih=>
  rw[List.map_cons,List.map_cons];refine .cons ?_ ih;obtain⟨h1,h2,h3⟩:=h;unfold putAt;by_cases e:p.1=k
  ·rw[if_pos e,if_pos (h1.symm.trans e)];exact⟨h1,h2,ry⟩
  ·rw[if_neg e,if_neg (λz=>e (h1.trans z))];exact⟨h1,h2,h3⟩
def KT.put(r:KT H kvs xs)(k:List Key)(hb:H b=some (.tup (k.map kV)))(ry:RelV y u) :
  KT H (putK kvs k y) (storedH xs k b u):=by
 have e:(kvs.any λkv=>decide (kv.1=k))=(atKey xs k).isSome:=by
  rw[oU,(r.val k).mJ,Option.isSome_map]
 unfold putK storedH;rw[e];by_cases q:(atKey xs k).isSome=true
 ·rw[if_pos q,if_pos q];exact r.repl k ry
 ·rw[if_neg q,if_neg q];exact Paired.snoc r ⟨rfl,hb,ry⟩
def KT.keeps(r:KT H kvs xs)(ht:∀b ys,H b=some (.tup ys)->H' b=some (.tup ys)):KT H' kvs xs:=
 Paired.aMn r λ_ _ z=>⟨z.1,ht _ _ z.2.1,z.2.2⟩
section
def aBk(ok:HOk P w H h)(e:Rd H a u):gQ P w H h a u:=e.ok ok
def WM(ok:HOk P w H h)(e:Rd H a (.dK kvs)):kvs.length<=sizeLine/\(a==sysModules)=false/\∃vs,KV kvs vs/\h.DictOf (cC P w) a vs:=
 show gQ P w H h a (.dK kvs) from aBk ok e
def S9(ok:HOk P w H h)(e:H a=some (.dK kvs)):kvs.length<=sizeLine/\(a==sysModules)=false/\∃vs,KV kvs vs/\h.DictOf (cC P w) a vs:=WM ok (.inl e)
def yE(ok:HOk P w H h)(e:H a=some (.tup (ks.map kV))):(tupleKind (cC P w)).is h ks a:=by
 obtain⟨_,its,r,o,h1,h2,n,h3⟩:=(show gQ P w H h a (.tup (ks.map kV)) from ok a _ e)
 exact⟨o,its.toArray,n,h1,h2,congrArg (·.1) h3,by simpa using FP r⟩
def WN(ok:HOk P w H h)(e:Rd H a (.dT kvs)):kvs.length<=sizeLine/\(a==sysModules)=false/\
  ∃xs,KT H kvs xs/\h.DictOfH (tupleKind (cC P w)) a xs:=by
 obtain⟨z,y,xs,r,o,es,ep,h1,h2,h3,h4,h5⟩:=(show gQ P w H h a (.dT kvs) from aBk ok e)
 refine⟨z,y,xs,r,o,es,ep,h1,h2,h3,h4,λx hx=>?_,h5⟩;have all:∀{l:List (List Key×V)}{m:List (List Key×Addr×Value)},KT H l m->∀x∈m,(tupleKind (cC P w)).is h x.1 x.2.1:=by
  intro l m q;induction q with
  |nil=>intro x hx;exact nomatch hx
  |@cons p q ps qs hq t ih=>
   intro x hx;rcases List.mem_cons.mp hx with e|hx
   ·subst e;exact yE ok (by rw[<-hq.1];exact hq.2.1)
   ·exact ih x hx
 exact all r x hx
def aFq(ok:HOk P w H h)(e:H a=some (.dT kvs)):kvs.length<=sizeLine/\(a==sysModules)=false/\
  ∃xs,KT H kvs xs/\h.DictOfH (tupleKind (cC P w)) a xs:=WN ok (.inl e)
end
def WP(H:Hp)(a:Addr)(y:V)(r:Option V):Prop:=
 (∃kvs k,Rd H a (.dK kvs)/\y=kV k/\r=yD kvs k)\/∃kvs k b,Rd H a (.dT kvs)/\y=.ref b/\H b=some (.tup (k.map kV))/\r=yD kvs k
def aDx(H:Hp)(a:Addr)(y v:V)(H':Hp):Prop:=
 (∃kvs k,H a=some (.dK kvs)/\y=kV k/\kvs.length<sizeLine/\H'=upd H a (.dK (putK kvs k v)))\/
 ∃kvs k b,H a=some (.dT kvs)/\y=.ref b/\H b=some (.tup (k.map kV))/\kvs.length<sizeLine/\H'=upd H a (.dT (putK kvs k v))
def WP.k{k:Key}(e:H a=some (.dK kvs)):WP H a (kV k) (yD kvs k):=.inl ⟨kvs,k,.inl e,rfl,rfl⟩
def WP.t{k:List Key}(e:H a=some (.dT kvs))(eb:H b=some (.tup (k.map kV))):WP H a (.ref b) (yD kvs k):=.inr ⟨kvs,k,b,.inl e,rfl,eb,rfl⟩
def aDx.k{k:Key}{v:V}(e:H a=some (.dK kvs))(hl:kvs.length<sizeLine):aDx H a (kV k) v (upd H a (.dK (putK kvs k v))):=.inl ⟨kvs,k,e,rfl,hl,rfl⟩
def aDx.t{H:Hp}{a b:Addr}{kvs:List (List Key×V)}{k:List Key}{v:V}(e:H a=some (.dT kvs))(eb:H b=some (.tup (k.map kV)))(hl:kvs.length<sizeLine) :
  aDx H a (.ref b) v (upd H a (.dT (putK kvs k v))):=.inr ⟨kvs,k,b,e,rfl,eb,hl,rfl⟩
section
def Inv.big(I:Inv X pins σ H s):sysModules<s.heap.objs.size:=by
 have h:mainGlobals<s.heap.objs.size:=(I.mod.glob.keeps I.bk).lt;exact Nat.lt_trans 0x4 h
def WQ(hu:A.units+1<cLine)(I:Inv X pins σ H s)(g:WP H a y (some v))(ry:RelV y u)(h:∀w' s',Inv X pins σ H s'->RelV v w'->Q w' s') :
  wpAny (model X.prog X.w) A (getItem (.ref a) u) Q E s:=by
 rcases g with ⟨kvs,k,e,ey,l⟩|⟨kvs,k,b,e,ey,eb,l⟩
 ·subst ey;obtain⟨z,hd,vs,rel,dd⟩:=WM I.hok e;obtain⟨w',hw,rw'⟩:=JV.some_of (by rw[l];exact rel.val k);exact wpAny_getItem_of (zK ry) dd.mapOf hw (h w' _ (I.tok _) rw')
 ·subst ey;cases (show u=Value.ref b from ry);obtain⟨z,hd,xs,rel,dd⟩:=WN I.hok e;obtain⟨w',hw,rw'⟩:=JV.some_of (by rw[l];exact rel.val k);obtain⟨p,hp,hp2⟩:=Option.map_eq_some_iff.mp hw;refine wpAny_getItem_heap (tupleKind_room_in1 hu) (yE I.hok eb) dd hp ?_;rw[hp2];exact h w' _ (I.tok _) rw'
def aPp(hu:A.units+1<cLine)(I:Inv X pins σ H s)(g:WP H a y o)(ry:RelV y u)(h:∀s',Inv X pins σ H s'->Q (.bool o.isSome) s') :
  wpAny (model X.prog X.w) A (compareOp .In u (.ref a)) Q E s:=by
 rcases g with ⟨kvs,k,e,ey,l⟩|⟨kvs,k,b,e,ey,eb,l⟩
 ·subst ey;obtain⟨z,hd,vs,rel,dd⟩:=WM I.hok e;refine wpAny_in_of (zK ry) hd dd.mapOf ?_;rw[<-(rel.val k).mJ,<-l];exact h _ (I.tok _)
 ·subst ey;cases (show u=Value.ref b from ry);obtain⟨z,hd,xs,rel,dd⟩:=WN I.hok e;refine wpAny_in_heap (tupleKind_room_in1 hu) (yE I.hok eb) hd dd ?_;have q:=(rel.val k).mJ;rw[Option.isSome_map] at q;rw[<-q,<-l];exact h _ (I.tok _)
def aFr(hu:A.units+1<cLine)(I:Inv X pins σ H s)(g:WP H a y o)(ry:RelV y u)(h:∀s',Inv X pins σ H s'->Q (.bool (!o.isSome)) s') :
  wpAny (model X.prog X.w) A (compareOp .NotIn u (.ref a)) Q E s:=by
 rcases g with ⟨kvs,k,e,ey,l⟩|⟨kvs,k,b,e,ey,eb,l⟩
 ·subst ey;obtain⟨z,hd,vs,rel,dd⟩:=WM I.hok e;refine wpAny_notIn_of (zK ry) hd dd.mapOf ?_;rw[<-(rel.val k).mJ,<-l];exact h _ (I.tok _)
 ·subst ey;cases (show u=Value.ref b from ry);obtain⟨z,hd,xs,rel,dd⟩:=WN I.hok e;refine wpAny_notIn_heap (tupleKind_room_in1 hu) (yE I.hok eb) hd dd ?_;have q:=(rel.val k).mJ;rw[Option.isSome_map] at q;rw[<-q,<-l];exact h _ (I.tok _)
def WR(I:Inv X pins σ H s)(mu:Mut (H a))(hs:Heap.SameBut a s.heap h')(he:∃q,h'.get? a=some q)(new:gQ X.prog X.w (upd H a ob) h' a ob) :
  Inv X pins σ (upd H a ob) {s with heap:=h',toks:=t'}:=
 I.write mu (.inl rfl) (λb q hb z=>(hs.2 b hb).trans z) he new
def WT(z:kvs.length<=sizeLine)(hd:(a==sysModules)=false)(rel:KV kvs vs)(dd:h'.DictOf (cC P w) a vs) :
  gQ P w H' h' a (.dK kvs):=⟨z,hd,vs,rel,dd⟩
def WW(hu:A.units+1<cLine)(I:Inv X pins σ H s)(g:aDx H a y v H')(ry:RelV y u)(rv:RelV v r)(h:∀s',Inv X pins σ H' s'->Q () s') :
  wpAny (model X.prog X.w) A (setItem (.ref a) u r) Q E s:=by
 rcases g with ⟨kvs,k,e,ey,l,eH⟩|⟨kvs,k,b,e,ey,eb,l,eH⟩
 ·subst ey eH;obtain⟨z,hd,vs,rel,dd⟩:=S9 I.hok e;have hz:vs.length<=sizeLine:=by rw[<-rel.length];exact z
  have hl:(putK kvs k v).length<=sizeLine:=by have:=kW kvs k v;lia
  refine wpAny_setItem_pairs (zK ry) dd λh' dd' hs=>h _ ?_
  have he:∃q,h'.get? a=some q:=let ⟨q,_,_,hq,_⟩:=dd';⟨q,hq⟩
  exact WR I (by rw[e];exact True.intro) hs he (WT hl hd (rel.put k rv) dd')
 ·subst ey eH;cases (show u=Value.ref b from ry);obtain⟨z,hd,xs,rel,dd⟩:=aFq I.hok e;have hz:xs.length<=sizeLine:=by rw[<-Paired.length rel];exact z
  have hl:(putK kvs k v).length<=sizeLine:=by have:=kW kvs k v;lia
  refine wpAny_setItem_heap (tupleKind_room_in1 hu) (yE I.hok eb) dd λh' dd' hs=>h _ ?_
  obtain⟨q,es,ep,hq,h2,h3,h4,_,h5⟩:=dd';refine WR I (by rw[e];exact True.intro) hs ⟨q,hq⟩ ⟨hl,hd,_,(rel.put k eb rv).keeps λc ys ec=>?_,q,es,ep,hq,h2,h3,h4,h5⟩;rw[aR (oH ec e (λz=>nomatch z))];exact ec
end
def J_(I:Inv X pins σ H s)(g:WP H a y o):s.TypeIs (.ref a) "dict":=by
 rcases g with ⟨kvs,k,e,_,_⟩|⟨kvs,k,b,e,_,_,_⟩
 ·obtain⟨_,_,vs,_,dd⟩:=WM I.hok e;exact dd.typeIs
 ·obtain⟨_,_,xs,_,dd⟩:=WN I.hok e;exact dd.typeIs
def aBl(h:Heap)(hb:sysModules<h.objs.size):gQ P w H (h.push {cls:=.type "dict",data:=.dict #[]}) h.objs.size (.dK []):=
 ⟨Nat.zero_le _,beq_eq_false_iff_ne.mpr (Ne.symm (Nat.ne_of_lt hb)),[],.nil,Heap.DictOf.new h⟩
def O7:TE:=λ_ H Q=>∀p,H p=none->Q (.ref p) (upd H p (.dK []))
section
def O8:PE X (.Dict [] [] pos) O7:=λpins s σ H Q I h=>
 wpAny_Dict_empty ⟨.ref s.heap.objs.size,_,I.laid (λ_ _ q=>Heap.get?_push_of_some _ q) (Nat.le_refl _) (aBl s.heap I.big),rfl,h _ (I.hok.fresh (Nat.le_refl _))⟩
end
def gB(kvs more:List (Key×V)):List (Key×V):=more.foldl (λacc kv=>putK acc kv.1 kv.2) kvs
def KV.merge:∀{more:List (Key×V)}{rs:List (Key×Value)}{kvs:List (Key×V)}{vs:List (Key×Value)},KV more rs->KV kvs vs->KV (gB kvs more) (merged vs rs):=by
 intro more rs kvs vs r;unfold KV at r;induction r generalizing kvs vs with
 |nil=>intro q;exact q
 |@cons p q ps qs h t ih=>
  intro r0;have e:KV (putK kvs p.1 p.2) (stored vs q.1 q.2):=by
   have:=r0.put p.1 h.2;rw[<-h.1];exact this
  exact ih e
theorem kY:∀(more kvs:List (Key×V)),(gB kvs more).length<=kvs.length+more.length
 |[],kvs=>by show kvs.length<=kvs.length+0;lia
 |p::r,kvs=>by
  have h1:=kY r (putK kvs p.1 p.2);have h2:=kW kvs p.1 p.2;show(gB (putK kvs p.1 p.2) r).length<=_;rw[List.length_cons];lia
end L2
namespace Att
open PySem PySem.W PySem.Calls PyProof.Rows
def vZ:∀(ns:List Int)(vs:List Value),WellAll P h vs (ns.map WData.int)->IntsAre vs ns:=by
 intro ns;induction ns with
 |nil=>
  intro vs w;rw[List.map_nil] at w;cases w;exact .nil
 |cons n ns ih=>
  intro vs w;rw[List.map_cons] at w;cases w with
  |cons a b=>
   cases a;exact .cons _ _ (ih _ b)
def WX{l:OpenLaw}(hn:l.most=some n)
 (hpre:l.row.toRowW.claim.pre args=true)(hwl:WellAll P h vals args) :
  ∃a vs ns,vals=[Value.ref a]/\args=[WData.list (ns.map WData.int)]/\h.get? a=some {cls:=.type "list",data:=.seq vs.toArray}/\IntsAre vs ns/\ns.length<=n:=by
 have hsh:WShape.hasAll [] args [.list .int]=true:=(pre_splitW hpre).1;have hc:l.pre.holds [] {args:=args}=true:=(pre_splitW hpre).2;obtain⟨d,r,rfl,h1,h2⟩:=hasAllW_cons hsh;obtain rfl:=hasAllW_nil h2;obtain⟨xs,rfl,h3⟩:=hasW_list h1;obtain⟨ns,rfl⟩:=items_int h3;have hlen:ns.length<=n:=by
  unfold OpenLaw.pre at hc;have h4:(WTm.not (.lt (.lit (.int (n:Int))) (.len (.arg 0)))).holds [] {args:=[.list (ns.map .int)]}=true:=by
   have h4:=(holds_andW hc).1;rw[hn] at h4;exact h4
  have h5:=condW_of h4 (w_not (w_lt w_lit (w_len_list (w_arg rfl))));rw[List.length_map] at h5;refine Nat.le_of_not_lt λq=>?_
  have q':(n:Int)<((ns.length:Nat):Int):=by lia
  first
   | (rw[decide_eq_true q'] at h5;exact absurd h5 0x4)
   | (simp at h5;lia)
 cases hwl with
 |cons w1 w2=>
  cases w2;cases w1 with
  |list ho hall=>exact⟨_,_,ns,rfl,rfl,ho,vZ ns _ hall,hlen⟩
def WY(l:OpenLaw)(args:List WData):l.row.toRowW.claim.post args (.bool true) args=true:=
 postW_of
  (show WShape.has [] (.bool true) .bool=true by first|rfl|decide|simp[WShape.has,WShape.arms,WShape.armsAll])
  (show(WTm.eq .res (.lit (.bool true))).value [] {args:=args,res:=some (.bool true),after:=args}=some (.bool (true==true)) from w_eq_bool (w_res rfl) w_lit) rfl
def KC{l:OpenLaw}{n:Nat}{q:Program}{loose:List Str}{XP:(Str->Option Value)->Heap->Prop}{YP:World->Heap->Prop}{d:DefRec}
 (hn:l.most=some n)(hdf:d.params.defaults=[])
 (call:∀(w:World) (s₀ s₁:Shared) (mg mb:Str->Option Value) (fa:Addr) (o:Obj) (pm cd doc:Value) (a:Addr) (vs:List Value) (ns:List Int),
   Ground q loose [] XP w s₀ mg mb s₁.heap->YP w s₁.heap->
   s₁.heap.get? fa=some o->o.data=.func (docDef d.name d.params d.body d.scope pm cd doc)->s₁.heap.CodeRec cd d.name->mg d.name=some (.ref fa)->
   s₁.heap.get? a=some {cls:=.type "list",data:=.seq vs.toArray}->IntsAre vs ns->ns.length<=n->s₁.gens=#[]->
   codeAny (model l.prog w) callerA (.call (.ref fa) ⟨[.ref a],[]⟩) (λr s'=>r=.ok (.ret (.bool true))/\OldK s₁.heap s'.heap/\s'.os=s₁.os/\AllBare s'.gens) s₁) :
  WalkO q loose XP YP l.row.toRowW d [] (λf vs=>PySem.call f vs):=by
 intro w s₀ s₁ mg mb G Y fa o pm cd doc dV kV ho hd hcd hD hmg hg args vals as hpre hlay hrd hwl hlo;obtain rfl:dV=.none:=Dflts.none hD hdf;obtain rfl:kV=.none:=Dflts.noKw hD;obtain⟨a,vs,ns,rfl,rfl,hobj,hints,hlen⟩:=WX hn hpre hwl;refine enter_call (codeAny_mono (call w s₀ s₁ mg mb fa o pm cd doc a vs ns G Y ho (fd_plain hd) hcd hmg hobj hints hlen hg) λr s' hq=>?_);obtain⟨rfl,h2,h3,h4⟩:=hq;exact⟨.inl ⟨.bool true,.bool true,[],rfl,λ_=>rfl,.bool true,WY l _,λ_=>⟨List.Pairwise.nil,λ_ hm=>(nomatch hm)⟩⟩,h2,h3,h4⟩
end Att
namespace L2
open PySem PySem.Spec PyProof.Rows
def mK:∀{vs:List Value}{ns:List Int},IntsAre vs ns->Vals (ns.map V.int) vs
 |_,_,.nil=>.nil
 |_,_,.cons n t h=>.cons ⟨t,rfl⟩ (mK h)
def Only(H:Hp):Prop:=∀b,H b=none\/∃o xs,H b=some (.frz o (.lst xs))
def aBm{P:Program}{w:World}{K:PySem.W.Frag}{mg mb:Str->Option Value}{CX:CXT}{k:Nat}{fa a:Addr}{fd:FuncData}{x:Str}{sp:Sp}{s₁:Shared}{vs:List Value}{ns:List Int}
 (KX:K.In s₁.heap)(hns:s₁.heap.Ns mainGlobals mg)(hb:s₁.heap.Ns builtinsNs mb)(hbb:∀x:Str,x ≠ "__name__"->mb x=bootBuiltins x)(hlim:s₁.heap.NoLimit)(hg:s₁.gens=#[])
 (ha:s₁.heap.get? a=some {cls:=.type "list",data:=.seq vs.toArray})(hi:IntsAre vs ns)(hl:ns.length<=sizeLine)(hr:lX k callerA)
 (F:∀base:Heap,K.In base->base.Ns mainGlobals mg->lR P w K mg base CX k fa fd [x] sp)(hbind:∀(s:Shared) (u:Value),BindsTo s fd ⟨[u],[]⟩ [(x,u)])
 (hsp:∀H:Hp,Only H->SqL K H a (ns.map V.int)->sp [.ref a] H (λv _=>v=.bl true) λ_ _ _=>False)
 (hCX:∀H e s',CX [] H s₁ (λ_ _ _=>False) e s'->False) :
  codeAny (model P w) callerA (.call (.ref fa) ⟨[.ref a],[]⟩) (λr s'=>r=.ok (.ret (.bool true))/\OldK s₁.heap s'.heap/\s'.os=s₁.os/\AllBare s'.gens) s₁:=by
 have rv:=mK hi;have lenV:=hi.length
 -- from an abstract heap in which nothing but the script may be tracked
 have core:∀H:Hp,Only H->SqL K H a (ns.map V.int)->HOk P w H s₁.heap->(∀b,H b≠none->b=a)->(H a≠none->K.lookup a=none)->
   codeAny (model P w) callerA (.call (.ref fa) ⟨[.ref a],[]⟩) (λr s'=>r=.ok (.ret (.bool true))/\OldK s₁.heap s'.heap/\s'.os=s₁.os/\AllBare s'.gens) s₁:=by
  intro H hO hS hok hA hK;have base_of:∀{b:Addr}{o:Obj},s₁.heap.get? b=some o->H b=none->(aB7 s₁.heap H).get? b=some o:=λe n=>aB8 e n
  have noA:∀{b:Addr}{o:Obj}{es:Array DictEntry}{ep:Nat},s₁.heap.get? b=some o->o.data=.dict es ep->H b=none:=λ{b o es ep} e d=>by
   cases q:H b with
   |none=>rfl
   |some u=>
    have e':b=a:=hA b (by rw[q];simp);subst e';rw[ha] at e;cases e;have d':Data.seq vs.toArray _=Data.dict es ep:=d;cases d'
  have nsK:∀{b:Addr}{m:Str->Option Value},s₁.heap.Ns b m->(aB7 s₁.heap H).Ns b m:=λ{b m} ⟨o,es,ep,e,d,r⟩=>⟨o,es,ep,base_of e (noA e d),d,r⟩
  have hKb:K.In (aB7 s₁.heap H):=λb o e=>base_of (KX b o e) (by
   cases q:H b with
   |none=>rfl
   |some u=>
    have e':b=a:=hA b (by rw[q];simp);subst e';rw[hK (by rw[q];simp)] at e;cases e)
  have hM:Mod K mg (aB7 s₁.heap H):=⟨hKb,nsK hns,⟨mb,nsK hb,hbb⟩,let ⟨mc,h1,h2⟩:=hlim;⟨mc,nsK h1,h2⟩⟩
  have e0:aFg P w K mg (aB7 s₁.heap H) callerA [] s₁ H:=⟨rfl,hM,λb o e=>aF5 e,Nat.le_of_eq (VL _ _),trivial,λb hb=>absurd (show b∈([]:List Addr) from hb) 0x2,hok,.of_eq hg⟩
  refine codeAny_mono ((F _ hKb (nsK hns)).run callerA [] s₁ H ⟨[.ref a],[]⟩ [.ref a] [.ref a] _ _ hr e0 (hbind s₁ (.ref a)) (.cons rfl .nil) (hsp H hO hS)) λr s' h=>?_
  cases r with
  |error e=>exact(hCX H e s' h).elim
  |ok fl=>
   cases fl with
   |next=>exact False.elim h
   |brk=>exact False.elim h
   |cont=>exact False.elim h
   |ret u=>
    obtain⟨v,H',os,bare,un,hok',r',q⟩:=h;have q':v=.bl true:=q;subst q';obtain rfl:u=Value.bool true:=r';refine⟨rfl,OldK.of_keep λb o e=>?_,os,bare⟩;cases q:H b with
    |none=>exact un.keep b o e q (by intro z;exact absurd (show b∈([]:List Addr) from z) 0x2) 0x2
    |some u=>
     rcases hO b with z|⟨ob,xs,z⟩
     ·rw[q] at z;cases z
     ·have z2:=un.frzs b ob _ z;obtain⟨e1,_⟩:=hok b _ z;obtain⟨e2,_⟩:=hok' b _ z2;rw[e] at e1;cases e1;exact e2
 cases hk:K.lookup a with
 |some o=>
  -- the script is one of the module's own objects
  have e:=KX a o hk;rw[ha] at e;cases e;refine core (λ_=>none) (λ_=>.inl rfl) (.inr ⟨_,vs.toArray,_,hk,rfl,rfl,rfl,by rw[List.size_toArray,lenV];exact hl,by simpa using rv⟩) (λb u z=>by have z':(none:Option HO)=some u:=z;cases z') (λb z=>absurd rfl z) λz=>absurd rfl z
 |none=>
  refine core (λb=>if b=a then some (.frz {cls:=.type "list",data:=.seq vs.toArray} (.lst (ns.map V.int))) else none) (λb=>?_) (.inl (.inr ⟨{cls:=.type "list",data:=.seq vs.toArray},if_pos rfl⟩)) (λb u z=>?_) (λb z=>?_) λ_=>hk
  ·by_cases hb:b=a
   ·exact .inr ⟨_,_,if_pos hb⟩
   ·exact .inl (if_neg hb)
  ·by_cases hb:b=a
   ·have z':=(if_pos hb).symm.trans z;cases z';subst hb;exact⟨ha,by rw[List.length_map];exact hl,vs,_,rv,ha⟩
   ·have z':=(if_neg hb).symm.trans z;cases z'
  ·by_cases hb:b=a
   ·exact hb
   ·exact absurd (if_neg hb) z
def aFs{l:PySem.W.OpenLaw}{n k:Nat}{q:Program}{loose:List Str}{XP:(Str->Option Value)->Heap->Prop}{YP:World->Heap->Prop}{d:DefRec}{K:Params->PySem.W.Frag}{CX:World->CXT}{sp:World->Sp}{x:Str}
 (hn:l.most=some n)(hn2:n<=sizeLine)(hdf:d.params.defaults=[])(hr:lX k callerA)
 (hY:∀(w:World) (h:Heap),YP w h->(K w.params).In h)
 (F:∀(w:World) (mg:Str->Option Value) (fa:Addr) (h:Heap),(K w.params).In h->h.Ns mainGlobals mg->mg d.name=some (.ref fa)->
   ∃fd:FuncData,(∀(s:Shared) (u:Value),BindsTo s fd ⟨[u],[]⟩ [(x,u)])/\
    ∀base:Heap,(K w.params).In base->base.Ns mainGlobals mg->lR l.prog w (K w.params) mg base (CX w) k fa fd [x] (sp w))
 (hsp:∀(w:World) (H:Hp) (a:Addr) (ns:List Int),ns.length<=n->Only H->SqL (K w.params) H a (ns.map V.int)->sp w [.ref a] H (λv _=>v=.bl true) λ_ _ _=>False)
 (hCX:∀(w:World) (H:Hp) (s:Shared) (e:Value) (s':Shared),CX w [] H s (λ_ _ _=>False) e s'->False) :
  PySem.W.WalkO q loose XP YP l.row.toRowW d [] (λf vs=>PySem.call f vs):=by
 refine Att.KC hn hdf λw s₀ s₁ mg mb fa o pm cd doc a vs ns G Y ho hd hcd hmg hobj hints hlen hg=>?_
 have KX:=hY w _ Y;obtain⟨fd,hb,hF⟩:=F w mg fa _ KX G.T.g hmg;exact aBm KX G.T.g G.T.b G.T.builtins G.T.nolimit hg hobj hints (Nat.le_trans hlen hn2) hr hF hb (λH hO hS=>hsp w H a ns hlen hO hS) λH e s'=>hCX w H s₁ e s'
noncomputable def fJ(s:Stmt):Arguments:=match s with
 |.FunctionDef _ a _ _ _ _ _ _ _ _=>a
 |_=>{posonlyargs:=[],args:=[],vararg:=none,kwonlyargs:=[],kw_defaults:=[],kwarg:=none,defaults:=[]}
noncomputable def cR(s:Stmt):List Stmt:=match s with
 |.FunctionDef _ _ b _ _ _ _ _ _ _=>b
 |_=>[]
noncomputable def aL(s:Stmt):Scope:=match s with
 |.FunctionDef _ _ _ _ _ _ sc _ _ _=>sc
 |_=>{kind:=.function,names:=[],isGenerator:=false,isCoroutine:=false}
noncomputable abbrev CX0:CXT:=λ_ _ _ _ _ _=>False
noncomputable abbrev E0:XK:=λ_ _ _=>False
def aBn:vV CX0 X E0:=λ_ _ _ _ _ _ _ h=>h.elim
structure Fun(K:PySem.W.Frag)(x qual:Str)(st:Stmt)(f:Addr)(fd:FuncData):Prop where
 ex:∃(oc:Value)(od:Option Addr)(kV doc pm:Value)(an:Option Addr)(cdv ct:Value)(osl:Array (Option Value)),
  fd=PySem.W.fnOf x qual (fJ st) (cR st) (aL st) .none kV doc pm an cdv ct/\K.lookup f=some ⟨oc,od,.func fd,osl⟩/\PySem.W.codeIn K cdv qual=true
 kp:PySem.W.keepIn K (.ref f)=true
section
variable {P:Program} {w:World} {K:PySem.W.Frag} {mg:Str->Option Value} {base:Heap}
def Fun.ok{st:Stmt}{f:Addr}{fd:FuncData}{N ps:List Str}{k:Nat}{sp:Sp}(F:Fun K x qual st f fd)(S:bY N ps (aL st))(len:∀vs H Q E,sp vs H Q E->vs.length=ps.length)
 (hbody:∀(cdv:Value) (A:Around) (outer:List Env) (s:Shared) (H:Hp) (vs:List V) (Q:VK) (E:XK),lX k (A.deeper (envOfC qual (aL st) s.heap.objs.size f cdv))->sp vs H Q E->
   ∃t,PSs (JW CX0 P w K mg base N qual (aL st) f cdv A outer s H E).nox (cR st) t/\t {nx:=λ_ H'=>Q .non H',rt:=Q} (start N vs) H):lR P w K mg base CX0 (k+1) f fd ps sp:=by
 obtain⟨oc,od,kV,doc,pm,an,cdv,ct,osl,rfl,lk,hcd⟩:=F.ex;refine aFi lk hcd S len λA outer s H vs Q E hr hsp=>?_
 obtain⟨t,h,q⟩:=hbody cdv A outer s H vs Q E hr hsp;exact⟨t,h.nox,q⟩
def Fun.binds{st:Stmt}(F:Fun K x qual st f fd)
 (h:∀(kV doc pm:Value) (an:Option Addr) (cdv ct:Value) (us:List Value),us.length=ps.length->bindArgs (PySem.W.fnOf x qual (fJ st) (cR st) (aL st) .none kV doc pm an cdv ct) ⟨us,[]⟩=pure (ps.zip us)):Binds K fd ps []:=by
 obtain⟨oc,od,kV,doc,pm,an,cdv,ct,osl,rfl,lk,hcd⟩:=F.ex;exact .all (h kV doc pm an cdv ct)
def jC{st:Stmt}{f:Addr}{oc:Value}{od an:Option Addr}{osl:Array (Option Value)}{kV doc pm cdv ct:Value}(l:K.lookup f=some ⟨oc,od,.func (PySem.W.fnOf x qual (fJ st) (cR st) (aL st) .none kV doc pm an cdv ct),osl⟩)
 (c:PySem.W.codeIn K cdv qual=true)(k:PySem.W.keepIn K (.ref f)=true):Fun K x qual st f (PySem.W.fnOf x qual (fJ st) (cR st) (aL st) .none kV doc pm an cdv ct):=⟨⟨oc,od,kV,doc,pm,an,cdv,ct,osl,rfl,l,c⟩,k⟩
end
def bU(H H':Hp):Prop:=∀b o,H b=some o->H' b=some o
def bU.refl(H:Hp):bU H H:=λ_ _ h=>h
def bU.trans(a:bU H H1)(b:bU H1 H2):bU H H2:=λc o h=>b c o (a c o h)
def bU.free(e:bU H H')(h:H' l=Option.none):H l=Option.none:=by
 cases q:H l with
 |none=>rfl
 |some o=>
  rw[e l o q] at h;cases h
section
variable [DecidableEq κ]
def aBo{k:κ}(h:yD kvs k=none):¬k∈kvs.map (·.1):=by
 intro m;obtain⟨p,hp,e⟩:=List.mem_map.mp m;have q:(kvs.any λkv=>decide (kv.1=k))=true:=List.any_eq_true.mpr ⟨p,hp,decide_eq_true e⟩;rw[oU,h] at q;exact absurd q 0x2
theorem W4:∀{l:List κ}{k:κ},l.Nodup->¬k∈l->(l++[k]).Nodup
 |[],k,_,_=>by simp
 |a::r,k,h,hk=>by
  obtain⟨h1,h2⟩:=List.nodup_cons.mp h;show(a::(r++[k])).Nodup;refine List.nodup_cons.mpr ⟨λm=>?_,W4 h2 λm=>hk (List.mem_cons.mpr (Or.inr m))⟩;rcases List.mem_append.mp m with q|q
  ·exact h1 q
  ·exact hk (List.mem_cons.mpr (Or.inl (List.mem_singleton.mp q).symm))
def aFt{k:κ}(v:V)(hn:(kvs.map (·.1)).Nodup)(h:yD kvs k=none):((putK kvs k v).map (·.1)).Nodup:=by
 rw[aBj v h,List.map_append];exact W4 hn (aBo h)
end
end L2
namespace Mi
open PySem
inductive D where
 |uD|non|bl (b:Bool)|int (i:Int)|str (x:Str)
 |tup (xs:List D)|lst (xs:List D)|dct (kvs:List (D×D))|scr (xs:List D)|fdc (kvs:List (D×D))|cel (a:Nat) (xs:List D)|exc (c:Str) (fs:List (Str×Str))|ins (c:Str) (fs:List (Str×D))
 deriving Inhabited
mutual
noncomputable def D.pure:D->Bool
 |.tup xs=>D.aJ xs
 |.lst _=>false
 |.dct _=>false
 |.uD=>false
 |.scr xs=>D.aJ xs
 |.fdc _=>false
 |.cel _ _=>false
 |.exc _ _=>false
 |.ins _ _=>false
 |_=>true
noncomputable def D.aJ:List D->Bool
 |[]=>true
 |x::xs=>x.pure&&D.aJ xs
end
mutual
noncomputable def eqD:D->D->Bool
 |.non,.non=>true
 |.bl a,.bl b=>a==b
 |.int a,.int b=>a==b
 |.bl a,.int b=>(if a then (1:Int) else 0)==b
 |.int a,.bl b=>a==(if b then (1:Int) else 0)
 |.str a,.str b=>a==b
 |.tup xs,.tup ys=>yF xs ys
 |.lst xs,.lst ys=>yF xs ys
 |_,_=>false
noncomputable def yF:List D->List D->Bool
 |[],[]=>true
 |x::xs,y::ys=>eqD x y&&yF xs ys
 |_,_=>false
end
mutual
noncomputable def D.fC:Nat->D->Bool
 |n+1,.tup xs=>D.dR n xs
 |n+1,.lst xs=>D.dR n xs
 |0,.tup _=>false
 |0,.lst _=>false
 |_,.dct _=>false
 |_,.uD=>false
 |_,.scr _=>false
 |_,.fdc _=>false
 |_,.cel _ _=>false
 |_,.exc _ _=>false
 |_,.ins _ _=>false
 |_,_=>true
noncomputable def D.dR:Nat->List D->Bool
 |_,[]=>true
 |n,x::xs=>D.fC n x&&D.dR n xs
end
inductive W5 where|lt|le|gt|ge
 deriving DecidableEq
noncomputable def W5.int:W5->Int->Int->Bool
 |.lt,a,b=>decide (a<b)|.le,a,b=>decide (a<=b)|.gt,a,b=>decide (b<a)|.ge,a,b=>decide (b<=a)
noncomputable def W5.nat:W5->Nat->Nat->Bool
 |.lt,a,b=>decide (a<b)|.le,a,b=>decide (a<=b)|.gt,a,b=>decide (b<a)|.ge,a,b=>decide (b<=a)
noncomputable def aBp(a b:Str):Bool:=decide (a.cps.toList<b.cps.toList)
def W5.str:W5->Str->Str->Bool
 |.lt,a,b=>aBp a b|.le,a,b=>!aBp b a|.gt,a,b=>aBp b a|.ge,a,b=>!aBp a b
mutual
noncomputable def aOl(o:W5):D->D->Option Bool
 |.int a,.int b=>some (o.int a b)
 |.str a,.str b=>some (o.str a b)
 |.tup xs,.tup ys=>aJ3 o xs ys
 |_,_=>none
noncomputable def aJ3(o:W5):List D->List D->Option Bool
 |[],ys=>some (o.nat 0 ys.length)
 |x::xs,[]=>some (o.nat (x::xs).length 0)
 |x::xs,y::ys=>if eqD x y then aJ3 o xs ys else aOl o x y
end
inductive Res(α:Type) where
 |ok (a:α)|err (c:Str) (as:List D)|bad
noncomputable def Res.bind{α β:Type}:Res α->(α->Res β)->Res β
 |.ok a,f=>f a
 |.err c as,_=>.err c as
 |.bad,_=>.bad
noncomputable instance:Monad Res where
 pure:=.ok
 bind:=Res.bind
@[simp] theorem Res.aO(a:α)(f:α->Res β):((Res.ok a) >>= f)=f a:=rfl
@[simp] theorem Res.aMc(c:Str)(as:List D)(f:α->Res β):((Res.err c as:Res α) >>= f)=.err c as:=rfl
@[simp] theorem Res.aMd(f:α->Res β):((Res.bad:Res α) >>= f)=.bad:=rfl
@[simp] theorem Res.pure_eq(a:α):(pure a:Res α)=.ok a:=rfl
def Res.aFu{f:α->Res β}(h:(m >>= f)=.ok b):∃a,m=.ok a/\f a=.ok b:=by
 cases m with
 |ok a=>exact⟨a,rfl,h⟩
 |err c as=>cases h
 |bad=>cases h
def bx{P:Prop}(h:(Res.bad:Res α)=.ok d):P:=by cases h
def fx0{P:Prop}(h:false=true):P:=by cases h
noncomputable def Res.ofOpt{α:Type}:Option α->Res α
 |some a=>.ok a
 |none=>.bad
@[simp] theorem Res.aIb(a:α):Res.ofOpt (some a)=.ok a:=rfl
def Res.kZ(h:Res.ofOpt o=.ok a):o=some a:=by
 cases o with
 |none=>cases h
 |some b=>cases h;rfl
noncomputable def lim:Nat:=1000000
inductive Bop where|add|sub|mul|fdiv|mod|pow
 deriving DecidableEq
inductive Cop where|eq|ne|ord (o:W5)|isin|notin|isN|notN
 deriving DecidableEq
noncomputable def iV(i:Int):Bool:=decide (-(2 ^ 64)<i)&&decide (i<2 ^ 64)
def aU:Bop->D->D->Res D
 |.add,.int a,.int b=>.ok (.int (a+b))
 |.sub,.int a,.int b=>.ok (.int (a-b))
 |.mul,.int a,.int b=>if iV a||iV b then .ok (.int (a*b)) else .bad
 |.fdiv,.int a,.int b=>if decide (0<b)&&decide (b<1073741824) then .ok (.int (a / b)) else .bad
 |.mod,.int a,.int b=>if decide (0<b) then .ok (.int (a % b)) else .bad
 |.pow,.int a,.int b=>if decide (0<=b)&&decide (b<=1000000)&&decide (a.natAbs<2 ^ 64) then .ok (.int (a ^ b.toNat)) else .bad
 |.add,.str a,.str b=>if decide (a.length+b.length<=lim) then .ok (.str (a++b)) else .bad
 |.add,.lst a,.lst b=>if decide (a.length+b.length<=lim)&&D.aJ a&&D.aJ b then .ok (.lst (a++b)) else .bad
 |_,_,_=>.bad
def aOm:D->Res Bool
 |.non=>.ok false
 |.bl b=>.ok b
 |.int i=>.ok (i !=0)
 |.str x=>if decide (x.length<=lim) then .ok ((x.length:Int)!=0) else .bad
 |.tup xs=>.ok (!xs.isEmpty)
 |.lst xs=>.ok (!xs.isEmpty)
 |.dct kvs=>.ok (!kvs.isEmpty)
 |.uD=>.bad
 |.fdc _=>.bad
 |.cel _ _=>.bad
 |.exc _ _=>.bad
 |.ins _ _=>.bad
 |.scr xs=>.ok (!xs.isEmpty)
noncomputable def gR:D->Bool
 |.int _=>true
 |.str _=>true
 |_=>false
def keyOk:D->Bool
 |.int _=>true
 |.str _=>true
 |.tup xs=>xs.all gR
 |_=>false
noncomputable def isTup:D->Bool
 |.tup _=>true
 |_=>false
def cA:List (D×D)->D->Option D
 |[],_=>none
 | (k,v)::r,q=>if eqD k q then some v else cA r q
def putD:List (D×D)->D->D->List (D×D)
 |[],q,w=>[(q,w)]
 | (k,v)::r,q,w=>if eqD k q then (k,w)::r else (k,v)::putD r q w
def uK(kvs:List (D×D))(k:D):Bool:=keyOk k&&kvs.all (λp=>isTup p.1==isTup k)
noncomputable def aX:Nat:=12
def eX:Cop->D->D->Res D
 |.eq,a,b=>if a.fC aX&&b.fC aX then .ok (.bl (eqD a b)) else .bad
 |.ne,a,b=>if a.fC aX&&b.fC aX then .ok (.bl (!eqD a b)) else .bad
 |.ord o,a,b=>if a.fC aX&&b.fC aX then (match aOl o a b with|some k=>.ok (.bl k)|none=>.bad) else .bad
 |.isin,a,.tup ys=>if a.fC aX&&D.dR aX ys then .ok (.bl (ys.any λy=>eqD y a)) else .bad
 |.isin,a,.lst ys=>if a.fC aX&&D.dR aX ys then .ok (.bl (ys.any λy=>eqD y a)) else .bad
 |.isin,a,.dct kvs=>if uK kvs a then .ok (.bl (cA kvs a).isSome) else .bad
 |.notin,a,.tup ys=>if a.fC aX&&D.dR aX ys then .ok (.bl (!(ys.any λy=>eqD y a))) else .bad
 |.notin,a,.lst ys=>if a.fC aX&&D.dR aX ys then .ok (.bl (!(ys.any λy=>eqD y a))) else .bad
 |.notin,a,.dct kvs=>if uK kvs a then .ok (.bl (!(cA kvs a).isSome)) else .bad
 |.isN,.scr _,.non=>.bad
 |.notN,.scr _,.non=>.bad
 |.isN,.fdc _,.non=>.bad
 |.notN,.fdc _,.non=>.bad
 |.isN,.cel _ _,.non=>.bad
 |.notN,.cel _ _,.non=>.bad
 |.isN,.non,.non=>.ok (.bl true)
 |.isN,a,.non=>.ok (.bl false)
 |.notN,.non,.non=>.ok (.bl false)
 |.notN,a,.non=>.ok (.bl true)
 |_,_,_=>.bad
noncomputable def ixD(n:Nat)(i:Int):Option Nat:=if 0<=i then (if i<n then some i.toNat else none) else if -(n:Int)<=i then some (i+n).toNat else none
def getD(d i:D):Res D:=
 match d,i with
 |.tup xs,.int i=>Res.ofOpt ((ixD xs.length i).bind λj=>xs[j]?)
 |.lst xs,.int i=>Res.ofOpt ((ixD xs.length i).bind λj=>xs[j]?)
 |.scr xs,.int i=>Res.ofOpt ((ixD xs.length i).bind λj=>xs[j]?)
 |.cel _ xs,.int i=>Res.ofOpt ((ixD xs.length i).bind λj=>xs[j]?)
 |.str x,.int i=>if decide (x.length<=lim) then Res.ofOpt (((ixD x.cps.toList.length i).bind λj=>x.cps.toList[j]?).map λc=>D.str ⟨#[c]⟩) else .bad
 |.dct kvs,k=>if keyOk k then Res.ofOpt (cA kvs k) else .bad
 |.fdc kvs,k=>if keyOk k then Res.ofOpt (cA kvs k) else .bad
 |_,_=>.bad
noncomputable def aB2(n d:Nat):Option Int->Nat
 |none=>d
 |some v=>if v<0 then (max (v+(n:Int)) 0).toNat else (min v (n:Int)).toNat
def cutD{α:Type}(xs:List α)(lo hi:Option Int):List α:=(xs.drop (aB2 xs.length 0 lo)).take (aB2 xs.length xs.length hi-aB2 xs.length 0 lo)
inductive Ty where|int|str|bool|list|tuple|dict
 deriving DecidableEq
noncomputable def aN5:Ty->D->Res Bool
 |_,.uD=>.bad
 |_,.scr _=>.bad
 |_,.fdc _=>.bad
 |_,.cel _ _=>.bad
 |_,.exc _ _=>.bad
 |_,.ins _ _=>.bad
 |.int,.int _=>.ok true
 |.int,.bl _=>.ok true
 |.bool,.bl _=>.ok true
 |.str,.str _=>.ok true
 |.tuple,.tup _=>.ok true
 |.list,.lst _=>.ok true
 |.dict,.dct _=>.ok true
 |_,_=>.ok false
noncomputable def nR(i:Int):Bool:=decide (-(2 ^ 62)<=i)&&decide (i<2 ^ 62)
noncomputable def asB:D->Res Bool
 |.bl b=>.ok b
 |_=>.bad
noncomputable def asI:D->Res Int
 |.int i=>.ok i
 |_=>.bad
inductive Fl where
 |nx (ρ:List D)|rt (d:D)|bk (ρ:List D)|ct (ρ:List D)
noncomputable def aPq:Fl->Res D
 |.rt d=>.ok d
 |.nx _=>.ok .non
 |_=>.bad
noncomputable abbrev FE:=List D->Res D
noncomputable abbrev FT:=List D->Res Bool
noncomputable abbrev FA:=List D->Res (List D)
noncomputable def cO(i:Nat):FE:=λρ=>match ρ.getD i .uD with|.uD=>.bad|d=>.ok d
noncomputable def bC(d:D):FE:=λ_=>.ok d
abbrev eY:FE:= cO 2
abbrev nJ:FE:= cO 0
abbrev fD:FE:= cO 1
abbrev c7:FE:= cO 3
abbrev d7:FE:= cO 4
abbrev jR:FE:= cO 6
abbrev jN:FE:= cO 7
abbrev mC:FE:= cO 5
abbrev fV:FE:= cO 14
abbrev mL:FE:= cO 10
abbrev eO:FE:= cO 11
abbrev lY:FE:= cO 8
abbrev k_:FE:= cO 12
abbrev lA:FE:= cO 13
abbrev kJ:FE:= cO 9
abbrev oV:FE:= cO 17
abbrev j4:FE:= cO 15
abbrev xO:FE:= cO 16
abbrev cG:FE:= bC (.int 0)
abbrev iW:FE:= bC (.int 2)
abbrev cP:FE:= bC (.int 1)
abbrev h_:FE:= bC (.int 3)
abbrev aFv:FE:= bC (.int 5)
abbrev aMe:FE:= bC (.int 9)
abbrev KD:FE:= bC (.int 6)
abbrev W6:FE:= bC (.int 18)
abbrev nD:FE:= bC (.int 26)
abbrev aJ4:FE:= bC (.int 8)
abbrev KH:FE:= bC (.int 40)
abbrev DG:FE:= bC (.int 4)
abbrev xP:FE:= bC (.int 12)
abbrev aFw:FE:= bC (.int 10)
abbrev O9:FE:= bC (.int 120)
abbrev W7:FE:= bC (.int 400)
noncomputable def b2(f:D->D->Res D)(a b:FE):FE:=λρ=>do let x <- a ρ;let y <- b ρ;f x y
noncomputable def b1(f:D->Res D)(a:FE):FE:=λρ=>do let x <- a ρ;f x
def bTB(a:FE):FT:=λρ=>do let x <- a ρ;asB x
noncomputable def VB(a:FT):FT:=λρ=>do let x <- a ρ;pure (!x)
noncomputable def aBq(a b:FT):FT:=λρ=>do let x <- a ρ;if x then b ρ else pure false
noncomputable def bOr(a b:FT):FT:=λρ=>do let x <- a ρ;if x then pure true else b ρ
def aMf(a b:FE):FE:=λρ=>do let x <- a ρ;let k <- asB x;if k then pure (.bl true) else b ρ
noncomputable def aQ:FA:=λ_=>.ok []
noncomputable def aB(a:FE)(b:FA):FA:=λρ=>do let x <- a ρ;let xs <- b ρ;pure (x::xs)
def fW(a:FA):FE:=λρ=>do let xs <- a ρ;if decide (xs.length<=lim) then pure (.tup xs) else .bad
def gM(a:FA):FE:=λρ=>do let xs <- a ρ;if decide (xs.length<=lim) then pure (.lst xs) else .bad
noncomputable def aV(f:List D->Res D)(a:FA):FE:=λρ=>do let xs <- a ρ;f xs
noncomputable def bM(f:D->List D->Res D)(o:FE)(a:FA):FE:=λρ=>do let x <- o ρ;let xs <- a ρ;f x xs
def eZ(a:FE):List D->Res (Option Int):=λρ=>do let x <- a ρ;let i <- asI x;pure (some i)
noncomputable def fX:List D->Res (Option Int):=λ_=>.ok none
def aPr:D->Res Bool
 |.dct _=>.bad
 |.scr _=>.bad
 |.fdc _=>.bad
 |d=>aOm d
def bTr(a:FE):FT:=λρ=>do let x <- a ρ;aPr x
noncomputable def O_:D->Res D
 |.int i=>.ok (.int (-i))
 |_=>.bad
def aMg:D->Option Int->Option Int->Res D
 |.lst xs,lo,hi=>if D.aJ xs then .ok (.lst (cutD xs lo hi)) else .bad
 |.scr xs,lo,hi=>if D.aJ xs then .ok (.lst (cutD xs lo hi)) else .bad
 |.tup xs,lo,hi=>if !D.aJ xs||decide (aB2 xs.length 0 lo=0/\aB2 xs.length xs.length hi=xs.length) then .bad else .ok (.tup (cutD xs lo hi))
 |_,_,_=>.bad
def lC:List D->Res D
 |[.tup xs]=>.ok (.int xs.length)
 |[.lst xs]=>.ok (.int xs.length)
 |[.scr xs]=>.ok (.int xs.length)
 |[.cel _ xs]=>.ok (.int xs.length)
 |[.str x]=>if decide (x.length<=lim) then .ok (.int x.length) else .bad
 |_=>.bad
noncomputable def aJ5(kvs:List (D×D)):List D:=kvs.map (·.1)
def aBr:List D->Res D
 |[.tup xs]=>if D.aJ xs then .ok (.lst xs) else .bad
 |[.lst xs]=>if D.aJ xs then .ok (.lst xs) else .bad
 |[.dct kvs]=>if kvs.all (λp=>!isTup p.1) then .ok (.lst (aJ5 kvs)) else .bad
 |_=>.bad
noncomputable def cX:List D->Res D
 |[.tup xs]=>.ok (.tup xs)
 |[.lst xs]=>.ok (.tup xs)
 |_=>.bad
noncomputable def Ty.nm:Ty->String
 |.int=>"int" | .str=>"str" | .bool=>"bool" | .list=>"list" | .tuple=>"tuple" | .dict=>"dict"
def xQ(t:Ty)(d:D):Res D:=do let k <- aN5 t d;pure (.bl k)
noncomputable def mD(n:Nat)(f:List D->Res D):List D->Res D:=λds=>if decide (ds.length=n) then f ds else .bad
noncomputable abbrev FI:=List D->Res (List D×Bool)
noncomputable def v6:D->Res (List D)
 |.lst xs=>.ok xs
 |.tup xs=>.ok xs
 |_=>.bad
def iK:List D->Res (List D×Bool)
 |[.int n]=>if nR n then .ok ((List.range n.toNat).map λ(k:Nat)=>D.int (0+(k:Int)),true) else .bad
 |_=>.bad
noncomputable def jW(f:FA)(g:List D->Res (List D×Bool)):FI:=λρ=>do let xs <- f ρ;g xs
noncomputable def PJ(n:Nat)(ρ:List D):List D:=(List.range n).map λi=>ρ.getD i .uD
noncomputable def jT:D->Res (List D):=λd=>.ok [d]
def FQ(n:Nat)(t:D->Res (List D))(c:FT)(f:FE)(k:Bool)(ρ:List D)(acc:List D)(x:D):Res (List D):=do
 let bs <- t x
 let ok <- c (PJ n ρ++bs)
 if ok then (do
  let y <- f (PJ n ρ++bs)
  if k||y.pure then pure (acc++[y]) else .bad)
 else pure acc
noncomputable def nT(g:List D->D->Res (List D)):List D->List D->Res (List D)
 |acc,[]=>.ok acc
 |acc,x::xs=>do let a <- g acc x;nT g a xs
def cJ(n:Nat)(it:FI)(t:D->Res (List D))(c:FT)(f:FE)(k:Bool):FE:=λρ=>do
 let xs <- it ρ
 if decide (xs.1.length<=lim) then (do
  let ys <- nT (FQ n t c f k ρ) [] xs.1
  pure (.lst ys)) else .bad
noncomputable def dH:FT:=λ_=>.ok true
noncomputable abbrev FS:=List D->Res Fl
noncomputable def D.PK:D->Bool
 |.cel _ _=>false
 |_=>true
def inner:D->Bool
 |.lst xs=>D.aJ xs
 |.dct kvs=>D.aJ (kvs.map (·.2))
 |.cel _ xs=>D.aJ xs
 |_=>false
noncomputable def mF:FS:=λρ=>.ok (.nx ρ)
noncomputable def bB(f g:FS):FS:=λρ=>do
 let r <- f ρ
 match r with
 |.nx ρ'=>g ρ'
 |r=>.ok r
def bW(o:Bool)(i:Nat)(f:FE)(k:Bool):FS:=λρ=>do
 let d <- f ρ
 if (if o then k&&inner d else k||d.pure) then .ok (.nx (ρ.set i d)) else .bad
noncomputable def sIf(c:FT)(f g:FS):FS:=λρ=>do
 let k <- c ρ
 if k then f ρ else g ρ
noncomputable def nU(f:FE)(k:Bool):FS:=λρ=>do
 let d <- f ρ
 if k||d.pure then .ok (.rt d) else .bad
def aJ6(i:Nat):FS:=λρ=>do
 let d <- cO i ρ
 .ok (.rt d)
noncomputable def rtX:Nat:=1000000
noncomputable def KJ(f:FE)(k:Bool):FS:=λρ=>do
 let d <- f ρ
 if k||d.pure then .ok (.rt (.tup (d::ρ))) else .bad
def nM(i:Nat):FS:=λρ=>do
 let d <- cO i ρ
 if d.PK then .ok (.rt (.tup (d::ρ))) else .bad
def zL(i:Nat)(f:FE):FS:=λρ=>do
 let d <- f ρ
 match ρ.getD i .uD with
 |.lst xs=>if decide (xs.length<lim)&&d.pure then .ok (.nx (ρ.set i (.lst (xs++[d])))) else .bad
 |_=>.bad
def W8(i:Nat)(f:FE)(g:FE):FS:=λρ=>do
 let d <- g ρ
 let k <- f ρ
 match ρ.getD i .uD with
 |.dct kvs=>if decide (kvs.length<lim)&&uK kvs k&&d.pure then .ok (.nx (ρ.set i (.dct (putD kvs k d)))) else .bad
 |_=>.bad
noncomputable def tg1(i:Nat):D->List D->Res (List D):=λd ρ=>.ok (ρ.set i d)
noncomputable def KN:List Nat->List D->List D->List D
 |i::is,d::ds,ρ=>KN is ds (ρ.set i d)
 |_,_,ρ=>ρ
def tgN(is:List Nat):D->List D->Res (List D)
 |.tup ds,ρ=>if decide (ds.length=is.length) then .ok (KN is ds ρ) else .bad
 |_,_=>.bad
noncomputable def vA(t:D->List D->Res (List D))(body:FS):List D->List D->Res Fl
 |[],ρ=>.ok (.nx ρ)
 |x::xs,ρ=>do
  let ρ1 <- t x ρ
  let r <- body ρ1
  match r with
  |.nx ρ'=>vA t body xs ρ'
  |.ct ρ'=>vA t body xs ρ'
  |.bk ρ'=>.ok (.nx ρ')
  |.rt d=>.ok (.rt d)
def VD(it:FI)(t:D->List D->Res (List D))(body:FS):FS:=λρ=>do
 let xs <- it ρ
 if xs.2 then vA t body xs.1 ρ else .bad
def uV(i:Nat)(t:D->List D->Res (List D))(body:FS):FS:=λρ=>do
 let d <- cO i ρ
 let xs <- v6 d
 vA t body xs ρ
def fnS(n m:Nat)(f:FS):List D->Res D:=λds=>do
 let r <- f (ds++List.replicate (m-n) .uD)
 aPq r
open L2
class KFrag where
 K:PySem.W.Frag
variable [KFrag]
def aBs(H:Hp)(a:Addr)(xs:List V):Prop:=(∃o,H a=some (.frz o (.lst xs)))\/
 ∃(o:Obj)(its:Array Value)(n:Nat),KFrag.K.lookup a=some o/\o.cls=.type "list"/\o.dict=none/\o.data=.seq its n/\its.size<=sizeLine/\Vals xs its.toList
def aBs.sq(h:aBs H a xs)(hK:KFrag.K=K):SqL K H a xs:=by
 subst hK;rcases h with ⟨o,h⟩|h
 ·exact .inl (.inr ⟨o,h⟩)
 ·exact .inr h
noncomputable def kD:Key->D
 |.inl i=>.int i
 |.inr x=>.str x
noncomputable def PN:HO->Bool
 |.lst _=>true
 |.dK _=>true
 |.dT _=>true
 |_=>false
def XO(a C:Addr)(dx:Option Addr)(h:Heap):Prop:=∃o,h.get? a=some o/\o.cls=.ref C/\o.dict=dx/\∃vs,o.data=.fields vs
def XD(dx:Addr)(fs:List (Str×Str))(h:Heap):Prop:=∃mA,h.Ns1 dx mA/\PySem.Within mA (fs.map (·.1))/\∀f,match fs.lookup f with
 |some t=>∃tk,mA f=some (.str t tk)
 |none=>mA f=none
def XDs(H:Hp)(fs:List (Str×Str)):Option Addr->Prop
 |none=>fs=[]
 |some d=>H d=some (.ext (XD d fs))
mutual
inductive Rep(P:Addr->Prop)(H:Hp):V->D->Prop
 |non:Rep P H .non .non
 |bl (b:Bool):Rep P H (.bl b) (.bl b)
 |int (i:Int):Rep P H (.int i) (.int i)
 |str (x:Str):Rep P H (.str x) (.str x)
 |tup {a:Addr} {xs:List V} {ds:List D}:H a=some (.tup xs)->bG P H xs ds->Rep P H (.ref a) (.tup ds)
 |lst {a:Addr} {xs:List V} {ds:List D}:H a=some (.lst xs)->P a->bG P H xs ds->Rep P H (.ref a) (.lst ds)
 |cel {a:Addr} {xs:List V} {ds:List D}:H a=some (.lst xs)->P a->bG P H xs ds->Rep P H (.ref a) (.cel a ds)
 |frz {a:Addr} {xs:List V} {ds:List D}:aBs H a xs->bG P H xs ds->Rep P H (.ref a) (.scr ds)
 |dK {a:Addr} {kvs:List (Key×V)} {ds:List (D×D)}:H a=some (.dK kvs)->P a->fY P H kvs ds->(kvs.map (·.1)).Nodup->Rep P H (.ref a) (.dct ds)
 |dT {a:Addr} {kvs:List (List Key×V)} {ds:List (D×D)}:H a=some (.dT kvs)->P a->lZ P H kvs ds->(kvs.map (·.1)).Nodup->Rep P H (.ref a) (.dct ds)
 |fdK {a:Addr} {o:Obj} {kvs:List (Key×V)} {ds:List (D×D)}:H a=some (.frz o (.dK kvs))->fY P H kvs ds->(kvs.map (·.1)).Nodup->Rep P H (.ref a) (.fdc ds)
 |fdT {a:Addr} {o:Obj} {kvs:List (List Key×V)} {ds:List (D×D)}:H a=some (.frz o (.dT kvs))->lZ P H kvs ds->(kvs.map (·.1)).Nodup->Rep P H (.ref a) (.fdc ds)
 |exc {a C:Addr} {dx:Option Addr} {c:Str} {fs:List (Str×Str)}:PySem.W.nsIn KFrag.K mainGlobals c=some (some (.ref C))->H a=some (.ext (XO a C dx))->XDs H fs dx->Rep P H (.ref a) (.exc c fs)
 |ins {a C dx:Addr} {c:Str} {vs:List (Str×V)} {fs:List (Str×D)}:PySem.W.nsIn KFrag.K mainGlobals c=some (some (.ref C))->H a=some (.ins C dx vs)->nO P H vs fs->Rep P H (.ref a) (.ins c fs)
inductive nO(P:Addr->Prop)(H:Hp):List (Str×V)->List (Str×D)->Prop
 |nil:nO P H [] []
 |cons {f:Str} {v:V} {d:D} {r:List (Str×V)} {ds:List (Str×D)}:Rep P H v d->nO P H r ds->nO P H ((f,v)::r) ((f,d)::ds)
inductive bG(P:Addr->Prop)(H:Hp):List V->List D->Prop
 |nil:bG P H [] []
 |cons {v:V} {d:D} {vs:List V} {ds:List D}:Rep P H v d->bG P H vs ds->bG P H (v::vs) (d::ds)
inductive fY(P:Addr->Prop)(H:Hp):List (Key×V)->List (D×D)->Prop
 |nil:fY P H [] []
 |cons {k:Key} {v:V} {d:D} {r:List (Key×V)} {ds:List (D×D)}:Rep P H v d->fY P H r ds->fY P H ((k,v)::r) ((kD k,d)::ds)
inductive lZ(P:Addr->Prop)(H:Hp):List (List Key×V)->List (D×D)->Prop
 |nil:lZ P H [] []
 |cons {k:List Key} {v:V} {d:D} {r:List (List Key×V)} {ds:List (D×D)}:Rep P H v d->lZ P H r ds->lZ P H ((k,v)::r) ((.tup (k.map kD),d)::ds)
end
def KQ(P:Addr->Prop)(H H':Hp):Prop:=∀a o,H a=some o->(P a\/PN o=false)->H' a=some o
def KQ.same(h:bU H H'):KQ P H H':=λa o e _=>h a o e
mutual
theorem Rep.keep{P P':Addr->Prop}{H H':Hp}(k:KQ P H H')(m:∀a,P a->P' a):∀{v:V}{d:D},Rep P H v d->Rep P' H' v d
 |_,_,.non=>.non
 |_,_,.bl b=>.bl b
 |_,_,.int i=>.int i
 |_,_,.str x=>.str x
 |_,_,.tup e r=>.tup (k _ _ e (.inr rfl)) (bG.keep k m r)
 |_,_,.lst e p r=>.lst (k _ _ e (.inl p)) (m _ p) (bG.keep k m r)
 |_,_,.cel e p r=>.cel (k _ _ e (.inl p)) (m _ p) (bG.keep k m r)
 |_,_,.frz e r=>.frz (e.imp (λ⟨o,e⟩=>⟨o,k _ _ e (.inr rfl)⟩) id) (bG.keep k m r)
 |_,_,.dK e p r n=>.dK (k _ _ e (.inl p)) (m _ p) (fY.keep k m r) n
 |_,_,.dT e p r n=>.dT (k _ _ e (.inl p)) (m _ p) (lZ.keep k m r) n
 |_,_,.fdK e r n=>.fdK (k _ _ e (.inr rfl)) (fY.keep k m r) n
 |_,_,.fdT e r n=>.fdT (k _ _ e (.inr rfl)) (lZ.keep k m r) n
 |_,_,.exc (dx:=dx) n e q=>.exc n (k _ _ e (.inr rfl)) (match dx,q with|none,q=>q|some _,q=>k _ _ q (.inr rfl))
 |_,_,.ins n e r=>.ins n (k _ _ e (.inr rfl)) (nO.keep k m r)
theorem nO.keep{P P':Addr->Prop}{H H':Hp}(k:KQ P H H')(m:∀a,P a->P' a):∀{v:List (Str×V)}{d:List (Str×D)},nO P H v d->nO P' H' v d
 |_,_,.nil=>.nil
 |_,_,.cons r t=>.cons (Rep.keep k m r) (nO.keep k m t)
theorem bG.keep{P P':Addr->Prop}{H H':Hp}(k:KQ P H H')(m:∀a,P a->P' a):∀{v:List V}{d:List D},bG P H v d->bG P' H' v d
 |_,_,.nil=>.nil
 |_,_,.cons r t=>.cons (Rep.keep k m r) (bG.keep k m t)
theorem fY.keep{P P':Addr->Prop}{H H':Hp}(k:KQ P H H')(m:∀a,P a->P' a):∀{v:List (Key×V)}{d:List (D×D)},fY P H v d->fY P' H' v d
 |_,_,.nil=>.nil
 |_,_,.cons r t=>.cons (Rep.keep k m r) (fY.keep k m t)
theorem lZ.keep{P P':Addr->Prop}{H H':Hp}(k:KQ P H H')(m:∀a,P a->P' a):∀{v:List (List Key×V)}{d:List (D×D)},lZ P H v d->lZ P' H' v d
 |_,_,.nil=>.nil
 |_,_,.cons r t=>.cons (Rep.keep k m r) (lZ.keep k m t)
end
def Rep.mono(r:Rep P H v d)(m:∀a,P a->P' a):Rep P' H v d:=r.keep (λ_ _ e _=>e) m
def bG.mono(r:bG P H v d)(m:∀a,P a->P' a):bG P' H v d:=r.keep (λ_ _ e _=>e) m
def Rep.same(r:Rep P H v d)(s:bU H H'):Rep P H' v d:=r.keep (.same s) λ_ h=>h
def bG.same(r:bG P H v d)(s:bU H H'):bG P H' v d:=r.keep (.same s) λ_ h=>h
mutual
theorem Rep.bN{P P':Addr->Prop}{H:Hp}:∀{v:V}{d:D},Rep P H v d->d.pure=true->Rep P' H v d
 |_,_,.non,_=>.non
 |_,_,.bl b,_=>.bl b
 |_,_,.int i,_=>.int i
 |_,_,.str x,_=>.str x
 |_,_,.tup e r,h=>.tup e (bG.bN r (by rw[D.pure] at h;exact h))
 |_,_,.lst _ _ _,h=>by rw[D.pure] at h;cases h
 |_,_,.cel _ _ _,h=>by rw[D.pure] at h;cases h
 |_,_,.frz e r,h=>.frz e (bG.bN r (by rw[D.pure] at h;exact h))
 |_,_,.dK _ _ _ _,h=>by rw[D.pure] at h;cases h
 |_,_,.dT _ _ _ _,h=>by rw[D.pure] at h;cases h
 |_,_,.fdK _ _ _,h=>by rw[D.pure] at h;cases h
 |_,_,.fdT _ _ _,h=>by rw[D.pure] at h;cases h
 |_,_,.exc _ _ _,h=>by rw[D.pure] at h;cases h
 |_,_,.ins _ _ _,h=>by rw[D.pure] at h;cases h
theorem bG.bN{P P':Addr->Prop}{H:Hp}:∀{v:List V}{d:List D},bG P H v d->D.aJ d=true->bG P' H v d
 |_,_,.nil,_=>.nil
 |_,_,.cons r t,h=>by
  rw[D.aJ,Bool.and_eq_true] at h;exact .cons (Rep.bN r h.1) (bG.bN t h.2)
end
theorem bG.length:∀{v:List V}{d:List D},bG P H v d->v.length=d.length
 |_,_,.nil=>rfl
 |_,_,.cons _ t=>by rw[List.length_cons,List.length_cons,bG.length t]
theorem bG.get:∀{vs:List V}{ds:List D}{i:Nat}{d:D},bG P H vs ds->ds[i]?=some d->∃v,vs[i]?=some v/\Rep P H v d
 |_,_,_,_,.nil,e=>by simp at e
 |_,_,0,_,.cons r _,e=>by simp at e;subst e;exact⟨_,rfl,r⟩
 |_,_,i+1,d,.cons _ t,e=>by
  obtain⟨v,h1,h2⟩:=bG.get t (by simpa using e);exact⟨v,by simpa using h1,h2⟩
theorem bG.at:∀{vs:List V}{ds:List D}{i:Nat}{v:V},bG P H vs ds->vs[i]?=some v->∃d,ds[i]?=some d/\Rep P H v d
 |_,_,_,_,.nil,e=>by simp at e
 |_,_,0,_,.cons r _,e=>by simp at e;subst e;exact⟨_,rfl,r⟩
 |_,_,i+1,d,.cons _ t,e=>by
  obtain⟨v,h1,h2⟩:=bG.at t (by simpa using e);exact⟨v,by simpa using h1,h2⟩
theorem bG.append:∀{vs ws:List V}{ds es:List D},bG P H vs ds->bG P H ws es->bG P H (vs++ws) (ds++es)
 |_,_,_,_,.nil,s=>s
 |_,_,_,_,.cons r t,s=>.cons r (bG.append t s)
theorem bG.take:∀{vs:List V}{ds:List D}(n:Nat),bG P H vs ds->bG P H (vs.take n) (ds.take n)
 |_,_,0,_=>.nil
 |_,_,_+1,.nil=>.nil
 |_,_,n+1,.cons r t=>.cons r (bG.take n t)
theorem bG.drop:∀{vs:List V}{ds:List D}(n:Nat),bG P H vs ds->bG P H (vs.drop n) (ds.drop n)
 |_,_,0,r=>r
 |_,_,_+1,.nil=>.nil
 |_,_,n+1,.cons _ t=>bG.drop n t
theorem bG.set(r:Rep P H v d):∀{vs:List V}{ds:List D}(n:Nat),bG P H vs ds->bG P H (vs.set n v) (ds.set n d)
 |_,_,_,.nil=>.nil
 |_,_,0,.cons _ t=>.cons r t
 |_,_,n+1,.cons q t=>.cons q (bG.set r n t)
def bG.snoc(t:bG P H vs ds)(r:Rep P H v d):bG P H (vs++[v]) (ds++[d]):=t.append (.cons r .nil)
def Rep.uD:¬Rep P H v .uD:=λh=>by cases h
abbrev All:Addr->Prop:=λ_=>True
abbrev New(H:Hp):Addr->Prop:=λa=>H a=none
def Rep.all(r:Rep P H v d):Rep All H v d:=r.mono λ_ _=>trivial
def bG.all(r:bG P H v d):bG All H v d:=r.mono λ_ _=>trivial
def bU.new(s:bU H H'):∀a,New H' a->New H a:=λa h=>s.free h
def bU.upd(h:H a=none):bU H (upd H a o):=λb u e=>by rw[aR (bI e h)];exact e
def ER(H:Hp)(σ:St)(ρ:List D):Prop:=∀i,ρ.getD i .uD≠.uD->∃v,σ[i]?=some (some v)/\Rep All H v (ρ.getD i .uD)
def ER.same(e:ER H σ ρ)(s:bU H H'):ER H' σ ρ:=λi h=>by
 obtain⟨v,h1,h2⟩:=e i h;exact⟨v,h1,h2.same s⟩
def PE.imp(h:PE X e t)(i:∀σ H Q,t' σ H Q->t σ H Q):PE X e t':=λpins s σ H Q I q=>h pins s σ H Q I (i σ H Q q)
def PT.imp(h:PT X e t)(i:∀σ H Q,t' σ H Q->t σ H Q):PT X e t':=λpins s σ H Q I q=>h pins s σ H Q I (i σ H Q q)
def PA.imp(h:PA X e t)(i:∀σ H Q,t' σ H Q->t σ H Q):PA X e t':=λpos pins s σ H Q I q=>h pos pins s σ H Q I (i σ H Q q)
mutual
theorem Rep.dom{P:Addr->Prop}{H:Hp}:∀{v:V}{d:D},Rep P H v d->Rep (λa=>P a/\H a≠none) H v d
 |_,_,.non=>.non
 |_,_,.bl b=>.bl b
 |_,_,.int i=>.int i
 |_,_,.str x=>.str x
 |_,_,.tup e r=>.tup e (bG.dom r)
 |_,_,.lst e p r=>.lst e ⟨p,by rw[e];simp⟩ (bG.dom r)
 |_,_,.cel e p r=>.cel e ⟨p,by rw[e];simp⟩ (bG.dom r)
 |_,_,.frz e r=>.frz e (bG.dom r)
 |_,_,.dK e p r n=>.dK e ⟨p,by rw[e];simp⟩ (fY.dom r) n
 |_,_,.dT e p r n=>.dT e ⟨p,by rw[e];simp⟩ (lZ.dom r) n
 |_,_,.fdK e r n=>.fdK e (fY.dom r) n
 |_,_,.fdT e r n=>.fdT e (lZ.dom r) n
 |_,_,.exc n e q=>.exc n e q
 |_,_,.ins n e q=>.ins n e (nO.dom q)
theorem nO.dom{P:Addr->Prop}{H:Hp}:∀{v:List (Str×V)}{d:List (Str×D)},nO P H v d->nO (λa=>P a/\H a≠none) H v d
 |_,_,.nil=>.nil
 |_,_,.cons r t=>.cons (Rep.dom r) (nO.dom t)
theorem bG.dom{P:Addr->Prop}{H:Hp}:∀{v:List V}{d:List D},bG P H v d->bG (λa=>P a/\H a≠none) H v d
 |_,_,.nil=>.nil
 |_,_,.cons r t=>.cons (Rep.dom r) (bG.dom t)
theorem fY.dom{P:Addr->Prop}{H:Hp}:∀{v:List (Key×V)}{d:List (D×D)},fY P H v d->fY (λa=>P a/\H a≠none) H v d
 |_,_,.nil=>.nil
 |_,_,.cons r t=>.cons (Rep.dom r) (fY.dom t)
theorem lZ.dom{P:Addr->Prop}{H:Hp}:∀{v:List (List Key×V)}{d:List (D×D)},lZ P H v d->lZ (λa=>P a/\H a≠none) H v d
 |_,_,.nil=>.nil
 |_,_,.cons r t=>.cons (Rep.dom r) (lZ.dom t)
end
theorem Rep.aFx(r:Rep P H v d)(k:KQ P H H')(m:∀a o,H a=some o->P a->P' a):Rep P' H' v d:=
 r.dom.keep (λa o e hp=>k a o e (hp.imp (·.1) id)) λa ⟨h1,h2⟩=>by
  cases q:H a with
  |none=>exact absurd q h2
  |some o=>exact m a o q h1
def aPs(P:Addr->Prop)(H:Hp)(v:V):D->Prop
 |.non=>v=.non
 |.bl b=>v=.bl b
 |.int i=>v=.int i
 |.str x=>v=.str x
 |.tup ds=>∃a xs,v=.ref a/\H a=some (.tup xs)/\bG P H xs ds
 |.lst ds=>∃a xs,v=.ref a/\H a=some (.lst xs)/\P a/\bG P H xs ds
 |.cel b ds=>∃xs,v=.ref b/\H b=some (.lst xs)/\P b/\bG P H xs ds
 |.scr ds=>∃a xs,v=.ref a/\aBs H a xs/\bG P H xs ds
 |.ins c fs=>∃a C dx vs,v=.ref a/\PySem.W.nsIn KFrag.K mainGlobals c=some (some (.ref C))/\H a=some (.ins C dx vs)/\nO P H vs fs
 |.exc c fs=>∃a C dx,v=.ref a/\PySem.W.nsIn KFrag.K mainGlobals c=some (some (.ref C))/\H a=some (.ext (XO a C dx))/\XDs H fs dx
 |.uD=>False
 |_=>True
def Rep.inv(r:Rep P H v d):aPs P H v d:=by
 cases r with
 |non=>rfl
 |bl=>rfl
 |int=>rfl
 |str=>rfl
 |tup e r=>exact⟨_,_,rfl,e,r⟩
 |lst e p r=>exact⟨_,_,rfl,e,p,r⟩
 |cel e p r=>exact⟨_,rfl,e,p,r⟩
 |frz e r=>exact⟨_,_,rfl,e,r⟩
 |ins n e r=>exact⟨_,_,_,_,rfl,n,e,r⟩
 |exc n e r=>exact⟨_,_,_,rfl,n,e,r⟩
 |_=>trivial
end Mi
namespace L2
open PySem PySem.Spec PyProof.Rows
noncomputable def gJ(own:List Str)(x:Str):Str:=if own.contains x then x++(" " : Str) else x
def clF(env:Env):List (Str×NameKind)->List (Str×Addr)->List (Str×Addr)
 |[],acc=>acc
 | (n,k)::r,acc=>clF env r (if k==.free then (n,(env.cells.lookup n).getD 0)::acc else acc)
theorem sG:∀(names:List (Str×NameKind))(acc:List (Str×Addr)),(∀y∈names,y.2=.free->∃c,env.cells.lookup y.1=some c)->
  (forIn names acc λx cs=>(match x with
   | (name,kind)=>if (kind==.free)=true then cellOf env name >>= λc=>pure (ForInStep.yield ((name,c)::cs)) else pure (ForInStep.yield cs):Sem (ForInStep (List (Str×Addr)))))=(pure (clF env names acc):Sem _)
 |[],acc,_=>by rw[List.forIn_nil];rfl
 | (n,k)::r,acc,h=>by
  rw[List.forIn_cons];by_cases hk:(k==.free)=true
  ·have hk':k=.free:=by simpa using hk
   obtain⟨c,e⟩:=h (n,k) (List.mem_cons_self ..) hk';have e':cellOf env n=pure c:=by
    unfold cellOf;have e2:env.cells.lookup n=some c:=e;rw[e2]
   dsimp only;rw[if_pos hk,e',pure_bind,pure_bind];dsimp only;rw[sG r _ λy hy=>h y (List.mem_cons_of_mem _ hy)];have e2:env.cells.lookup n=some c:=e;simp only[clF,hk,if_true,e2,Option.getD_some]
  ·dsimp only;rw[if_neg hk,pure_bind];dsimp only;rw[sG r _ λy hy=>h y (List.mem_cons_of_mem _ hy)];simp only[clF,hk,Bool.false_eq_true,if_false]
def S_(h:∀y∈scope.names,y.2=.free->∃c,env.cells.lookup y.1=some c):closureFor scope env=pure (clF env scope.names []):=by
 unfold closureFor;have:=sG scope.names [] h;simp only[bind_pure] at *;exact this
theorem KR:∀{names:List (Str×NameKind)}{acc:List (Str×Addr)}{x:Str}{c:Addr},(∀y∈names,y.2=.free->∃c,env.cells.lookup y.1=some c)->(∀x c,acc.lookup x=some c->env.cells.lookup x=some c)->
  (clF env names acc).lookup x=some c->env.cells.lookup x=some c
 |[],acc,x,c,_,h,e=>h x c e
 | (n,k)::r,acc,x,c,q,h,e=>by
  unfold clF at e;refine KR (λy hy=>q y (List.mem_cons_of_mem _ hy)) (λy d hy=>?_) e;by_cases hk:(k==.free)=true
  ·rw[if_pos hk,List.lookup_cons] at hy;obtain⟨c',e'⟩:=q (n,k) (List.mem_cons_self ..) (by simpa using hk);have e2:env.cells.lookup n=some c':=e';cases hyn:y==n with
   |true=>
    rw[hyn] at hy;have:y=n:=by simpa using hyn
    subst this;rw[e2] at hy;simp only[Option.getD_some] at hy;rw[e2];exact hy
   |false=>rw[hyn] at hy;exact h y d hy
  ·rw[if_neg hk] at hy;exact h y d hy
theorem W9:∀{names:List (Str×NameKind)}{acc:List (Str×Addr)}{x:Str},(∃c,acc.lookup x=some c)->∃c,(clF env names acc).lookup x=some c
 |[],_,_,h=>h
 | (n,k)::r,acc,x,⟨c,h⟩=>by
  unfold clF;refine W9 ?_;by_cases hk:(k==.free)=true
  ·rw[if_pos hk,List.lookup_cons];cases x==n with
   |true=>exact⟨_,rfl⟩
   |false=>exact⟨c,h⟩
  ·rw[if_neg hk];exact⟨c,h⟩
theorem KY:∀{names:List (Str×NameKind)}{acc:List (Str×Addr)}{x:Str},(x,NameKind.free)∈names->∃c,(clF env names acc).lookup x=some c
 | (n,k)::r,acc,x,h=>by
  unfold clF;rcases List.mem_cons.mp h with e|h
  ·cases e;refine W9 ?_;rw[if_pos 0x4,List.lookup_cons];simp
  ·exact KY h
structure cH(N:List Str)(sc scope:Scope)(own:List Str):Prop where
 kind:scope.kind=.function
 nocell:∀y∈scope.names,y.2≠.cell
 names:∀y∈scope.names,y.2=.local->scope.names.lookup y.1=some .local
 free:∀y∈scope.names,y.2=.free->sc.names.lookup y.1=some .cell\/sc.names.lookup y.1=some .free
 ownl:∀x∈own,scope.names.lookup x=some .local
 hid:∀x∈own,scope.names.lookup (x++(" " : Str))=none
 loc:∀y∈scope.names,y.2=.local->y.1∈own\/y.1∉N
structure cV(X X':Cx)(scope:Scope)(own:List Str):Prop where
 prog:X'.prog=X.prog
 w:X'.w=X.w
 K:X'.K=X.K
 mg:X'.mg=X.mg
 base:X'.base=X.base
 A:X'.A=X.A
 N:X'.N=X.N.map (gJ own)++own
 scope:X'.env.scope=relabel scope X.env
 calm:X'.calm=X.calm
 xe:X'.xe=λ_ _=>False
def PP(X:Cx)(scope:Scope)(cl:List (Str×Addr))(C:Addr)(own:List Str)(s₂:Shared)(H₂:Hp)(fp:List Addr):Cx:=
 {X with N:=X.N.map (gJ own)++own,s₀:=s₂,H₀:=H₂,env:=compEnvC scope cl C X.env,outer:=X.stack,stack:=X.stack,ex:=fp,fn:=λ_=>false,pn:=[],xe:=λ_ _=>False}
def W_:cV X (PP X scope cl C own s₂ H₂ fp) scope own:=
 ⟨rfl,rfl,rfl,rfl,rfl,rfl,rfl,rfl,rfl,rfl⟩
def Ext(σ σ2:St):Prop:=σ2.length=σ.length/\∀(i:Nat) v,σ[i]?=some (some v)->σ2[i]?=some (some v)
def FW(wi:TI)(g:TG)(tc:TT)(te:TE)(m:Nat):TE:=λσ H Q=>wi σ H λJ H1=>∀p,H1 p=none->
 ∃W:Nat->Nat->List V->Hp->Prop,(∃n,W 0 n [] (upd H1 p (.lst [])))/\∀i n ys H,W i n ys H->H p=some (.lst ys)/\((J.stop i H/\Q (.ref p) H)\/(J.go i H/\ys.length<sizeLine/\
  ∀x H2,J.yld i H x H2->g x (σ++List.replicate m none) H2 λσ2 H3=>Ext (σ++List.replicate m none) σ2/\tc σ2 H3 λb H4=>if b=true then te σ2 H4 λy H5=>H5 p=some (.lst ys)/\∃n',n'<n/\W (i+1) n' (ys++[y]) (upd H5 p (.lst (ys++[y])))
   else ∃n',n'<n/\W (i+1) n' ys H4))
section
def Inv.comp(I:Inv X pins σ H2 s2)(S:cH X.N X.env.scope scope own)(hf:∀b∈fp,U_ X pins H2 b)
 (hfx:∀b∈fp,b<s2.heap.objs.size)(hns:h1.Ns (s2.heap.objs.size+1) (λ_=>none))
 (hk:∀b o,s2.heap.get? b=some o->h1.get? b=some o)(hacc:h1.get? s2.heap.objs.size=some {cls:=.type "list",data:=.seq #[]}) :
  Inv (PP X scope (clF X.env scope.names []) (s2.heap.objs.size+1) own s2 H2 fp) [] (σ++List.replicate own.length none) (upd H2 s2.heap.objs.size (.lst [])) {s2 with heap:=h1,toks:=t1}:=by
 have hD:H2 s2.heap.objs.size=none:=I.hok.fresh (Nat.le_refl _);have hC:H2 (s2.heap.objs.size+1)=none:=I.hok.fresh (Nat.le_succ _);have cells:∀y∈scope.names,y.2=.free->∃c,X.env.cells.lookup y.1=some c:=λy hy hk=>I.ok.has y.1 (S.free y hy hk)
 have sub:∀x c,(clF X.env scope.names []).lookup x=some c->X.env.cells.lookup x=some c:=λx c e=>KR cells (λ_ _ h=>by simp at h) e
 have relk:∀x,(relabel scope X.env).names.lookup x=some .cell\/(relabel scope X.env).names.lookup x=some .free->(x,NameKind.free)∈scope.names:=by
  intro x hx;have go:∀(l:List (Str×NameKind)),(∀y∈l,y.2≠.cell)->((l.map λ(n,k)=>if (k==NameKind.free&&X.env.scope.kind==.function&&X.env.kindOf n==some .cell) then (n,NameKind.cell) else (n,k)).lookup x=some .cell\/(l.map λ(n,k)=>if (k==NameKind.free&&X.env.scope.kind==.function&&X.env.kindOf n==some .cell) then (n,NameKind.cell) else (n,k)).lookup x=some .free)->(x,NameKind.free)∈l:=by
   intro l;induction l with
   |nil=>intro _ h;rcases h with h|h<;>simp at h
   |cons p l ih=>
    obtain⟨n,k⟩:=p;intro nc h;rw[List.map_cons] at h;dsimp only at h;by_cases hc:(k==NameKind.free&&X.env.scope.kind==.function&&X.env.kindOf n==some .cell)=true
    ·rw[if_pos hc] at h;rw[List.lookup_cons] at h;cases e:x==n with
     |true=>
      have:x=n:=by simpa using e
      subst this;simp only[Bool.and_eq_true] at hc;have:k=.free:=by simpa using hc.1.1
      subst this;exact List.mem_cons_self ..
     |false=>
      rw[e] at h;exact List.mem_cons_of_mem _ (ih (λy hy=>nc y (List.mem_cons_of_mem _ hy)) h)
    ·rw[if_neg hc] at h;rw[List.lookup_cons] at h;cases e:x==n with
     |true=>
      have:x=n:=by simpa using e
      subst this;rw[e] at h;dsimp only at h;rcases h with h|h
      ·exact absurd (Option.some.inj h) (nc (x,k) (List.mem_cons_self ..))
      ·have:=Option.some.inj h;subst this;exact List.mem_cons_self ..
     |false=>
      rw[e] at h;exact List.mem_cons_of_mem _ (ih (λy hy=>nc y (List.mem_cons_of_mem _ hy)) h)
  exact go scope.names S.nocell hx
 have hne:s2.heap.objs.size≠s2.heap.objs.size+1:=Nat.ne_of_lt (Nat.lt_succ_self _);have hlt:∀b o,s2.heap.get? b=some o->b<s2.heap.objs.size:=λb o e=>Heap.lt_size e
 have hstk:∀b∈frs X.stack,b<s2.heap.objs.size:=λb hb=>by
  obtain⟨_,o,ho,_⟩:=I.stack.mem hb;exact hlt b o ho
 refine⟨⟨I.mod,?_,I.ok.glob,I.ok.blt,Nat.le_succ _,λx y c e1 e2=>I.ok.inj x y c (sub x c e1) (sub y c e2),λx hx=>?_,λ_ _ h=>(by cases h),I.ok.hd,I.ok.frames,.inl rfl,λb hb=>?_,λb o e=>I.bs b o e,?_,λb o e hb=>?_,λb hb hz=>?_,I.stack,I.J4⟩,
  rfl,I.bare,Un.laid hk (Nat.le_refl _) hD,?_,λx c e=>?_,?_,λx c e=>?_,λp hp=>(by simp[PP] at hp),?_,?_⟩
 ·exact S.kind
 ·have hx':(relabel scope X.env).names.lookup x=some .cell\/(relabel scope X.env).names.lookup x=some .free:=hx;exact KY (relk x hx')
 ·refine⟨Nat.ne_of_lt (Nat.lt_succ_of_lt (hfx b hb)),λx c e z=>?_⟩;exact(hf b hb).2.2.2.2.1 x c (sub x c e) z
 ·exact Nat.le_trans I.ok.bsz I.sz
 ·rcases(hf b hb).2.2.2.1 with z|z
  ·exact I.ok.noex b o e z
  ·exact absurd (Nat.lt_of_lt_of_le (Heap.lt_size e) (Nat.le_trans I.ok.bsz z)) (Nat.lt_irrefl _)
 ·rcases List.mem_cons.mp (I.N6 b hz) with z'|z'
  ·exact(hf b hb).2.1 z'
  ·exact(hf b hb).2.2.1 z'
 ·refine⟨_,hns,λi x v e1 e2 e3=>?_⟩;have hi:i<σ.length:=by
   rcases Nat.lt_or_ge i σ.length with h|h
   ·exact h
   ·rw[List.getElem?_append_right h,List.getElem?_replicate] at e2;split at e2<;>cases e2
  rw[List.getElem?_append_left hi] at e2;have hiN:i<X.N.length:=by rw[<-I.len];exact hi
  have e1':(X.N.map (gJ own))[i]?=some x:=by
   have:(X.N.map (gJ own)++own)[i]?=some x:=e1;rwa [List.getElem?_append_left (by rw[List.length_map];exact hiN)] at this
  rw[List.getElem?_map] at e1';obtain⟨y,hy,ey⟩:=Option.map_eq_some_iff.mp e1';have hyN:y∈X.N:=List.mem_of_getElem? hy;have e3':(relabel scope X.env).names.lookup x=some .local\/(relabel scope X.env).names.lookup x=some .cell\/(relabel scope X.env).names.lookup x=some .free:=e3;have keys:∀z k,(relabel scope X.env).names.lookup z=some k->∃k',scope.names.lookup z=some k'/\(k=.local->k'=.local):=by
   intro z k;show(scope.names.map λ(n,k)=>if (k==NameKind.free&&X.env.scope.kind==.function&&X.env.kindOf n==some .cell) then (n,NameKind.cell) else (n,k)).lookup z=some k->_;generalize scope.names=l;induction l with
   |nil=>intro h;simp at h
   |cons p l ih=>
    obtain⟨n,k0⟩:=p;intro h;rw[List.map_cons] at h;dsimp only at h;by_cases hc:(k0==NameKind.free&&X.env.scope.kind==.function&&X.env.kindOf n==some .cell)=true
    ·rw[if_pos hc,List.lookup_cons] at h;rw[List.lookup_cons];cases e:z==n with
     |true=>
      rw[e] at h;dsimp only at h;cases h;exact⟨k0,rfl,λq=>by cases q⟩
     |false=>rw[e] at h;exact ih h
    ·rw[if_neg hc,List.lookup_cons] at h;rw[List.lookup_cons];cases e:z==n with
     |true=>
      rw[e] at h;dsimp only at h;cases h;exact⟨_,rfl,λq=>q⟩
     |false=>rw[e] at h;exact ih h
  by_cases hown:own.contains y=true
  ·exfalso;have ex:x=y++(" " : Str):=by rw[<-ey];unfold gJ;rw[if_pos hown]
   have hn:=S.hid y (by simpa using hown);rw[<-ex] at hn;rcases e3' with q|q|q
   all_goals
    obtain⟨k',hk',_⟩:=keys _ _ q;rw[hn] at hk';cases hk'
  ·have ex:x=y:=by rw[<-ey];unfold gJ;rw[if_neg hown]
   subst ex;rcases e3' with q|q
   ·exfalso;obtain⟨k',hk',hl⟩:=keys _ _ q;have:=hl rfl;subst this;rcases S.loc _ (PySem.mem_of_lookup hk') rfl with z|z
    ·exact hown (by simpa using z)
    ·exact z hyN
   ·have hfr:=relk x q;have hv:=S.free _ hfr rfl;obtain⟨m,_,hl⟩:=I.loc;obtain⟨u,ru,lk⟩:=hl i x v hy e2 (.inr hv);refine⟨u,ru,.inr ⟨q,?_⟩⟩;rcases lk with ⟨z,_⟩|⟨_,c,hc,o,ho,hd⟩
    ·have z':X.env.scope.names.lookup x=some .local:=z;rcases hv with hv|hv<;>(rw[z'] at hv;cases hv)
    ·obtain⟨c',hc'⟩:=KY hfr;have:=sub x c' hc';rw[hc] at this;cases this;exact⟨c,hc',o,hk c o ho,hd⟩
 ·obtain⟨v,z⟩:=I.cell x c (sub x c e);obtain⟨o,ho,hd⟩:=z;exact⟨v,o,hk c o ho,hd⟩
 ·show upd H2 _ _ (s2.heap.objs.size+1)=none;rw[aR (Ne.symm hne)];exact hC
 ·obtain⟨v,o,ho,_⟩:=I.cell x c (sub x c e);show upd H2 _ _ c=none;rw[aR (Nat.ne_of_lt (hlt c o ho))];exact I.freeC x c (sub x c e)
 ·exact I.hok.laid hk (Nat.le_refl _) ⟨Nat.zero_le _,[],0,.nil,hacc⟩
 ·show(σ++List.replicate own.length none).length=(X.N.map (gJ own)++own).length;rw[List.length_append,List.length_append,List.length_replicate,List.length_map,I.len]
end
section
variable {X:Cx} {scope:Scope} {own:List Str}
def cI(X':Cx)(σ:St)(fp:List Addr)(tn:Nat->Heap->Prop)(W:Nat->Nat->List V->Hp->Prop)(n:Nat)(s:Shared):Prop:=∃i ys H',Inv X' [] σ H' s/\tn i s.heap/\(∀b∈fp,H' b=none)/\W i n ys H'
abbrev cE(X X':Cx)(use:Option (Value->Sem Unit))(QQ:Value->Shared->Prop)(p:Addr):Value->Shared->Prop:=notedBy (model X.prog X.w) X.A X'.env λe s'=>compPost (model X.prog X.w) X.A X.xe use QQ (.ref p) (p+1) (.error e) s'
def cB(X':Cx)(σ:St)(fp:List Addr)(tn:Nat->Heap->Prop)(W:Nat->Nat->List V->Hp->Prop)(n i:Nat)(h:Heap):Prop:=∀{ys':List V}{H9:Hp}{s9:Shared}{σ9:St},Ext σ σ9->Inv X' ([]++vN fp h) σ9 H9 s9->(∃n',n'<n/\W (i+1) n' ys' H9)->∃m,m<n/\cI X' σ fp tn W m s9
theorem KZ(S:cH X.N X.env.scope scope own)(hcalm:X.calm=true)(hi:PI X tg iter wi)
 (hg:∀X',cV X X' scope own->PG X' tg g)(hc:(ifs=[]/\tc=λ_ H Q=>Q true H)\/∃c,ifs=[c]/\∀X',cV X X' scope own->PT X' c tc)(he:∀X',cV X X' scope own->PE X' elt te)
 (hs:∀x,foldedSetIterable iter X.env x=pure x)(I:Inv X pins σ H s)(h:FW wi g tc te own.length σ H R)
 (last:∀{p C:Addr} {H5:Hp} {s6:Shared} {m6:Str->Option Value},Inv X pins σ H5 s6->U_ X pins H5 C->s6.heap.Ns C m6->R (.ref p) H5->compPost (model X.prog X.w) X.A X.xe use QQ (.ref p) C (.ok .next) s6) :
  wpAny (model X.prog X.w) X.A (comprehension (.ListComp elt [⟨tg,iter,ifs,0⟩] scope pos) scope X.env ps (newList []) false (eval iter X.env) use) QQ X.xe s:=by
 have cells:∀y∈scope.names,y.2=.free->∃c,X.env.cells.lookup y.1=some c:=λy hy hk=>I.ok.has y.1 (S.free y hy hk)
 refine wpAny_comprehension_free rfl hs (S_ cells) S.kind S.names (thn (hi pins s σ H _ I h) λxv s1 h1=>thn h1 λitv s2 h2=>?_);obtain⟨it,fp,tn,J,H2,e,I2,T,st2,f2,hW⟩:=h2;subst e;have hD:H2 s2.heap.objs.size=none:=I2.hok.fresh (Nat.le_refl _);obtain⟨W,⟨n0,w0⟩,turn⟩:=hW _ hD;have hfx:∀b∈fp,b<s2.heap.objs.size:=λb hb=>by
  obtain⟨o,ho,_⟩:=T.obj 0 _ st2 b hb;exact Heap.lt_size ho
 refine wpAny_newObj_type (wpAny_newFunctionEnv S.nocell (by intro y hy;simp at hy) (λh₁ hns₁ hsb₁=>?_) S.kind);dsimp only at hns₁ hsb₁ ⊢;have hC:(s2.heap.push {cls:=.type "list",dict:=none,data:=.seq ([]:List Value).toArray}).objs.size=s2.heap.objs.size+1:=Heap.size_push ..;have hne:s2.heap.objs.size≠s2.heap.objs.size+1:=Nat.ne_of_lt (Nat.lt_succ_self _);rw[hC] at hns₁ hsb₁ ⊢;have old:∀b o,s2.heap.get? b=some o->h₁.get? b=some o:=λb o e=>hsb₁.extBut b o (Nat.ne_of_lt (Nat.lt_succ_of_lt (Heap.lt_size e))) (Heap.get?_push_of_some _ (Heap.get?_push_of_some _ e))
 have hacc:h₁.get? s2.heap.objs.size=some {cls:=.type "list",data:=.seq #[]}:=hsb₁.extBut _ _ hne (Heap.get?_push_of_some _ (Heap.get?_push_size _ rfl));have I4:=Inv.comp (t1:=s2.toks+([]:List (Str×Value)).length) I2 S f2 hfx hns₁ old hacc;generalize hX':PP X scope (clF X.env scope.names []) (s2.heap.objs.size+1) own s2 H2 fp=X' at I4;have cc:cV X X' scope own:=by rw[<-hX'];exact W_
 have eenv:X'.env=compEnvC scope (clF X.env scope.names []) (s2.heap.objs.size+1) X.env:=by rw[<-hX'];rfl
 have eA:X'.A=X.A:=cc.A;have ep:X'.prog=X.prog:=cc.prog;have ew:X'.w=X.w:=cc.w;have efs:X'.fs=frs X.stack:=by rw[<-hX'];rfl
 have eex:X'.ex=fp:=by rw[<-hX'];rfl
 have es0:X'.s₀=s2:=by rw[<-hX'];rfl
 have eH0:X'.H₀=H2:=by rw[<-hX'];rfl
 have epn:X'.pn=[]:=by rw[<-hX'];rfl
 have eK:X'.K=X.K:=cc.K;have exe:=cc.xe;have ecalm:X'.calm=true:=cc.calm.trans hcalm
 -- the iterator's records within the block
 have fpok:∀{H':Hp},(∀b∈fp,H' b=none)->∀b∈fp,U_ X' [] H' b:=λ{H'} hn b hb=>by
  obtain⟨_,f1,f3,_,f5,_⟩:=f2 b hb;refine⟨hn b hb,?_,?_,.inl (by rw[eex];exact hb),λx c e=>?_,λp hp=>by rw[epn] at hp;simp at hp⟩
  ·rw[eenv];exact Nat.ne_of_lt (Nat.lt_succ_of_lt (hfx b hb))
  ·rw[efs];intro z;rcases List.mem_cons.mp (I2.N6 b z) with z|z
   ·exact f1 z
   ·exact f3 z
  ·rw[eenv] at e;exact f5 x c (KR cells (λ_ _ h=>by simp at h) e)
 have st4:tn 0 h₁:=T.keep _ _ _ st2 λb _ o e=>old b o e
 have fr4:∀b∈fp,(upd H2 s2.heap.objs.size (.lst [])) b=none:=λb hb=>by rw[aR (Nat.ne_of_lt (hfx b hb))];exact(f2 b hb).1
 have loop:∀s4:Shared,s4={s2 with heap:=h₁,toks:=s2.toks+([]:List (Str×Value)).length}->
   codeAny (model X.prog X.w) X.A (.compLoop (.ListComp elt [⟨tg,iter,ifs,0⟩] scope pos) 0 (.ref it) (.ref s2.heap.objs.size) X'.env)
    (compPost (model X.prog X.w) X.A X.xe use QQ (.ref s2.heap.objs.size) (s2.heap.objs.size+1)) s4:=by
  rintro s4 rfl;have put:∀(n i:Nat)(ys:List V)(s7:Shared)(σ8:St)(H8:Hp)(s8:Shared),cB X' (σ++List.replicate own.length none) fp tn W n i s7.heap->Inv X' ([]++vN fp s7.heap) σ8 H8 s8->Ext (σ++List.replicate own.length none) σ8->ys.length<sizeLine->(te σ8 H8 λy H5=>H5 s2.heap.objs.size=some (.lst ys)/\∃n',n'<n/\W (i+1) n' (ys++[y]) (upd H5 s2.heap.objs.size (.lst (ys++[y]))))->
    wpAny (model X.prog X.w) X.A (eval elt X'.env) (λx s₄=>wpAny (model X.prog X.w) X.A (call (.builtin "list.append") [.ref s2.heap.objs.size,x]) (λ_ s₅=>∃m,m<n/\cI X' (σ++List.replicate own.length none) fp tn W m s₅) (cE X X' use QQ s2.heap.objs.size) s₄) (cE X X' use QQ s2.heap.objs.size) s8:=by
   intro n i ys s7 σ8 H8 s8 back I8 ext8 hlen q8;have he':=he X' cc _ s8 _ H8 _ I8 q8;rw[ep,ew,eA,exe] at he';refine wpAny_mono he' (λyv s10 ⟨y,H10,I10,r10,p10,q10⟩=>?_) λ_ _ z=>False.elim z
   have hm:=mH _ s10 σ8 H10 (.ref s2.heap.objs.size) [y] (.ref s2.heap.objs.size) [yv] (λ_ H11=>∃n',n'<n/\W (i+1) n' (ys++[y]) H11) I10 rfl (.cons r10 .nil) ⟨s2.heap.objs.size,ys,y,rfl,rfl,p10,hlen,q10⟩;rw[ep,ew,eA,exe] at hm;exact wpAny_mono hm (λ_ s11 ⟨_,H11,I11,_,q11⟩=>back ext8 I11 q11) λ_ _ z=>False.elim z
  have key:∀(PO:Nat->Shared->Prop),(∀(n i:Nat)(ys:List V)(s7:Shared)(σ8:St)(H8:Hp)(s8:Shared),cB X' (σ++List.replicate own.length none) fp tn W n i s7.heap->Inv X' ([]++vN fp s7.heap) σ8 H8 s8->Ext (σ++List.replicate own.length none) σ8->ys.length<sizeLine->(tc σ8 H8 λb H4=>if b=true then te σ8 H4 λy H5=>H5 s2.heap.objs.size=some (.lst ys)/\∃n',n'<n/\W (i+1) n' (ys++[y]) (upd H5 s2.heap.objs.size (.lst (ys++[y]))) else ∃n',n'<n/\W (i+1) n' ys H4)->PO n s8)->
    ∀n s5,(cI X' (σ++List.replicate own.length none) fp tn W n s5)->wpAny (model X.prog X.w) X.A (pyNext (.ref it)) (λr s₁=>match r with
     |none=>compPost (model X.prog X.w) X.A X.xe use QQ (.ref s2.heap.objs.size) (s2.heap.objs.size+1) (.ok .next) s₁
     |some v=>wpAny (model X.prog X.w) X.A (letOwnedTupleGo tg (.ref it) v) (λ_ s₀=>wpAny (model X.prog X.w) X.A (assign tg X'.env v) (λ_ s₂=>PO n s₂) (cE X X' use QQ s2.heap.objs.size) s₀) (cE X X' use QQ s2.heap.objs.size) s₁) (cE X X' use QQ s2.heap.objs.size) s5:=by
   intro PO hPO;rintro n s5 ⟨i,ys,H5,I5,st5,fr5,w5⟩;obtain⟨hacc5,tr⟩:=turn i n ys H5 w5;rcases tr with ⟨stop,q⟩|⟨go,hlen,step⟩
   ·have done:=T.done X' ep ew eK ecalm i [] s5 _ H5 (cE X X' use QQ s2.heap.objs.size) I5 (fpok fr5) st5 stop;rw[eA] at done;refine thn done λr s6 ⟨hr,I6⟩=>?_
    subst hr;obtain⟨m6,hn6,_⟩:=id I6.loc;rw[eenv] at hn6;have u6:Un (frs X.stack) fp H2 H5 s2.heap s6.heap:=by
     have:=I6.base;rw[efs,eex,eH0,es0] at this;exact this
    have hCn:H5 (s2.heap.objs.size+1)=none:=by
     have:=I6.free;rw[eenv] at this;exact this
    have hok6:HOk X.prog X.w H5 s6.heap:=by
     have:=I6.hok;rw[ep,ew] at this;exact this
    have hos:s6.os=s2.os:=by have:=I6.os;rw[es0] at this;exact this
    obtain⟨hh,gg,dd,tt,oo⟩:=s6;obtain rfl:oo=s2.os:=hos;have fin:=Inv.call (d':=dd) (t':=tt) (ch:=fp) I2 u6 hok6 I6.bare λb hb=>⟨(f2 b hb).2.2.2.1,(f2 b hb).2.1,(f2 b hb).2.2.2.2.1,(f2 b hb).2.2.2.2.2⟩
    refine last fin ⟨hCn,Nat.ne_of_gt (Nat.lt_succ_of_lt I2.lt),I2.aOe (Nat.le_succ _),.inr (Nat.le_trans I2.sz (Nat.le_succ _)),λx c e z=>?_,λp hp z=>?_⟩ hn6 q
    ·obtain⟨v,qq⟩:=I2.cell x c e;exact absurd (Nat.lt_succ_of_lt qq.lt) (by rw[z];exact Nat.lt_irrefl _)
    ·exact absurd (Nat.lt_succ_of_lt (Heap.lt_size (I2.pin p hp).1)) (by rw[z];exact Nat.lt_irrefl _)
   ·have item:=T.item X' ep ew eK ecalm i [] s5 _ H5 (cE X X' use QQ s2.heap.objs.size) I5 (fpok fr5) st5 go;rw[eA] at item;refine thn item λr s6 ⟨u,hr,h6⟩=>?_
    subst hr;refine thn h6 λ_ s7 ⟨x,H7,I7,r7,y7,st7,fr7⟩=>?_
    have I7':=I7.pinned (fpok fr7) (T.obj _ _ st7);have hg':=hg X' cc _ s7 _ H7 x u _ I7' r7 (step x H7 y7);rw[ep,ew,eA,exe] at hg';refine wpAny_mono hg' (λ_ s8 ⟨σ8,H8,I8,ext8,q8⟩=>?_) λ_ _ z=>False.elim z
    have back:cB X' (σ++List.replicate own.length none) fp tn W n i s7.heap:=by
     rintro ys' H9 s9 σ9 ex9 I9 ⟨n',hn',w9⟩;refine⟨n',hn',i+1,ys',H9,(I9.weak ex9.1.symm ex9.2).oM,T.keep _ _ _ st7 λb hb o e=>(I9.pin (b,o) (List.mem_append_right _ (List.mem_append_right _ (m9 hb e)))).1,λb hb=>?_,w9⟩;obtain⟨o,e,d⟩:=T.obj _ _ st7 b hb;exact(I9.pin (b,o) (List.mem_append_right _ (List.mem_append_right _ (m9 hb e)))).2.1
    exact hPO n i ys s7 σ8 H8 s8 back I8 ext8 hlen q8
  rcases hc with ⟨rfl,rfl⟩|⟨c,rfl,hc⟩
  ·refine PySem.W.kcp_loop _ (key _ λn i ys s7 σ8 H8 s8 back I8 ext8 hlen q8=>?_) n0 ⟨0,[],_,I4,st4,fr4,w0⟩;simp only[if_true] at q8;exact put n i ys s7 σ8 H8 s8 back I8 ext8 hlen q8
  ·refine PySem.W.kct_loop _ (key _ λn i ys s7 σ8 H8 s8 back I8 ext8 hlen q8=>?_) n0 ⟨0,[],_,I4,st4,fr4,w0⟩;have hc':=hc X' cc _ s8 _ H8 _ I8 q8;rw[ep,ew,eA,exe] at hc';refine wpAny_mono hc' (λb s9 ⟨H9,I9,q9⟩=>?_) λ_ _ z=>False.elim z
   cases b with
   |false=>
    simp only[Bool.false_eq_true,if_false] at q9 ⊢;exact back ext8 I9 q9
   |true=>
    simp only[if_true] at q9 ⊢;exact put n i ys s7 σ8 H9 s9 back I9 ext8 hlen q9
 have l4:=loop _ rfl;rw[eenv] at l4;exact codeAny_compStart_list l4 (T.self X.A 0 _ _ _ st4 l4)
def PQ(f:Inv X pins σ H5 s6)(k:U_ X pins H5 C)(n:s6.heap.Ns C m6)(q:Q (.ref p) H5):compPost (model X.prog X.w) X.A X.xe none (EP X pins σ Q) (.ref p) C (.ok .next) s6:=
 ⟨m6,n,λh' sb=>⟨.ref p,H5,Inv.turned f (λb o hb e=>sb.extBut b o hb e) k.1 k.2.1 k.2.2.2.1 k.2.2.2.2.1 k.2.2.2.2.2,rfl,q⟩⟩
def XF(S:cH X.N X.env.scope scope own)(hcalm:X.calm=true)(hi:PI X tg iter wi)
 (hg:∀X',cV X X' scope own->PG X' tg g)(hc:∀X',cV X X' scope own->PT X' c tc)(he:∀X',cV X X' scope own->PE X' elt te)
 (hs:∀x,foldedSetIterable iter X.env x=pure x):PE X (.ListComp elt [⟨tg,iter,[c],0⟩] scope pos) (FW wi g tc te own.length):=by
 intro pins s σ H Q I h;rw[eval_ListComp];exact KZ S hcalm hi hg (.inr ⟨c,rfl,hc⟩) he hs I h PQ
def aBt(S:cH X.N X.env.scope scope own)(hcalm:X.calm=true)(hi:PI X tg iter wi)
 (hg:∀X',cV X X' scope own->PG X' tg g)(he:∀X',cV X X' scope own->PE X' elt te)
 (hs:∀x,foldedSetIterable iter X.env x=pure x):PE X (.ListComp elt [⟨tg,iter,[],0⟩] scope pos) (FW wi g (λ_ H Q=>Q true H) te own.length):=by
 intro pins s σ H Q I h;rw[eval_ListComp];exact KZ S hcalm hi hg (.inl ⟨rfl,rfl⟩) he hs I h PQ
end
end L2
namespace Mi
open PySem L2 PySem.SeqAt
section
variable [KFrag]
def j5(I:Inv X pins σ H s)(e:H a=some (.tup xs)):∃its:List Value,Vals xs its/\s.heap.IsTuple a its.toArray:=by
 obtain⟨_,its,r,p⟩:xs.length<=sizeLine/\∃its:List Value,Vals xs its/\j0 s.heap a its.toArray:=I.hok a _ e;exact⟨its,r,p.tup⟩
def mO(I:Inv X pins σ H s)(e:SqL X.K H a xs):∃its:List Value,Vals xs its/\s.heap.IsList a its.toArray:=by
 obtain⟨its,r,p,_⟩:=I.list e;exact⟨its,r,p.isList⟩
def Rep.j6(r:Rep P H v (.lst ds)):∃a xs,v=.ref a/\SqL K H a xs/\bG P H xs ds:=by
 obtain⟨_,_,rfl,e,p,r⟩:=r.inv;exact⟨_,_,rfl,.inl (.inl e),r⟩
def Rep.iM(r:Rep P H v (.tup ds)):∃a xs,v=.ref a/\H a=some (.tup xs)/\bG P H xs ds:=by
 obtain⟨_,_,rfl,e,r⟩:=r.inv;exact⟨_,_,rfl,e,r⟩
mutual
theorem zM:∀(n:Nat)(d:D),d.fC n=true->eqD d d=true
 |_,.non,_=>rfl
 |_,.bl b,_=>by simp[eqD]
 |_,.int i,_=>by simp[eqD]
 |_,.str x,_=>by simp[eqD]
 |n+1,.tup xs,h=>by rw[D.fC] at h;rw[eqD];exact v7 n xs h
 |n+1,.lst xs,h=>by rw[D.fC] at h;rw[eqD];exact v7 n xs h
 |0,.tup xs,h=>by exact fx0 h
 |0,.lst xs,h=>by exact fx0 h
 |n,.dct _,h=>by cases n<;>exact fx0 h
 |n,.uD,h=>by cases n<;>exact fx0 h
 |n,.scr _,h=>by cases n<;>exact fx0 h
 |n,.fdc _,h=>by cases n<;>exact fx0 h
 |n,.exc _ _,h=>by cases n<;>exact fx0 h
 |n,.ins _ _,h=>by cases n<;>exact fx0 h
 |n,.cel _ _,h=>by cases n<;>exact fx0 h
theorem v7:∀(n:Nat)(ds:List D),D.dR n ds=true->yF ds ds=true
 |_,[],_=>rfl
 |n,d::ds,h=>by
  rw[D.dR,Bool.and_eq_true] at h;rw[yF,zM n d h.1,v7 n ds h.2];rfl
end
mutual
theorem Rep.inj{P P':Addr->Prop}{H:Hp}:∀(n:Nat){v:V}{d e:D},d.fC n=true->e.fC n=true->Rep P H v d->Rep P' H v e->d=e
 |_,_,_,_,_,_,.non,.non=>rfl
 |_,_,_,_,_,_,.bl _,.bl _=>rfl
 |_,_,_,_,_,_,.int _,.int _=>rfl
 |_,_,_,_,_,_,.str _,.str _=>rfl
 |n+1,_,.tup ds,_,h,h',.tup e1 r1,q=>by
  cases q with
  |tup e2 r2=>
   rw[e1] at e2;cases e2;rw[D.fC] at h h';rw[bG.inj n h h' r1 r2]
  |lst e2 _ _=>rw[e1] at e2;cases e2
  |frz e2 _=>exact fx0 h'
  |fdK e2 _ _=>exact fx0 h'
  |cel e2 _ _=>exact fx0 h'
  |fdT e2 _ _=>exact fx0 h'
  |exc _ _ _=>exact fx0 h'
  |ins _ _ _=>exact fx0 h'
  |dK e2 _ _ _=>rw[e1] at e2;cases e2
  |dT e2 _ _ _=>rw[e1] at e2;cases e2
 |n+1,_,.lst ds,_,h,h',.lst e1 p r1,q=>by
  cases q with
  |tup e2 r2=>rw[e1] at e2;cases e2
  |lst e2 _ r2=>
   rw[e1] at e2;cases e2;rw[D.fC] at h h';rw[bG.inj n h h' r1 r2]
  |frz e2 _=>exact fx0 h'
  |fdK e2 _ _=>exact fx0 h'
  |cel e2 _ _=>exact fx0 h'
  |fdT e2 _ _=>exact fx0 h'
  |exc _ _ _=>exact fx0 h'
  |ins _ _ _=>exact fx0 h'
  |dK e2 _ _ _=>rw[e1] at e2;cases e2
  |dT e2 _ _ _=>rw[e1] at e2;cases e2
 |0,_,.tup ds,_,h,_,_,_=>by exact fx0 h
 |0,_,.lst ds,_,h,_,_,_=>by exact fx0 h
 |n,_,.dct _,_,h,_,_,_=>by cases n<;>exact fx0 h
 |n,_,.scr _,_,h,_,_,_=>by cases n<;>exact fx0 h
 |n,_,.fdc _,_,h,_,_,_=>by cases n<;>exact fx0 h
 |n,_,.exc _ _,_,h,_,_,_=>by cases n<;>exact fx0 h
 |n,_,.ins _ _,_,h,_,_,_=>by cases n<;>exact fx0 h
 |n,_,.cel _ _,_,h,_,_,_=>by cases n<;>exact fx0 h
theorem bG.inj{P P':Addr->Prop}{H:Hp}:∀(n:Nat){v:List V}{d e:List D},D.dR n d=true->D.dR n e=true->bG P H v d->bG P' H v e->d=e
 |_,_,_,_,_,_,.nil,.nil=>rfl
 |n,_,_,_,h,h',.cons r t,.cons r' t'=>by
  rw[D.dR,Bool.and_eq_true] at h h';rw[Rep.inj n h.1 h'.1 r r',bG.inj n h.2 h'.2 t t']
end
theorem sI:∀(xs ys:List D),yF xs ys=((List.range (min xs.length ys.length)).all (λj=>eqD (xs.getD j .non) (ys.getD j .non))&&xs.length==ys.length)
 |[],[]=>by simp[yF]
 |[],y::ys=>by simp[yF]
 |x::xs,[]=>by simp[yF]
 |x::xs,y::ys=>by
  have e:min (x::xs).length (y::ys).length=min xs.length ys.length+1:=by simp only[List.length_cons];lia
  rw[yF,sI xs ys,e,List.range_succ_eq_map,List.all_cons,List.all_map,Bool.and_assoc]
  congr 1
  simp[Function.comp_def]
theorem oW:∀{ds:List D}{j:Nat},D.dR n ds=true->j<ds.length->(ds.getD j .non).fC n=true
 |[],j,_,h=>by simp at h
 |d::ds,0,h,_=>by rw[D.dR,Bool.and_eq_true] at h;exact h.1
 |d::ds,j+1,h,hj=>by
  rw[D.dR,Bool.and_eq_true] at h;simpa using oW h.2 (by simpa using hj)
def bG.getD(r:bG P H vs ds)(hj:j<ds.length):∃v,vs[j]?=some v/\Rep P H v (ds.getD j .non):=by
 obtain⟨v,h1,h2⟩:=r.get (i:=j) (d:=ds.getD j .non) (by simp[hj]);exact⟨v,h1,h2⟩
section
def v_(ha:a.fC 0=true)(hb:b.fC 0=true)(rx:Rep All H x a)(ry:Rep All H y b)(ru:RelV x u)(rv:RelV y v):RcAt A s u v (eqD a b)/\RcNeAt A s u v (!eqD a b)/\EqAt A s u v (eqD a b):=by
 cases rx with
 |non=>
  cases ru;cases ry with
  |non=>cases rv;exact⟨RcAt.none_none,RcNeAt.none_none,EqAt.same _⟩
  |bl _=>cases rv;exact⟨RcAt.none_bool _,RcNeAt.none_bool _,EqAt.none_bool _⟩
  |int _=>obtain⟨t,rfl⟩:=rv;exact⟨RcAt.none_int _ _,RcNeAt.none_int _ _,EqAt.none_int _ _⟩
  |str _=>obtain⟨t,rfl⟩:=rv;exact⟨RcAt.none_str _ _,RcNeAt.none_str _ _,EqAt.none_str _ _⟩
  |_=>exact fx0 hb
 |bl _=>
  cases ru;cases ry with
  |non=>cases rv;exact⟨RcAt.bool_none _,RcNeAt.bool_none _,EqAt.bool_none _⟩
  |bl _=>cases rv;exact⟨RcAt.bool_bool _ _,RcNeAt.bool_bool _ _,EqAt.bool_bool _ _⟩
  |int _=>obtain⟨t,rfl⟩:=rv;exact⟨RcAt.bool_int _ _ _,RcNeAt.bool_int _ _ _,EqAt.bool_int _ _ _⟩
  |str _=>obtain⟨t,rfl⟩:=rv;exact⟨RcAt.bool_str _ _ _,RcNeAt.bool_str _ _ _,EqAt.bool_str _ _ _⟩
  |_=>exact fx0 hb
 |int _=>
  obtain⟨t,rfl⟩:=ru;cases ry with
  |non=>cases rv;exact⟨RcAt.int_none _ _,RcNeAt.int_none _ _,EqAt.int_none _ _⟩
  |bl _=>cases rv;exact⟨RcAt.int_bool _ _ _,RcNeAt.int_bool _ _ _,EqAt.int_bool _ _ _⟩
  |int _=>obtain⟨t',rfl⟩:=rv;exact⟨RcAt.int_int _ _ _ _,RcNeAt.int_int _ _ _ _,EqAt.int_int _ _ _ _⟩
  |str _=>obtain⟨t',rfl⟩:=rv;exact⟨RcAt.int_str _ _ _ _,RcNeAt.int_str _ _ _ _,EqAt.int_str _ _ _ _⟩
  |_=>exact fx0 hb
 |str _=>
  obtain⟨t,rfl⟩:=ru;cases ry with
  |non=>cases rv;exact⟨RcAt.str_none _ _,RcNeAt.str_none _ _,EqAt.str_none _ _⟩
  |bl _=>cases rv;exact⟨RcAt.str_bool _ _ _,RcNeAt.str_bool _ _ _,EqAt.str_bool _ _ _⟩
  |int _=>obtain⟨t',rfl⟩:=rv;exact⟨RcAt.str_int _ _ _ _,RcNeAt.str_int _ _ _ _,EqAt.str_int _ _ _ _⟩
  |str _=>obtain⟨t',rfl⟩:=rv;exact⟨RcAt.str_str _ _ _ _,RcNeAt.str_str _ _ _ _,EqAt.str_str _ _ _ _⟩
  |_=>exact fx0 hb
 |_=>exact fx0 ha
def XH(I:Inv X pins σ H s):∀(n:Nat)(A:Around){x y:V}{a b:D}{u v:Value},A.units+n<cLine->a.fC n=true->b.fC n=true->Rep All H x a->Rep All H y b->RelV x u->RelV y v->
  RcAt A s u v (eqD a b)/\RcNeAt A s u v (!eqD a b)/\EqAt A s u v (eqD a b):=by
 intro n;induction n with
 |zero=>exact λA=>λ_ ha hb rx ry ru rv=>v_ ha hb rx ry ru rv
 |succ n ih=>
  intro A x y a b u v hu ha hb rx ry ru rv;have hu0:A.units<cLine:=by lia
  have hu1:A.in1.units+n<cLine:=by show A.units+1+n<cLine;lia
  have itm:∀{xs ys:List V}{ds es:List D}{i1 i2:List Value},D.dR n ds=true->D.dR n es=true->bG All H xs ds->bG All H ys es->Vals xs i1->Vals ys i2->∀j (g1:j<i1.toArray.size) (g2:j<i2.toArray.size),EqAt A.in1 s i1.toArray[j] i2.toArray[j] (eqD (ds.getD j .non) (es.getD j .non)):=by
   intro xs ys ds es i1 i2 ha hb r1 r2 vr1 vr2 j g1 g2;have z1:i1.toArray.size=ds.length:=by rw[List.size_toArray,<-vr1.length,r1.length]
   have z2:i2.toArray.size=es.length:=by rw[List.size_toArray,<-vr2.length,r2.length]
   obtain⟨v1,w1,rr1⟩:=r1.getD (j:=j) 0x1;obtain⟨v2,w2,rr2⟩:=r2.getD (j:=j) 0x1;obtain⟨u1,k1,l1⟩:=vr1.get w1;obtain⟨u2,k2,l2⟩:=vr2.get w2;have m1:i1.toArray[j]=u1:=by
    rw[List.getElem?_eq_getElem (by simpa using g1)] at k1;simpa using Option.some.inj k1
   have m2:i2.toArray[j]=u2:=by
    rw[List.getElem?_eq_getElem (by simpa using g2)] at k2;simpa using Option.some.inj k2
   rw[m1,m2];exact(ih A.in1 hu1 (oW ha 0x1) (oW hb 0x1) rr1 rr2 l1 l2).2.2
  cases a with
  |non=>
   cases b with
   |tup es=>
    cases rx.inv;cases ru;obtain⟨q,ys,rfl,e2,r2⟩:=ry.iM;cases rv;obtain⟨its2,vr2,h2⟩:=j5 I e2;exact⟨RcAt.none_tuple h2 hu0,RcNeAt.none_tuple h2 hu0,EqAt.none_tuple h2 hu0⟩
   |lst es=>
    cases rx.inv;cases ru;obtain⟨q,ys,rfl,e2,r2⟩:=ry.j6 (K:=X.K);cases rv;obtain⟨its2,vr2,h2⟩:=mO I e2;exact⟨RcAt.none_list h2 hu0,RcNeAt.none_list h2 hu0,EqAt.none_list h2 hu0⟩
   |_=>first|exact v_ rfl rfl rx ry ru rv|exact absurd ry Rep.uD|exact fx0 hb
  |bl _=>
   cases b with
   |tup es=>
    cases rx.inv;cases ru;obtain⟨q,ys,rfl,e2,r2⟩:=ry.iM;cases rv;obtain⟨its2,vr2,h2⟩:=j5 I e2;exact⟨RcAt.bool_tuple _ h2 hu0,RcNeAt.bool_tuple _ h2 hu0,EqAt.bool_tuple _ h2 hu0⟩
   |lst es=>
    cases rx.inv;cases ru;obtain⟨q,ys,rfl,e2,r2⟩:=ry.j6 (K:=X.K);cases rv;obtain⟨its2,vr2,h2⟩:=mO I e2;exact⟨RcAt.bool_list _ h2 hu0,RcNeAt.bool_list _ h2 hu0,EqAt.bool_list _ h2 hu0⟩
   |_=>first|exact v_ rfl rfl rx ry ru rv|exact absurd ry Rep.uD|exact fx0 hb
  |int _=>
   cases b with
   |tup es=>
    cases rx.inv;obtain⟨t1,rfl⟩:=ru;obtain⟨q,ys,rfl,e2,r2⟩:=ry.iM;cases rv;obtain⟨its2,vr2,h2⟩:=j5 I e2;exact⟨RcAt.int_tuple _ _ h2 hu0,RcNeAt.int_tuple _ _ h2 hu0,EqAt.int_tuple _ _ h2 hu0⟩
   |lst es=>
    cases rx.inv;obtain⟨t1,rfl⟩:=ru;obtain⟨q,ys,rfl,e2,r2⟩:=ry.j6 (K:=X.K);cases rv;obtain⟨its2,vr2,h2⟩:=mO I e2;exact⟨RcAt.int_list _ _ h2 hu0,RcNeAt.int_list _ _ h2 hu0,EqAt.int_list _ _ h2 hu0⟩
   |_=>first|exact v_ rfl rfl rx ry ru rv|exact absurd ry Rep.uD|exact fx0 hb
  |str _=>
   cases b with
   |tup es=>
    cases rx.inv;obtain⟨t1,rfl⟩:=ru;obtain⟨q,ys,rfl,e2,r2⟩:=ry.iM;cases rv;obtain⟨its2,vr2,h2⟩:=j5 I e2;exact⟨RcAt.str_tuple _ _ h2 hu0,RcNeAt.str_tuple _ _ h2 hu0,EqAt.str_tuple _ _ h2 hu0⟩
   |lst es=>
    cases rx.inv;obtain⟨t1,rfl⟩:=ru;obtain⟨q,ys,rfl,e2,r2⟩:=ry.j6 (K:=X.K);cases rv;obtain⟨its2,vr2,h2⟩:=mO I e2;exact⟨RcAt.str_list _ _ h2 hu0,RcNeAt.str_list _ _ h2 hu0,EqAt.str_list _ _ h2 hu0⟩
   |_=>first|exact v_ rfl rfl rx ry ru rv|exact absurd ry Rep.uD|exact fx0 hb
  |tup ds=>
   obtain⟨p,xs,rfl,e1,r1⟩:=rx.iM;cases ru;obtain⟨its1,vr1,h1⟩:=j5 I e1;rw[D.fC] at ha;cases b with
   |non=>cases ry.inv;cases rv;exact⟨RcAt.tuple_none h1 hu0,RcNeAt.tuple_none h1 hu0,EqAt.tuple_none h1 hu0⟩
   |bl _=>cases ry.inv;cases rv;exact⟨RcAt.tuple_bool _ h1 hu0,RcNeAt.tuple_bool _ h1 hu0,EqAt.tuple_bool _ h1 hu0⟩
   |int _=>cases ry.inv;obtain⟨t2,rfl⟩:=rv;exact⟨RcAt.tuple_int _ _ h1 hu0,RcNeAt.tuple_int _ _ h1 hu0,EqAt.tuple_int _ _ h1 hu0⟩
   |str _=>cases ry.inv;obtain⟨t2,rfl⟩:=rv;exact⟨RcAt.tuple_str _ _ h1 hu0,RcNeAt.tuple_str _ _ h1 hu0,EqAt.tuple_str _ _ h1 hu0⟩
   |tup es=>
    obtain⟨q,ys,rfl,e2,r2⟩:=ry.iM;cases rv;obtain⟨its2,vr2,h2⟩:=j5 I e2;rw[D.fC] at hb;have z1:its1.toArray.size=ds.length:=by rw[List.size_toArray,<-vr1.length,r1.length]
    have z2:its2.toArray.size=es.length:=by rw[List.size_toArray,<-vr2.length,r2.length]
    have he:=itm ha hb r1 r2 vr1 vr2;have ee:eqD (.tup ds) (.tup es)=((List.range (min its1.toArray.size its2.toArray.size)).all (λj=>eqD (ds.getD j .non) (es.getD j .non))&&its1.toArray.size==its2.toArray.size):=by
     rw[eqD,sI,z1,z2]
    have r0:=RcAt.tuples h1 h2 hu0 he;have r0':=RcNeAt.tuples h1 h2 hu0 he;rw[<-ee] at r0 r0';refine⟨r0,r0',?_⟩;by_cases hpq:p=q
    ·subst hpq;have hab:(D.tup ds)=(.tup es):=Rep.inj (n+1) (by rw[D.fC];exact ha) (by rw[D.fC];exact hb) rx ry;rw[<-hab,zM (n+1) _ (by rw[D.fC];exact ha)];exact EqAt.same _
    ·exact EqAt.of_refs hpq r0
   |lst es=>
    obtain⟨q,ys,rfl,e2,r2⟩:=ry.j6 (K:=X.K);cases rv;obtain⟨its2,vr2,h2⟩:=mO I e2;exact⟨RcAt.tuple_list h1 h2 hu0,RcNeAt.tuple_list h1 h2 hu0,EqAt.tuple_list h1 h2 hu0⟩
   |_=>first|exact absurd ry Rep.uD|exact fx0 hb
  |lst ds=>
   obtain⟨p,xs,rfl,e1,r1⟩:=rx.j6 (K:=X.K);cases ru;obtain⟨its1,vr1,h1⟩:=mO I e1;rw[D.fC] at ha;cases b with
   |non=>cases ry.inv;cases rv;exact⟨RcAt.list_none h1 hu0,RcNeAt.list_none h1 hu0,EqAt.list_none h1 hu0⟩
   |bl _=>cases ry.inv;cases rv;exact⟨RcAt.list_bool _ h1 hu0,RcNeAt.list_bool _ h1 hu0,EqAt.list_bool _ h1 hu0⟩
   |int _=>cases ry.inv;obtain⟨t2,rfl⟩:=rv;exact⟨RcAt.list_int _ _ h1 hu0,RcNeAt.list_int _ _ h1 hu0,EqAt.list_int _ _ h1 hu0⟩
   |str _=>cases ry.inv;obtain⟨t2,rfl⟩:=rv;exact⟨RcAt.list_str _ _ h1 hu0,RcNeAt.list_str _ _ h1 hu0,EqAt.list_str _ _ h1 hu0⟩
   |tup es=>
    obtain⟨q,ys,rfl,e2,r2⟩:=ry.iM;cases rv;obtain⟨its2,vr2,h2⟩:=j5 I e2;exact⟨RcAt.list_tuple h1 h2 hu0,RcNeAt.list_tuple h1 h2 hu0,EqAt.list_tuple h1 h2 hu0⟩
   |lst es=>
    obtain⟨q,ys,rfl,e2,r2⟩:=ry.j6 (K:=X.K);cases rv;obtain⟨its2,vr2,h2⟩:=mO I e2;rw[D.fC] at hb;have z1:its1.toArray.size=ds.length:=by rw[List.size_toArray,<-vr1.length,r1.length]
    have z2:its2.toArray.size=es.length:=by rw[List.size_toArray,<-vr2.length,r2.length]
    have he:=itm ha hb r1 r2 vr1 vr2;have r00:RcAt A s (.ref p) (.ref q) (eqD (.lst ds) (.lst es))/\RcNeAt A s (.ref p) (.ref q) (!eqD (.lst ds) (.lst es)):=by
     rw[eqD,sI];by_cases hz:ds.length=es.length
     ·have r0:=RcAt.lists h1 h2 0x1 hu0 he;have r0':=RcNeAt.lists h1 h2 0x1 hu0 he;rw[z1] at r0 r0';rw[show min ds.length es.length=ds.length by lia,show(ds.length==es.length)=true by simpa using hz,Bool.and_true];exact⟨r0,r0'⟩
     ·have hz':(its1.toArray.size !=its2.toArray.size)=true:=by rw[z1,z2];simpa using hz
      rw[show(ds.length==es.length)=false by simpa using hz,Bool.and_false];exact⟨RcAt.lists_lengths h1 h2 hz' hu0,RcNeAt.lists_lengths h1 h2 hz' hu0⟩
    obtain⟨r0,r0'⟩:=r00;refine⟨r0,r0',?_⟩;by_cases hpq:p=q
    ·subst hpq;have hab:(D.lst ds)=(.lst es):=Rep.inj (n+1) (by rw[D.fC];exact ha) (by rw[D.fC];exact hb) rx ry;rw[<-hab,zM (n+1) _ (by rw[D.fC];exact ha)];exact EqAt.same _
    ·exact EqAt.of_refs hpq r0
   |_=>first|exact absurd ry Rep.uD|exact fx0 hb
  |_=>first|exact absurd rx Rep.uD|exact fx0 ha
end
end
open PySem.Spec PyProof.Rows
section
variable [KFrag]
def kR(H:Hp)(d:D)(fr:Bool)(Q:VK):Prop:=∀v H',bU H H'->Rep All H' v d->(fr=true->Rep (New H) H' v d)->Q v H'
noncomputable def gE(f:FE)(fr:Bool):TE:=λσ H Q=>∃ρ d,ER H σ ρ/\f ρ=.ok d/\kR H d fr Q
noncomputable def gT(f:FT):TT:=λσ H Q=>∃ρ b,ER H σ ρ/\f ρ=.ok b/\∀H',bU H H'->Q b H'
noncomputable def gA(f:FA)(fr:Bool):TA:=λσ H Q=>∃ρ ds,ER H σ ρ/\f ρ=.ok ds/\∀vs H',bU H H'->bG All H' vs ds->(fr=true->bG (New H) H' vs ds)->Q vs H'
def kR.self(q:kR H d fr Q)(r:Rep All H v d)(r2:fr=true->Rep (New H) H v d):Q v H:=q v H (bU.refl H) r r2
def kR.imp(q:kR H d fr Q)(s:bU H H')(h:fr=true->fr'=true):kR H' d fr' Q:=λv H2 s2 r n=>q v H2 (s.trans s2) r λhf=>(n (h hf)).mono (bU.new s)
def kR.int(q:kR H (.int i) fr Q):Q (.int i) H:=q.self (.int i) λ_=>.int i
def kR.bl(q:kR H (.bl i) fr Q):Q (.bl i) H:=q.self (.bl i) λ_=>.bl i
def kR.str(q:kR H (.str i) fr Q):Q (.str i) H:=q.self (.str i) λ_=>.str i
def kR.non(q:kR H .non fr Q):Q .non H:=q.self .non λ_=>.non
noncomputable def r2(f:D->D->Res D)(fr:Bool):R2:=λx y H Q=>∃a b d,Rep All H x a/\Rep All H y b/\f a b=.ok d/\kR H d fr Q
def r1(f:D->Res D)(fr:Bool):V->Hp->VK->Prop:=λx H Q=>∃a d,Rep All H x a/\f a=.ok d/\kR H d fr Q
def rs(f:List D->Res D)(fr:Bool):List V->Hp->VK->Prop:=λxs H Q=>∃ds d,bG All H xs ds/\f ds=.ok d/\kR H d fr Q
def rm(f:D->List D->Res D)(fr:Bool):V->List V->Hp->VK->Prop:=λx xs H Q=>∃a ds d,Rep All H x a/\bG All H xs ds/\f a ds=.ok d/\kR H d fr Q
def aY{f:α->Res β}(h:(do let x <- m;f x)=.ok b):∃a,m=.ok a/\f a=.ok b:=Res.aFu h
section
variable {X:Cx} {a b e:Expr} {pos:Pos} {fa fb fe:FE} {ra rb re:Bool} {ga:FT}
def ER.var(E:ER H σ ρ)(h:cO i ρ=.ok d):∃v,σ[i]?=some (some v)/\Rep All H v d/\ρ.getD i .uD=d:=by
 have:ρ.getD i .uD=d/\d≠.uD:=by
  unfold cO at h;split at h
  ·exact bx h
  ·cases h;refine⟨rfl,λz=>?_⟩;rename_i q;exact q z
 obtain⟨e1,e2⟩:=this;obtain⟨v,h1,h2⟩:=E i (by rw[e1];exact e2);exact⟨v,h1,by rw[e1] at h2;exact h2,e1⟩
def aA(hN:X.N[i]?=some x:=by exact rfl)(hv:Vis X.env.scope x:=by trivial)(hd:nDb x:=by decide)(hcd:nCd x:=by decide):PE X (.Name x pos) (gE (cO i) false):=
 PE.imp (aW hN hv hd hcd) λσ H Q ⟨ρ,d,E,h,q⟩=>by
  obtain⟨v,h1,h2,_⟩:=E.var h;exact⟨v,h1,q.self h2 (λz=>by cases z)⟩
def aF{i j}:PE X (.Constant (.int i) j pos) (gE (bC (.int i)) true):=PE.imp oJ λσ H Q ⟨ρ,d,E,h,q⟩=>by cases h;exact q.int
def K1{i j}:PE X (.Constant (.bool i) j pos) (gE (bC (.bl i)) true):=PE.imp aMo λσ H Q ⟨ρ,d,E,h,q⟩=>by cases h;exact q.bl
def wA{i j}:PE X (.Constant (.str i) j pos) (gE (bC (.str i)) true):=PE.imp aDp λσ H Q ⟨ρ,d,E,h,q⟩=>by cases h;exact q.str
def aDy{j}:PE X (.Constant .none j pos) (gE (bC .non) true):=PE.imp aIl λσ H Q ⟨ρ,d,E,h,q⟩=>by cases h;exact q.non
theorem two(h:gE (b2 f fa fb) fr σ H Q):tOp (r2 f fr) (gE fa ra) (gE fb rb) σ H Q:=by
 obtain⟨ρ,d,E,h,q⟩:=h;obtain⟨x,h1,h⟩:=aY h;obtain⟨y,h2,h⟩:=aY h;refine⟨ρ,x,E,h1,λv H1 s1 rp1 _=>⟨ρ,y,E.same s1,h2,λu H2 s2 rp2 _=>⟨x,y,d,rp1.same s2,rp2,h,q.imp (s1.trans s2) id⟩⟩⟩
def aZ(ho:OpR X (binaryOp o) (r2 f fr))(ha:PE X a (gE fa ra))(hb:PE X b (gE fb rb)):PE X (.BinOp a o b pos) (gE (b2 f fa fb) fr):=PE.imp (aF9 ho ha hb) λ_ _ _=>two
def PX(ho:OpR X (compareOp o) (r2 f fr))(ha:PE X a (gE fa ra))(hb:PE X b (gE fb rb))(hm:behindInMarks o b=false):PE X (.Compare a [o] [b] pos) (gE (b2 f fa fb) fr):=PE.imp (aFc ho ha hb hm) λ_ _ _=>two
def cY(ho:OpR X (compareOp o) (r2 f fr))(ha:PE X a (gE fa ra))(hb:PE X b (gE fb rb))(hm:behindInMarks o b=false):PT X (.Compare a [o] [b] pos) (gT (bTB (b2 f fa fb))):=
 PT.imp (V5 ho ha hb hm) λσ H Q ⟨ρ,k,E,h,q⟩=>by
  obtain⟨d,h1,h2⟩:=aY h;refine two ⟨ρ,d,E,h1,λv H' s r _=>?_⟩;cases d<;>simp only[asB] at h2<;>cases h2
  cases r.inv;exact⟨_,rfl,q H' s⟩
theorem XJ(ho:UnR X (unaryOp o) (r1 f fr))(ha:PE X a (gE fa ra)):PE X (.UnaryOp o a pos) (gE (b1 f fa) fr):=
 PE.imp (aFa ho ha) λσ H Q ⟨ρ,d,E,h,q⟩=>by
  obtain⟨x,h1,h⟩:=aY h;exact⟨ρ,x,E,h1,λv H1 s1 rp1 _=>⟨x,d,rp1,h,q.imp s1 id⟩⟩
def aN6(ho:IxR X (r2 f fr))(ha:PE X a (gE fa ra))(hb:PE X b (gE fb rb))(hs:zG b):PE X (.Subscript a b pos) (gE (b2 f fa fb) fr):=PE.imp (WK ho ha hb hs) λ_ _ _=>two
def aPt(r:Rep All H v d)(h:aOm d=.ok k)(hd:∀kvs,d≠.dct kvs)(hs:∀xs,d≠.scr xs):aM8 X.K v H k:=by
 cases r with
 |non=>cases h;rfl
 |bl b=>cases h;rfl
 |int i=>cases h;rfl
 |str x=>
  replace h:(if decide (x.length<=lim) then Res.ok ((x.length:Int)!=0) else .bad)=.ok k:=h;split at h
  ·rename_i hl;cases h;exact⟨Nat.le_trans (of_decide_eq_true hl) (by rw[sizeLine_eq];decide),rfl⟩
  ·exact bx h
 |tup e rr=>cases h;exact .inr (.inl ⟨_,.of e,by cases rr<;>rfl⟩)
 |lst e p rr=>cases h;exact .inl ⟨_,.of e,by cases rr<;>rfl⟩
 |frz e rr=>exact absurd rfl (hs _)
 |dK e p rr n=>exact absurd rfl (hd _)
 |dT e p rr n=>exact absurd rfl (hd _)
 |fdK e rr n=>exact bx h
 |fdT e rr n=>exact bx h
 |exc n e q=>exact bx h
 |ins n e q=>exact bx h
 |cel e p rr=>exact bx h
def uL(ha:PE X a (gE fa ra))(he:∀whole,isTrue a X.env whole=(do let v <- whole;standAt a.pos;holding [v] (truthy v)):=by intro _;rfl):PT X a (gT (bTr fa)):=
 PT.imp (OD ha he) λσ H Q ⟨ρ,k,E,h,q⟩=>by
  obtain⟨d,h1,h2⟩:=aY h;refine⟨ρ,d,E,h1,λv H' s r _=>⟨k,aPt r ?_ ?_ ?_,q H' s⟩⟩
  ·cases d<;>first|exact h2|exact bx h2
  ·rintro kvs rfl;exact bx h2
  ·rintro kvs rfl;exact bx h2
def FZ(ha:PT X a (gT ga)):PT X (.UnaryOp .Not a pos) (gT (VB ga)):=PT.imp (aIo ha) λσ H Q ⟨ρ,k,E,h,q⟩=>by
  obtain⟨d,h1,h2⟩:=aY h;cases h2;exact⟨ρ,d,E,h1,λH' s=>q H' s⟩
def aJ7{op}(ha:PE X a (gE fa ra)):PE X (.BoolOp op [a] pos) (gE fa ra):=aIp ha
def aDz(h:asB d=.ok k):d=.bl k:=by cases d<;>simp only[asB] at h<;>cases h;rfl
def aJ8(h:asI d=.ok k):d=.int k:=by cases d<;>simp only[asI] at h<;>cases h;rfl
theorem aN7(ha:PE X a (gE fa ra))(hb:PE X (.BoolOp .Or (b::rest) pos) (gE fb rb)):PE X (.BoolOp .Or (a::b::rest) pos) (gE (aMf fa fb) rb):=PE.imp (aMu ha hb) λσ H Q ⟨ρ,k,E,h,q⟩=>by
  obtain⟨d,h1,h⟩:=aY h;obtain⟨z,h2,h3⟩:=aY h;cases aDz h2;refine⟨ρ,_,E,h1,λv H' s r _=>?_⟩;cases r.inv;refine⟨_,rfl,?_⟩;cases z with
  |true=>rw[if_pos rfl];rw[if_pos rfl] at h3;cases h3;exact(q.imp s id).bl
  |false=>rw[if_neg 0x2];rw[if_neg 0x2] at h3;exact⟨ρ,k,E.same s,h3,q.imp s id⟩
def aP:PA X [] (gA aQ true):=PA.imp dZ λσ H Q ⟨ρ,ds,E,h,q⟩=>by cases h;exact q [] H (bU.refl H) .nil λ_=>.nil
def aC(he:PE X e (gE fe re))(hes:PA X es (gA f r))(hs:starEach (e::es) X.env=(false,eval e X.env)::starEach es X.env:=by rfl):PA X (e::es) (gA (aB fe f) (re&&r)):=PA.imp (bJ he hes hs) λσ H Q ⟨ρ,ds,E,h,q⟩=>by
  obtain⟨x,h1,h⟩:=aY h;obtain⟨xs,h2,h⟩:=aY h;cases h;refine⟨ρ,x,E,h1,λv H1 s1 r1 n1=>⟨ρ,xs,E.same s1,h2,λvs H2 s2 r2 n2=>q _ _ (s1.trans s2) (.cons (r1.same s2) r2) λhf=>?_⟩⟩;obtain⟨f1,f2⟩:=(Bool.and_eq_true _ _▸hf:re=true/\r=true)
  exact .cons ((n1 f1).same s2) ((n2 f2).mono (bU.new s1))
def d8{x1}(h:PA X es (gA f r)):PE X (.Tuple es x1 pos) (gE (fW f) r):=PE.imp (aDu h) λσ H Q ⟨ρ,d,E,h,q⟩=>by
  obtain⟨xs,h1,h⟩:=aY h;split at h
  ·rename_i hl;cases h;refine⟨ρ,xs,E,h1,λvs H1 s1 r1 n1=>⟨?_,λp hp=>?_⟩⟩
   ·rw[r1.length];exact Nat.le_trans (of_decide_eq_true hl) (by rw[sizeLine_eq];decide)
   ·have sp:bU H1 (upd H1 p (.tup vs)):=bU.upd hp;exact q _ _ (s1.trans sp) (.tup aH (r1.same sp)) λhf=>.tup aH ((n1 hf).same sp)
  ·exact bx h
def d_(h:PA X es (gA f r)):PE X (.List es pos) (gE (gM f) r):=PE.imp (O3 h) λσ H Q ⟨ρ,d,E,h,q⟩=>by
  obtain⟨xs,h1,h⟩:=aY h;split at h
  ·rename_i hl;cases h;refine⟨ρ,xs,E,h1,λvs H1 s1 r1 n1=>⟨?_,λp hp=>?_⟩⟩
   ·rw[r1.length];exact Nat.le_trans (of_decide_eq_true hl) (by rw[sizeLine_eq];decide)
   ·have sp:bU H1 (upd H1 p (.lst vs)):=bU.upd hp;exact q _ _ (s1.trans sp) (.lst aH trivial (r1.same sp)) λhf=>.lst aH (s1.free hp) ((n1 hf).same sp)
  ·exact bx h
def P_:PE X (.Dict [] [] pos) (gE (bC (.dct [])) true):=PE.imp O8 λσ H Q ⟨ρ,d,E,h,q⟩=>by
  cases h;exact λp hp=>q _ _ (bU.upd hp) (.dK aH trivial .nil List.nodup_nil) λ_=>.dK aH hp .nil List.nodup_nil
end
section
def lD(h:decide (n<=lim)=true):n<=sizeLine:=Nat.le_trans (of_decide_eq_true h) (by rw[sizeLine_eq];decide)
def aE0(h:decide (n<lim)=true):n<sizeLine:=Nat.lt_of_lt_of_le (of_decide_eq_true h) (by rw[sizeLine_eq];decide)
def Rep.aJ9(r:Rep P H v (.lst ds)):∃a xs,v=.ref a/\Rd H a (.lst xs)/\bG P H xs ds:=by
 cases r with
 |lst e p rr=>exact⟨_,_,rfl,.inl e,rr⟩
def PW.imp(h:PW X e t)(i:∀σ H Q,t' σ H Q->t σ H Q):PW X e t':=λwh pins s σ H Q I q=>h wh pins s σ H Q I (i σ H Q q)
def XM(ha:PT X a (gT ga)):PW X (.BoolOp .And [a] pos) (gT ga):=VN ha
def F_(ha:PT X a (gT ga)):PW X (.BoolOp .Or [a] pos) (gT ga):=aIn ha
def aE1(ha:PT X a (gT ga))(hb:PW X (.BoolOp .And (b::rest) pos) (gT gb)):PW X (.BoolOp .And (a::b::rest) pos) (gT (aBq ga gb)):=PW.imp (aDt ha hb) λσ H Q ⟨ρ,k,E,h,q⟩=>by
 obtain⟨z,h1,h3⟩:=aY h;refine⟨ρ,z,E,h1,λH' s=>?_⟩;cases z with
 |true=>rw[if_pos rfl];rw[if_pos rfl] at h3;exact⟨ρ,k,E.same s,h3,λH2 s2=>q H2 (s.trans s2)⟩
 |false=>rw[if_neg 0x2];rw[if_neg 0x2] at h3;cases h3;exact q H' s
def GC(ha:PT X a (gT ga))(hb:PW X (.BoolOp .Or (b::rest) pos) (gT gb)):PW X (.BoolOp .Or (a::b::rest) pos) (gT (bOr ga gb)):=PW.imp (aMt ha hb) λσ H Q ⟨ρ,k,E,h,q⟩=>by
 obtain⟨z,h1,h3⟩:=aY h;refine⟨ρ,z,E,h1,λH' s=>?_⟩;cases z with
 |true=>rw[if_pos rfl];rw[if_pos rfl] at h3;cases h3;exact q H' s
 |false=>rw[if_neg 0x2];rw[if_neg 0x2] at h3;exact⟨ρ,k,E.same s,h3,λH2 s2=>q H2 (s.trans s2)⟩
def b7:OpR X (binaryOp .Add) (r2 (aU .add) true):=by
 intro pins s σ H x y v u Q I rx ry h;obtain⟨a,b,d,p,q,e,k⟩:=h;cases p with
 |int i=>
  cases q with
  |int j=>cases e;exact aIs pins s σ H _ _ v u Q I rx ry ⟨i,j,rfl,rfl,k.int⟩
  |_=>exact bx e
 |str i=>
  cases q with
  |str j=>
   replace e:(if decide (i.length+j.length<=lim) then Res.ok (D.str (i++j)) else .bad)=.ok d:=e;split at e
   ·rename_i hl;cases e;exact R9 pins s σ H _ _ v u Q I rx ry ⟨i,j,rfl,rfl,lD hl,k.str⟩
   ·exact bx e
  |_=>exact bx e
 |non=>exact bx e
 |bl _=>exact bx e
 |tup _ _=>exact bx e
 |dK _ _ _ _=>exact bx e
 |dT _ _ _ _=>exact bx e
 |fdK _ _ _=>exact bx e
 |fdT _ _ _=>exact bx e
 |exc _ _ _=>exact bx e
 |ins _ _ _=>exact bx e
 |cel _ _ _=>exact bx e
 |@lst a1 xs ds e1 p1 r1=>
  have hR:Rep All H (.ref a1) (.lst ds):=.lst e1 p1 r1;cases b with
  |lst es=>
   replace e:(if decide (ds.length+es.length<=lim)&&D.aJ ds&&D.aJ es then Res.ok (D.lst (ds++es)) else .bad)=.ok d:=e;split at e
   ·rename_i hl;cases e;rw[Bool.and_eq_true,Bool.and_eq_true] at hl;obtain⟨⟨hl,hp1⟩,hp2⟩:=hl;obtain⟨l1,xs1,e1',rd1,rr1⟩:=hR.aJ9;obtain⟨l2,xs2,rfl,rd2,rr2⟩:=q.aJ9;cases e1';cases rx;cases ry;obtain⟨z,its,n,vr1,ee1⟩:=rd1.ok I.hok;obtain⟨z2,its2,n2,vr2,ee2⟩:=rd2.ok I.hok;have hz:xs1.length+xs2.length<=sizeLine:=by rw[rr1.length,rr2.length];exact lD hl
    have t1:=vr1.length;have t2:=vr2.length;refine PySem.P.add_list ee1 ee2 ?_ (by rw[List.size_toArray,List.size_toArray];lia);have ea:its.toArray++its2.toArray=(its++its2).toArray:=by simp
    rw[ea];refine⟨.ref _,_,I.aPo (vr1.append vr2) (by rw[List.length_append];lia),rfl,?_⟩;have sp:bU H (upd H s.heap.objs.size (.lst (xs1++xs2))):=bU.upd I.fresh;exact k _ _ sp (.lst aH trivial ((rr1.append rr2).same sp)) λ_=>.lst aH I.fresh (((rr1.bN hp1).append (rr2.bN hp2)).same sp)
   ·exact bx e
  |_=>exact bx e
 |frz _ _=>exact bx e
def K3(h:OpR X f (rI C g))
 (hi:∀i j d,op (.int i) (.int j)=.ok d->C i j/\∃k,d=.int k/\g i j=.int k)(hn:∀a b d,op a b=.ok d->(∃i,a=.int i)/\∃j,b=.int j):OpR X f (r2 op true):=by
 intro pins s σ H x y v u Q I rx ry ⟨a,b,d,p,q,e,k⟩;obtain⟨⟨i,rfl⟩,⟨j,rfl⟩⟩:=hn a b d e;cases p.inv;cases q.inv;obtain⟨hc,m,rfl,hm⟩:=hi i j d e;exact h pins s σ H _ _ v u Q I rx ry ⟨i,j,rfl,rfl,hc,by rw[hm];exact k.int⟩
def vB(ho:o≠.add){a b d:D}(e:aU o a b=.ok d):(∃i,a=.int i)/\∃j,b=.int j:=by
 cases a with
 |int i=>
  cases b with
  |int j=>exact⟨⟨i,rfl⟩,j,rfl⟩
  |_=>cases o<;>first|exact bx e|exact absurd rfl ho
 |_=>cases o<;>first|exact bx e|exact absurd rfl ho
def GD:OpR X (binaryOp .Sub) (r2 (aU .sub) true):=by
 intro pins s σ H x y v u Q I rx ry ⟨a,b,d,p,q,e,k⟩;obtain⟨⟨i,rfl⟩,j,rfl⟩:=vB 0x4 e;cases p.inv;cases q.inv;cases e;exact aIt pins s σ H _ _ v u Q I rx ry ⟨_,_,rfl,rfl,k.int⟩
def aJa:OpR X (binaryOp .Mult) (r2 (aU .mul) true):=by
 refine K3 aIu (λi j d e=>?_) λa b d e=>vB 0x4 e
 ·replace e:(if iV i||iV j then Res.ok (D.int (i*j)) else .bad)=.ok d:=e;split at e
  ·rename_i hl;cases e;refine⟨?_,_,rfl,rfl⟩;simp only[iV,Bool.or_eq_true,Bool.and_eq_true,decide_eq_true_eq] at hl;exact hl
  ·exact bx e
def dI:OpR X (binaryOp .FloorDiv) (r2 (aU .fdiv) true):=by
 refine K3 aFb (λi j d e=>?_) λa b d e=>vB 0x4 e
 ·replace e:(if decide (0<j)&&decide (j<1073741824) then Res.ok (D.int (i / j)) else .bad)=.ok d:=e;split at e
  ·rename_i hl;cases e;refine⟨?_,_,rfl,rfl⟩;simp only[Bool.and_eq_true,decide_eq_true_eq] at hl;exact hl
  ·exact bx e
def b8:OpR X (binaryOp .Mod) (r2 (aU .mod) true):=by
 refine K3 aIv (λi j d e=>?_) λa b d e=>vB 0x4 e
 ·replace e:(if decide (0<j) then Res.ok (D.int (i % j)) else .bad)=.ok d:=e;split at e
  ·rename_i hl;cases e;refine⟨?_,_,rfl,rfl⟩;simp only[Bool.and_eq_true,decide_eq_true_eq] at hl;exact hl
  ·exact bx e
def GF:UnR X (unaryOp .USub) (r1 O_ true):=by
 intro pins s σ H x v Q I rx ⟨a,d,p,e,k⟩;cases a<;>try exact bx e
 cases e;cases p.inv;exact V3 pins s σ H _ v Q I rx ⟨_,rfl,k.int⟩
def nW(hu:X.A.units+20<cLine):OpR X (compareOp .Eq) (r2 (eX .eq) true):=by
 intro pins s σ H x y v u Q I rx ry ⟨a,b,d,p,q,e,k⟩;replace e:(if a.fC aX&&b.fC aX then Res.ok (D.bl (eqD a b)) else .bad)=.ok d:=e;split at e
 ·rename_i hl;cases e;rw[Bool.and_eq_true] at hl;exact(XH I aX X.A (by have:aX=12:=rfl;lia) hl.1 hl.2 p q rx ry).1 X.prog X.w X.xe _ ⟨.bl _,H,I,rfl,k.bl⟩
 ·exact bx e
def TF(hu:X.A.units+20<cLine):OpR X (compareOp .NotEq) (r2 (eX .ne) true):=by
 intro pins s σ H x y v u Q I rx ry ⟨a,b,d,p,q,e,k⟩;replace e:(if a.fC aX&&b.fC aX then Res.ok (D.bl (!eqD a b)) else .bad)=.ok d:=e;split at e
 ·rename_i hl;cases e;rw[Bool.and_eq_true] at hl;exact(XH I aX X.A (by have:aX=12:=rfl;lia) hl.1 hl.2 p q rx ry).2.1 X.prog X.w X.xe _ ⟨.bl _,H,I,rfl,k.bl⟩
 ·exact bx e
end
end
variable [KFrag]
def XN(k q:Key):eqD (kD k) (kD q)=decide (k=q):=by
 cases k<;>cases q<;>simp[kD,eqD,Bool.beq_eq_decide_eq]
theorem aE2:∀(k q:List Key),yF (k.map kD) (q.map kD)=decide (k=q)
 |[],[]=>by simp[yF]
 |[],_::_=>by simp[yF]
 |_::_,[]=>by simp[yF]
 |a::k,b::q=>by
  rw[List.map_cons,List.map_cons,yF,XN,aE2 k q];by_cases h:a=b<;>by_cases h':k=q<;>simp[h,h']
def aFy(k q:List Key):eqD (.tup (k.map kD)) (.tup (q.map kD))=decide (k=q):=by rw[eqD,aE2]
theorem aFz:∀{kvs:List (Key×V)}{ds:List (D×D)},fY P H kvs ds->(∃v d,yD kvs k=some v/\cA ds (kD k)=some d/\Rep P H v d)\/(yD kvs k=none/\cA ds (kD k)=none)
 |_,_,.nil=>.inr ⟨rfl,rfl⟩
 |_,_,.cons (k:=k') r t=>by
  by_cases h:k'=k
  ·subst h;exact .inl ⟨_,_,oO rfl,by rw[cA,XN,if_pos 0x2],r⟩
  ·rw[cA,XN,if_neg (by simpa using h),oR h];exact aFz t
theorem aG0:∀{kvs:List (List Key×V)}{ds:List (D×D)},lZ P H kvs ds->(∃v d,yD kvs k=some v/\cA ds (.tup (k.map kD))=some d/\Rep P H v d)\/(yD kvs k=none/\cA ds (.tup (k.map kD))=none)
 |_,_,.nil=>.inr ⟨rfl,rfl⟩
 |_,_,.cons (k:=k') r t=>by
  by_cases h:k'=k
  ·subst h;exact .inl ⟨_,_,oO rfl,by rw[cA,aFy,if_pos 0x2],r⟩
  ·rw[cA,aFy,if_neg (by simpa using h),oR h];exact aG0 t
def zN(h:gR d=true)(r:Rep All H v d):∃k,v=kV k/\d=kD k:=by
 cases r<;>simp[gR] at h
 ·exact⟨.inl _,rfl,rfl⟩
 ·exact⟨.inr _,rfl,rfl⟩
theorem flat_keys:∀{vs:List V}{ds:List D},ds.all gR=true->bG All H vs ds->∃ks:List Key,vs=ks.map kV/\ds=ks.map kD
 |_,_,_,.nil=>⟨[],rfl,rfl⟩
 |_,_,h,.cons r t=>by
  rw[List.all_cons,Bool.and_eq_true] at h;obtain⟨k,rfl,rfl⟩:=zN h.1 r;obtain⟨ks,rfl,rfl⟩:=flat_keys h.2 t;exact⟨k::ks,rfl,rfl⟩
def jD(h:keyOk k=true)(r:Rep All H y k):(∃q,y=kV q/\k=kD q)\/∃(b:Addr)(ks:List Key),y=.ref b/\H b=some (.tup (ks.map kV))/\k=.tup (ks.map kD):=by
 cases k<;>simp[keyOk] at h
 ·exact .inl (zN rfl r)
 ·exact .inl (zN rfl r)
 ·obtain⟨a,xs,rfl,e,rr⟩:=r.iM;obtain⟨ks,rfl,rfl⟩:=flat_keys (List.all_eq_true.mpr h) rr;exact .inr ⟨a,ks,rfl,e,rfl⟩
def m_(k:Key):isTup (kD k)=false:=by cases k<;>rfl
section
def zO(e:H a=some o):upd (upd H a o') a o=H:=by
 rw[J3]
 funext b
 by_cases h:b=a
 ·subst h;rw[aH,e]
 ·rw[aR h]
def nA(I:Inv X pins σ H s)(e:H a=some (.dK [])):Inv X pins σ (upd H a (.dT [])) s:=by
 obtain⟨z,hd,vs,rel,o,es,ep,h1,h2,h3,h4,h5,h6⟩:=S9 I.hok e;cases rel;refine I.write (by rw[e];trivial) (.inl rfl) (λ_ _ _ q=>q) ⟨o,h1⟩ ?_;refine⟨Nat.zero_le _,hd,[],.nil,o,es,ep,h1,h2,h3,?_,List.nodup_nil⟩;cases h5':es.toList with
 |nil=>rfl
 |cons _ _=>rw[h5'] at h5;cases h5
def j7(I:Inv X pins σ H s)(e:H a=some (.dT [])):Inv X pins σ (upd H a (.dK [])) s:=by
 obtain⟨z,hd,vs,rel,o,es,ep,h1,h2,h3,h4,h5,h6⟩:=aFq I.hok e;cases rel;refine I.write (by rw[e];trivial) (.inl rfl) (λ_ _ _ q=>q) ⟨o,h1⟩ ?_;have h0:es.toList=[]:=h4;refine⟨Nat.zero_le _,hd,[],.nil,o,es,ep,h1,h2,h3,?_,?_,List.nodup_nil⟩
 ·intro x hx;have:x∈es.toList:=by simpa using hx
  rw[h0] at this;cases this
 ·rw[h0];exact .nil
theorem QB:∀{kvs:List (Key×V)}{ds:List (D×D)},fY P H kvs ds->∀p∈ds,isTup p.1=false
 |_,_,.nil,_,h=>by cases h
 |_,_,.cons r t,p,h=>by
  rcases List.mem_cons.mp h with rfl|h
  ·exact m_ _
  ·exact QB t p h
theorem QC:∀{kvs:List (List Key×V)}{ds:List (D×D)},lZ P H kvs ds->∀p∈ds,isTup p.1=true
 |_,_,.nil,_,h=>by cases h
 |_,_,.cons r t,p,h=>by
  rcases List.mem_cons.mp h with rfl|h
  ·rfl
  ·exact QC t p h
def aG1(I:Inv X pins σ H s)(rd:Rep All H x (.dct ds))(rk:Rep All H y k)(hk:uK ds k=true) :
  ∃H1 a o,x=.ref a/\Inv X pins σ H1 s/\(∀s',Inv X pins σ H1 s'->Inv X pins σ H s')/\WP H1 a y o/\((o=none/\cA ds k=none)\/∃v d,o=some v/\cA ds k=some d/\Rep All H v d):=by
 unfold uK at hk;rw[Bool.and_eq_true] at hk;obtain⟨h1,h2⟩:=hk;cases rd with
 |@dK a kvs ds e _ r n=>
  rcases jD h1 rk with ⟨q,rfl,rfl⟩|⟨b,ks,rfl,eb,rfl⟩
  ·refine⟨H,a,_,rfl,I,λ_ h=>h,.k e,?_⟩;rcases aFz r with ⟨v,d,g1,g2,g3⟩|⟨g1,g2⟩
   ·exact .inr ⟨v,d,g1,g2,g3⟩
   ·exact .inl ⟨g1,g2⟩
  ·cases r with
   |nil=>
    have e2:=zO (o':=.dT []) e;refine⟨upd H a (.dT []),a,none,rfl,nA I e,λs' I'=>?_,.t aH (by rw[aR (oH eb e 0x7)];exact eb),.inl ⟨rfl,rfl⟩⟩;have:=j7 I' aH;rwa [e2] at this
   |cons r t=>
    rw[List.all_cons,m_] at h2;simp[isTup] at h2
 |@dT a kvs ds e _ r n=>
  rcases jD h1 rk with ⟨q,rfl,rfl⟩|⟨b,ks,rfl,eb,rfl⟩
  ·cases r with
   |nil=>
    have e2:=zO (o':=.dK []) e;refine⟨upd H a (.dK []),a,none,rfl,j7 I e,λs' I'=>?_,.k (k:=q) aH,.inl ⟨rfl,rfl⟩⟩;have:=nA I' aH;rwa [e2] at this
   |cons r t=>
    rw[List.all_cons,m_] at h2;simp[isTup] at h2
  ·refine⟨H,a,_,rfl,I,λ_ h=>h,.t e eb,?_⟩;rcases aG0 (k:=ks) r with ⟨v,d,g1,g2,g3⟩|⟨g1,g2⟩
   ·exact .inr ⟨v,d,g1,g2,g3⟩
   ·exact .inl ⟨g1,g2⟩
def aBu(rd:Rep All H x (.dct ds))(hk:keyOk k=true)(h:cA ds k=some d):uK ds k=true:=by
 have one:∀{ds:List (D×D)},cA ds k=some d->∃p∈ds,eqD p.1 k=true:=by
  intro ds;induction ds with
  |nil=>intro h;cases h
  |cons p ds ih=>
   intro h;obtain⟨p1,p2⟩:=p;rw[cA] at h;by_cases hq:eqD p1 k=true
   ·exact⟨_,List.mem_cons_self ..,hq⟩
   ·rw[if_neg hq] at h;obtain⟨p,hp,e⟩:=ih h;exact⟨p,List.mem_cons_of_mem _ hp,e⟩
 obtain⟨p,hp,he⟩:=one h;unfold uK;rw[hk,Bool.true_and,List.all_eq_true];intro q hq;have same:isTup p.1=isTup k:=by
  obtain⟨p1,p2⟩:=p;cases p1<;>cases k<;>simp[eqD,keyOk,isTup] at he hk ⊢
 cases rd with
 |dK e _ r n=>rw[QB r q hq,<-same,QB r p hp];rfl
 |dT e _ r n=>rw[QC r q hq,<-same,QC r p hp];rfl
end
section
variable {X:Cx} {a b c e:Expr} {pos:Pos} {fa fb:FE} {ra rb:Bool}
def JX(H:Hp)(u:Value):D:=by
 classical
 exact if h:∃d,d.fC aX=true/\∃v,RelV v u/\Rep All H v d then Classical.choose h else .non
def XQ(hq:d.fC aX=true)(rv:RelV v u)(r:Rep All H v d):JX H u=d:=by
 unfold JX;have h:∃d,d.fC aX=true/\∃v,RelV v u/\Rep All H v d:=⟨d,hq,v,rv,r⟩
 rw[dif_pos h];obtain⟨h2,v',rv',r'⟩:=Classical.choose_spec h;have:=rv'.inj rv;subst this;exact Rep.inj aX h2 hq r' r
theorem wB{a:D}:∀{xs:List V}{ds:List D}{its:List Value},D.dR aX ds=true->bG All H xs ds->Vals xs its->(its.any λu=>eqD (JX H u) a)=ds.any λy=>eqD y a
 |_,_,_,_,.nil,.nil=>rfl
 |_,_,_,h,.cons r t,.cons v vt=>by
  rw[D.dR,Bool.and_eq_true] at h;rw[List.any_cons,List.any_cons,XQ h.1 v r,wB h.2 t vt]
def zP{s:Shared}(I:Inv X pins σ H s)(hu:X.A.units+20<cLine){a:D}{x:V}{v:Value}(ha:a.fC aX=true)(rx:Rep All H x a)(rv:RelV x v)
 {xs:List V}{ds:List D}{its:List Value}(h:D.dR aX ds=true)(r:bG All H xs ds)(vr:Vals xs its)(u:Value)(hm:u∈its):EqAt X.A.in1 s u v (eqD (JX H u) a):=by
 obtain⟨j,hj,e⟩:=List.getElem_of_mem hm;have hj':j<ds.length:=by rw[<-r.length,vr.length];exact hj
 obtain⟨w,h1,h2⟩:=r.get (i:=j) (d:=ds[j]) (by simp[hj']);obtain⟨u',h3,h4⟩:=vr.get h1;rw[List.getElem?_eq_getElem hj,e] at h3;cases h3;have hd:ds[j].fC aX=true:=by
  have:=oW h hj';rwa [List.getD_eq_getElem?_getD,List.getElem?_eq_getElem hj'] at this
 rw[XQ hd h4 h2];exact(XH I aX X.A.in1 (by show X.A.units+1+12<cLine;lia) hd ha h2 rx h4 rv).2.2
def aN8(hu:X.A.units+20<cLine):OpR X (compareOp .In) (r2 (eX .isin) true):=by
 intro pins s σ H x y v u Q I rx ry ⟨a,b,d,p,q,e,k⟩;cases b with
 |tup ys=>
  replace e:(if a.fC aX&&D.dR aX ys then Res.ok (D.bl (ys.any λy=>eqD y a)) else .bad)=.ok d:=e;split at e
  ·rename_i hl;cases e;rw[Bool.and_eq_true] at hl;obtain⟨l,xs,rfl,ee,rr⟩:=q.iM;cases ry;obtain⟨its,vr,pl⟩:=j5 I ee;refine in_tupleAt (λu=>eqD (JX H u) a) pl (λw hw=>zP I hu hl.1 p rx hl.2 rr vr w (by simpa using hw)) ⟨.bl _,H,I,rfl,?_⟩;rw[show its.toArray.any (λu=>eqD (JX H u) a)=its.any (λu=>eqD (JX H u) a) by simp,wB hl.2 rr vr];exact k.bl
  ·cases e
 |lst ys=>
  replace e:(if a.fC aX&&D.dR aX ys then Res.ok (D.bl (ys.any λy=>eqD y a)) else .bad)=.ok d:=e;split at e
  ·rename_i hl;cases e;rw[Bool.and_eq_true] at hl;obtain⟨l,xs,rfl,ee,rr⟩:=q.j6;cases ry;obtain⟨its,vr,pl⟩:=mO I ee;refine in_listAt (λu=>eqD (JX H u) a) pl (λw hw=>zP I hu hl.1 p rx hl.2 rr vr w (by simpa using hw)) ⟨.bl _,H,I,rfl,?_⟩;rw[show its.toArray.any (λu=>eqD (JX H u) a)=its.any (λu=>eqD (JX H u) a) by simp,wB hl.2 rr vr];exact k.bl
  ·cases e
 |dct kvs=>
  replace e:(if uK kvs a then Res.ok (D.bl ((cA kvs a).isSome)) else .bad)=.ok d:=e;split at e
  ·rename_i hl;cases e;obtain⟨H1,a1,o,rfl,I1,bk,g,hc⟩:=aG1 I q p hl;cases ry;refine aPp 0x1 I1 g rx λs' I'=>⟨.bl _,H,bk s' I',rfl,?_⟩
   rcases hc with ⟨rfl,h2⟩|⟨w,dd,rfl,h2,_⟩
   ·rw[h2] at k;exact k.bl
   ·rw[h2] at k;exact k.bl
  ·cases e
 |_=>exact bx e
def aBv(hu:X.A.units+20<cLine):OpR X (compareOp .NotIn) (r2 (eX .notin) true):=by
 intro pins s σ H x y v u Q I rx ry ⟨a,b,d,p,q,e,k⟩;cases b with
 |tup ys=>
  replace e:(if a.fC aX&&D.dR aX ys then Res.ok (D.bl (!(ys.any λy=>eqD y a))) else .bad)=.ok d:=e;split at e
  ·rename_i hl;cases e;rw[Bool.and_eq_true] at hl;obtain⟨l,xs,rfl,ee,rr⟩:=q.iM;cases ry;obtain⟨its,vr,pl⟩:=j5 I ee;refine notIn_tupleAt (λu=>eqD (JX H u) a) pl (λw hw=>zP I hu hl.1 p rx hl.2 rr vr w (by simpa using hw)) ⟨.bl _,H,I,rfl,?_⟩;rw[show its.toArray.any (λu=>eqD (JX H u) a)=its.any (λu=>eqD (JX H u) a) by simp,wB hl.2 rr vr];exact k.bl
  ·cases e
 |lst ys=>
  replace e:(if a.fC aX&&D.dR aX ys then Res.ok (D.bl (!(ys.any λy=>eqD y a))) else .bad)=.ok d:=e;split at e
  ·rename_i hl;cases e;rw[Bool.and_eq_true] at hl;obtain⟨l,xs,rfl,ee,rr⟩:=q.j6;cases ry;obtain⟨its,vr,pl⟩:=mO I ee;refine notIn_listAt (λu=>eqD (JX H u) a) pl (λw hw=>zP I hu hl.1 p rx hl.2 rr vr w (by simpa using hw)) ⟨.bl _,H,I,rfl,?_⟩;rw[show its.toArray.any (λu=>eqD (JX H u) a)=its.any (λu=>eqD (JX H u) a) by simp,wB hl.2 rr vr];exact k.bl
  ·cases e
 |dct kvs=>
  replace e:(if uK kvs a then Res.ok (D.bl (!((cA kvs a).isSome))) else .bad)=.ok d:=e;split at e
  ·rename_i hl;cases e;obtain⟨H1,a1,o,rfl,I1,bk,g,hc⟩:=aG1 I q p hl;cases ry;refine aFr 0x1 I1 g rx λs' I'=>⟨.bl _,H,bk s' I',rfl,?_⟩
   rcases hc with ⟨rfl,h2⟩|⟨w,dd,rfl,h2,_⟩
   ·rw[h2] at k;exact k.bl
   ·rw[h2] at k;exact k.bl
  ·cases e
 |_=>exact bx e
def aJb(xs:List α)(i:Int):L2.atI xs i=(ixD xs.length i).bind λj=>xs[j]?:=rfl
def bG.atI(r:bG P H xs ds)(h:((ixD ds.length i).bind λj=>ds[j]?)=some d):∃v,L2.atI xs i=some v/\Rep P H v d:=by
 rw[aJb,r.length];cases hi:ixD ds.length i with
 |none=>rw[hi] at h;cases h
 |some j=>
  rw[hi] at h;obtain⟨v,h1,h2⟩:=r.get h;exact⟨v,h1,h2⟩
def GJ{a:Addr}{y v':V}{u:Value}{Q:VK}(hu:X.A.units+20<cLine)(I:Inv X pins σ H s)(g:WP H a y (some v'))(ry:RelV y u){H':Hp}
 (hs:subscripted slice false (.ref a) u=operate [.ref a,u] (getItem (.ref a) u))(bk:∀s',Inv X pins σ H s'->Inv X pins σ H' s')(q:Q v' H') :
  wpAny (model X.prog X.w) X.A (subscriptTail value slice (.ref a) u) (EP X pins σ Q) X.xe s:=by
 have hT:=J_ I g;unfold subscriptTail;refine wpAny_bind ?_;rw[getitemInPython_of_ne hT.not_modules];refine wpAny_bind (wpAny_specialOf hT PySem.F.slot_dict_getitem.lookup ?_);have fin:wpAny (model X.prog X.w) X.A (subscripted slice false (.ref a) u) (λr s₃=>wpAny (model X.prog X.w) X.A (letTemporaryGo value (.ref a) r >>= λ_=>pure r) (EP X pins σ Q) X.xe s₃) X.xe s:=by
  rw[hs];exact wpAny_operating (WQ 0x1 I g ry λw' s3 I3 rw'=>wpAny_bind (wpAny_letTemporaryGo (wpAny_pure ⟨v',H',bk s3 I3,rw',q⟩)))
 first
  |exact wpAny_pure (wpAny_bind fin)
  |exact wpAny_bind (wpAny_pure (wpAny_bind fin))
  |exact wpAny_bind fin
theorem QD:∀{ds:List (D×D)},keyOk k=true->cA ds k=some d->∃p∈ds,isTup p.1=isTup k
 |[],_,h=>by cases h
 | (p1,p2)::ds,hk,h=>by
  rw[cA] at h;by_cases hq:eqD p1 k=true
  ·refine⟨_,List.mem_cons_self ..,?_⟩;cases p1<;>cases k<;>simp[eqD,keyOk,isTup] at hq hk ⊢
  ·rw[if_neg hq] at h;obtain⟨p,hp,e⟩:=QD hk h;exact⟨p,List.mem_cons_of_mem _ hp,e⟩
def aN9(rd:Rep All H x (.fdc ds))(rk:Rep All H y k)(hk:keyOk k=true)(h:cA ds k=some d):∃a v,x=.ref a/\WP H a y (some v)/\Rep All H v d:=by
 obtain⟨p,hp,et⟩:=QD hk h;cases rd with
 |@fdK a o kvs ds e r n=>
  rcases jD hk rk with ⟨q,rfl,rfl⟩|⟨b,ks,rfl,eb,rfl⟩
  ·rcases aFz r with ⟨v,d',g1,g2,g3⟩|⟨g1,g2⟩
   ·rw[g2] at h;cases h;exact⟨a,v,rfl,.inl ⟨kvs,q,.inr ⟨o,e⟩,rfl,g1.symm⟩,g3⟩
   ·rw[g2] at h;cases h
  ·rw[QB r p hp] at et;cases et
 |@fdT a o kvs ds e r n=>
  rcases jD hk rk with ⟨q,rfl,rfl⟩|⟨b,ks,rfl,eb,rfl⟩
  ·rw[QC r p hp,m_] at et;cases et
  ·rcases aG0 r with ⟨v,d',g1,g2,g3⟩|⟨g1,g2⟩
   ·rw[g2] at h;cases h;exact⟨a,v,rfl,.inr ⟨kvs,ks,b,.inr ⟨o,e⟩,rfl,eb,g1.symm⟩,g3⟩
   ·rw[g2] at h;cases h
def aG2(hK:KFrag.K=X.K)(hu:X.A.units+20<cLine):IxR X (r2 getD false):=by
 intro value slice pins s σ H x y v u Q I rx ry ⟨a,b,d,p,q,e,k⟩ hs;cases a with
 |tup ys=>
  cases b<;>try exact bx e
  have e':=Res.kZ e;obtain⟨l,xs,rfl,ee,rr⟩:=p.iM;cases q;obtain⟨w,h1,h2⟩:=rr.atI e';exact aJ0 value slice pins s σ H _ _ v u Q I rx ry ⟨l,xs,_,w,rfl,rfl,.of ee,h1,k.self h2 λz=>by cases z⟩ hs
 |lst ys=>
  cases b<;>try exact bx e
  have e':=Res.kZ e;obtain⟨l,xs,rfl,ee,rr⟩:=p.j6;cases q;obtain⟨w,h1,h2⟩:=rr.atI e';exact sE value slice pins s σ H _ _ v u Q I rx ry ⟨l,xs,_,w,rfl,rfl,ee,h1,k.self h2 λz=>by cases z⟩ hs
 |cel ca ys=>
  cases b<;>try exact bx e
  have e':=Res.kZ e;obtain⟨_,rfl,ee,pp,rr⟩:=p.inv;cases q;obtain⟨w,h1,h2⟩:=rr.atI e';exact sE value slice pins s σ H _ _ v u Q I rx ry ⟨_,_,_,w,rfl,rfl,.inl (.inl ee),h1,k.self h2 λz=>by cases z⟩ hs
 |scr ys=>
  cases b<;>try exact bx e
  have e':=Res.kZ e;obtain⟨_,_,rfl,ee,rr⟩:=p.inv;cases q;obtain⟨w,h1,h2⟩:=rr.atI e';exact sE value slice pins s σ H _ _ v u Q I rx ry ⟨_,_,_,w,rfl,rfl,ee.sq hK,h1,k.self h2 λz=>by cases z⟩ hs
 |str z=>
  cases b<;>try exact bx e
  rename_i i;replace e:(if decide (z.length<=lim) then Res.ofOpt (((ixD z.cps.toList.length i).bind λj=>z.cps.toList[j]?).map λc=>D.str ⟨#[c]⟩) else .bad)=.ok d:=e;split at e
  ·rename_i hl;have e':=Res.kZ e;obtain⟨cc,h1,h2⟩:=Option.map_eq_some_iff.mp e';subst h2;cases p;cases q;exact aJ1 value slice pins s σ H _ _ v u Q I rx ry ⟨z,_,cc,rfl,rfl,lD hl,h1,k.str⟩ hs
  ·cases e
 |dct kvs=>
  have e':keyOk b=true/\cA kvs b=some d:=by
   replace e:(if keyOk b then Res.ofOpt (cA kvs b) else .bad)=.ok d:=by cases b<;>exact e
   split at e
   ·rename_i hl;exact⟨hl,Res.kZ e⟩
   ·exact bx e
  obtain⟨H1,a1,o,rfl,I1,bk,g,hc⟩:=aG1 I p q (aBu p e'.1 e'.2);cases rx;rcases hc with ⟨rfl,h2⟩|⟨w,dd,rfl,h2,h3⟩
  ·rw[h2] at e';cases e'.2
  ·rw[h2] at e';cases e'.2;exact GJ hu I1 g ry hs bk (k.self h3 λz=>by cases z)
 |fdc kvs=>
  have e':keyOk b=true/\cA kvs b=some d:=by
   replace e:(if keyOk b then Res.ofOpt (cA kvs b) else .bad)=.ok d:=by cases b<;>exact e
   split at e
   ·rename_i hl;exact⟨hl,Res.kZ e⟩
   ·exact bx e
  obtain⟨a1,w,rfl,g,h3⟩:=aN9 p q e'.1 e'.2;cases rx;exact GJ hu I g ry hs (λ_ h=>h) (k.self h3 λz=>by cases z)
 |_=>cases b<;>exact bx e
def bA(ha:PE X a (gE fa ra))(hb:PE X b (gE fb rb))(hK:KFrag.K=X.K:=by assumption)(hu:X.A.units+20<cLine:=by assumption)(hs:zG b:=by exact λ_ _=>rfl):PE X (.Subscript a b pos) (gE (b2 getD fa fb) false):=aN6 (aG2 hK hu) ha hb hs
noncomputable def gO(f:List D->Res (Option Int)):TO:=λσ H Q=>∃ρ i,ER H σ ρ/\f ρ=.ok i/\∀H',bU H H'->Q i H'
def PO.imp{X:Cx}{e:Option PySem.Expr}{t t':TO}(h:PO X e t)(i:∀σ H Q,t' σ H Q->t σ H Q):PO X e t':=λpins s σ H Q I q=>h pins s σ H Q I (i σ H Q q)
def iQ:PO X none (gO fX):=PO.imp aFl λσ H Q ⟨ρ,i,E,h,q⟩=>by cases h;exact q H (bU.refl H)
def iR(ha:PE X a (gE fa ra)):PO X (some a) (gO (eZ fa)):=PO.imp (aFm ha) λσ H Q ⟨ρ,i,E,h,q⟩=>by
 obtain⟨x,h1,h⟩:=aY h;obtain⟨j,h2,h⟩:=aY h;cases h;have e:=aJ8 h2;subst e;exact⟨ρ,_,E,h1,λv H' s r _=>by cases r;exact⟨j,rfl,q H' s⟩⟩
def aE3(n d:Nat)(o:Option Int):HT.sIx n d o=aB2 n d o:=by
 cases o with
 |none=>rfl
 |some v=>
  show(if v<0 then (v+(n:Int)).toNat else min v.toNat n)=(if v<0 then (max (v+(n:Int)) 0).toNat else (min v (n:Int)).toNat);split<;>lia
def bG.cut(r:bG P H xs ds)(lo hi:Option Int):bG P H (WD xs lo hi) (cutD ds lo hi):=by
 unfold WD cutD;rw[r.length];simp only[aE3];exact(r.drop _).take _
def bZ:D.aJ ds=true↔∀d∈ds,d.pure=true:=by
 induction ds with
 |nil=>simp[D.aJ]
 |cons d ds ih=>rw[D.aJ,Bool.and_eq_true,ih];simp
def rSl:V->Option Int->Option Int->Hp->VK->Prop:=λx lo hi H Q=>∃a d,Rep All H x a/\aMg a lo hi=.ok d/\kR H d true Q
def aNa(hK:KFrag.K=X.K):SlR X rSl:=by
 intro pins s σ H x v vl vu lo hi sl Q I rx hs pl pu ⟨a,d,p,e,k⟩;cases a<;>simp only[aMg] at e<;>(try (cases e;done))
 ·split at e
  ·cases e
  ·rename_i hw;cases e;obtain⟨l,xs,rfl,ee,rr⟩:=p.iM;refine aIz pins s σ H _ v vl vu lo hi sl Q I rx hs pl pu ⟨l,xs,rfl,.of ee,?_,λp hp=>?_⟩
   ·simp only[aE3,rr.length];simp only[Bool.not_eq_true',Bool.or_eq_true,not_or,Bool.not_eq_false',decide_eq_true_eq] at hw;exact hw.2
   ·have sp:bU H (upd H p (.tup (WD xs lo hi))):=bU.upd hp;have hp2:D.aJ ‹List D›=true:=by
     simp only[Bool.or_eq_true,not_or,Bool.not_eq_true'] at hw;simpa using hw.1
    exact k _ _ sp (.tup aH ((rr.cut lo hi).same sp)) λz=>.tup aH (((rr.bN hp2).cut lo hi).same sp)
 ·split at e
  ·rename_i hl;cases e;obtain⟨l,xs,rfl,ee,rr⟩:=p.j6;refine WL pins s σ H _ v vl vu lo hi sl Q I rx hs pl pu ⟨l,xs,rfl,ee,λp hp=>?_⟩;have sp:bU H (upd H p (.lst (WD xs lo hi))):=bU.upd hp;exact k _ _ sp (.lst aH trivial ((rr.cut lo hi).same sp)) λz=>.lst aH hp (((rr.bN hl).cut lo hi).same sp)
  ·cases e
 ·split at e
  ·rename_i hl;cases e;cases p with
   |@frz l xs ds ee rr=>
    refine WL pins s σ H _ v vl vu lo hi sl Q I rx hs pl pu ⟨l,xs,rfl,ee.sq hK,λp hp=>?_⟩;have sp:bU H (upd H p (.lst (WD xs lo hi))):=bU.upd hp;exact k _ _ sp (.lst aH trivial ((rr.cut lo hi).same sp)) λz=>.lst aH hp (((rr.bN hl).cut lo hi).same sp)
  ·cases e
end
end Mi
namespace PySem.Mm
open PySem PyProof.Rows PySem.W
def GK{K:Type}[DecidableEq K]{knd:KeyKind prog w K}{d:Addr}{kvs:List (K×Value)}{ep n:Nat}(hh:A.handled=none)(lo:(d==sysModules)=false)
 (hm:s.heap.DictAt knd d kvs ep)(hn:kvs.length=n)(hl:n<=2 ^ 24)
 (q:∀h' tk acc c,(∀b o,s.heap.get? b=some o->h'.get? b=some o)->h'.get? s.heap.objs.size=some {cls:=.type "list",dict:=none,data:=.seq acc c,slots:=#[]}->
   ItemsOf (λi v=>∃k x,kvs[i]?=some (k,x)/\knd.is k v=true) acc n->Q (.ref s.heap.objs.size) {s with heap:=h',toks:=tk}):wpAny (model prog w) A (call (.type "list") [.ref d]) Q E s:=by
 subst hn;exact kdl_call (kdl_dict lo) hh hm (kdl_size hl) q
end PySem.Mm
namespace Mi
open PySem L2 PySem.SeqAt PySem.Spec PyProof.Rows
section
variable [KFrag]
section
variable {a b e:Expr} {x:Str} {id T:String}
def j8(r:bG P H xs [d])(vr:Vals xs us):∃v u,xs=[v]/\us=[u]/\Rep P H v d/\RelV v u:=by
 cases r with
 |cons r t=>
  cases t;cases vr with
  |cons v vt=>
   cases vt;exact⟨_,_,rfl,rfl,r,v⟩
theorem QF(h:gE (aV f fs) fr σ H Q):tCB (rs f fr) (gA fs rr) σ H Q:=by
 obtain⟨ρ,d,E,h,q⟩:=h;obtain⟨ds,h1,h2⟩:=aY h;exact⟨ρ,ds,E,h1,λvs H1 s1 r1 _=>⟨ds,d,r1,h2,q.imp s1 id⟩⟩
theorem cL(hc:nQ X (.builtin id) (rs f fr))(hg:Gl X x)(hm:X.mg x=none)(hv:bootBuiltins x=some (.builtin id))(ha:PA X (e::es) (gA fs rr))(hn:x ≠ "__name__":=by decide)(hdb:nDb x:=by decide)
 (he:starEach (e::es) X.env=(false,eval e X.env)::starEach es X.env:=by rfl)(hpl:(backTo pos (starEach es X.env)).any (·.1)=false:=by rfl):PE X (.Call (.Name x p) (e::es) [] pos) (gE (aV f fs) fr):=
 PE.imp (zF hc hg hm hv ha hn hdb he hpl) λ_ _ _=>QF
def dU(hc:nQ X (.type T) (rs f fr))(hg:Gl X x)(hm:X.mg x=none)(hv:bootBuiltins x=some (.type T))(ha:PA X (e::es) (gA fs rr))(hn:x ≠ "__name__":=by decide)(hdb:nDb x:=by decide)
 (he:starEach (e::es) X.env=(false,eval e X.env)::starEach es X.env:=by rfl)(hpl:(backTo pos (starEach es X.env)).any (·.1)=false:=by rfl):PE X (.Call (.Name x p) (e::es) [] pos) (gE (aV f fs) fr):=
 PE.imp (D_ hc hg hm hv ha hn hdb he hpl) λ_ _ _=>QF
def jE(hK:KFrag.K=X.K):nQ X (.builtin "len") (rs lC true):=by
 intro pins s σ H xs us Q I vr ⟨ds,d,r,e,k⟩;unfold lC at e;split at e
 ·cases e;obtain⟨vv,uu,rfl,rfl,r,v⟩:=j8 r vr;obtain⟨l,ys,rfl,hl,rr⟩:=r.iM;cases v;exact jQ pins s σ H [.ref l] [.ref l] Q I (.cons rfl .nil) ⟨l,ys,rfl,.inr (.of hl),by rw[rr.length];exact k.int⟩
 ·cases e;obtain⟨vv,uu,rfl,rfl,r,v⟩:=j8 r vr;obtain⟨l,ys,rfl,hl,rr⟩:=r.j6;cases v;exact jQ pins s σ H [.ref l] [.ref l] Q I (.cons rfl .nil) ⟨l,ys,rfl,.inl hl,by rw[rr.length];exact k.int⟩
 ·cases e;obtain⟨vv,uu,rfl,rfl,r,v⟩:=j8 r vr;cases r with
  |@frz l xs ds ee rr=>
   cases v;exact jQ pins s σ H [.ref l] [.ref l] Q I (.cons rfl .nil) ⟨l,xs,rfl,.inl (ee.sq hK),by rw[rr.length];exact k.int⟩
 ·cases e;obtain⟨vv,uu,rfl,rfl,r,v⟩:=j8 r vr;obtain⟨_,rfl,ee,pp,rr⟩:=r.inv;cases v;exact jQ pins s σ H [.ref _] [.ref _] Q I (.cons rfl .nil) ⟨_,_,rfl,.inl (.inl (.inl ee)),by rw[rr.length];exact k.int⟩
 ·split at e
  ·rename_i hl;cases e;obtain⟨vv,uu,rfl,rfl,r,v⟩:=j8 r vr;cases r.inv;exact E_ pins s σ H _ _ Q I (.cons v .nil) ⟨_,rfl,lD hl,k.int⟩
  ·exact bx e
 ·exact bx e
theorem fY.keys:∀{kvs:List (Key×V)}{ds:List (D×D)},fY P H kvs ds->bG P' H (kvs.map λp=>kV p.1) (aJ5 ds)
 |_,_,.nil=>.nil
 |_,_,.cons (k:=k) _ t=>.cons (by cases k<;>first|exact .int _|exact .str _) t.keys
def list_dict(hc:X.calm=true)(I:Inv X pins σ H s)(e:H l=some (.dK kvs))
 (q:∀p s',H p=none->Inv X pins σ (upd H p (.lst (kvs.map λp=>kV p.1))) s'->(∀l0 o0,H l0=some o0->l0≠p)->Q (.ref p) s'):wpAny (model X.prog X.w) X.A (call (.type "list") [.ref l]) Q X.xe s:=by
 obtain⟨z,hd,vs,rel,dd⟩:=S9 I.hok e;obtain⟨ep,da⟩:=dd.dictAt;have hlen:kvs.length=vs.length:=Paired.length rel;refine Mm.GK (I.ok.hd hc) hd da rfl (by rw[<-hlen];rw[sizeLine_eq] at z;lia) λh' tk acc' c' kp e1 it=>?_
 obtain⟨i1,i2⟩:=it;have hfr:H s.heap.objs.size=none:=I.hok.fresh (Nat.le_refl _);refine q _ _ hfr (I.laid kp (Nat.le_refl _) ?_) λl0 o0 h0=>bI h0 hfr
 refine⟨by rw[List.length_map];exact z,acc'.toList,c',?_,by simpa using e1⟩;have gen:∀(kvs:List (Key×V))(vs:List (Key×Value))(xs:List Value),KV kvs vs->xs.length=vs.length->(∀(j:Nat)(v:Value),xs[j]?=some v->∃k x,vs[j]?=some (k,x)/\(cC X.prog X.w).is k v=true)->Vals (kvs.map λp=>kV p.1) xs:=by
  intro kvs vs xs rel;induction rel generalizing xs with
  |nil=>intro hl _;cases xs with|nil=>exact .nil|cons _ _=>simp at hl
  |@cons p q ps qs hpq t ih=>
   intro hl g;cases xs with
   |nil=>simp at hl
   |cons x xs=>
    refine .cons ?_ (ih xs (by simpa using hl) λj v hv=>g (j+1) v (by simpa using hv));obtain⟨k,x',h1,h2⟩:=g 0 x rfl;have h1':q=(k,x'):=by simpa using h1
    show RelV (kV p.1) x;rw[hpq.1,h1'];rcases cQ h2 with ⟨i,t,rfl,rfl⟩|⟨i,t,rfl,rfl⟩
    ·exact⟨t,rfl⟩
    ·exact⟨t,rfl⟩
 exact gen kvs vs acc'.toList rel (by simpa using i1) λj v hv=>i2 j v (by simpa using hv)
def aG3(hc:X.calm=true):nQ X (.type "list") (rs aBr true):=by
 intro pins s σ H xs us Q I vr ⟨ds,d,r,e,k⟩;unfold aBr at e;split at e
 ·split at e
  ·rename_i hl;cases e;obtain⟨vv,uu,rfl,rfl,r,v⟩:=j8 r vr;obtain⟨l,ys,rfl,hl',rr⟩:=r.iM;cases v;refine uJ pins s σ H [.ref l] [.ref l] Q I (.cons rfl .nil) ⟨l,ys,rfl,.inr (.of hl'),λp hp=>?_⟩;have sp:bU H (upd H p (.lst ys)):=bU.upd hp;exact k _ _ sp (.lst aH trivial (rr.same sp)) λ_=>.lst aH hp ((rr.bN hl).same sp)
  ·exact bx e
 ·split at e
  ·rename_i hl;cases e;obtain⟨vv,uu,rfl,rfl,r,v⟩:=j8 r vr;obtain⟨l,ys,rfl,hl',rr⟩:=r.j6;cases v;refine uJ pins s σ H [.ref l] [.ref l] Q I (.cons rfl .nil) ⟨l,ys,rfl,.inl hl',λp hp=>?_⟩;have sp:bU H (upd H p (.lst ys)):=bU.upd hp;exact k _ _ sp (.lst aH trivial (rr.same sp)) λ_=>.lst aH hp ((rr.bN hl).same sp)
  ·exact bx e
 ·split at e
  ·rename_i hl;cases e;obtain⟨vv,uu,rfl,rfl,r,v⟩:=j8 r vr;cases r with
   |@dK l kvs ds e _ r n=>
    cases v;refine list_dict hc I e λp s' hp I' _=>⟨.ref p,_,I',rfl,?_⟩
    have sp:bU H (upd H p (.lst (kvs.map λp=>kV p.1))):=bU.upd hp;exact k _ _ sp (.lst aH trivial (r.keys.same sp)) λ_=>.lst aH hp (r.keys.same sp)
   |@dT l kvs ds e _ r n=>
    cases v;cases r with
    |cons r t=>simp[isTup] at hl
    |nil=>
     have e2:=zO (o':=.dK []) e;refine list_dict hc (j7 I e) aH λp s' hp I' hne=>?_
     have hp':p≠l:=λz=>by subst z;rw[aH] at hp;cases hp
     have hpn:H p=none:=by rw[aR hp'] at hp;exact hp
     have hcm:upd (upd (upd H l (.dK [])) p (.lst [])) l (.dT [])=upd H p (.lst []):=by
      funext b
      by_cases hb:b=l
      ·subst hb;rw[aH,aR (Ne.symm hp'),e]
      ·rw[aR hb];by_cases hb2:b=p
       ·subst hb2;rw[aH,aH]
       ·rw[aR hb2,aR hb2,aR hb]
     have I2:=nA I' (by rw[aR (Ne.symm hp'),aH]);have I3:Inv X pins σ (upd H p (.lst [])) s':=by
      have:Inv X pins σ (upd (upd (upd H l (.dK [])) p (.lst [])) l (.dT [])) s':=I2;rwa [hcm] at this
     have sp:bU H (upd H p (.lst [])):=bU.upd hpn;exact⟨.ref p,_,I3,rfl,k _ _ sp (.lst aH trivial .nil) λ_=>.lst aH hpn .nil⟩
  ·exact bx e
 ·exact bx e
def fG:nQ X (.type "tuple") (rs cX false):=by
 intro pins s σ H xs us Q I vr ⟨ds,d,r,e,k⟩;unfold cX at e;split at e
 ·cases e;obtain⟨vv,uu,rfl,rfl,r,v⟩:=j8 r vr;obtain⟨l,ys,rfl,hl',rr⟩:=r.iM;cases v;exact oN pins s σ H [.ref l] [.ref l] Q I (.cons rfl .nil) ⟨l,ys,rfl,.inr ⟨.of hl',k.self (.tup hl' rr) λz=>by cases z⟩⟩
 ·cases e;obtain⟨vv,uu,rfl,rfl,r,v⟩:=j8 r vr;obtain⟨l,ys,rfl,hl',rr⟩:=r.j6;cases v;refine oN pins s σ H [.ref l] [.ref l] Q I (.cons rfl .nil) ⟨l,ys,rfl,.inl ⟨hl',λp hp=>?_⟩⟩;have sp:bU H (upd H p (.tup ys)):=bU.upd hp;exact k _ _ sp (.tup aH (rr.same sp)) λz=>by cases z
 ·exact bx e
def isi(I:Inv X pins σ H s)(r:Rep All H v d)(ru:RelV v u)(h:aN5 t d=.ok k)
 (q:∀tk,Q (.bool k) {s with toks:=tk}):wpAny (model X.prog X.w) X.A (call (.builtin "isinstance") [u,.type t.nm]) Q X.xe s:=by
 have q0:Q (.bool k) s:=q s.toks;cases r with
 |non=>cases ru;cases t<;>cases h<;>first|exact IsiPair.NoneType_int (q _)|exact IsiPair.NoneType_str (q _)|exact IsiPair.NoneType_bool (q _)|exact IsiPair.NoneType_list (q _)|exact IsiPair.NoneType_tuple (q _)|exact IsiPair.NoneType_dict (q _)
 |bl b=>cases ru;cases t<;>cases h<;>first|exact IsiPair.bool_int q0|exact IsiPair.bool_str (q _)|exact IsiPair.bool_bool q0|exact IsiPair.bool_list (q _)|exact IsiPair.bool_tuple (q _)|exact IsiPair.bool_dict (q _)
 |int b=>obtain⟨tt,rfl⟩:=ru;cases t<;>cases h<;>first|exact IsiPair.int_int q0|exact IsiPair.int_str (q _)|exact IsiPair.int_bool (q _)|exact IsiPair.int_list (q _)|exact IsiPair.int_tuple (q _)|exact IsiPair.int_dict (q _)
 |str b=>obtain⟨tt,rfl⟩:=ru;cases t<;>cases h<;>first|exact IsiPair.str_int (q _)|exact IsiPair.str_str q0|exact IsiPair.str_bool (q _)|exact IsiPair.str_list (q _)|exact IsiPair.str_tuple (q _)|exact IsiPair.str_dict (q _)
 |tup e rr=>
  cases ru;obtain⟨its,vr,o,ho,hc,_⟩:=j5 I e;cases t<;>cases h<;>first|exact IsiPair.tuple_int ho hc (q _)|exact IsiPair.tuple_str ho hc (q _)|exact IsiPair.tuple_bool ho hc (q _)|exact IsiPair.tuple_list ho hc (q _)|exact IsiPair.tuple_tuple ho hc q0|exact IsiPair.tuple_dict ho hc (q _)
 |lst e p rr=>
  cases ru;obtain⟨its,vr,o,ho,hc,_⟩:=mO I (.of e);cases t<;>cases h<;>first|exact IsiPair.list_int ho hc (q _)|exact IsiPair.list_str ho hc (q _)|exact IsiPair.list_bool ho hc (q _)|exact IsiPair.list_list ho hc q0|exact IsiPair.list_tuple ho hc (q _)|exact IsiPair.list_dict ho hc (q _)
 |frz e rr=>cases t<;>exact bx h
 |fdK e rr n=>cases t<;>exact bx h
 |fdT e rr n=>cases t<;>exact bx h
 |exc n e q=>cases t<;>exact bx h
 |ins n e q=>cases t<;>exact bx h
 |cel e p rr=>cases t<;>exact bx h
 |dK e p rr n=>
  cases ru;obtain⟨_,_,_,_,o,_,_,ho,hx,_⟩:=S9 I.hok e;have hc:=hx.1;cases t<;>cases h<;>first|exact IsiPair.dict_int ho hc (q _)|exact IsiPair.dict_str ho hc (q _)|exact IsiPair.dict_bool ho hc (q _)|exact IsiPair.dict_list ho hc (q _)|exact IsiPair.dict_tuple ho hc (q _)|exact IsiPair.dict_dict ho hc q0
 |dT e p rr n=>
  cases ru;obtain⟨_,_,_,_,o,_,_,ho,hx,_⟩:=aFq I.hok e;have hc:=hx.1;cases t<;>cases h<;>first|exact IsiPair.dict_int ho hc (q _)|exact IsiPair.dict_str ho hc (q _)|exact IsiPair.dict_bool ho hc (q _)|exact IsiPair.dict_list ho hc (q _)|exact IsiPair.dict_tuple ho hc (q _)|exact IsiPair.dict_dict ho hc q0
def aPu(t:Ty):List V->Hp->VK->Prop:=λxs H Q=>∃v d k,xs=[v,.ty t.nm]/\Rep All H v d/\aN5 t d=.ok k/\Q (.bl k) H
def aJc(t:Ty):nQ X (.builtin "isinstance") (aPu t):=by
 intro pins s σ H xs us Q I vr ⟨v,d,k,e,r,h,q⟩;subst e;cases vr with
 |cons rv vt=>
  cases vt with
  |cons rt vt=>
   cases vt;cases rt;exact isi I r rv h λtk=>⟨.bl k,H,I.tok tk,rfl,q⟩
theorem GP(t:Ty)(ha:PE X a (gE fa ra))(hg:Gl X "isinstance")(hm:X.mg "isinstance"=none)(hv:bootBuiltins "isinstance"=some (.builtin "isinstance"))(gy:Gl X y)(my:X.mg y=none)(vy:bootBuiltins y=some (.type t.nm))
 (hy:y ≠ "__name__":=by decide)(hyd:(y==("__debug__" : Str))=false:=by decide)
 (he:starEach [a,.Name y p2] X.env=(false,eval a X.env)::starEach [.Name y p2] X.env:=by rfl)(he2:starEach [.Name y p2] X.env=(false,eval (.Name y p2) X.env)::starEach [] X.env:=by rfl)
 (hpl:(backTo pos (starEach [.Name y p2] X.env)).any (·.1)=false:=by rfl):PE X (.Call (.Name "isinstance" p) [a,.Name y p2] [] pos) (gE (b1 (xQ t) fa) true):=
 PE.imp (zF (aJc t) hg hm hv (bJ ha (bJ (aF7 gy my vy (v:=.ty t.nm) rfl hy hyd) dZ he2) he) 0x4 0x4 he hpl) λσ H Q ⟨ρ,d,E,h,q⟩=>by
  obtain⟨x,h1,h⟩:=aY h;obtain⟨k,h2,h⟩:=aY h;cases h;exact⟨ρ,x,E,h1,λv H1 s1 r1 _=>⟨v,x,k,rfl,r1,h2,(q.imp s1 id).bl⟩⟩
theorem aJd(pa:PlainAttrs T)(slot:Slot T name id)(hty:typeOf (.builtin id)=pure (.type "method_descriptor"))(hm:MtR X id (rm f fr))(ho:PE X o (gE fo ro))(ha:PA X (e::es) (gA fs rr))
 (hT:∀(d:D) (ds:List D) (r:D) (v:V) (H:Hp),f d ds=.ok r->Rep All H v d->tyV X.K T v H)
 (hbase:attributeBase o name X.env (eval o X.env)=eval o X.env:=by rfl)
 (hfew:((backTo cpos (starEach (e::es) X.env)).all (λx=>!x.1)&&(backToKw cpos (keywordEach [] X.env)).all (λx=>x.1.isSome)
  &&decide ((e::es).length+([]:List Keyword).length+(if ([]:List Keyword).isEmpty then 0 else 1)<30))=true:=by rfl)
 (hline:(apos.endLine==cpos.line)=true:=by rfl)(hs:starEach (e::es) X.env=(false,eval e X.env)::starEach es X.env:=by rfl)(hplain:(backTo cpos (starEach es X.env)).any (·.1)=false:=by rfl) :
  PE X (.Call (.Attribute o name apos) (e::es) [] cpos) (gE (bM f fo fs) fr):=
 PE.imp (J9 pa slot hty hm ho ha hbase hfew hline hs hplain) λσ H Q ⟨ρ,d,E,h,q⟩=>by
  obtain⟨x,h1,h⟩:=aY h;obtain⟨ds,h2,h⟩:=aY h;exact⟨ρ,x,E,h1,λv H1 s1 r1 _=>⟨hT x ds d v H1 h r1,ρ,ds,E.same s1,h2,λvs H2 s2 r2 _=>⟨x,ds,d,r1.same s2,r2,h,q.imp (s1.trans s2) λz=>z⟩⟩⟩
noncomputable def spD(f:List D->Res D)(n:Nat):Sp:=λvs H Q _=>∃ds d,ds.length=n/\bG All H vs ds/\f ds=.ok d/\kR H d true Q
def aG4(h:spD f n vs H Q E):vs.length=n:=by
 obtain⟨ds,d,h1,r,_⟩:=h;rw[r.length,h1]
theorem aG5(F:lR X.prog X.w X.K X.mg X.base CX0 k fad fd ps (spD f n))(hr:lX k X.A)(hg:Gl X x)(hm:X.mg x=some (.ref fad))(hk:PySem.W.keepIn X.K (.ref fad)=true)(hb:Binds X.K fd ps [])
 (ha:PA X (e::es) (gA fs rr))(hdb:nDb x:=by decide)(he:starEach (e::es) X.env=(false,eval e X.env)::starEach es X.env:=by rfl)(hpl:(backTo pos (starEach es X.env)).any (·.1)=false:=by rfl) :
  PE X (.Call (.Name x p) (e::es) [] pos) (gE (aV (mD n f) fs) true):=
 PE.imp (V8 F hr hg hm hk hb .nil aBn ha hdb he hpl) λσ H Q ⟨ρ,d,E,h,q⟩=>by
  obtain⟨ds,h1,h⟩:=aY h;unfold mD at h;split at h
  ·rename_i hl;exact⟨ρ,ds,E,h1,λvs H1 s1 r1 _=>⟨ds,d,of_decide_eq_true hl,by rw[List.append_nil];exact r1,h,q.imp s1 id⟩⟩
  ·exact bx h
end
end
noncomputable def GQ(x:Str):List D:=x.cps.toList.map λc=>D.str ⟨#[c]⟩
section
variable [KFrag]
noncomputable def aNb(x:Str):It:=⟨λi _=>i<x.cps.size,λi H v H'=>H'=H/\∃c,x.cps[i]?=some c/\v=.str ⟨#[c]⟩,λi _=>x.cps.size<=i⟩
structure ItQ(K:PySem.W.Frag)(P:Addr->Prop)(J:It)(H:Hp)(items:List D):Prop where
 it:∀(P':Addr->Prop)(H':Hp),KQ P H H'->(∀a o,H a=some o->P a->P' a)->(∀i,items.length<=i->J.stop i H')/\∀i d,items[i]?=some d->J.go i H'/\∀x H'',J.yld i H' x H''->bU H' H''/\Rep P' H'' x d
section
variable {K:PySem.W.Frag} {P P':Addr->Prop} {J:It} {H H':Hp} {items:List D}
theorem ItQ.keep'(h:ItQ K P J H items)(k:KQ P H H')(m:∀a o,H a=some o->P a->P' a):ItQ K P' J H' items:=
 ⟨λP2 H2 k2 m2=>h.it P2 H2 (λa o e hp=>k2 a o (k a o e hp) (hp.imp (m a o e) id)) λa o e hp=>m2 a o (k a o e (.inl hp)) (m a o e hp)⟩
def ItQ.keep(h:ItQ K P J H items)(k:KQ P H H')(m:∀a,P a->P' a):ItQ K P' J H' items:=h.keep' k λa _ _=>m a
def ItQ.stop(h:ItQ K P J H items)(hi:items.length<=i):J.stop i H:=(h.it P H (λ_ _ e _=>e) λ_ _ _ hp=>hp).1 i hi
def ItQ.go(h:ItQ K P J H items)(hi:items[i]?=some d):J.go i H/\∀x H',J.yld i H x H'->bU H H'/\Rep P H' x d:=(h.it P H (λ_ _ e _=>e) λ_ _ _ hp=>hp).2 i d hi
def ItQ.lst(a:Addr)(e:J=Itl K a)(r:Rep P H (.ref a) (.lst items)):ItQ K P J H items:=by
 refine⟨λP H kk mm=>?_⟩;have r:=r.aFx kk mm;refine⟨λi hi=>?_,λi d hi=>?_⟩
 ·subst e;obtain⟨a',xs,e,hq,rr⟩:=r.j6;cases e;exact⟨xs,hq,by rw[rr.length];exact hi⟩
 ·subst e;obtain⟨a',xs,e,hq,rr⟩:=r.j6;cases e;obtain⟨v,h1,h2⟩:=rr.get hi;refine⟨⟨xs,v,hq,h1⟩,λx H' ⟨e,hy⟩=>?_⟩;subst e;refine⟨bU.refl _,?_⟩;have:=hy xs hq;rw[h1] at this;cases this;exact h2
def ItQ.tup(a:Addr)(e:J=Itt K a)(r:Rep P H (.ref a) (.tup items)):ItQ K P J H items:=by
 refine⟨λP H kk mm=>?_⟩;have r:=r.aFx kk mm;refine⟨λi hi=>?_,λi d hi=>?_⟩
 ·subst e;obtain⟨a',xs,e,hq,rr⟩:=r.iM;cases e;exact⟨xs,.of hq,by rw[rr.length];exact hi⟩
 ·subst e;obtain⟨a',xs,e,hq,rr⟩:=r.iM;cases e;obtain⟨v,h1,h2⟩:=rr.get hi;refine⟨⟨xs,v,.of hq,h1⟩,λx H' ⟨e,hy⟩=>?_⟩;subst e;refine⟨bU.refl _,?_⟩;have:=hy xs (.of hq);rw[h1] at this;cases this;exact h2
def ItQ.rng(lo:Int)(n:Nat)(e:J=Itr lo n)(r:items=(List.range n).map λ(k:Nat)=>D.int (lo+k)):ItQ K P J H items:=by
 refine⟨λP H k m=>?_⟩;refine⟨λi hi=>?_,λi d hi=>?_⟩
 ·subst e r;show n<=i;simpa using hi
 ·subst e r;have hlt:i<n:=by
   have:=(List.getElem?_eq_some_iff.mp hi).1;simpa using this
  refine⟨hlt,λx H' ⟨e,hy⟩=>?_⟩;subst e;have e2:D.int (lo+(i:Int))=d:=by simpa[hlt] using hi
  rw[hy,<-e2];exact⟨bU.refl _,.int _⟩
def ItQ.chs(z:Str)(e:J=aNb z)(r:items=GQ z):ItQ K P J H items:=by
 refine⟨λP H k m=>?_⟩;refine⟨λi hi=>?_,λi d hi=>?_⟩
 ·subst e r;show z.cps.size<=i;simpa[GQ] using hi
 ·subst e r;have hlt:i<z.cps.size:=by
   have:=(List.getElem?_eq_some_iff.mp hi).1;simpa[GQ] using this
  refine⟨hlt,λx H' ⟨e,c,hc,hv⟩=>?_⟩;subst e hv;refine⟨bU.refl _,?_⟩;have e2:D.str ⟨#[c]⟩=d:=by
   unfold GQ at hi;rw[List.getElem?_map,Array.getElem?_toList,hc] at hi;simpa using hi
  rw[<-e2];exact .str _
end
noncomputable def gI(K:PySem.W.Frag)(f:FI):TI:=λσ H R=>∃ρ items k,ER H σ ρ/\f ρ=.ok (items,k)/\∀J H1,bU H H1->ItQ K All J H1 items->(k=true->ItQ K (New H) J H1 items)->R J H1
def gIV(K:PySem.W.Frag)(i:Nat):TI:=λσ H R=>∃v d items,σ[i]?=some (some v)/\Rep All H v d/\v6 d=.ok items/\∀J,(∀P:Addr->Prop,Rep P H v d->ItQ K P J H items)->R J H
section
variable {X:Cx} {tg l a b:Expr} {rr:Bool} {fs:FA} {p pos:Pos}
def QG(I1:Inv X pins σ H1 s1)(r:Rep All H1 v d)(ru:RelV v u)(hi:v6 d=.ok items)
 (q:∀J,(∀P:Addr->Prop,Rep P H1 v d->ItQ X.K P J H1 items)->R J H1):wpAny (model X.prog X.w) X.A (pyIter u) (PIE X pins σ tg R) X.xe s1:=by
 cases d<;>simp only[v6] at hi<;>cases hi
 ·obtain⟨a,xs,rfl,e,rr⟩:=r.iM;cases ru;obtain⟨its,rv,p,hz⟩:=I1.tuple (.of e);refine wpAny_pyIter_tuple (show s1.heap.IsTuple a its.toArray from p) ?_;refine⟨s1.heap.objs.size,[s1.heap.objs.size],_,_,H1,rfl,I1.kept λb o e=>Heap.get?_push_of_some _ e,R6 a _,⟨_,Heap.get?_push_size _ rfl,rfl,rfl⟩,λb hb=>?_,q _ λP r=>.tup a rfl r⟩;have e:b=s1.heap.objs.size:=by simpa using hb
  subst e;exact I1.aIr (Nat.le_refl _) (I1.hok.fresh (Nat.le_refl _))
 ·obtain⟨a,xs,rfl,e,rr⟩:=r.j6;cases ru;obtain⟨its,rv,p,hz⟩:=I1.list e;refine wpAny_pyIter_list p.isList ?_;refine⟨s1.heap.objs.size,[s1.heap.objs.size],_,_,H1,rfl,I1.kept λb o e=>Heap.get?_push_of_some _ e,V0 a _,⟨_,Heap.get?_push_size _ rfl,rfl,rfl⟩,λb hb=>?_,q _ λP r=>.lst a rfl r⟩;have e:b=s1.heap.objs.size:=by simpa using hb
  subst e;exact I1.aIr (Nat.le_refl _) (I1.hok.fresh (Nat.le_refl _))
def aJe(hN:X.N[i]?=some x)(hv:Vis X.env.scope x)(hd:nDb x:=by decide)(hcd:nCd x:=by decide):PI X tg (.Name x pos) (gIV X.K i):=by
 intro pins s σ H R I ⟨v,d,items,hσ,r,hi,q⟩;exact thn (aW hN hv hd hcd pins s σ H (λw H1=>w=v/\H1=H) I ⟨v,hσ,rfl,rfl⟩) λu s1 ⟨w,H1,I1,ru,e1,e2⟩=>by
  subst e1 e2;exact QG I1 r ru hi q
def yG(h:nR i=true):-(2 ^ 62)<=i/\i<2 ^ 62:=by
 simp only[nR,Bool.and_eq_true,decide_eq_true_eq] at h;exact h
def PI.imp(h:PI X tg l w)(i:∀σ H R,w' σ H R->w σ H R):PI X tg l w':=λpins s σ H R I q=>h pins s σ H R I (i σ H R q)
def mQ(hg:Gl X "range")(hm:X.mg "range"=none)(ha:PA X [a] (gA fs rr))(hs:starEach [a] X.env=[(false,eval a X.env)]:=by rfl):PI X tg (.Call (.Name "range" p) [a] [] pos) (gI X.K (jW fs iK)):=
 PI.imp (DQ hg hm ha hs) λσ H R ⟨ρ,items,k,E,h,q⟩=>by
  obtain⟨xs,h1,h⟩:=aY h;unfold iK at h;split at h
  ·split at h
   ·rename_i hb;cases h;obtain⟨b1,b2⟩:=yG hb;refine⟨ρ,_,E,h1,λvs H1 s1 r1 _=>?_⟩;cases r1 with
    |cons r t=>
     cases t;cases r.inv;exact⟨_,rfl,b1,b2,q _ H1 s1 (.rng 0 _ rfl rfl) λ_=>.rng 0 _ rfl rfl⟩
   ·exact bx h
  ·exact bx h
end
def aBw(n:Nat)(ρ bs:List D)(i:Nat)(h:i<n):(PJ n ρ++bs).getD i .uD=ρ.getD i .uD:=by
 rw[List.getD_eq_getElem?_getD,List.getElem?_append_left (by simp[PJ];exact h)];simp[PJ,h]
def QH(n:Nat)(ρ:List D):(PJ n ρ).length=n:=by simp[PJ]
def TgC(g:TG)(t:D->Res (List D))(n m:Nat):Prop:=∀(v:V)(d:D)(bs:List D)(σ:L2.St)(H:Hp)(Q:L2.St->Hp->Prop),σ.length=n->Rep All H v d->t d=.ok bs->
 (∀σ2,Ext (σ++List.replicate m none) σ2->(∀j b,bs[j]?=some b->∃w,σ2[n+j]?=some (some w)/\Rep All H w b)->Q σ2 H)->g v (σ++List.replicate m none) H Q
def ER.ext(E:ER H σ ρ)(hn:σ.length=n)(x:Ext (σ++List.replicate m none) σ2)(hb:∀j b,bs[j]?=some b->∃w,σ2[n+j]?=some (some w)/\Rep All H w b):ER H σ2 (PJ n ρ++bs):=by
 intro i hi;by_cases h:i<n
 ·rw[aBw n ρ bs i h] at hi ⊢;obtain⟨v,h1,h2⟩:=E i hi;exact⟨v,x.2 i v (by rw[List.getElem?_append_left (by rw[hn];exact h)];exact h1),h2⟩
 ·have e:(PJ n ρ++bs).getD i .uD=bs.getD (i-n) .uD:=by
   rw[List.getD_eq_getElem?_getD,List.getElem?_append_right (by rw[QH];lia),QH,<-List.getD_eq_getElem?_getD]
  rw[e] at hi ⊢;cases hq:bs[i-n]? with
  |none=>rw[List.getD_eq_getElem?_getD,hq] at hi;exact absurd rfl hi
  |some b=>
   obtain⟨w,h1,h2⟩:=hb (i-n) b hq;rw[List.getD_eq_getElem?_getD,hq];exact⟨w,by rw[<-h1];congr 1;lia,h2⟩
def oX{K:PySem.W.Frag}(tg:TgC g t n m)(hc:∀σ H Q,gT c σ H Q->tc σ H Q)(hn:σ.length=n)(h:gE (cJ n it t c f k) true σ H Q) :
  FW (gI K it) g tc (gE f k) m σ H Q:=by
 obtain⟨ρ,d,E,h,q⟩:=h;obtain⟨⟨items,kk⟩,h1,h⟩:=aY h;split at h
 ·rename_i hlim;obtain⟨ys,h2,h⟩:=aY h;cases h;refine⟨ρ,items,kk,E,h1,λJ H1 s1 hJ _ p hp=>?_⟩;have hp0:H p=none:=s1.free hp;refine⟨λi n' vs H'=>n'=items.length-i/\i<=items.length/\H' p=some (.lst vs)/\bU H1 H'/\∃acc,acc.length<=i/\bG (λa=>H a=none/\a≠p) H' vs acc/\nT (FQ n t c f k ρ) acc (items.drop i)=.ok ys,⟨items.length,?_⟩,?_⟩
  ·exact⟨rfl,Nat.zero_le _,aH,bU.upd hp,[],Nat.zero_le _,.nil,h2⟩
  ·rintro i n' vs H' ⟨rfl,hi,hH,sm,acc,hal,racc,hf⟩;refine⟨hH,?_⟩;have hJ':ItQ K All J H' items:=hJ.keep (.same sm) λ_ z=>z
   rcases Nat.lt_or_ge i items.length with hlt|hge
   ·refine .inr ?_;have e:items[i]?=some items[i]:=List.getElem?_eq_getElem hlt;obtain⟨g1,g2⟩:=hJ'.go e;have hl1:items.length<=lim:=of_decide_eq_true hlim;refine⟨g1,?_,λx H2 hy=>?_⟩
    ·rw[racc.length];exact Nat.lt_of_le_of_lt hal (Nat.lt_of_lt_of_le hlt (Nat.le_trans hl1 (by rw[sizeLine_eq];decide)))
    ·obtain⟨sH,rx⟩:=g2 x H2 hy;have hH:=sH p _ hH;have sm:=sm.trans sH;have racc:=racc.same sH;rw[List.drop_eq_getElem_cons hlt] at hf;obtain⟨acc2,hs,hf⟩:=aY hf;obtain⟨bs,hb,hs⟩:=aY hs;obtain⟨ok,hok,hs⟩:=aY hs;refine tg x items[i] bs σ H2 _ hn rx hb λσ2 hx hbs=>⟨hx,hc _ _ _ ?_⟩
     have E2:ER H2 σ2 (PJ n ρ++bs):=(E.same (s1.trans sm)).ext hn hx hbs;refine⟨_,ok,E2,hok,λH4 s4=>?_⟩;cases ok with
     |true=>
      rw[if_pos rfl];rw[if_pos rfl] at hs;obtain⟨y,hy2,hs⟩:=aY hs;split at hs
      ·rename_i hk;cases hs;refine⟨_,y,E2.same s4,hy2,λw H5 s5 r5 n5=>⟨s5 p _ (s4 p _ hH),items.length-(i+1),by lia,rfl,hlt,aH,?_,acc++[y],?_,?_,hf⟩⟩
       ·exact λb o e=>by
         rw[aR (bI e hp)];exact s5 b o (s4 b o (sm b o e))
       ·rw[List.length_append,List.length_singleton];lia
       ·have hp5:H5 p=some (.lst vs):=s5 p _ (s4 p _ hH);have ry:Rep (λa=>H a=none/\a≠p) H5 w y:=by
         rw[Bool.or_eq_true] at hk;rcases hk with hk|hk
         ·exact(n5 hk).mono λa ha=>⟨((s1.trans sm).trans s4).free ha,λz=>by subst z;have h0:=s4 _ _ hH;rw[show H4 _=none from ha] at h0;cases h0⟩
         ·exact r5.bN hk
        have all:bG (λa=>H a=none/\a≠p) H5 (vs++[w]) (acc++[y]):=(racc.same (s4.trans s5)).snoc ry;refine all.keep (λb o e hb=>?_) λ_ z=>z
        rw[aR]
        ·exact e
        ·rcases hb with hb|hb
         ·exact hb.2
         ·intro z;subst z;rw[hp5] at e;cases e;cases hb
      ·exact bx hs
     |false=>
      rw[if_neg 0x2];rw[if_neg 0x2] at hs;cases hs;exact⟨items.length-(i+1),by lia,rfl,hlt,s4 p _ hH,sm.trans s4,acc,by lia,racc.same s4,hf⟩
   ·refine .inl ⟨hJ'.stop hge,?_⟩;rw[List.drop_eq_nil_of_le hge] at hf;cases hf;exact q _ _ (s1.trans sm) (.lst hH trivial racc.all) λ_=>.lst hH hp0 (racc.mono λa z=>z.1)
 ·exact bx h
def gIx:List Nat->TGs
 |[]=>aM6
 |i::is=>R5 (fZ i) (gIx is)
noncomputable def TJ:List Nat->List V->L2.St->L2.St
 |i::is,v::vs,σ=>TJ is vs (σ.set i (some v))
 |_,_,σ=>σ
theorem K4:∀(is:List Nat)(vs:List V)(σ:L2.St),vs.length=is.length->Q (TJ is vs σ) H->gIx is vs σ H Q
 |[],[],σ,_,q=>⟨rfl,q⟩
 |i::is,v::vs,σ,h,q=>⟨v,vs,rfl,K4 is vs (σ.set i (some v)) (by simpa using h) q⟩
 |[],_::_,_,h,_=>by simp at h
 |_::_,[],_,h,_=>by simp at h
def eE(n:Nat):TgC (fZ n) jT n 1:=by
 intro v d bs σ H Q hn r h q;cases h;have hl:(σ++List.replicate 1 (none:Option V)).length=n+1:=by simp[hn]
 refine q _ ⟨by simp,λi w hi=>?_⟩ λj b hj=>?_
 ·have:i≠n:=λz=>by
   subst z;rw[List.getElem?_append_right 0x1] at hi;simp[hn] at hi
  rw[List.getElem?_set_ne (Ne.symm this)];exact hi
 ·have e:j=0:=by
   have:=(List.getElem?_eq_some_iff.mp hj).1;simp at this;exact this
  subst e;have e:d=b:=by simpa using hj
  subst e;exact⟨v,by rw[Nat.add_zero,List.getElem?_set_self 0x1],r⟩
section
def aG6(S:cH X.N X.env.scope scope ownN)(hn:X.N.length=n)(hm:ownN.length=m)(hcalm:X.calm=true)(hi:PI X tg iter (gI X.K it))(ht:TgC g t n m)(hg:∀X',cV X X' scope ownN->PG X' tg g)(he:∀X',cV X X' scope ownN->PE X' elt (gE fe re))
 (hs:∀x,foldedSetIterable iter X.env x=pure x):PE X (.ListComp elt [⟨tg,iter,[],0⟩] scope pos) (gE (cJ n it t dH fe re) true):=by
 intro pins s σ H Q I h;subst hm;exact aBt S hcalm hi hg he hs pins s σ H Q I (oX ht (λσ H Q h=>by obtain⟨ρ,b,E,h,q⟩:=h;cases h;exact q H (bU.refl H)) (I.len.trans hn) h)
def XR(S:cH X.N X.env.scope scope ownN)(hn:X.N.length=n)(hm:ownN.length=m)(hcalm:X.calm=true)(hi:PI X tg iter (gI X.K it))(ht:TgC g t n m)(hg:∀X',cV X X' scope ownN->PG X' tg g)(hc:∀X',cV X X' scope ownN->PT X' c (gT gc))(he:∀X',cV X X' scope ownN->PE X' elt (gE fe re))
 (hs:∀x,foldedSetIterable iter X.env x=pure x):PE X (.ListComp elt [⟨tg,iter,[c],0⟩] scope pos) (gE (cJ n it t gc fe re) true):=by
 intro pins s σ H Q I h;subst hm;exact XF S hcalm hi hg hc he hs pins s σ H Q I (oX ht (λσ H Q h=>h) (I.len.trans hn) h)
end
end
variable [KFrag]
theorem fY.bN:∀{v:List (Key×V)}{d:List (D×D)},fY P H v d->D.aJ (d.map (·.2))=true->fY P' H v d
 |_,_,.nil,_=>.nil
 |_,_,.cons r t,h=>by
  rw[List.map_cons,D.aJ,Bool.and_eq_true] at h;exact .cons (r.bN h.1) (t.bN h.2)
theorem lZ.bN:∀{v:List (List Key×V)}{d:List (D×D)},lZ P H v d->D.aJ (d.map (·.2))=true->lZ P' H v d
 |_,_,.nil,_=>.nil
 |_,_,.cons r t,h=>by
  rw[List.map_cons,D.aJ,Bool.and_eq_true] at h;exact .cons (r.bN h.1) (t.bN h.2)
def Rep.vC(r:Rep P H (.ref a) d)(h:inner d=true)(hp:P' a):Rep P' H (.ref a) d:=by
 cases r with
 |tup e r=>cases h
 |lst e p r=>exact .lst e hp (r.bN h)
 |cel e p r=>exact .cel e hp (r.bN h)
 |frz e r=>cases h
 |dK e p r n=>exact .dK e hp (r.bN h) n
 |dT e p r n=>exact .dT e hp (r.bN h) n
 |fdK e r n=>cases h
 |fdT e r n=>cases h
 |exc n e q=>cases h
 |ins n e q=>cases h
def Own(own:Nat->Bool)(σ:L2.St)(a:Addr):Prop:=∃i,own i=true/\σ[i]?=some (some (.ref a))
structure ES(own:Nat->Bool)(H:Hp)(σ:L2.St)(ρ:List D):Prop where
 len:σ.length=ρ.length
 at_:∀i,ρ.getD i .uD≠.uD->∃v,σ[i]?=some (some v)/\(own i=false->Rep (λa=>¬Own own σ a) H v (ρ.getD i .uD))
 own:∀i v,own i=true->σ[i]?=some (some v)->∃a o,v=.ref a/\Rep All H v (ρ.getD i .uD)/\inner (ρ.getD i .uD)=true/\H a=some o/\PN o=true/\∀j,own j=true->σ[j]?=some (some (.ref a))->j=i
variable {own:Nat->Bool}
def ES.er(e:ES own H σ ρ):ER H σ ρ:=λi hi=>by
 obtain⟨v,h1,h2⟩:=e.at_ i hi;cases ho:own i with
 |false=>exact⟨v,h1,(h2 ho).all⟩
 |true=>
  obtain⟨a,o,_,h3,_⟩:=e.own i v ho h1;exact⟨v,h1,h3⟩
def ES.live(e:ES own H σ ρ)(h:Own own σ a):∃o,H a=some o/\PN o=true:=by
 obtain⟨i,hi,hs⟩:=h;obtain⟨b,o,eb,_,_,h3,h4,_⟩:=e.own i _ hi hs;cases eb;exact⟨o,h3,h4⟩
def ES.same(e:ES own H σ ρ)(s:bU H H'):ES own H' σ ρ:=by
 refine⟨e.len,λi hi=>?_,λi v hi hv=>?_⟩
 ·obtain⟨v,h1,h2⟩:=e.at_ i hi;exact⟨v,h1,λho=>(h2 ho).same s⟩
 ·obtain⟨a,o,h1,h2,h3,h4,h5,h6⟩:=e.own i v hi hv;exact⟨a,o,h1,h2.same s,h3,s _ _ h4,h5,h6⟩
def KU(own:Nat->Bool)(σ:L2.St)(H:Hp)(σ':L2.St)(H':Hp):Prop:=∀a o,H a=some o->¬Own own σ a->H' a=some o/\¬Own own σ' a
def KU.trans(a:KU own σ H σ1 H1)(b:KU own σ1 H1 σ2 H2):KU own σ H σ2 H2:=λc o e n=>let ⟨e1,n1⟩:=a c o e n;b c o e1 n1
def KU.same(s:bU H H'):KU own σ H σ H':=λa o e n=>⟨s a o e,n⟩
def KU.keep(k:KU own σ H σ' H')(e:ES own H σ ρ):KQ (λa=>¬Own own σ a) H H':=λa o h hp=>by
 by_cases ho:Own own σ a
 ·obtain⟨o',h1,h2⟩:=e.live ho;rw[h] at h1;cases h1;rcases hp with hp|hp
  ·exact absurd ho hp
  ·rw[h2] at hp;cases hp
 ·exact(k a o h ho).1
def KU.rep(k:KU own σ H σ' H')(e:ES own H σ ρ)(r:Rep (λa=>¬Own own σ a) H v d):Rep (λa=>¬Own own σ' a) H' v d:=r.aFx (k.keep e) λa o h n=>(k a o h n).2
def kRt(own:Nat->Bool)(D:Ends)(σ:L2.St)(H:Hp)(d:Mi.D):Prop:=if own rtX=true then ∃d0 ρ',d=.tup (d0::ρ')/\∀v σ' H',KU own σ H σ' H'->ES own H' σ' ρ'->Rep (λa=>(Own own σ a\/H a=none)/\∀i b xs,ρ'.getD i .uD=.cel b xs->a≠b) H' v d0->D.rt v H'
  else ∀v H',(∀a o,H a=some o->¬Own own σ a->H' a=some o)->Rep (λa=>Own own σ a\/H a=none) H' v d->D.rt v H'
def kRt.old{D:Ends}(h:kRt own D σ H d)(hx:own rtX=false):∀v H',(∀a o,H a=some o->¬Own own σ a->H' a=some o)->Rep (λa=>Own own σ a\/H a=none) H' v d->D.rt v H':=by
 unfold kRt at h;rw[if_neg (by rw[hx];simp)] at h;exact h
def kRt.mk{D:Ends}(hx:own rtX=false)(h:∀v H',(∀a o,H a=some o->¬Own own σ a->H' a=some o)->Rep (λa=>Own own σ a\/H a=none) H' v d->D.rt v H'):kRt own D σ H d:=by
 unfold kRt;rw[if_neg (by rw[hx];simp)];exact h
def kS(own:Nat->Bool)(D:Ends)(σ:L2.St)(H:Hp):Fl->Prop
 |.nx ρ=>∀σ' H',KU own σ H σ' H'->ES own H' σ' ρ->D.nx σ' H'
 |.bk ρ=>∀σ' H',KU own σ H σ' H'->ES own H' σ' ρ->D.bk σ' H'
 |.ct ρ=>∀σ' H',KU own σ H σ' H'->ES own H' σ' ρ->D.ct σ' H'
 |.rt d=>kRt own D σ H d
def kS.step{D:Ends}{σ σ':L2.St}{H H':Hp}{fl:Fl}(k:KU own σ H σ' H')(h:kS own D σ H fl):kS own D σ' H' fl:=by
 cases fl with
 |nx ρ=>exact λσ2 H2 k2 e=>h σ2 H2 (k.trans k2) e
 |bk ρ=>exact λσ2 H2 k2 e=>h σ2 H2 (k.trans k2) e
 |ct ρ=>exact λσ2 H2 k2 e=>h σ2 H2 (k.trans k2) e
 |rt d=>
  have old:∀a,(Own own σ' a\/H' a=none)->Own own σ a\/H a=none:=λa ha=>by
   cases q:H a with
   |none=>exact .inr rfl
   |some o=>
    refine .inl (Classical.byContradiction λn=>?_);obtain⟨e1,n1⟩:=k a o q n;rcases ha with ha|ha
    ·exact n1 ha
    ·rw[e1] at ha;cases ha
  have h:kRt own D σ H d:=h;show kRt own D σ' H' d;unfold kRt at h ⊢;by_cases hx:own rtX=true
  ·rw[if_pos hx] at h ⊢;obtain⟨d0,ρ',e,g⟩:=h;exact⟨d0,ρ',e,λv σ2 H2 k2 E2 r=>g v σ2 H2 (k.trans k2) E2 (r.mono λa ha=>⟨old a ha.1,ha.2⟩)⟩
  ·rw[if_neg hx] at h ⊢;exact λv H2 hk r=>h v H2 (λa o e n=>let ⟨e1,n1⟩:=k a o e n;hk a o e1 n1) (r.mono λa ha=>old a ha)
noncomputable def tS(own:Nat->Bool)(f:FS):TS:=λD σ H=>∃ρ fl,ES own H σ ρ/\f ρ=.ok fl/\kS own D σ H fl
def PS.imp{st:Stmt}(h:PS X st t)(i:∀D σ H,t' D σ H->t D σ H):PS X st t':=λpins s σ H D I q=>h pins s σ H D I (i D σ H q)
def PSs.imp{st:List Stmt}(h:PSs X st t)(i:∀D σ H,t' D σ H->t D σ H):PSs X st t':=λpins s σ H D I q=>h pins s σ H D I (i D σ H q)
section
variable {X:Cx} {a b c e:Expr} {pos pos':Pos} {fe:FE} {re:Bool} {gc:FT} {f g:FS} {st:Stmt} {rest s1 s2:List Stmt}
def dJ:PSs X [] (tS own mF):=PSs.imp yZ λD σ H ⟨ρ,fl,E,h,q⟩=>by
 cases h;exact q σ H (λa o e n=>⟨e,n⟩) E
def aG7{D:Ends}(h:tS own (bB f g) D σ H):xN (tS own f) (tS own g) D σ H:=by
 obtain⟨ρ,fl,E,h,q⟩:=h;obtain⟨r,h1,h2⟩:=aY h;refine⟨ρ,r,E,h1,?_⟩;cases r with
 |nx ρ'=>exact λσ' H' k E'=>⟨ρ',fl,E',h2,q.step k⟩
 |bk ρ'=>cases h2;exact q
 |ct ρ'=>cases h2;exact q
 |rt d=>cases h2;exact q
def aG(h1:PS X st (tS own f))(h2:PSs X rest (tS own g)):PSs X (st::rest) (tS own (bB f g)):=PSs.imp (bR h1 h2) λ_ _ _=>aG7
def bD(h1:PS X st (tS own f)):PSs X [st] (tS own f):=dY h1
def lF(hc:PT X c (gT gc))(ha:PSs X s1 (tS own f))(hb:PSs X s2 (tS own g)):PS X (.If c s1 s2 pos) (tS own (sIf gc f g)):=PS.imp (J6 hc ha hb) λD σ H ⟨ρ,fl,E,h,q⟩=>by
 obtain⟨k,h1,h2⟩:=aY h;refine⟨ρ,k,E.er,h1,λH' s=>?_⟩;cases k with
 |true=>rw[if_pos rfl];rw[if_pos rfl] at h2;exact⟨ρ,fl,E.same s,h2,q.step (.same s)⟩
 |false=>rw[if_neg 0x2];rw[if_neg 0x2] at h2;exact⟨ρ,fl,E.same s,h2,q.step (.same s)⟩
def jF(he:PE X e (gE fe re))(hx:own rtX=false:=by rfl):PS X (.Return (some e) pos) (tS own (nU fe re)):=PS.imp (oK he) λD σ H ⟨ρ,fl,E,h,q⟩=>by
 obtain⟨d,h1,h2⟩:=aY h;split at h2
 ·rename_i hk;cases h2;refine⟨ρ,d,E.er,h1,λv H' s r n=>q.old hx v H' (λa o e _=>s a o e) ?_⟩;rw[Bool.or_eq_true] at hk;rcases hk with hk|hk
  ·exact(n hk).mono λa ha=>.inr ha
  ·exact r.bN hk
 ·exact bx h2
def aG8(ho:own i=true)(hN:X.N[i]?=some x)(hv:Vis X.env.scope x)(hd:nDb x:=by decide)(hcd:nCd x:=by decide)(hx:own rtX=false:=by rfl):PS X (.Return (some (.Name x pos')) pos) (tS own (aJ6 i)):=
 PS.imp (oK (aW hN hv hd hcd)) λD σ H ⟨ρ,fl,E,h,q⟩=>by
 obtain⟨d,h1,h2⟩:=aY h;cases h2;obtain⟨v,hv,r,e⟩:=E.er.var h1;obtain⟨a,o,rfl,r2,hin,_⟩:=E.own i v ho hv;rw[e] at hin;exact⟨_,hv,q.old hx _ H (λa o e _=>e) (r.vC hin (.inl ⟨i,ho,hv⟩))⟩
def jX(ho:own i=false)(a:Addr):Own own (σ.set i (some v)) a↔Own own σ a:=by
 constructor
 ·rintro⟨j,hj,e⟩;have:i≠j:=λz=>by subst z;rw[ho] at hj;cases hj
  rw[List.getElem?_set_ne this] at e;exact⟨j,hj,e⟩
 ·rintro⟨j,hj,e⟩;have:i≠j:=λz=>by subst z;rw[ho] at hj;cases hj
  exact⟨j,hj,by rw[List.getElem?_set_ne this];exact e⟩
def cW{ρ:List D}:(ρ.set i d).getD j .uD=if i=j/\i<ρ.length then d else ρ.getD j .uD:=by
 rw[List.getD_eq_getElem?_getD,List.getD_eq_getElem?_getD,List.getElem?_set];by_cases h:i=j
 ·subst h;by_cases h2:i<ρ.length
  ·simp[h2]
  ·simp[h2]
 ·simp[h]
def ES.set(E:ES own H σ ρ)(ho:own i=false)(r:Rep (λa=>¬Own own σ a) H v d):ES own H (σ.set i (some v)) (ρ.set i d):=by
 have hO:(λa=>¬Own own (σ.set i (some v)) a)=λa=>¬Own own σ a:=funext λa=>by rw[jX ho]
 refine⟨by simp[E.len],λj hj=>?_,λj w hj hw=>?_⟩
 ·rw[cW] at hj ⊢;rw[hO];by_cases h:i=j/\i<ρ.length
  ·rw[if_pos h];obtain⟨rfl,hl⟩:=h;exact⟨v,by rw[List.getElem?_set_self (by rw[E.len];exact hl)],λ_=>r⟩
  ·rw[if_neg h] at hj ⊢;obtain⟨w,h1,h2⟩:=E.at_ j hj;by_cases hij:i=j
   ·subst hij;have:i<σ.length:=(List.getElem?_eq_some_iff.mp h1).1;rw[E.len] at this;exact absurd ⟨rfl,this⟩ h
   ·exact⟨w,by rw[List.getElem?_set_ne hij];exact h1,h2⟩
 ·have hij:i≠j:=λz=>by subst z;rw[ho] at hj;cases hj
  rw[List.getElem?_set_ne hij] at hw;rw[cW,if_neg λz=>hij z.1];obtain⟨a,o,h1,h2,h3,h4,h5,h6⟩:=E.own j w hj hw;refine⟨a,o,h1,h2,h3,h4,h5,λk hk hs=>h6 k hk ?_⟩;have hik:i≠k:=λz=>by subst z;rw[ho] at hk;cases hk
  rwa [List.getElem?_set_ne hik] at hs
def ES.aPv{a:Addr}{o:HO}{d:D}(E:ES own H σ ρ)(s:bU H H')(ho:own i=true)(hn:H a=none)(r:Rep All H' (.ref a) d)(hin:inner d=true)(ha:H' a=some o)(hm:PN o=true) :
  ES own H' (σ.set i (some (.ref a))) (ρ.set i d)/\KU own σ H (σ.set i (some (.ref a))) H':=by
 have hO:∀b,H b≠none->¬Own own σ b->¬Own own (σ.set i (some (.ref a))) b:=λb hb n ⟨j,hj,e⟩=>by
  by_cases hij:i=j
  ·subst hij;by_cases hl:i<σ.length
   ·rw[List.getElem?_set_self hl] at e;cases e;exact hb hn
   ·rw[List.getElem?_set,if_pos rfl,if_neg hl] at e;cases e
  ·rw[List.getElem?_set_ne hij] at e;exact n ⟨j,hj,e⟩
 refine⟨⟨by simp[E.len],λj hj=>?_,λj w hj hw=>?_⟩,λb ob e n=>⟨s b ob e,hO b (by rw[e];simp) n⟩⟩
 ·rw[cW] at hj ⊢;by_cases h:i=j/\i<ρ.length
  ·rw[if_pos h];obtain⟨rfl,hl⟩:=h;exact⟨.ref a,by rw[List.getElem?_set_self (by rw[E.len];exact hl)],λz=>by rw[ho] at z;cases z⟩
  ·rw[if_neg h] at hj ⊢;obtain⟨w,h1,h2⟩:=E.at_ j hj;by_cases hij:i=j
   ·subst hij;have:i<σ.length:=(List.getElem?_eq_some_iff.mp h1).1;rw[E.len] at this;exact absurd ⟨rfl,this⟩ h
   ·exact⟨w,by rw[List.getElem?_set_ne hij];exact h1,λhj=>((h2 hj).dom.same s).mono λb ⟨n,hb⟩=>hO b hb n⟩
 ·by_cases hij:i=j
  ·subst hij;have hl:i<σ.length:=by
    have:=(List.getElem?_eq_some_iff.mp hw).1;simpa using this
   rw[List.getElem?_set_self hl] at hw;cases hw;rw[cW,if_pos ⟨rfl,by rw[<-E.len];exact hl⟩];refine⟨a,o,rfl,r,hin,ha,hm,λk hk hs=>?_⟩;by_cases hik:i=k
   ·exact hik.symm
   ·rw[List.getElem?_set_ne hik] at hs;obtain⟨o',h1,_⟩:=E.live ⟨k,hk,hs⟩;rw[hn] at h1;cases h1
  ·rw[List.getElem?_set_ne hij] at hw;rw[cW,if_neg λz=>hij z.1];obtain⟨b,ob,h1,h2,h3,h4,h5,h6⟩:=E.own j w hj hw;refine⟨b,ob,h1,h2.same s,h3,s _ _ h4,h5,λk hk hs=>?_⟩;by_cases hik:i=k
   ·subst hik;by_cases hl:i<σ.length
    ·rw[List.getElem?_set_self hl] at hs;cases hs;rw[hn] at h4;cases h4
    ·rw[List.getElem?_set,if_pos rfl,if_neg hl] at hs;cases hs
   ·rw[List.getElem?_set_ne hik] at hs;exact h6 k hk hs
def aE4(r:Rep P H v d)(hin:inner d=true):∃a o,v=.ref a/\P a/\H a=some o/\PN o=true:=by
 cases r with
 |lst e p r=>exact⟨_,_,rfl,p,e,rfl⟩
 |cel e p r=>exact⟨_,_,rfl,p,e,rfl⟩
 |dK e p r n=>exact⟨_,_,rfl,p,e,rfl⟩
 |dT e p r n=>exact⟨_,_,rfl,p,e,rfl⟩
 |fdK e r n=>cases hin
 |fdT e r n=>cases hin
 |_=>cases hin
def zQ(E:ES own H σ ρ)(r:Rep (New H) H' v d):Rep (λa=>¬Own own σ a) H' v d:=r.mono λa ha ho=>by
 obtain⟨o,h1,_⟩:=E.live ho;rw[show H a=none from ha] at h1;cases h1
def K5(ho:own i=o)(h:tS own (bW o i fe re) D' σ H):zB (gE fe re) (fZ i) D' σ H:=by
 obtain⟨ρ,fl,E,h,q⟩:=h;obtain⟨d,h1,h2⟩:=aY h;cases o with
 |true=>
  simp only[if_true] at h2;split at h2
  ·rename_i hk;cases h2;refine⟨ρ,d,E.er,h1,λv H' s r n=>?_⟩;rw[Bool.and_eq_true] at hk;obtain⟨a,ob,rfl,hn,ha,hm⟩:=aE4 (n hk.1) hk.2;obtain⟨E2,k⟩:=E.aPv s ho hn r hk.2 ha hm;exact q _ H' k E2
  ·exact bx h2
 |false=>
  simp only[Bool.false_eq_true,if_false] at h2;split at h2
  ·rename_i hk;cases h2;refine⟨ρ,d,E.er,h1,λv H' s r n=>?_⟩;rw[Bool.or_eq_true] at hk;have r2:Rep (λa=>¬Own own σ a) H' v d:=by
    rcases hk with hk|hk
    ·exact zQ E (n hk)
    ·exact r.bN hk
   exact q _ H' (λa ob e hn=>⟨s a ob e,by rw[jX ho];exact hn⟩) ((E.same s).set ho r2)
  ·exact bx h2
def aJf(ho:own i=o)(hN:X.N.Nodup)(hi:X.N[i]?=some x)(hx:Loc X.env.scope x)(he:PE X e (gE fe re))(hs:swapsWith e (some (.Name x pos')) pos.line X.env=pure false:=by rfl)(hf:X.fn x=true\/X.env.scope.names.lookup x=some .local:=by first|exact .inl rfl|exact .inr rfl|assumption) :
  PS X (.Assign [.Name x pos'] e pos) (tS own (bW o i fe re)):=PS.imp (N7 hN hi hx he hs hf) λ_ _ _=>K5 ho
def cT(he:PE X e (gE fe re))(ho:own i=o:=by rfl)(hN:X.N.Nodup:=by assumption)(hi:X.N[i]?=some x:=by exact rfl)(hx:Loc X.env.scope x:=by trivial)(hs:swapsWith e (some (.Name x pos')) pos.line X.env=pure false:=by rfl)(hf:X.fn x=true\/X.env.scope.names.lookup x=some .local:=by first|exact .inl rfl|exact .inr rfl|assumption):PS X (.Assign [.Name x pos'] e pos) (tS own (bW o i fe re)):=aJf ho hN hi hx he hs hf
def ES.mut{a:Addr}{o:HO}{d:D}(E:ES own H σ ρ)(ho:own i=true)(hi:σ[i]?=some (some (.ref a)))(hm:PN o=true)(r:Rep All (upd H a o) (.ref a) d)(hin:inner d=true) :
  ES own (upd H a o) σ (ρ.set i d)/\KU own σ H σ (upd H a o):=by
 have hOa:Own own σ a:=⟨i,ho,hi⟩
 obtain⟨a',oa,ea,_,_,hHa,hma,huq⟩:=E.own i _ ho hi;cases ea;have k:KU own σ H σ (upd H a o):=λb ob e n=>⟨by rw[aR (λz=>by subst z;exact n hOa)];exact e,n⟩
 have hl:i<ρ.length:=by rw[<-E.len];exact(List.getElem?_eq_some_iff.mp hi).1
 refine⟨⟨by simp[E.len],λj hj=>?_,λj w hj hw=>?_⟩,k⟩
 ·rw[cW] at hj ⊢;by_cases h:i=j/\i<ρ.length
  ·obtain⟨rfl,_⟩:=h;exact⟨_,hi,λz=>by rw[ho] at z;cases z⟩
  ·rw[if_neg h] at hj ⊢;obtain⟨w,h1,h2⟩:=E.at_ j hj;exact⟨w,h1,λhj=>k.rep E (h2 hj)⟩
 ·by_cases hij:i=j
  ·subst hij;rw[hi] at hw;cases hw;rw[cW,if_pos ⟨rfl,hl⟩];exact⟨a,o,rfl,r,hin,aH,hm,huq⟩
  ·rw[cW,if_neg λz=>hij z.1];obtain⟨b,ob,h1,h2,h3,h4,h5,h6⟩:=E.own j w hj hw;subst h1;have hba:b≠a:=λz=>by subst z;exact hij (h6 i ho hi)
   refine⟨b,ob,rfl,?_,h3,by rw[aR hba];exact h4,h5,h6⟩;refine(h2.vC (P':=λc=>c=b) h3 rfl).keep (λc oc hc hp=>?_) λ_ _=>trivial
   rw[aR]
   ·exact hc
   ·intro z;subst z;rcases hp with hp|hp
    ·exact hba hp.symm
    ·rw[hHa] at hc;cases hc;rw[hma] at hp;cases hp
def ES.ownAt(E:ES own H σ ρ)(ho:own i=true)(hd:ρ.getD i .uD≠.uD):∃a o,σ[i]?=some (some (.ref a))/\Rep All H (.ref a) (ρ.getD i .uD)/\inner (ρ.getD i .uD)=true/\H a=some o/\PN o=true:=by
 obtain⟨v,h1,_⟩:=E.at_ i hd;obtain⟨a,o,rfl,h2,h3,h4,h5,_⟩:=E.own i v ho h1;exact⟨a,o,h1,h2,h3,h4,h5⟩
def yH{a:Addr}(r:Rep All H (.ref a) (.lst xs)):∃vs,H a=some (.lst vs)/\bG All H vs xs:=by
 cases r with
 |lst e _ r=>exact⟨_,e,r⟩
def bG.upd{a:Addr}(r:bG All H vs xs)(hp:D.aJ xs=true)(ha:H a=some ob)(hm:PN ob=true):bG All (upd H a o) vs xs:=by
 refine(r.bN (P':=λ_=>False) hp).keep (λc oc hc h=>?_) λ_ h=>h.elim
 rw[aR]
 ·exact hc
 ·intro z;subst z;rcases h with h|h
  ·exact h
  ·rw[ha] at hc;cases hc;rw[hm] at h;cases h
def jG:D.aJ (xs++ys)=(D.aJ xs&&D.aJ ys):=by
 induction xs with
 |nil=>simp[D.aJ]
 |cons x xs ih=>rw[List.cons_append,D.aJ,D.aJ,ih,Bool.and_assoc]
def uM(ho:own i=true)(hN:X.N[i]?=some x)(hv:Vis X.env.scope x)(he:PE X e (gE fe re))(hd:nDb x:=by decide)(hcd:nCd x:=by decide)
 (hbase:attributeBase (.Name x p1) "append" X.env (eval (.Name x p1) X.env)=eval (.Name x p1) X.env:=by rfl)
 (hs1:starEach [e] X.env=(false,eval e X.env)::starEach [] X.env:=by rfl)
 (hfew:((backTo cpos (starEach [e] X.env)).all (λx=>!x.1)&&(backToKw cpos (keywordEach [] X.env)).all (λx=>x.1.isSome)
  &&decide (([e]:List Expr).length+([]:List Keyword).length+(if ([]:List Keyword).isEmpty then 0 else 1)<30))=true:=by rfl)
 (hline:(apos.endLine==cpos.line)=true:=by rfl)
 (hs:swapsWith (.Call (.Attribute (.Name x p1) "append" apos) [e] [] cpos) none pos.line X.env=pure false:=by rfl) :
  PS X (.Expr (.Call (.Attribute (.Name x p1) "append" apos) [e] [] cpos) pos) (tS own (zL i fe)):=
 PS.imp (kO (J9 PySem.F.plainAttrs_list PySem.F.slot_list_append PySem.F.type_list_append mH (aW hN hv hd hcd) (bJ he dZ hs1) hbase hfew hline hs1 rfl) hs) λD' σ H ⟨ρ,fl,E,h,q⟩=>by
 obtain⟨d,h1,h2⟩:=aY h;split at h2
 ·rename_i xs hx;split at h2
  ·rename_i hk;cases h2;rw[Bool.and_eq_true] at hk;obtain⟨a,o,hσ,r,hin,ha,hm⟩:=E.ownAt ho (by rw[hx];intro z;cases z);rw[hx] at r hin;obtain⟨vs,hl,rr⟩:=yH r;refine⟨_,hσ,.inl ⟨rfl,vs,.of hl⟩,ρ,d,E.er,h1,λv H' s rv _=>⟨a,vs,v,rfl,rfl,s _ _ hl,by rw[rr.length];exact aE0 hk.1,?_⟩⟩;have E':=E.same s;have hl':=s _ _ hl;obtain⟨E2,k2⟩:=E'.mut ho hσ rfl (.lst aH trivial (((rr.same s).snoc rv).upd (by rw[jG];simp only[Bool.and_eq_true];exact⟨hin,by simp[D.aJ,hk.2]⟩) hl' rfl)) (by show D.aJ (xs++[d])=true;rw[jG];simp only[Bool.and_eq_true];exact⟨hin,by simp[D.aJ,hk.2]⟩);exact q _ _ ((KU.same s).trans k2) E2
  ·exact bx h2
 ·exact bx h2
end
end Mi
namespace L2
open PySem PySem.Spec PyProof.Rows
section
theorem aBx(hNn:X.N.Nodup)(hiy:X.N[iy]?=some y)(hxy:Loc X.env.scope y)(hfy:X.fn y=true\/X.env.scope.names.lookup y=some .local)(f:Inv X pins σ H5 s6)(k:U_ X pins H5 C)(n:s6.heap.Ns C m6)(q:fZ iy (.ref p) σ H5 D.nx):compPost (model X.prog X.w) X.A X.xe (some (assign (.Name y py) X.env)) (λ_ s'=>SP X pins D .next s') (.ref p) C (.ok .next) s6:=by
 obtain⟨oC,esC,epC,hoC,hdC,_⟩:=id n;have finP:=f.J5 (pins':=pins++[(C,oC)]) λp hp=>(List.mem_append.mp hp).elim (λz=>f.pin p (List.mem_append_right _ z)) λz=>by
  have z':p=(C,oC):=by simpa using z
  subst z';exact⟨hoC,k.1,k.2.1,k.2.2.1,λv z=>by rw[hdC] at z;cases z⟩
 refine thn (a_ hNn hiy hxy hfy _ _ σ H5 (.ref p) (.ref p) D.nx finP rfl q) λ_ s7 ⟨σ7,H7,I7,q7⟩=>?_
 obtain⟨g7,hC7,_⟩:=I7.pin (C,oC) (List.mem_append_right _ (List.mem_append_right _ 0x2));refine⟨m6,n.at' λo e=>?_,λh' sb=>⟨σ7,H7,Inv.turned I7.oM (λb o hb e=>sb.extBut b o hb e) hC7 k.2.1 k.2.2.2.1 k.2.2.2.2.1 k.2.2.2.2.2,q7⟩⟩;rw[hoC] at e;cases e;exact g7
def aJg(S:cH X.N X.env.scope scope own)(hcalm:X.calm=true)(hi:PI X tg iter wi)
 (hg:∀X',cV X X' scope own->PG X' tg g)(hc:(ifs=[]/\tc=λ_ H Q=>Q true H)\/∃c,ifs=[c]/\∀X',cV X X' scope own->PT X' c tc)(he:∀X',cV X X' scope own->PE X' elt te)
 (hs:∀x,foldedSetIterable iter X.env x=pure x)(hNn:X.N.Nodup)(hiy:X.N[iy]?=some y)(hxy:Loc X.env.scope y)(hfy:X.fn y=true\/X.env.scope.names.lookup y=some .local)(hsw:swapsWith (.ListComp elt [⟨tg,iter,ifs,0⟩] scope pos) (some (.Name y py)) pos2.line X.env=pure true):PS X (.Assign [.Name y py] (.ListComp elt [⟨tg,iter,ifs,0⟩] scope pos) pos2) (zB (FW wi g tc te own.length) (fZ iy)):=by
 intro pins s σ H D I h;rw[exec_Assign_Name_used _ _ _ _ hsw];refine wpAny_bind (wpAny_standAt (wpAny_bind ?_));show wpAny _ X.A (do let _ <- comprehension (.ListComp elt [⟨tg,iter,ifs,0⟩] scope pos) scope X.env _ (newList []) false (eval iter X.env) (some (assign (.Name y py) X.env))) _ _ s;exact wpAny_bind (wpAny_mono (KZ S hcalm hi hg hc he hs I h (aBx hNn hiy hxy hfy)) (λ_ s' hq=>wpAny_pure (wpAny_pure hq)) λ_ _ e=>e)
def XS(S:cH X.N X.env.scope scope own)(hcalm:X.calm=true)(hi:PI X tg iter wi)
 (hg:∀X',cV X X' scope own->PG X' tg g)(hc:∀X',cV X X' scope own->PT X' c tc)(he:∀X',cV X X' scope own->PE X' elt te)
 (hs:∀x,foldedSetIterable iter X.env x=pure x)(hNn:X.N.Nodup)(hiy:X.N[iy]?=some y)(hxy:Loc X.env.scope y)(hfy:X.fn y=true\/X.env.scope.names.lookup y=some .local)(hsw:swapsWith (.ListComp elt [⟨tg,iter,[c],0⟩] scope pos) (some (.Name y py)) pos2.line X.env=pure true):PS X (.Assign [.Name y py] (.ListComp elt [⟨tg,iter,[c],0⟩] scope pos) pos2) (zB (FW wi g tc te own.length) (fZ iy)):=
 aJg S hcalm hi hg (.inr ⟨c,rfl,hc⟩) he hs hNn hiy hxy hfy hsw
def QJ(S:cH X.N X.env.scope scope own)(hcalm:X.calm=true)(hi:PI X tg iter wi)
 (hg:∀X',cV X X' scope own->PG X' tg g)(he:∀X',cV X X' scope own->PE X' elt te)
 (hs:∀x,foldedSetIterable iter X.env x=pure x)(hNn:X.N.Nodup)(hiy:X.N[iy]?=some y)(hxy:Loc X.env.scope y)(hfy:X.fn y=true\/X.env.scope.names.lookup y=some .local)(hsw:swapsWith (.ListComp elt [⟨tg,iter,[],0⟩] scope pos) (some (.Name y py)) pos2.line X.env=pure true):PS X (.Assign [.Name y py] (.ListComp elt [⟨tg,iter,[],0⟩] scope pos) pos2) (zB (FW wi g (λ_ H Q=>Q true H) te own.length) (fZ iy)):=
 aJg S hcalm hi hg (.inl ⟨rfl,rfl⟩) he hs hNn hiy hxy hfy hsw
end
end L2
namespace Mi
open PySem L2 PySem.SeqAt PySem.Spec PyProof.Rows
section
variable [KFrag]
variable {own:Nat->Bool}
section
variable {X:Cx} {a b c e:Expr} {pos pos':Pos} {fb fe:FE} {re:Bool} {gc:FT} {f g:FS} {st:Stmt} {s1 s2:List Stmt}
variable {scope:Scope} {ownN:List Str} {elt iter tg:Expr} {it:FI} {t:D->Res (List D)} {gt:TG}
def aG9(S:cH X.N X.env.scope scope ownN)(hn:X.N.length=n)(hm:ownN.length=m)(hcalm:X.calm=true)(hi:PI X tg iter (gI X.K it))(ht:TgC gt t n m)(hg:∀X',cV X X' scope ownN->PG X' tg gt)(he:∀X',cV X X' scope ownN->PE X' elt (gE fe re))
 (hs:∀x,foldedSetIterable iter X.env x=pure x)(ho:own iy=o)(hNn:X.N.Nodup)(hiy:X.N[iy]?=some y)(hxy:Loc X.env.scope y)(hfy:X.fn y=true\/X.env.scope.names.lookup y=some .local)(hsw:swapsWith (.ListComp elt [⟨tg,iter,[],0⟩] scope pos) (some (.Name y py)) pos2.line X.env=pure true) :
  PS X (.Assign [.Name y py] (.ListComp elt [⟨tg,iter,[],0⟩] scope pos) pos2) (tS own (bW o iy (cJ n it t dH fe re) true)):=by
 intro pins s σ H D I h;subst hm;refine QJ S hcalm hi hg he hs hNn hiy hxy hfy hsw pins s σ H D I ?_;exact oX ht (λσ H Q h=>by obtain⟨ρ,b,E,h,q⟩:=h;cases h;exact q H (bU.refl H)) (I.len.trans hn) (K5 ho h)
def XX(S:cH X.N X.env.scope scope ownN)(hn:X.N.length=n)(hm:ownN.length=m)(hcalm:X.calm=true)(hi:PI X tg iter (gI X.K it))(ht:TgC gt t n m)(hg:∀X',cV X X' scope ownN->PG X' tg gt)(hc:∀X',cV X X' scope ownN->PT X' c (gT gc))(he:∀X',cV X X' scope ownN->PE X' elt (gE fe re))
 (hs:∀x,foldedSetIterable iter X.env x=pure x)(ho:own iy=o)(hNn:X.N.Nodup)(hiy:X.N[iy]?=some y)(hxy:Loc X.env.scope y)(hfy:X.fn y=true\/X.env.scope.names.lookup y=some .local)(hsw:swapsWith (.ListComp elt [⟨tg,iter,[c],0⟩] scope pos) (some (.Name y py)) pos2.line X.env=pure true) :
  PS X (.Assign [.Name y py] (.ListComp elt [⟨tg,iter,[c],0⟩] scope pos) pos2) (tS own (bW o iy (cJ n it t gc fe re) true)):=by
 intro pins s σ H D I h;subst hm;refine XS S hcalm hi hg hc he hs hNn hiy hxy hfy hsw pins s σ H D I ?_;exact oX ht (λσ H Q h=>h) (I.len.trans hn) (K5 ho h)
theorem zR[DecidableEq κ]{k:κ}(e:p.1=k)(h:k∉r.map (·.1)):putK (p::r) k v=(k,v)::r:=by
 unfold putK;rw[if_pos (by simp[e]),List.map_cons,if_pos e,e]
 congr 1
 have:∀q∈r,(λkv:κ×V=>if kv.1=k then (kv.1,v) else kv) q=id q:=λq hq=>by
  have:q.1≠k:=λz=>h (List.mem_map.mpr ⟨q,hq,z⟩)
  simp[this]
 rw[List.map_congr_left this,List.map_id]
def zT[DecidableEq κ]{k:κ}(e:¬p.1=k):putK (p::r) k v=p::putK r k v:=by
 unfold putK;rw[List.any_cons,decide_eq_false e,Bool.false_or];split
 ·rw[List.map_cons,if_neg e]
 ·rfl
def jH[DecidableEq κ]:∀{kvs:List (κ×V)},(kvs.map (·.1)).Nodup->((putK kvs k v).map (·.1)).Nodup:=λ{kvs} h=>by
 by_cases hk:yD kvs k=none
 ·exact aFt v h hk
 ·unfold putK;rw[if_pos (by rw[oU];exact Option.isSome_iff_ne_none.mpr hk),List.map_map];have:(λx:κ×V=>x.1) ∘ (λkv:κ×V=>if kv.1=k then (kv.1,v) else kv)=λx=>x.1:=by
   funext q
   simp only[Function.comp];split<;>rfl
  rw[this];exact h
theorem zU(rv:Rep P H v d):∀{kvs:List (Key×V)}{ds:List (D×D)},fY P H kvs ds->(kvs.map (·.1)).Nodup->fY P H (putK kvs k v) (putD ds (kD k) d)
 |_,_,.nil,_=>.cons rv .nil
 |_,_,.cons (k:=k') r t,hn=>by
  rw[List.map_cons] at hn;obtain⟨h1,h2⟩:=List.nodup_cons.mp hn;rw[putD,XN];by_cases h:k'=k
  ·subst h;rw[if_pos 0x2,zR rfl h1];exact .cons rv t
  ·rw[if_neg (by simpa using h),zT h];exact .cons r (zU rv t h2)
theorem vD(rv:Rep P H v d):∀{kvs:List (List Key×V)}{ds:List (D×D)},lZ P H kvs ds->(kvs.map (·.1)).Nodup->lZ P H (putK kvs k v) (putD ds (.tup (k.map kD)) d)
 |_,_,.nil,_=>.cons rv .nil
 |_,_,.cons (k:=k') r t,hn=>by
  rw[List.map_cons] at hn;obtain⟨h1,h2⟩:=List.nodup_cons.mp hn;rw[putD,aFy];by_cases h:k'=k
  ·subst h;rw[if_pos 0x2,zR rfl h1];exact .cons rv t
  ·rw[if_neg (by simpa using h),zT h];exact .cons r (vD rv t h2)
theorem fY.length:∀{kvs:List (Key×V)}{ds:List (D×D)},fY P H kvs ds->kvs.length=ds.length
 |_,_,.nil=>rfl
 |_,_,.cons _ t=>by rw[List.length_cons,List.length_cons,fY.length t]
theorem lZ.length:∀{kvs:List (List Key×V)}{ds:List (D×D)},lZ P H kvs ds->kvs.length=ds.length
 |_,_,.nil=>rfl
 |_,_,.cons _ t=>by rw[List.length_cons,List.length_cons,lZ.length t]
def wC{a:Addr}(ha:H a=some ob)(hm:PN ob=true):KQ (λ_=>False) H (L2.upd H a o):=λc oc hc h=>by
 rw[aR]
 ·exact hc
 ·intro z;subst z;rcases h with h|h
  ·exact h.elim
  ·rw[ha] at hc;cases hc;rw[hm] at h;cases h
theorem j9(hd:d.pure=true):∀{ds:List (D×D)},D.aJ (ds.map (·.2))=true->D.aJ ((putD ds k d).map (·.2))=true
 |[],_=>by simp[putD,D.aJ,hd]
 | (q,w)::r,h=>by
  rw[List.map_cons,D.aJ,Bool.and_eq_true] at h;rw[putD];split
  ·rw[List.map_cons,D.aJ,Bool.and_eq_true];exact⟨hd,h.2⟩
  ·rw[List.map_cons,D.aJ,Bool.and_eq_true];exact⟨h.1,j9 hd h.2⟩
def aNc{ad:Addr}{y v:V}{ds:List (D×D)}{k d:D}(I:Inv X pins σ H s)(rd:Rep All H (.ref ad) (.dct ds))(hin:D.aJ (ds.map (·.2))=true)(rk:Rep All H y k)(hk:uK ds k=true)(hl:ds.length<sizeLine)(rv:Rep All H v d)(hd:d.pure=true) :
  ∃H1 o,Inv X pins σ H1 s/\aDx H1 ad y v (L2.upd H ad o)/\PN o=true/\Rep All (L2.upd H ad o) (.ref ad) (.dct (putD ds k d)):=by
 unfold uK at hk;rw[Bool.and_eq_true] at hk;obtain⟨h1,h2⟩:=hk;have rv':Rep (λ_=>False) H v d:=rv.bN hd;cases rd with
 |@dK _ kvs ds e _ r n=>
  have hlen:=r.length;rcases jD h1 rk with ⟨q,rfl,rfl⟩|⟨b,ks,rfl,eb,rfl⟩
  ·refine⟨H,.dK (putK kvs q v),I,.k e 0x1,rfl,.dK aH trivial ?_ (jH n)⟩;exact(zU rv' (r.bN hin) n).keep (wC e rfl) λ_ z=>z.elim
  ·cases r with
   |nil=>
    refine⟨L2.upd H ad (.dT []),.dT (putK [] ks v),nA I e,?_,rfl,.dT aH trivial ?_ (jH List.nodup_nil)⟩
    ·have:=aDx.t (H:=L2.upd H ad (.dT [])) (a:=ad) (b:=b) (kvs:=[]) (k:=ks) (v:=v) aH (by rw[aR (oH eb e 0x7)];exact eb) hl;rwa [J3] at this
    ·exact(vD (k:=ks) rv' .nil List.nodup_nil).keep (wC e rfl) λ_ z=>z.elim
   |cons r t=>
    rw[List.all_cons,m_] at h2;simp[isTup] at h2
 |@dT _ kvs ds e _ r n=>
  have hlen:=r.length;rcases jD h1 rk with ⟨q,rfl,rfl⟩|⟨b,ks,rfl,eb,rfl⟩
  ·cases r with
   |nil=>
    refine⟨L2.upd H ad (.dK []),.dK (putK [] q v),j7 I e,?_,rfl,.dK aH trivial ?_ (jH List.nodup_nil)⟩
    ·have:=aDx.k (H:=L2.upd H ad (.dK [])) (a:=ad) (kvs:=[]) (k:=q) (v:=v) aH hl;rwa [J3] at this
    ·exact(zU (k:=q) rv' .nil List.nodup_nil).keep (wC e rfl) λ_ z=>z.elim
   |cons r t=>
    rw[List.all_cons,m_] at h2;simp[isTup] at h2
  ·refine⟨H,.dT (putK kvs ks v),I,.t e eb 0x1,rfl,.dT aH trivial ?_ (jH n)⟩;exact(vD rv' (r.bN hin) n).keep (wC e rfl) λ_ z=>z.elim
def QK(hu:X.A.units+20<cLine)(ho:own i=true)(hN:X.N[i]?=some x)(hvi:Vis X.env.scope x)(hk:PE X k (gE fk rk))(hv:PE X value (gE fv rv))
 (hs:swapsWith value (some (.Subscript (.Name x p1) k pos')) pos.line X.env=pure false:=by rfl)(hd:nDb x:=by decide)(hcd:nCd x:=by decide) :
  PS X (.Assign [.Subscript (.Name x p1) k pos'] value pos) (tS own (W8 i fk fv)):=by
 intro pins s σ H D' I ⟨ρ,fl,E,h,q⟩;obtain⟨d,h0,h⟩:=aY h;obtain⟨kd,h1,h2⟩:=aY h;split at h2
 ·rename_i kvs hx;split at h2
  ·rename_i hg;cases h2;simp only[Bool.and_eq_true] at hg;obtain⟨⟨hg1,hg2⟩,hg3⟩:=hg;obtain⟨a,o,hσ,r,hin,ha,hm⟩:=E.ownAt ho (by rw[hx];intro z;cases z);rw[hx] at r hin;refine wpAny_Assign_Subscript (thn (hv pins s σ H (λv H1=>bU H H1/\Rep All H1 v d) I ⟨ρ,d,E.er,h0,λv H1 s1 r1 _=>⟨s1,r1⟩⟩) λrr s1 ⟨v,H1,I1,rv1,sm1,rp1⟩=>
    thn (aW hN hvi hd hcd pins s1 σ H1 (λw H2=>w=.ref a/\H2=H1) I1 ⟨_,hσ,rfl,rfl⟩) λu s2 ⟨xx,H2,I2,rx,ex,eH⟩=>
    thn (hk pins s2 σ H2 (λw H3=>bU H2 H3/\Rep All H3 w kd) I2 ⟨ρ,kd,by rw[eH];exact E.er.same sm1,h1,λv H1 s1 r1 _=>⟨s1,r1⟩⟩) λiv s3 ⟨y,H3,I3,ry,sm3,rp3⟩=>?_) hs
   subst ex eH;obtain rfl:u=Value.ref a:=rx;have sm:=sm1.trans sm3;obtain⟨H4,o4,I4,g,hmo,rp⟩:=aNc I3 (r.same sm) hin rp3 hg2 (aE0 hg1) (rp1.same sm3) hg3;obtain⟨E2,k2⟩:=(E.same sm).mut ho hσ hmo rp (j9 hg3 hin);exact WW 0x1 I4 g ry rv1 λs4 I5=>⟨σ,_,I5,q _ _ ((KU.same sm).trans k2) E2⟩
  ·exact bx h2
 ·exact bx h2
def TgS(own:Nat->Bool)(g:TG)(t:D->List D->Res (List D)):Prop:=∀(v:V)(d:D)(ρ ρ':List D)(σ:L2.St)(H:Hp)(Q:L2.St->Hp->Prop),ES own H σ ρ->Rep (λa=>¬Own own σ a) H v d->t d ρ=.ok ρ'->
 (∀σ',ES own H σ' ρ'->(∀a,Own own σ' a↔Own own σ a)->Q σ' H)->g v σ H Q
def lG(ho:own i=false):TgS own (fZ i) (tg1 i):=λv d ρ ρ' σ H Q E r h q=>by
 cases h;exact q _ (E.set ho r) λa=>jX ho a
theorem ES.sets:∀{is:List Nat}{vs:List V}{ds:List D}{σ:L2.St}{ρ:List D},(∀i∈is,own i=false)->ES own H σ ρ->bG (λa=>¬Own own σ a) H vs ds->ES own H (TJ is vs σ) (KN is ds ρ)/\∀a,Own own (TJ is vs σ) a↔Own own σ a
 |[],_,_,_,_,_,E,_=>by simp only[TJ,KN];exact⟨E,λ_=>trivial⟩
 |i::is,_,_,σ,ρ,h,E,.nil=>by simp only[TJ,KN];exact⟨E,λ_=>trivial⟩
 |i::is,_,_,σ,ρ,h,E,.cons (v:=v) r t=>by
  have ho:=h i (List.mem_cons_self ..);have hO:(λa=>¬Own own (σ.set i (some v)) a)=λa=>¬Own own σ a:=funext λa=>by rw[jX ho]
  obtain⟨h1,h2⟩:=ES.sets (λj hj=>h j (List.mem_cons_of_mem _ hj)) (E.set ho r) (by rw[hO];exact t);exact⟨h1,λa=>(h2 a).trans (jX ho a)⟩
def X3(K:PySem.W.Frag)(ho:∀i∈is,own i=false):TgS own (aM7 K is.length (gIx is)) (tgN is):=λv d ρ ρ' σ H Q E r h q=>by
 cases d<;>simp only[tgN] at h<;>(try (exact bx h;done))
 split at h
 ·rename_i hl;cases h;have hl':=of_decide_eq_true hl;obtain⟨a,xs,rfl,e,rr⟩:=r.iM;obtain⟨h1,h2⟩:=E.sets ho rr;exact⟨a,xs,rfl,.of e,by rw[rr.length];exact hl',K4 _ _ _ (by rw[rr.length];exact hl') (q _ h1 h2)⟩
 ·exact bx h
def ItQ.ku{K:PySem.W.Frag}(h:ItQ K (λa=>¬Own own σ a) J H items)(k:KU own σ H σ' H')(E:ES own H σ ρ):ItQ K (λa=>¬Own own σ' a) J H' items:=h.keep' (k.keep E) λa o e n=>(k a o e n).2
def zV{K:PySem.W.Frag}{g:TG}{t:D->List D->Res (List D)}{body:FS}{D':Ends}{J:It}{items:List D}{σ:L2.St}{H1:Hp}{ρ:List D}{fl:Fl}(tg:TgS own g t)(E:ES own H1 σ ρ)(hJ:ItQ K (λa=>¬Own own σ a) J H1 items)(hf:vA t body items ρ=.ok fl)(q:kS own D' σ H1 fl) :
  ∃W:Nat->Nat->L2.St->Hp->Prop,(∃m,W 0 m σ H1)/\∀i m σ H,W i m σ H->
   (J.stop i H/\D'.nx σ H)\/(J.go i H/\∃N:L2.St->Hp->Prop,(∀σ' H',N σ' H'->∃m',m'<m/\W (i+1) m' σ' H')/\∀x H',J.yld i H x H'->g x σ H' λσ2 H2=>tS own body {D' with nx:=N,ct:=N,bk:=D'.nx} σ2 H2):=by
 refine⟨λi m σ' H'=>m=items.length-i/\i<=items.length/\ItQ K (λa=>¬Own own σ' a) J H' items/\∃ρ',ES own H' σ' ρ'/\vA t body (items.drop i) ρ'=.ok fl/\kS own D' σ' H' fl,⟨items.length,rfl,Nat.zero_le _,hJ,ρ,E,hf,q⟩,?_⟩;rintro i m σ' H' ⟨rfl,hi,hJ',ρ',E',hf',q'⟩;rcases Nat.lt_or_ge i items.length with hlt|hge
 ·refine .inr ?_;have e:items[i]?=some items[i]:=List.getElem?_eq_getElem hlt;obtain⟨g1,g2⟩:=hJ'.go e;rw[List.drop_eq_getElem_cons hlt] at hf';obtain⟨ρ1,h1,hf2⟩:=aY hf';obtain⟨r,h2,hf3⟩:=aY hf2;refine⟨g1,λσ2 H2=>ItQ K (λa=>¬Own own σ2 a) J H2 items/\∃ρ',ES own H2 σ2 ρ'/\vA t body (items.drop (i+1)) ρ'=.ok fl/\kS own D' σ2 H2 fl,λσ2 H2 ⟨n1,n2⟩=>⟨items.length-(i+1),by lia,rfl,hlt,n1,n2⟩,λx H2 hy=>?_⟩;obtain⟨sH,rx⟩:=g2 x H2 hy;have ks:KU own σ' H' σ' H2:=λa o e n=>⟨sH a o e,n⟩
  have hJ':=hJ'.ku ks E';have q':=q'.step ks;have E':=E'.same sH;refine tg x items[i] ρ' ρ1 σ' H2 _ E' rx h1 λσ2 E2 hO=>?_
  have k0:KU own σ' H2 σ2 H2:=λa o e n=>⟨e,by rw[hO];exact n⟩
  have hJ2:=hJ'.ku k0 E';have q2:=q'.step k0;refine⟨ρ1,r,E2,h2,?_⟩;cases r with
  |nx ρ2=>exact λσ3 H3 k3 E3=>⟨hJ2.ku k3 E2,ρ2,E3,hf3,q2.step k3⟩
  |ct ρ2=>exact λσ3 H3 k3 E3=>⟨hJ2.ku k3 E2,ρ2,E3,hf3,q2.step k3⟩
  |bk ρ2=>cases hf3;exact λσ3 H3 k3 E3=>q2 σ3 H3 k3 E3
  |rt d=>cases hf3;exact q2
 ·refine .inl ⟨hJ'.stop hge,?_⟩;rw[List.drop_eq_nil_of_le hge] at hf';cases hf';exact q' σ' H' (λa o e n=>⟨e,n⟩) E'
def yI{tg iter:Expr}{body:List Stmt}{g:TG}{t:D->List D->Res (List D)}{it:FI}{fb:FS}(hp:PassesOwn (model X.prog X.w) X.A X.env X.xe)(hc:X.calm=true)(hi:PI X tg iter (gI X.K it))(ht:TgS own g t)(hg:PG X tg g)(hb:PSs X body (tS own fb))
 (hs:∀x,foldedSetIterable iter X.env x=pure x:=by intro _;rfl):PS X (.For tg iter body [] pos) (tS own (VD it t fb)):=PS.imp (N_ hp hc hi hg hb hs) λD' σ H ⟨ρ,fl,E,h,q⟩=>by
 obtain⟨⟨items,k⟩,h1,h2⟩:=aY h;split at h2
 ·rename_i hk;exact⟨ρ,items,k,E.er,h1,λJ H1 s1 _ hJ=>zV ht (E.same s1) ((hJ hk).keep (λ_ _ e _=>e) λa ha ho=>by
   obtain⟨o,e1,_⟩:=E.live ho;rw[show H a=none from ha] at e1;cases e1) h2 (q.step (.same s1))⟩
 ·exact bx h2
def zW{g:TG}{t:D->List D->Res (List D)}{i:Nat}{x:Str}{px:Pos}{fb:FS}(ho:own i=false)(hp:PassesOwn (model X.prog X.w) X.A X.env X.xe)(hc:X.calm=true)(hN:X.N[i]?=some x)(hv:Vis X.env.scope x)(ht:TgS own g t)(hg:PG X tg g)(hb:PSs X body (tS own fb))
 (hs:∀z,foldedSetIterable (.Name x px) X.env z=pure z:=by intro _;rfl)(hd:nDb x:=by decide)(hcd:nCd x:=by decide):PS X (.For tg (.Name x px) body [] pos) (tS own (uV i t fb)):=PS.imp (N_ hp hc (aJe hN hv hd hcd) hg hb hs) λD' σ H ⟨ρ,fl,E,h,q⟩=>by
 obtain⟨d,h1,h⟩:=aY h;obtain⟨items,h2,h3⟩:=aY h;obtain⟨v,hv,r,e⟩:=E.er.var h1;have hne:ρ.getD i .uD≠.uD:=λz=>by
  rw[z] at e;subst e;exact Rep.uD r
 obtain⟨w,hw,hr⟩:=E.at_ i hne;rw[hv] at hw;cases hw;have r2:=hr ho;rw[e] at r2;exact⟨v,d,items,hv,r,h2,λJ hJ=>zV ht E (hJ _ r2) h3 q⟩
def aBy{N ps:List Str}(hst:start N vs=vs.map some++List.replicate (N.length-ps.length) none)(hl:ds.length=ps.length)(r:bG All H vs ds)(hown:∀i,i<ps.length->own i=false)(noown:∀a,¬Own own (start N vs) a):ES own H (start N vs) (ds++List.replicate (N.length-ps.length) .uD):=by
 refine⟨by rw[hst];simp[r.length],λi hi=>?_,λi v hi hv=>?_⟩
 ·have hlt:i<ds.length:=Nat.lt_of_not_le λhge=>hi (by
   rw[List.getD_eq_getElem?_getD,List.getElem?_append_right hge,List.getElem?_replicate];split<;>rfl)
  have e:(ds++List.replicate (N.length-ps.length) D.uD).getD i .uD=ds[i]:=by
   rw[List.getD_eq_getElem?_getD,List.getElem?_append_left hlt,List.getElem?_eq_getElem hlt];rfl
  obtain⟨v,g1,g2⟩:=r.get (i:=i) (d:=ds[i]) (by simp[hlt]);refine⟨v,by rw[hst,List.getElem?_append_left (by simp[r.length,hlt])];simp[g1],λ_=>?_⟩;rw[e];exact g2.mono λa _=>noown a
 ·exfalso;rw[hst] at hv;by_cases h:i<ps.length
  ·rw[hown i h] at hi;cases hi
  ·rw[List.getElem?_append_right (by simp[r.length,hl];lia)] at hv;rw[List.getElem?_replicate] at hv;split at hv<;>cases hv
def aGa{N ps:List Str}{H:Hp}{Q:VK}{E:XK}(hx:own rtX=false)(hown:∀i,i<ps.length->own i=false)(h0:spD (fnS ps.length N.length f) ps.length vs H Q E):tS own f {nx:=λ_ H'=>Q .non H',rt:=Q} (start N vs) H:=by
 obtain⟨ds,d,hl,r,h,q⟩:=h0
 ·obtain⟨fl,h1,h2⟩:=aY h;have hst:start N vs=vs.map some++List.replicate (N.length-ps.length) none:=by
   show vs.map some++List.replicate (N.length-vs.length) none=_;rw[r.length,hl]
  have noown:∀a,¬Own own (start N vs) a:=λa ⟨i,hi,e⟩=>by
   rw[hst] at e;by_cases h:i<ps.length
   ·rw[hown i h] at hi;cases hi
   ·rw[List.getElem?_append_right (by simp[r.length,hl];lia)] at e;rw[List.getElem?_replicate] at e;split at e<;>cases e
  have E0:ES own H (start N vs) (ds++List.replicate (N.length-ps.length) .uD):=aBy hst hl r hown noown;refine⟨_,fl,E0,h1,?_⟩;have sm:∀{σ':L2.St}{H':Hp},KU own (start N vs) H σ' H'->bU H H':=λk a o e=>(k a o e (noown a)).1
  cases fl with
  |nx ρ'=>cases h2;exact λσ' H' k E'=>q .non H' (sm k) .non λ_=>.non
  |rt d'=>
   cases h2;refine kRt.mk hx λv H' hk rp=>q v H' (λa o e=>hk a o e (noown a)) rp.all λ_=>rp.mono λa ha=>?_
   rcases ha with ha|ha
   ·exact absurd ha (noown a)
   ·exact ha
  |bk ρ'=>exact bx h2
  |ct ρ'=>exact bx h2
def aJh{K:PySem.W.Frag}{mg:Str->Option Value}{base:Heap}{x qual:Str}{st:Stmt}{fad:Addr}{fd:FuncData}{N ps:List Str}{k:Nat}{f:FS}(F:Fun K x qual st fad fd)(S:bY N ps (aL st))(own:Nat->Bool)(hown:∀i,i<ps.length->own i=false)(hNl:ps.length<=N.length)
 (hbody:∀(cdv:Value) (A:Around) (outer:List Env) (s:Shared) (H:Hp) (E:XK),lX k (A.deeper (envOfC qual (aL st) s.heap.objs.size fad cdv))->PSs (JW CX0 P w K mg base N qual (aL st) fad cdv A outer s H E).nox (cR st) (tS own f))(hx:own rtX=false:=by rfl):lR P w K mg base CX0 (k+1) fad fd ps (spD (fnS ps.length N.length f) ps.length):=
 F.ok S (λvs H Q E h=>aG4 h) λcdv A outer s H vs Q E hr h=>⟨_,hbody cdv A outer s H E hr,aGa hx hown h⟩
end
end
variable [KFrag]
structure aNd where
 s₀:Shared
 H₀:Hp
 env:Env
 outer:List Env
 stack:List Env
 ex:List Addr
 fn:Str->Bool
 pn:List (Addr×Obj)
abbrev mkC(X:Cx)(scope:Scope)(ownN:List Str)(y:aNd):Cx:=
 {X with N:=X.N.map (gJ ownN)++ownN,s₀:=y.s₀,H₀:=y.H₀,env:={y.env with scope:=relabel scope X.env},outer:=y.outer,stack:=y.stack,ex:=y.ex,fn:=y.fn,pn:=y.pn,xe:=λ_ _=>False}
def lU(cc:cV X X' scope ownN):∃y,X'=mkC X scope ownN y:=by
 refine⟨⟨X'.s₀,X'.H₀,X'.env,X'.outer,X'.stack,X'.ex,X'.fn,X'.pn⟩,?_⟩;obtain⟨h1,h2,h3,h4,h5,h6,h7,h8,h9,h10⟩:=cc;cases X' with
 |mk a b c d e f g h i j k l m n o p q=>
  cases j;dsimp only at *;subst h1 h2 h3 h4 h5 h6 h7 h8 h9 h10;rfl
section
def g_(S:cH X.N X.env.scope scope ownN)(hn:X.N.length=n)(hm:ownN.length=m)(hcalm:X.calm=true)(hi:PI X tg iter (gI X.K it))(ht:TgC g t n m)(hg:∀y,PG (mkC X scope ownN y) tg g)(he:∀y,PE (mkC X scope ownN y) elt (gE fe re))
 (hs:∀x,foldedSetIterable iter X.env x=pure x):PE X (.ListComp elt [⟨tg,iter,[],0⟩] scope pos) (gE (cJ n it t dH fe re) true):=
 aG6 S hn hm hcalm hi ht (λX' cc=>by obtain⟨y,rfl⟩:=lU cc;exact hg y) (λX' cc=>by obtain⟨y,rfl⟩:=lU cc;exact he y) hs
def TQ(S:cH X.N X.env.scope scope ownN)(hn:X.N.length=n)(hm:ownN.length=m)(hcalm:X.calm=true)(hi:PI X tg iter (gI X.K it))(ht:TgC g t n m)(hg:∀y,PG (mkC X scope ownN y) tg g)(hc:∀y,PT (mkC X scope ownN y) c (gT gc))(he:∀y,PE (mkC X scope ownN y) elt (gE fe re))
 (hs:∀x,foldedSetIterable iter X.env x=pure x):PE X (.ListComp elt [⟨tg,iter,[c],0⟩] scope pos) (gE (cJ n it t gc fe re) true):=
 XR S hn hm hcalm hi ht (λX' cc=>by obtain⟨y,rfl⟩:=lU cc;exact hg y) (λX' cc=>by obtain⟨y,rfl⟩:=lU cc;exact hc y) (λX' cc=>by obtain⟨y,rfl⟩:=lU cc;exact he y) hs
def oY(S:cH X.N X.env.scope scope ownN)(hn:X.N.length=n)(hm:ownN.length=m)(hcalm:X.calm=true)(hi:PI X tg iter (gI X.K it))(ht:TgC g t n m)(hg:∀y,PG (mkC X scope ownN y) tg g)(he:∀y,PE (mkC X scope ownN y) elt (gE fe re))
 (hs:∀x,foldedSetIterable iter X.env x=pure x)(ho:own iy=o)(hNn:X.N.Nodup)(hiy:X.N[iy]?=some y)(hxy:Loc X.env.scope y)(hfy:X.fn y=true\/X.env.scope.names.lookup y=some .local)(hsw:swapsWith (.ListComp elt [⟨tg,iter,[],0⟩] scope pos) (some (.Name y py)) pos2.line X.env=pure true) :
  PS X (.Assign [.Name y py] (.ListComp elt [⟨tg,iter,[],0⟩] scope pos) pos2) (tS own (bW o iy (cJ n it t dH fe re) true)):=
 aG9 S hn hm hcalm hi ht (λX' cc=>by obtain⟨y,rfl⟩:=lU cc;exact hg y) (λX' cc=>by obtain⟨y,rfl⟩:=lU cc;exact he y) hs ho hNn hiy hxy hfy hsw
def TV(S:cH X.N X.env.scope scope ownN)(hn:X.N.length=n)(hm:ownN.length=m)(hcalm:X.calm=true)(hi:PI X tg iter (gI X.K it))(ht:TgC g t n m)(hg:∀y,PG (mkC X scope ownN y) tg g)(hc:∀y,PT (mkC X scope ownN y) c (gT gc))(he:∀y,PE (mkC X scope ownN y) elt (gE fe re))
 (hs:∀x,foldedSetIterable iter X.env x=pure x)(ho:own iy=o)(hNn:X.N.Nodup)(hiy:X.N[iy]?=some y)(hxy:Loc X.env.scope y)(hfy:X.fn y=true\/X.env.scope.names.lookup y=some .local)(hsw:swapsWith (.ListComp elt [⟨tg,iter,[c],0⟩] scope pos) (some (.Name y py)) pos2.line X.env=pure true) :
  PS X (.Assign [.Name y py] (.ListComp elt [⟨tg,iter,[c],0⟩] scope pos) pos2) (tS own (bW o iy (cJ n it t gc fe re) true)):=
 XX S hn hm hcalm hi ht (λX' cc=>by obtain⟨y,rfl⟩:=lU cc;exact hg y) (λX' cc=>by obtain⟨y,rfl⟩:=lU cc;exact hc y) (λX' cc=>by obtain⟨y,rfl⟩:=lU cc;exact he y) hs ho hNn hiy hxy hfy hsw
end
def uW(P:Program)(w:World)(K:PySem.W.Frag)(mg:Str->Option Value)(base:Heap)(k:Nat)(x:Str)(n:Nat)(f:List D->Res D):Prop:=
 ∃(fad:Addr)(fd:FuncData)(ps:List Str),lR P w K mg base CX0 k fad fd ps (spD f n)/\mg x=some (.ref fad)/\PySem.W.keepIn K (.ref fad)=true/\Binds K fd ps []
section
def iY(C:uW X.prog X.w X.K X.mg X.base k x n f)(hr:lX k' X.A)(hkk:k<=k')(hg:Gl X x)(ha:PA X (e::es) (gA fs rr))(hdb:nDb x:=by decide)(he:starEach (e::es) X.env=(false,eval e X.env)::starEach es X.env:=by rfl)(hpl:(backTo pos (starEach es X.env)).any (·.1)=false:=by rfl) :
  PE X (.Call (.Name x p) (e::es) [] pos) (gE (aV (mD n f) fs) true):=by
 obtain⟨fad,fd,ps,F,hm,hk,hb⟩:=C;exact aG5 F (hr.mono hkk) hg hm hk hb ha hdb he hpl
def GR{K:PySem.W.Frag}{st:Stmt}{fad:Addr}{fd:FuncData}{N ps:List Str}{fs:FS}(F:Fun K x x st fad fd)(hm:mg x=some (.ref fad))(hb:Binds K fd ps [])(S:bY N ps (aL st))(own:Nat->Bool)(hown:∀i,i<ps.length->own i=false)(hNl:ps.length<=N.length)
 (hbody:∀(cdv:Value) (A:Around) (outer:List Env) (s:Shared) (H:Hp) (E:XK),lX k (A.deeper (envOfC x (aL st) s.heap.objs.size fad cdv))->PSs (JW CX0 P w K mg base N x (aL st) fad cdv A outer s H E).nox (cR st) (tS own fs))(hx:own rtX=false:=by rfl):uW P w K mg base (k+1) x ps.length (fnS ps.length N.length fs):=
 ⟨fad,fd,ps,aJh F S own hown hNl hbody hx,hm,F.kp,hb⟩
end
def DK(hr:lX k A):A.units+20<cLine:=Nat.lt_of_le_of_lt (Nat.add_le_add_left (by decide:20<=64) _) hr.units
structure Bt(mg:Str->Option Value):Prop where
 len:mg "len"=none
 min:mg "min"=none
 max:mg "max"=none
 list:mg "list"=none
 tuple:mg "tuple"=none
 sorted:mg "sorted"=none
 range:mg "range"=none
 isi:mg "isinstance"=none
 int:mg "int"=none
 bool:mg "bool"=none
 str:mg "str"=none
 dict:mg "dict"=none
 all:mg "all"=none
 enum:mg "enumerate"=none
 sum:mg "sum"=none
 zip:mg "zip"=none
 abs:mg "abs"=none
 reversed:mg "reversed"=none
def jJ:bootBuiltins "len"=some (.builtin "len"):=by decide +kernel
def aJi:bootBuiltins "max"=some (.builtin "max"):=by decide +kernel
def gC:bootBuiltins "isinstance"=some (.builtin "isinstance"):=by decide +kernel
def X4:bootBuiltins "list"=some (.type "list"):=by decide +kernel
def d9:bootBuiltins "tuple"=some (.type "tuple"):=by decide +kernel
def aJj:bootBuiltins "int"=some (.type "int"):=by decide +kernel
def aGb:bootBuiltins "bool"=some (.type "bool"):=by decide +kernel
def aJk:bootBuiltins "str"=some (.type "str"):=by decide +kernel
def ints_rep:∀ns:List Int,bG P H (ns.map V.int) (ns.map D.int)
 |[]=>.nil
 |n::ns=>.cons (.int n) (ints_rep ns)
end Mi
namespace Mi
open PySem L2
def X5{ns:List Int}(main:∀ns:List Int,ns.length<=63->f [.scr (ns.map D.int)]=.ok (.bl true))(hl:ns.length<=63)(hO:Only H)(hS:SqL K H a (ns.map V.int)):@spD ⟨K⟩ f 1 [.ref a] H (λv _=>v=.bl true) E:=by
 letI:KFrag:=⟨K⟩
 refine⟨[.scr (ns.map D.int)],.bl true,rfl,.cons (.frz ?_ (ints_rep ns)) .nil,main ns hl,λv H' s r n=>by cases r.inv;rfl⟩;rcases hS with (h|⟨o,h⟩)|h
 ·rcases hO a with z|⟨o,xs,z⟩
  ·rw[h] at z;cases z
  ·rw[h] at z;cases z
 ·exact .inl ⟨o,h⟩
 ·exact .inr h
open PySem.SeqAt PySem.Spec PyProof.Rows
noncomputable def max2:List D->Res D
 |[.int a,.int b]=>.ok (.int (if b > a then b else a))
 |_=>.bad
section
variable [KFrag]
def aGc(hc:X.calm=true):nQ X (.builtin "max") (rs max2 false):=by
 intro pins s σ H xs us Q I vr ⟨ds,d,r,e,k⟩;unfold max2 at e;split at e
 ·cases e;cases r with
  |cons r t=>
   cases r.inv;cases t with
   |cons r t=>
    cases r.inv;cases t;cases vr with
    |cons v vt=>
     obtain⟨t1,rfl⟩:=v;cases vt with
     |cons v vt=>
      obtain⟨t2,rfl⟩:=v;cases vt;refine max_two_ints (I.ok.hd hc) λh' tk hk=>⟨_,H,I.kept hk,?_,k.int⟩
      split
      ·exact⟨_,rfl⟩
      ·exact⟨_,rfl⟩
 ·exact bx e
end
noncomputable def uN(o:W5):D->D->Res D
 |.int a,.int b=>.ok (.bl (o.int a b))
 |.str a,.str b=>.ok (.bl (o.str a b))
 |_,_=>.bad
section
variable [KFrag]
def aGd(hi:∀(prog:Program) (w:World) (A:Around) (E:Value->Shared->Prop) (Q:Value->Shared->Prop) (s:Shared) (i j:Int) (t t':Tok),Q (.bool (o.int i j)) s->wpAny (model prog w) A (compareOp op (.int i t) (.int j t')) Q E s)
 (hs:∀(prog:Program) (w:World) (A:Around) (E:Value->Shared->Prop) (Q:Value->Shared->Prop) (s:Shared) (i j:Str) (t t':Tok),Q (.bool (o.str i j)) s->wpAny (model prog w) A (compareOp op (.str i t) (.str j t')) Q E s):OpR X (compareOp op) (r2 (uN o) true):=by
 intro pins s σ H x y v u Q I rx ry ⟨a,b,d,p,q,e,k⟩;unfold uN at e;split at e
 ·cases e;cases p.inv;cases q.inv;obtain⟨t,rfl⟩:=rx;obtain⟨t',rfl⟩:=ry;exact hi _ _ _ _ _ _ _ _ _ _ ⟨.bl _,H,I,rfl,k.bl⟩
 ·cases e;cases p.inv;cases q.inv;obtain⟨t,rfl⟩:=rx;obtain⟨t',rfl⟩:=ry;exact hs _ _ _ _ _ _ _ _ _ _ ⟨.bl _,H,I,rfl,k.bl⟩
 ·exact bx e
def aGe:OpR X (compareOp .Lt) (r2 (uN .lt) true):=aGd (λ_ _ _ _ _ _ _ _ _ _ h=>lt_int h) λ_ _ _ _ _ _ _ _ _ _ h=>lt_str h
def aNe:OpR X (compareOp .LtE) (r2 (uN .le) true):=aGd (λ_ _ _ _ _ _ _ _ _ _ h=>le_int h) λ_ _ _ _ _ _ _ _ _ _ h=>PySem.P.le_str h
def aBz:OpR X (compareOp .Gt) (r2 (uN .gt) true):=aGd (λ_ _ _ _ _ _ _ _ _ _ h=>gt_int h) λ_ _ _ _ _ _ _ _ _ _ h=>PySem.P.gt_str h
end
def xR:D->D->Res D
 |.str x,.int n=>if decide (0<=n)&&decide (n<=100000)&&decide (x.length*n.toNat<=lim) then .ok (.str (Txt.mul x n)) else .bad
 |a,b=>aU .mul a b
def inX:D->D->Res D
 |.str c,.str x=>.ok (.bl (!(Builtin.Str.occurrences x c 0 x.length 1).isEmpty))
 |a,b=>eX .isin a b
def aIc:D->Option Int->Option Int->Res D
 |.str x,lo,hi=>if decide (x.length<=lim) then .ok (.str (Txt.slice x lo hi)) else .bad
 |d,lo,hi=>aMg d lo hi
def nC(a:FE)(lo hi:List D->Res (Option Int)):FE:=λρ=>do let x <- a ρ;let l <- lo ρ;let h <- hi ρ;aIc x l h
def GX:D->Res (List D)
 |.str x=>if decide (x.length<=lim) then .ok (GQ x) else .bad
 |d=>v6 d
def bK(a:FE)(fr:Bool):FI:=λρ=>do let x <- a ρ;let xs <- GX x;pure (xs,fr||x.pure)
noncomputable def wF:List D->Option (List Str)
 |[]=>some []
 |.str x::r=>(wF r).map (x::·)
 |_::_=>none
def joinM:D->List D->Res D
 |.str sep,[.lst ds]=>match wF ds with
  |some ts=>if JoinOk sep ts then .ok (.str (Txt.join sep ts)) else .bad
  |none=>.bad
 |_,_=>.bad
variable [KFrag]
section
variable {X:Cx}
def mR:OpR X (binaryOp .Mult) (r2 xR true):=by
 intro pins s σ H x y v u Q I rx ry ⟨a,b,d,p,q,e,k⟩;by_cases hs:∃z n,a=.str z/\b=.int n
 ·obtain⟨z,n,rfl,rfl⟩:=hs;simp only[xR] at e;split at e
  ·rename_i hl;cases e;simp only[Bool.and_eq_true,decide_eq_true_eq] at hl;obtain⟨⟨h0,h1⟩,h2⟩:=hl;cases p.inv;cases q.inv;obtain⟨t,rfl⟩:=rx;obtain⟨t',rfl⟩:=ry;have hz:z.length*n.toNat<=sizeLine:=Nat.le_trans h2 (by rw[sizeLine_eq];decide);refine SB.mul ⟨?_,λh3 _=>?_,λ_ _=>?_⟩ λt2 k2=>⟨.str _,H,I.tok k2,⟨t2,rfl⟩,k.str⟩
   ·rw[decide_eq_false 0x1,decide_eq_false 0x1];rfl
   ·have hn:0<n:=by lia
    have h4:(z.length:Int)*n<=2 ^ 63-1:=by
     have h5:((z.length*n.toNat:Nat):Int)<=1000000:=by
      have:lim=1000000:=by unfold lim;exact Eq.refl _
      lia
     rw[Int.natCast_mul,Int.toNat_of_nonneg h0] at h5;lia
    have h6:=(Int.le_ediv_iff_mul_le hn).mpr h4;lia
   ·unfold Builtin.Str.tooLong;exact decide_eq_false 0x1
  ·exact bx e
 ·have he:xR a b=aU .mul a b:=by
   unfold xR;split
   ·exact absurd ⟨_,_,rfl,rfl⟩ hs
   ·rfl
  rw[he] at e;exact aJa pins s σ H x y v u Q I rx ry ⟨a,b,d,p,q,e,k⟩
def QL(hu:X.A.units+20<cLine):OpR X (compareOp .In) (r2 inX true):=by
 intro pins s σ H x y v u Q I rx ry ⟨a,b,d,p,q,e,k⟩;by_cases hs:∃z n,a=.str z/\b=.str n
 ·obtain⟨z,n,rfl,rfl⟩:=hs;cases e;cases p.inv;cases q.inv;exact V4 pins s σ H _ _ v u Q I rx ry ⟨_,_,rfl,rfl,k.bl⟩
 ·have he:inX a b=eX .isin a b:=by
   unfold inX;split
   ·exact absurd ⟨_,_,rfl,rfl⟩ hs
   ·rfl
  rw[he] at e;exact aN8 hu pins s σ H x y v u Q I rx ry ⟨a,b,d,p,q,e,k⟩
def part_of(h:IsPart v o):∃l:Option (Int×Tok),partValue l=v/\l.map (·.1)=o:=by
 cases h with
 |none=>exact⟨none,rfl,rfl⟩
 |int i t=>exact⟨some (i,t),rfl,rfl⟩
def aJl(hK:KFrag.K=X.K):SlR X (λx lo hi H Q=>∃a d,Rep All H x a/\aIc a lo hi=.ok d/\kR H d true Q):=by
 intro pins s σ H x v vl vu lo hi sl Q I rx hs pl pu ⟨a,d,p,e,k⟩;by_cases hz:∃z,a=.str z
 ·obtain⟨z,rfl⟩:=hz;simp only[aIc] at e;split at e
  ·rename_i hl;cases e;cases p.inv;obtain⟨t,rfl⟩:=rx;obtain⟨l,e1,e2⟩:=part_of pl;obtain⟨m,e3,e4⟩:=part_of pu;subst e1 e2 e3 e4;refine⟨"str",_,F.slot_str_getitem.lookup,typeIs_str _ _ _,?_⟩;obtain⟨o,ho,hc,hd⟩:=hs;refine wpAny_getItem_str_slice (st:=none) ⟨o,ho,hc,hd⟩ rfl ?_;have hle:(Txt.slice z (l.map (·.1)) (m.map (·.1))).length<=sizeLine:=Nat.le_trans (Txt.slice_le ..) (lD hl);have q:∀(t':Tok)(k2:Nat),EP X pins σ Q (.str (Txt.slice z (l.map (·.1)) (m.map (·.1))) t') {s with toks:=k2}:=λt' k2=>⟨.str _,H,I.tok k2,⟨t',rfl⟩,k.str⟩
   show Made.post (if ((1:Int)==1&&(Builtin.Str.strSliceIndices (l.map (·.1)) (m.map (·.1)) 1 z.length).length==z.length)=true then .val (.str z t) else .str ⟨((Builtin.Str.strSliceIndices (l.map (·.1)) (m.map (·.1)) 1 z.length).filterMap (z.cps[·]?)).toArray⟩) _ s;unfold Txt.slice at hle q;split
   ·rename_i hh;have:=q t s.toks;rw[if_pos hh] at this;exact this
   ·rename_i hh;rw[if_neg hh] at hle;have:=q s.toks (s.toks+1);rw[if_neg hh] at this;exact⟨hle,this⟩
  ·exact bx e
 ·have he:aIc a lo hi=aMg a lo hi:=by
   unfold aIc;split
   ·exact absurd ⟨_,rfl⟩ hz
   ·rfl
  rw[he] at e;exact aNa hK pins s σ H x v vl vu lo hi sl Q I rx hs pl pu ⟨a,d,p,e,k⟩
theorem lV{lo hi:Option Expr}(hK:KFrag.K=X.K)(he:PE X e (gE fe re))(hl:PO X lo (gO fl))(hh:PO X hi (gO fh)):PE X (.Subscript e (.Slice lo hi none p2) pos) (gE (nC fe fl fh) true):=
 PE.imp (aBh (aJl hK) he hl hh) λσ H Q ⟨ρ,d,E,h,q⟩=>by
  obtain⟨x,h1,h⟩:=aY h;obtain⟨l,h2,h⟩:=aY h;obtain⟨u,h3,h⟩:=aY h;exact⟨ρ,x,E,h1,λv H1 s1 r1 _=>⟨ρ,l,E.same s1,h2,λH2 s2=>⟨ρ,u,E.same (s1.trans s2),h3,λH3 s3=>⟨x,d,r1.same (s2.trans s3),h,q.imp ((s1.trans s2).trans s3) id⟩⟩⟩⟩
theorem QM:∀{xs:List V}{ds:List D}{its:List Value}{ts:List Str},bG P H xs ds->Vals xs its->wF ds=some ts->∃l:List (Str×Tok),its=strValues l/\l.map (·.1)=ts
 |[],[],[],_,_,_,h=>by cases h;exact⟨[],rfl,rfl⟩
 |_,_,_,_,.cons (d:=d) r t,.cons rv tv,h=>by
  cases d with
  |str z=>
   obtain⟨ts,h1,h2⟩:=Option.map_eq_some_iff.mp h;cases r.inv;obtain⟨tk,rfl⟩:=rv;obtain⟨l,e1,e2⟩:=QM t tv h1;refine⟨(z,tk)::l,?_,?_⟩
   ·rw[e1];rfl
   ·rw[<-h2,<-e2];rfl
  |_=>simp only[wF] at h;cases h
def aGf:MtR X "str.join" (rm joinM true):=by
 intro pins s σ H x xs v us Q I rv vr ⟨a,ds,d,ra,rs,h,k⟩;unfold joinM at h;split at h
 ·split at h
  ·rename_i ts hts;split at h
   ·rename_i hok;cases h;obtain⟨vv,uu,rfl,rfl,r,rk⟩:=j8 rs vr;obtain⟨l,ys,rfl,hl,rr⟩:=r.j6;cases rk;cases ra.inv;obtain⟨t,rfl⟩:=rv;obtain⟨its,vr',pl⟩:=mO I hl;obtain⟨l2,e1,e2⟩:=QM rr vr' hts;subst e1;exact SC.join pl e2 hok λt' k2=>⟨.str _,H,I.tok k2,⟨t',rfl⟩,k.str⟩
   ·exact bx h
  ·exact bx h
 ·exact bx h
def aC0(h:joinM d ds=.ok r)(rp:Rep All H v d):tyV X.K "str" v H:=by
 have:∃z,d=.str z:=by
  unfold joinM at h;split at h
  ·exact⟨_,rfl⟩
  ·exact bx h
 obtain⟨z,rfl⟩:=this;cases rp.inv;rfl
theorem aC1{K:PySem.W.Frag}(x:Str)(t:Tok)(it:Addr):Turn P w K tg (aNb x) [it] it (λi h=>h.IsStrIter it (strIterType x) x t i) where
 mem:=by simp
 obj:=λi h st b hb=>by
  have e:b=it:=by simpa using hb
  subst e;obtain⟨o,e,c,d⟩:=st;exact⟨o,e,λv z=>by rw[d] at z;cases z⟩
 keep:=λi h h' st k=>by
  obtain⟨o,e,r⟩:=st;exact⟨o,k it 0x2 o e,r⟩
 item:=by
  intro Y hP hw hK hc i pins s σ H E I hf st hg;subst hP hw hK;obtain⟨f0,f1,f2,f3,f4,f5⟩:=hf it 0x2;have hx:x.cps[i]?=some x.cps[i]:=Array.getElem?_eq_getElem hg;have fin:∀(h':Heap)(ty:String),(["enumerate","zip","dict_itemiterator","dict_reverseitemiterator","odict_iterator","itertools.zip_longest","itertools.pairwise"].contains ty=false)->strIterType x=ty->h'.IsStrIter it ty x t (i+1)->Heap.SameBut it s.heap h'->
    ∃u,some (Value.str ⟨#[x.cps[i]]⟩ s.toks)=some u/\wpAny (model Y.prog Y.w) Y.A (letOwnedTupleGo tg (.ref it) u) (λ_ s2=>∃v H',Inv Y pins σ H' s2/\RelV v u/\(aNb x).yld i H v H'/\s2.heap.IsStrIter it (strIterType x) x t (i+1)/\∀b∈[it],H' b=none) E {s with heap:=h',toks:=s.toks+1}:=by
   intro h' ty hn hty st' sb;have I1:Inv Y pins σ H {s with heap:=h',toks:=s.toks+1}:=I.turned (λb o hb e=>(sb.2 b hb).trans e) f0 f1 f3 f4 f5;obtain⟨o,e,c,d⟩:=id st';exact⟨_,rfl,aBb e c d hn ⟨.str ⟨#[x.cps[i]]⟩,H,I1,⟨_,rfl⟩,⟨rfl,_,hx,rfl⟩,by rw[hty];exact st',λb hb=>(hf b hb).1⟩⟩
  cases ha:x.cps.all (·<128)
  ·have hty:strIterType x="str_iterator":=by simp[strIterType,ha]
   rw[hty] at st;exact wpAny_pyNext_wide_item st hx λh' st' sb=>fin h' _ 0x4 hty st' sb
  ·have hty:strIterType x="str_ascii_iterator":=by simp[strIterType,ha]
   rw[hty] at st;exact wpAny_pyNext_ascii_item st hx λh' st' sb=>fin h' _ 0x4 hty st' sb
 done:=by
  intro Y hP hw hK hc i pins s σ H E I hf st hg;subst hP hw hK;obtain⟨f0,f1,f2,f3,f4,f5⟩:=hf it 0x2;have hx:x.cps[i]?=none:=Array.getElem?_eq_none hg;cases ha:x.cps.all (·<128)
  ·have hty:strIterType x="str_iterator":=by simp[strIterType,ha]
   rw[hty] at st;exact wpAny_pyNext_wide_end (I.ok.hd hc) st hx λh' eb=>⟨rfl,I.turned (λb o hb e=>eb b o hb e) f0 f1 f3 f4 f5⟩
  ·have hty:strIterType x="str_ascii_iterator":=by simp[strIterType,ha]
   rw[hty] at st;exact wpAny_pyNext_ascii_end (I.ok.hd hc) st hx λh' eb=>⟨rfl,I.turned (λb o hb e=>eb b o hb e) f0 f1 f3 f4 f5⟩
 self:=λ_ _ _ _ _ st h=>by
  cases ha:x.cps.all (·<128)
  ·have hty:strIterType x="str_iterator":=by simp[strIterType,ha]
   rw[hty] at st;exact wpAny_pyIter_striter_wide st h
  ·have hty:strIterType x="str_ascii_iterator":=by simp[strIterType,ha]
   rw[hty] at st;exact wpAny_pyIter_striter_ascii st h
section
def X6(I1:Inv X pins σ H1 s1)(r:Rep All H1 v d)(ru:RelV v u)(hi:GX d=.ok items)
 (q:∀J,(∀P:Addr->Prop,Rep P H1 v d->ItQ X.K P J H1 items)->R J H1):wpAny (model X.prog X.w) X.A (pyIter u) (PIE X pins σ tg R) X.xe s1:=by
 by_cases hz:∃z,d=.str z
 ·obtain⟨z,rfl⟩:=hz;simp only[GX] at hi;split at hi
  ·cases hi;cases r.inv;obtain⟨t,rfl⟩:=ru;refine wpAny_pyIter_strU ?_;refine⟨s1.heap.objs.size,[s1.heap.objs.size],_,_,H1,rfl,I1.kept λb o e=>Heap.get?_push_of_some _ e,aC1 z t _,⟨_,Heap.get?_push_size _ rfl,rfl,rfl⟩,λb hb=>?_,q _ λP r=>.chs z rfl rfl⟩;have e:b=s1.heap.objs.size:=by simpa using hb
   subst e;exact I1.aIr (Nat.le_refl _) (I1.hok.fresh (Nat.le_refl _))
  ·exact bx hi
 ·have he:GX d=v6 d:=by
   unfold GX;split
   ·exact absurd ⟨_,rfl⟩ hz
   ·rfl
  rw[he] at hi;exact QG I1 r ru hi q
def eU(hl:PE X l (gE fl rl)):PI X tg l (gI X.K (bK fl rl)):=by
 intro pins s σ H R I ⟨ρ,items,k,E,h,q⟩;obtain⟨d,h1,h⟩:=aY h;obtain⟨its,h2,h⟩:=aY h;cases h;refine thn (hl pins s σ H _ I ⟨ρ,d,E,h1,λv H1 s1 r1 n1=>(show(∃d',Rep All H1 v d/\d'=d/\∀J,(∀P:Addr->Prop,Rep P H1 v d->ItQ X.K P J H1 items)->R J H1) from ⟨d,r1,rfl,λJ hJ=>q J H1 s1 (hJ _ r1) λhk=>hJ _ ?_⟩)⟩) λu s1 ⟨v,H1,I1,ru,d',r1,e,q1⟩=>X6 I1 r1 ru h2 q1
 rw[Bool.or_eq_true] at hk;rcases hk with hk|hk
 ·exact n1 hk
 ·exact r1.bN hk
def K6{ch:List Addr}{a:Addr}(I:Inv X pins σ H s)(k:∀b u,b∉ch->s.heap.get? b=some u->h'.get? b=some u)(hf:∀b∈ch,U_ X pins H b)(hp:s.heap.objs.size<=a)
 (new:gQ X.prog X.w (upd H a o) h' a o):Inv X pins σ (upd H a o) {s with heap:=h',toks:=t'}:=by
 have hn:H a=none:=I.hok.fresh hp;have nch:∀b u,H b=some u->b∉ch:=λb u e z=>by rw[(hf b z).1] at e;cases e
 have kU:∀b u,H b=some u->upd H a o b=some u:=λb u e=>by rw[aR (bI e hn)];exact e
 refine I.step (λb hb=>?_) (λb u _ _ hc e _=>k b u hc e) (λb u _ _ hc e _=>⟨u.slots,k b u hc e⟩) (λb u _ e n=>?_)
  (λb u hc e=>⟨u,k b u hc e⟩) (λb xs e=>kU b _ e) (λb u v e=>kU b _ e) (λb ps e=>⟨#[],by rw[kU b _ e];simp⟩) (λm hm=>?_) (λb u e=>?_) I.bare
 ·obtain⟨_,f1,_,f3,f4,f5⟩:=hf b hb;exact⟨f3,f1,f4,f5⟩
 ·rw[aR (λz=>absurd (Nat.lt_of_lt_of_le (Heap.lt_size e) hp) (by rw[z];exact Nat.lt_irrefl _))];exact n
 ·obtain⟨u,es,ep,hu,r⟩:=hm;exact⟨u,es,ep,k _ u (λz=>(hf _ z).2.1 rfl) hu,r⟩
 ·by_cases hb:b=a
  ·subst hb;rw[aH] at e;cases e;exact new
  ·rw[aR hb] at e;refine(I.hok b u e).stay (λc v hc q=>k c v ?_ q) (λc q=>kU c _ q) λc xs q=>kU c _ q
   rcases hc with z|z
   ·rw[z];exact nch b u e
   ·exact nch c _ z
end
end
end Mi
namespace Mi
open PySem L2
def bF:lim=1000000:=by unfold lim;exact Eq.refl _
def X7(h:ρ.length=n):PJ n ρ=ρ:=by
 subst h;apply List.ext_getElem
 ·simp[PJ]
 ·intro i h1 h2;simp[PJ,h2]
def sJ(h:ds.length=n):mD n f ds=f ds:=by
 unfold mD;rw[if_pos (by simp[h])]
def aK(h1:a ρ=.ok x)(h2:b ρ=.ok y)(h3:f x y=.ok z):b2 f a b ρ=.ok z:=by
 unfold b2;rw[h1,Res.aO,h2,Res.aO,h3]
def cZ(h:f ρ=.ok d):bW false i f true ρ=.ok (.nx (ρ.set i d)):=by
 unfold bW;rw[h,Res.aO];rfl
def jK(h:f ρ=.ok d)(hp:d.pure=true):bW false i f false ρ=.ok (.nx (ρ.set i d)):=by
 unfold bW;rw[h,Res.aO];simp only[hp,Bool.false_or,Bool.false_eq_true,if_false,if_true]
def fK(h:f ρ=.ok d)(hp:inner d=true):bW true i f true ρ=.ok (.nx (ρ.set i d)):=by
 unfold bW;rw[h,Res.aO];simp only[hp,Bool.and_self,if_true]
def aM(h1:f ρ=.ok (.nx ρ'))(h2:g ρ'=r):bB f g ρ=r:=by
 unfold bB;rw[h1,Res.aO];exact h2
def aJm(h1:c ρ=.ok k)(h2:(if k then f ρ else g ρ)=r):sIf c f g ρ=r:=by
 unfold sIf;rw[h1,Res.aO];exact h2
def VF(h1:c ρ=.ok true)(h2:f ρ=r):sIf c f g ρ=r:=aJm h1 (by rw[if_pos rfl];exact h2)
def xT(h1:c ρ=.ok false)(h2:g ρ=r):sIf c f g ρ=r:=aJm h1 (by rw[if_neg 0x2];exact h2)
def e_(h1:f ρ=.ok (.bl k)):bTB f ρ=.ok k:=by
 unfold bTB;rw[h1,Res.aO];rfl
def aJn(h1:a ρ=.ok true)(h2:b ρ=r):aBq a b ρ=r:=by
 unfold aBq;rw[h1,Res.aO,if_pos rfl,h2]
def aJo(h1:a ρ=.ok false):aBq a b ρ=.ok false:=by
 unfold aBq;rw[h1,Res.aO,if_neg 0x2];rfl
def aD(h1:a ρ=.ok x)(h2:b ρ=.ok xs):aB a b ρ=.ok (x::xs):=by
 unfold aB;rw[h1,Res.aO,h2,Res.aO];rfl
def bO(h1:a ρ=.ok xs)(h2:f xs=.ok d):aV f a ρ=.ok d:=by
 unfold aV;rw[h1,Res.aO,h2]
def fB(h:a ρ=.ok xs)(hl:xs.length<=lim):fW a ρ=.ok (.tup xs):=by
 unfold fW;rw[h,Res.aO,if_pos (decide_eq_true hl)];rfl
def wG(h:f ρ=.ok d)(hp:(k||d.pure)=true):nU f k ρ=.ok (.rt d):=by
 unfold nU;rw[h,Res.aO,if_pos hp]
def yJ(h1:it ρ=.ok (xs,true))(h2:vA t body xs ρ=r):VD it t body ρ=r:=by
 unfold VD;rw[h1,Res.aO];exact h2
def zX(h1:cO i ρ=.ok d)(h2:v6 d=.ok xs)(h3:vA t body xs ρ=r):uV i t body ρ=r:=by
 unfold uV;rw[h1,Res.aO,h2,Res.aO];exact h3
def wH(h:f ρ=.ok [.int n])(h1:0<=n)(h2:n<=1000000):jW f iK ρ=.ok ((List.range n.toNat).map λ(k:Nat)=>D.int (0+(k:Int)),true):=by
 unfold jW;rw[h,Res.aO];have:nR n=true:=by
  simp only[nR,Bool.and_eq_true,decide_eq_true_eq];lia
 simp only[iK,this,if_true]
def QR(h1:g ρ=.ok d)(h2:f ρ=.ok k)(h3:ρ.getD i .uD=.dct kvs)(h4:kvs.length<lim)(h5:uK kvs k=true)(h6:d.pure=true):W8 i f g ρ=.ok (.nx (ρ.set i (.dct (putD kvs k d)))):=by
 unfold W8;rw[h1,Res.aO,h2,Res.aO,h3];simp only[decide_eq_true h4,h5,h6,Bool.and_self,if_true]
def uO(h1:f ρ=.ok d)(h3:ρ.getD i .uD=.lst xs)(h4:xs.length<lim)(h5:d.pure=true):zL i f ρ=.ok (.nx (ρ.set i (.lst (xs++[d])))):=by
 unfold zL;rw[h1,Res.aO,h3];simp only[decide_eq_true h4,h5,Bool.and_self,if_true]
def dB(h1:t x ρ=.ok ρ1)(h2:body ρ1=.ok (.nx ρ2))(h3:vA t body xs ρ2=r):vA t body (x::xs) ρ=r:=by
 rw[vA,h1,Res.aO,h2,Res.aO];exact h3
def K7(h1:it ρ=.ok (xs,kk))(h2:xs.length<=lim)(h3:nT (FQ n t c f k ρ) [] xs=.ok ys):cJ n it t c f k ρ=.ok (.lst ys):=by
 unfold cJ;rw[h1,Res.aO];simp only[decide_eq_true h2,if_true];rw[h3];rfl
def wI(hρ:ρ.length=n)(h1:c (ρ++[x])=.ok b)(h2:b=true->f (ρ++[x])=.ok y/\(k||y.pure)=true):FQ n jT c f k ρ acc x=.ok (if b then acc++[y] else acc):=by
 unfold FQ;show(do let ok <- c (PJ n ρ++[x]);_)=_;rw[X7 hρ,h1,Res.aO];cases b with
 |true=>
  obtain⟨e1,e2⟩:=h2 rfl;rw[if_pos rfl,e1,Res.aO,if_pos e2,if_pos rfl];rfl
 |false=>
  rw[if_neg 0x2,if_neg 0x2];rfl
def dW(a b:Int):aU .add (.int a) (.int b)=.ok (.int (a+b)):=rfl
def GZ(a b:Int):aU .sub (.int a) (.int b)=.ok (.int (a-b)):=rfl
def aJp(a b:Int)(h:iV b=true):aU .mul (.int a) (.int b)=.ok (.int (a*b)):=by
 show(if iV a||iV b then Res.ok (D.int (a*b)) else .bad)=_;rw[h,Bool.or_true,if_pos rfl]
def dM(a b:Int)(h1:0<b)(h2:b<1073741824):aU .fdiv (.int a) (.int b)=.ok (.int (a / b)):=by
 show(if decide (0<b)&&decide (b<1073741824) then Res.ok (D.int (a / b)) else .bad)=_;rw[decide_eq_true h1,decide_eq_true h2,Bool.and_self,if_pos rfl]
def b_(a b:Int)(h1:0<b):aU .mod (.int a) (.int b)=.ok (.int (a % b)):=by
 show(if decide (0<b) then Res.ok (D.int (a % b)) else .bad)=_;rw[decide_eq_true h1,if_pos rfl]
def QS(a:Int)(h1:-1000000<=a)(h2:a<=1000000):iV a=true:=by
 simp only[iV,Bool.and_eq_true,decide_eq_true_eq];lia
def X8(a b:Str)(h:a.length+b.length<=lim):aU .add (.str a) (.str b)=.ok (.str (a++b)):=by
 show(if decide (a.length+b.length<=lim) then Res.ok (D.str (a++b)) else .bad)=_;rw[decide_eq_true h,if_pos rfl]
def K8(a b:List D)(h:a.length+b.length<=lim)(ha:D.aJ a=true)(hb:D.aJ b=true):aU .add (.lst a) (.lst b)=.ok (.lst (a++b)):=by
 show(if decide (a.length+b.length<=lim)&&D.aJ a&&D.aJ b then Res.ok (D.lst (a++b)) else .bad)=_;rw[decide_eq_true h,ha,hb,Bool.and_self,Bool.and_self,if_pos rfl]
def sO(S:List Int):D.aJ (S.map D.int)=true:=by
 induction S with
 |nil=>rfl
 |cons q Q ih=>rw[List.map_cons,D.aJ,ih];rfl
def aGg(ns:List Int)(lo hi:Option Int):cutD (ns.map D.int) lo hi=(cutD ns lo hi).map D.int:=by
 unfold cutD;rw[List.length_map,List.map_take,List.map_drop]
open PySem.SeqAt PySem.Spec PyProof.Rows
def K9(x:gQ P w H h a o):∃ob,h.get? a=some ob:=by
 cases o with
 |lst xs=>obtain⟨_,_,_,_,e⟩:=x;exact⟨_,e⟩
 |tup xs=>obtain⟨_,_,_,_,e,_⟩:=x;exact⟨_,e⟩
 |dK kvs=>obtain⟨_,_,_,_,o,_,_,e,_⟩:=x;exact⟨_,e⟩
 |dT kvs=>obtain⟨_,_,_,_,o,_,_,e,_⟩:=x;exact⟨_,e⟩
 |set S n=>obtain⟨o,_,_,_,e,_⟩:=x;exact⟨_,e⟩
 |ins C dx fs=>obtain⟨_,_,_,e,_⟩:=x;exact⟨_,e⟩
 |own y=>exact x
 |xd fs=>obtain⟨_,⟨_,_,_,e,_⟩,_⟩:=x;exact⟨_,e⟩
 |rng lo hi=>obtain⟨_,_,_,e⟩:=x;exact⟨_,e⟩
 |frz ob u=>obtain⟨e,_⟩:=x;exact⟨_,e⟩
 |tbl ps=>exact⟨_,show h.get? a=some _ from x⟩
 |met f y=>exact⟨_,show h.get? a=some _ from x⟩
 |ext φ=>obtain⟨_,e,_⟩:=x;exact e
def aGh{K:PySem.W.Frag}(X:K.In h)(q:PySem.W.excIn K C bmB newId=true) :
  ∃bm N nm qn bs hdct sn sub ab col dd k0 k1 k2 k3 k5 mN,h.get? C=some (excClassObj nm qn C N bs bm hdct sn sub ab col dd k0 k1 k2 k3 k5 newId)/\h.Ns N mN/\mN "__init__"=none/\OwnTail h bmB bm:=by
 unfold PySem.W.excIn at q;split at q
 ·rename_i dd cd sl ho;split at q
  ·rename_i C' bm k0 k1 k2 k3 n k5 hm hs;rw[Bool.and_eq_true,Bool.and_eq_true,Bool.and_eq_true,Bool.and_eq_true,Bool.and_eq_true] at q;obtain⟨⟨⟨⟨⟨q1,q2⟩,q3⟩,q4⟩,q5⟩,q6⟩:=q;have q1:=beq_iff_eq.mp q1;have q2:=beq_iff_eq.mp q2;rw[Bool.not_eq_true'] at q3;subst q1 q2;obtain⟨nm,bs,mro,ns,qn,hd,sn,sub,ab,col,del⟩:=cd;obtain⟨l⟩:=sl;dsimp only at hm q3 q5 q6 hs;subst hm q3 hs;exact⟨bm,ns,nm,qn,bs,hd,sn,sub,ab,col,dd,k0,k1,k2,k3,k5,_,X _ _ ho,.of_isNs (PySem.W.isNs_of_in X q5),PySem.W.nsMap_none_of_in X q5 (beq_iff_eq.mp q6),PySem.W.tail_of_in X q4⟩
  ·cases q
 ·cases q
abbrev aNf:List Value:=[.type "ValueError",.type "Exception",.type "BaseException",.type "object"]
def aC2(hc:X.calm=true)(hg:Gl X x)(hm:X.mg x=some (.ref C))(hq:PySem.W.excIn X.K C aNf "ValueError.__new__"=true)(ha:PA X [e] ta)
 (he:starEach [e] X.env=[(false,eval e X.env)]:=by rfl)(hd:nDb x:=by decide) :
  PS X (.Raise (some (.Call (.Name x np) [e] [] cpos)) none pos) (λD σ H=>ta σ H λvs H1=>vs.length<=sizeLine/\∀(pins:List (Addr×Obj))(s:Shared)(h2:Heap)(a:Addr)(us:List Value),Inv X pins σ H1 s->Heap.MadeExcOf s.heap h2 a (.ref C) us->X.xe (.ref a) {s with heap:=h2}):=by
 intro pins s σ H D I h;obtain⟨bm,N,nm,qn,bs,hdct,sn,sub,ab,col,dd,k0,k1,k2,k3,k5,mN,hC,hN,hni,T⟩:=aGh I.mod.kin hq;refine wpAny_Raise_call_subT (nm:=nm) (q:=qn) (N:=N) (bs:=bs) (bm:=bm) (hdct:=hdct) (sn:=sn) (sub:=sub) (ab:=ab) (col:=col) (dd:=dd) (k0:=k0) (k1:=k1) (k2:=k2) (k3:=k3) (k5:=k5)
  PySem.F.excBase_ValueError (mN:=mN) (T.hasType PySem.F.excBase_ValueError.hasBase) (I.ok.hd hc) (by rw[he];rfl) hni (p_ I hg hm ⟨rfl,?_⟩ hd)
 rw[he];have h':=ha cpos pins s σ H _ I h;rw[he] at h';refine Calls.evalArgs_plain (wpAny_mono h' (λus s2 ⟨vs,H1,I1,r,hl,hx⟩=>⟨rfl,by rw[<-r.length];exact hl,I1.bk _ _ hC,hN.keeps I1.bk,T.keeps I1.bk,λh2 a hm=>hx pins s2 h2 a us I1 hm⟩) λ_ _ y=>y)
open PySem.W PySem.Builtin PySem.Builtin.ObjectAttr PySem.Builtin.Getset_descriptor
def ExcAt(a C:Addr)(h:Heap):Prop:=∃o,h.get? a=some o/\o.cls=.ref C
structure XC(K:Frag)(C:Addr):Prop where
 cl:(clsIn K C).isSome=true
 ga:findIn K (.ref C) "__getattribute__"=some (some (.builtin "BaseException.__getattribute__"))
 gh:findIn K (.ref C) "__getattr__"=some none
 kc:findIn K (.ref C) "__class__"=some (some (.builtin "object.__class__"))
 kg:specialIn K (.builtin "object.__class__") "__get__"=some (some (.builtin "getset_descriptor.__get__"))
 kt:takesIn K (.builtin "object.__class__")=some true
 ob:mroIn K C (.type "object")=some true
 be:mroIn K C (.type "BaseException")=some true
section
variable {prog:Program} {w:World} {A:Around} {E:Value->Shared->Prop} {s:Shared} {K:Frag} {x C:Addr}
def G3(p:ExcAt x C h):Looks M h (typeOf (.ref x)) (.ref C):=by
 obtain⟨o,h1,h2⟩:=p;rw[<-h2];exact(Looks.ld h1).andThen .now
def aC3(X:K.In h)(c:XC K C):Looks M h (find (.ref x) (.ref C) "__class__") (.bind (.builtin "getset_descriptor.__get__") (.builtin "object.__class__")):=by
 refine(looks_findIn X c.kc).andThen ((looks_specialIn X c.kg).andThen ?_);have L:Looks M h (dataDescriptor? (some (.builtin "object.__class__")) (some (.builtin "getset_descriptor.__get__"))) (some (.builtin "getset_descriptor.__get__",.builtin "object.__class__")):=(looks_takesIn X c.kt).andThen .now;exact L.andThen (Looks.tag .now)
def aGi(X:K.In s.heap)(p:ExcAt x C s.heap)(c:XC K C)(h:R (.ok (.ret (.ref C))) s) :
  codeAny (model prog w) A (.call (.builtin "getset_descriptor.__get__") ⟨[.builtin "object.__class__",.ref x,tp],[]⟩) R s:=by
 obtain⟨hh,g,d,t,os⟩:=s;have L0:=G3 (M:=model prog w) p;have L1:=looks_mroIn (M:=model prog w) X c.ob;refine codeAny_call_builtin KF.slot_gs.plain KF.entry_gs (KF.slot_gs.check _ _ _ _ _ _ _ _ KF.type_class (KF.args_gs _ _ _) ?_)
 (unfold Builtin.«getset_descriptor.__get__» descrGet;rw[dga_obj];refine wpAny_bind (wpAny_pure ?_);unfold descrGetter descrCheckInstance descrNameAndClass isInstance;simp only[KF.owner_class])
 repeat lk
 refine⟨Code.quiet_builtin _ 0x6,codeAny_builtin KF.entry_class ?_⟩
 (unfold Builtin.«object.__class__» shownTypeOf;repeat lk)
 exact h
def X_(X:K.In s.heap)(p:ExcAt x C s.heap)(c:XC K C)(h:Q (.done (.ret (.ref C))) s) :
  wpAny (model prog w) A (Builtin.«object.__getattribute__» ⟨[.ref x,.str "__class__" tk],[]⟩) Q E s:=by
 obtain⟨hh,g,d,t,os⟩:=s;have L0:=G3 (M:=model prog w) p;have L1:=aC3 (M:=model prog w) (x:=x) X c;unfold Builtin.«object.__getattribute__»;refine wpAny_bind (wpAny_pure ?_);refine wpAny_bind (wpAny_pure ?_);refine wpAny_bind (L0.at (wpAny_bind (L1.at ?_)));show wpAny _ _ (holding [_] (call _ [_,.ref x,.ref C]) >>= ret) _ _ _;exact wpAny_bind (wpAny_holding (wpAny_call (aGi X p c (wpAny_pure h))))
def YB(X:K.In s.heap)(p:ExcAt x C s.heap)(c:XC K C)(h:Q () s):wpAny M A (checkBuiltinCall "BaseException.__getattribute__" ⟨[.ref x,nv],[]⟩) Q E s:=by
 obtain⟨hh,g,d,t,os⟩:=s;have L0:Looks M hh (isInstance (.ref x) (.type "BaseException")) true:=(G3 p).andThen (looks_mroIn X c.be);have e1:builtinKind "BaseException.__getattribute__"=some .slot:=by decide +kernel
 have e2:splitId "BaseException.__getattribute__"=some ("BaseException","__getattribute__"):=by decide +kernel
 have ha:=F.args_bexc_ga (.ref x) nv;simp only[checkBuiltinCall,e1,e2];refine wpAny_bind (L0.at ?_)
 repeat (any_goals (first|assumption|wp_step))
def aGj(X:K.In s.heap)(p:ExcAt x C s.heap)(c:XC K C)(h:Q (some (.ref C)) {s with toks:=s.toks+1}):wpAny (model prog w) A (getAttr? (.ref x) "__class__") Q E s:=by
 obtain⟨hh,g,d,t,os⟩:=s;have L0:=G3 (M:=model prog w) p;have L1:=looks_findIn (M:=model prog w) X c.ga;have L2:=looks_findIn (M:=model prog w) X c.gh;have e2:(Value.builtin "BaseException.__getattribute__"==Value.builtin "object.__getattribute__")=false:=by decide +kernel
 have e1:(onTheHeap (Value.ref C)&&Value.builtin "BaseException.__getattribute__"==Value.builtin "object.__getattribute__")=false:=by rw[e2];rfl
 unfold getAttr? getAttrBy? getAttrBy;refine wpAny_bind (wpAny_mkText (wpAny_bind (wpAny_attempt (wpAny_holding (wpAny_bind (L0.at (wpAny_bind (L1.at ?_))))))));dsimp only;rw[e1,if_neg 0x4];unfold getAttrByItsOwn hookBefore callGetattribute boundAndCalled;rw[if_pos (show onTheHeap (Value.ref C)=true from rfl)];refine wpAny_bind (L2.at (wpAny_bind (wpAny_attempt (wpAny_holding ?_))));rw[if_neg 0x4];refine wpAny_bind (wpAny_of_eq (F.excAttr_ValueError.ga.bind (.ref x)) ?_);refine wpAny_call (codeAny_call_builtin F.excAttr_ValueError.ga.plain F.entry_bexc_ga (YB (K:=K) (C:=C) X p c (X_ (K:=K) (C:=C) X p c ?_)));show wpAny _ _ (handedOut (.ref C)) _ _ _;exact wpAny_pure (wpAny_pure h)
def aC4(c:XC K C):KitX K (.ref x) (.ref C) (ExcAt x C) where
 ty:=λ_ _ _ p=>G3 p
 it:=λM h X _=>by
  obtain⟨cd,hc⟩:=Option.isSome_iff_exists.mp c.cl;unfold clsIn at hc;split at hc
  ·rename_i ho;intro A' Q' E' s' k q
   (unfold isType loadHead;exact wpAny_bind (wpAny_loadPart (k _ _ (X _ _ ho)) (wpAny_pure q)))
  ·cases hc
 ne:=λh tp dd its n sl X e=>by
  obtain⟨cd,hc⟩:=Option.isSome_iff_exists.mp c.cl;unfold clsIn at hc;split at hc
  ·rename_i ho;refine Bool.eq_false_iff.mpr λq=>?_
   have z:C=tp:=Value.ref.inj (beq_iff_eq.mp q);subst z;cases (X _ _ ho).symm.trans e
  ·cases hc
 ca:=λX p h=>aGj X p c h
end
end Mi
namespace Mi
open PySem L2 PySem.W PySem.SeqAt PySem.Spec PyProof.Rows
noncomputable abbrev mrk(X:Cx)(v:Value):Cx:={X with A:=X.A.mark (some v),calm:=false}
section
def YC(I:Inv X pins σ H s)(v:Value):Inv (mrk X v) pins σ H s:=
 ⟨⟨I.ok.mod,I.ok.kind,I.ok.glob,I.ok.blt,I.ok.above,I.ok.inj,I.ok.has,I.ok.cab,(λz=>nomatch z),I.ok.frames,I.ok.stk,I.ok.exf,I.ok.bs,I.ok.bsz,I.ok.noex,I.ok.exfs,I.ok.R4,I.ok.frf⟩,I.os,I.bare,I.base,I.loc,I.cell,I.free,I.freeC,I.pin,I.hok,I.len⟩
def YD(ok:X.Ok)(I:Inv (mrk X v) pins σ H s):Inv X pins σ H s:=
 ⟨ok,I.os,I.bare,I.base,I.loc,I.cell,I.free,I.freeC,I.pin,I.hok,I.len⟩
def aJq(u:Un fs [] H H2 h h6)(hg:h.get? a=none)(hn:H2 a=none):Un fs [] H (upd H2 a o) h h6:=by
 have ne:∀b ob,h.get? b=some ob->b≠a:=λb ob q z=>by rw[z,hg] at q;cases q
 refine⟨u.keep,u.slot,λb ob q n hx=>by rw[aR (ne b ob q)];exact u.free b ob q n hx,u.there,λb xs q=>?_,λb ob xs q=>?_,λb ps q=>?_⟩
 ·have z:=u.tups b xs q;rw[aR (bI z hn)];exact z
 ·have z:=u.frzs b ob xs q;rw[aR (bI z hn)];exact z
 ·obtain⟨m,z⟩:=u.tbls b ps q;exact⟨m,by rw[aR (bI z hn)];exact z⟩
def aGk(x:HOk P w H2 h6)(hn:H2 a=none)(new:gQ P w (upd H2 a o) h6 a o):HOk P w (upd H2 a o) h6:=λb u e=>by
 by_cases hb:b=a
 ·subst hb;rw[aH] at e;cases e;exact new
 ·rw[aR hb] at e;exact(x b u e).stay (λc v _ q=>q) (λc q=>by rw[aR (bI q hn)];exact q) λc xs q=>by rw[aR (bI q hn)];exact q
def aC5(I:Inv X pins σ H s)(hN:X.N.Nodup)(hi:X.N[i]?=some x)(hn:s.heap.Ns X.env.locals m)
 (hl:∀(i:Nat) (x:Str) (v:V),X.N[i]?=some x->σ[i]?=some (some v)->Vis X.env.scope x->∃u,RelV v u/\Look X.env s.heap m x u)
 (hn':h'.Ns X.env.locals (λy=>if y=x then v else m y))(hs:Heap.SameBut X.env.locals s.heap h'):Inv X pins (σ.set i none) H {s with heap:=h',toks:=t'}:=by
 have hiσ:i<σ.length:=by rw[I.len];exact(List.getElem?_eq_some_iff.mp hi).1
 have cne:=I.cne;have ne:∀b o,X.s₀.heap.get? b=some o->b≠X.env.locals:=λb o e=>Nat.ne_of_lt (Nat.lt_of_lt_of_le (Heap.lt_size e) I.ok.above)
 refine⟨I.ok,I.os,I.bare,⟨λb o e n hb hx=>(hs.2 b (ne b o e)).trans (I.base.keep b o e n hb hx),λb o e n hb hx=>?_,I.base.free,λb o e hx=>?_,I.base.tups,I.base.frzs,I.base.tbls⟩,⟨_,hn',λj y v' e1 e2 e3=>?_⟩,λy c e=>?_,I.free,I.freeC,λp hp=>?_,λb ob e=>?_,by simpa using I.len⟩
 ·obtain⟨sl,e1⟩:=I.base.slot b o e n hb hx;exact⟨sl,(hs.2 b (ne b o e)).trans e1⟩
 ·obtain⟨o',e1⟩:=I.base.there b o e hx;exact⟨o',(hs.2 b (ne b o e)).trans e1⟩
 ·by_cases hj:j=i
  ·subst hj;rw[List.getElem?_set_self hiσ] at e2;cases e2
  ·rw[List.getElem?_set_ne (Ne.symm hj)] at e2;obtain⟨u',r',q⟩:=hl j y v' e1 e2 e3;refine⟨u',r',?_⟩;rcases q with ⟨k,e⟩|⟨k,c,e,z⟩
   ·refine .inl ⟨k,?_⟩;have:y≠x:=λe=>hj (yW hN e1 (e▸hi))
    simp[this,e]
   ·exact .inr ⟨k,c,e,z.sameBut hs (cne y c e)⟩
 ·obtain⟨w',z⟩:=I.cell y c e;exact⟨w',z.sameBut hs (cne y c e)⟩
 ·obtain⟨e,n,ne,nf,d⟩:=I.pin p hp;exact⟨(hs.2 p.1 ne).trans e,n,ne,nf,d⟩
 ·refine(I.hok b ob e).stay (λc w' hc q=>(hs.2 c ?_).trans q) (λ_ q=>q) λ_ _ q=>q
  intro z;rcases hc with hc|hc
  ·rw[<-hc,z,I.free] at e;cases e
  ·rw[z,I.free] at hc;cases hc
end
variable [KFrag]
def aC6(h:H a=none):bU H (upd H a o):=λb u e=>by rw[aR (bI e h)];exact e
end Mi
namespace Mi
open PySem L2 PySem.SeqAt PySem.Spec PyProof.Rows
noncomputable def intsOf:List D->Option (List Int)
 |[]=>some []
 |.int i::r=>(intsOf r).map (i::·)
 |_::_=>none
def zY:List D->Res D
 |[.lst ds]=>match intsOf ds with
  |some ns=>if ns.all (λi=>decide (-9000<=i)&&decide (i<=9000))&&decide (ns.length<=100000) then .ok (.int ns.sum) else .bad
  |none=>.bad
 |_=>.bad
theorem G4:∀{ds:List D}{ns:List Int},intsOf ds=some ns->ds=ns.map D.int
 |[],ns,h=>by cases h;rfl
 |d::ds,ns,h=>by
  unfold intsOf at h;split at h
  ·rename_i e;cases e
  ·rename_i i r e;cases e;obtain⟨ms,h1,h2⟩:=Option.map_eq_some_iff.mp h;subst h2;rw[List.map_cons,<-G4 h1]
  ·cases h
def YF(ps:List (Int×Tok)):∀j,j<=ps.length->preSum (numAt ps.toArray) j=((ps.map (·.1)).take j).sum:=by
 intro j;induction j with
 |zero=>intro _;simp[preSum]
 |succ j ih=>
  intro hj;have hlt:j<ps.length:=by lia
  have e:numAt ps.toArray j=(ps.map (·.1))[j]'(by simpa using hlt):=by simp[numAt,hlt]
  rw[preSum,ih 0x1,e,<-List.take_append_getElem (by simpa using hlt),List.sum_append];simp
theorem G5(c:Int)(hc:0<=c):∀(l:List Int),(∀i∈l,-c<=i/\i<=c)->-(c*l.length)<=l.sum/\l.sum<=c*l.length
 |[],_=>by simp
 |x::l,h=>by
  have h1:=h x (List.mem_cons_self ..);have h2:=G5 c hc l λi hi=>h i (List.mem_cons_of_mem _ hi)
  simp only[List.sum_cons,List.length_cons,Int.natCast_add,Int.mul_add];simp only[Int.natCast_one,Int.mul_one];lia
section
variable [KFrag]
section
def mK:∀{ns:List Int}{ys:List V}{its:List Value},bG P H ys (ns.map D.int)->Vals ys its->∃ps:List (Int×Tok),its=ps.map (λp=>Value.int p.1 p.2)/\ps.map (·.1)=ns
 |[],_,_,.nil,.nil=>⟨[],rfl,rfl⟩
 |n::ns,_,_,.cons r t,.cons v vs=>by
  obtain⟨ps,h1,h2⟩:=mK t vs;cases r.inv;obtain⟨tk,rfl⟩:=v;exact⟨(n,tk)::ps,by rw[h1];rfl,by rw[List.map_cons,h2]⟩
def YG(hc:X.calm=true):nQ X (.builtin "sum") (rs zY true):=by
 intro pins s σ H xs us Q I vr ⟨ds,d,r,e,k⟩;unfold zY at e;split at e
 ·split at e
  ·rename_i ns hns;split at e
   ·rename_i hb;rw[Bool.and_eq_true] at hb;cases e;obtain⟨vv,uu,rfl,rfl,r,v⟩:=j8 r vr;obtain⟨l,ys,rfl,hl',rr⟩:=r.j6;cases v;rw[G4 hns] at rr;obtain⟨its,vi,il,_⟩:=I.list hl';obtain⟨ps,h1,h2⟩:=mK rr vi;subst h1;have hlen:ps.length=ns.length:=by rw[<-h2,List.length_map]
    have hn:ns.length<=100000:=of_decide_eq_true hb.2;have hall:∀i∈ns,-9000<=i/\i<=9000:=λi hi=>by
     have:=List.all_eq_true.mp hb.1 i hi;rw[Bool.and_eq_true,decide_eq_true_eq,decide_eq_true_eq] at this;exact this
    have ia:s.heap.IsList l (intItems ps.toArray):=by
     obtain⟨o,n,e1,e2,e3,e4⟩:=il;exact⟨o,e1,e2,n,by simpa[intItems] using e4⟩
    refine sum_intList (I.ok.hd hc) ia (λj hj=>?_) λh' tk t' kp=>⟨.int ns.sum,H,I.kept kp,⟨t',?_⟩,k _ _ (bU.refl H) (.int _) λ_=>.int _⟩
    ·have hj':j<ps.length:=by simpa using hj
     refine⟨?_,?_⟩
     ·have hm:numAt ps.toArray j∈ns:=by
       have e:numAt ps.toArray j=(ps.map (·.1))[j]'(by simpa using hj'):=by simp[numAt,hj']
       rw[e,<-h2];exact List.getElem_mem _
      have:=hall _ hm;unfold InLong;lia
     ·rw[YF ps (j+1) 0x1,h2];have:=G5 9000 0x4 (ns.take (j+1)) λi hi=>hall i (List.mem_of_mem_take hi)
      have hl:(ns.take (j+1)).length<=100000:=Nat.le_trans (List.length_take_le' ..) hn;unfold InLong;lia
    ·have:=YF ps ps.length (Nat.le_refl _);rw[h2,hlen,List.take_length] at this;rw[List.size_toArray,hlen,this]
   ·exact bx e
  ·exact bx e
 ·exact bx e
def YH:bootBuiltins "sum"=some (.builtin "sum"):=by decide +kernel
end
def DV(H:Hp)(a:Addr)(kvs:List (Key×V)):Prop:=H a=some (.dK kvs)\/(kvs=[]/\H a=some (.dT []))
theorem aE5:∀{kvs:List (κ×V)}{vs:List (κ×Value)}{i:Nat}{p:κ×V},KV kvs vs->kvs[i]?=some p->∃u,vs[i]?=some (p.1,u)/\RelV p.2 u
 |_,_,_,_,.nil,h=>by simp at h
 |_,_,0,_,.cons r _,h=>by
  simp at h;subst h;exact⟨_,by simp[r.1],r.2⟩
 |_,_,i+1,_,.cons _ t,h=>by
  obtain⟨u,h1,h2⟩:=aE5 t (by simpa using h);exact⟨u,by simpa using h1,h2⟩
section
def aJr(hu:DV H a kvs):L2.Mut (H a):=by
 rcases hu with h|⟨_,h⟩<;>rw[h]<;>trivial
def YJ(I:Inv X pins σ H s)(hu:DV H a kvs):kvs.length<=sizeLine/\(a==sysModules)=false/\∃vs,KV kvs vs/\s.heap.DictOf (cC X.prog X.w) a vs:=by
 rcases hu with h|⟨rfl,h⟩
 ·exact S9 I.hok h
 ·exact S9 (j7 I h).hok aH
def aJs(I:Inv X pins σ H s)(hu:DV H a kvs)(ho:s.heap.get? a=some o):∃u,H a=some u/\∀(H':Hp)(h:Heap),h.get? a=some o->gQ X.prog X.w H' h a u:=by
 rcases hu with h|⟨_,h⟩
 ·obtain⟨z,hs,vs,rel,o',es,ep,ho',c⟩:=I.hok a _ h;rw[ho] at ho';cases ho';exact⟨_,h,λH' h' e=>⟨z,hs,vs,rel,o,es,ep,e,c⟩⟩
 ·obtain⟨z,hs,xs,rel,o',es,ep,ho',c⟩:=I.hok a _ h;rw[ho] at ho';cases ho';cases rel;exact⟨_,h,λH' h' e=>⟨z,hs,[],.nil,o,es,ep,e,c⟩⟩
end
noncomputable def aE6:HO->Bool
 |.tup _=>false
 |.frz _ (.lst _)=>false
 |_=>true
mutual
theorem vG{P:Addr->Prop}{H:Hp}{a:Addr}{u:HO}(ea:∀ob,H a=some ob->aE6 ob=true):∀{v:V}{d:D},Rep P H v d->d.pure=true->Rep P (upd H a u) v d
 |_,_,.non,_=>.non
 |_,_,.bl b,_=>.bl b
 |_,_,.int i,_=>.int i
 |_,_,.str x,_=>.str x
 |_,_,.tup e r,h=>.tup (by rw[aR (λz=>by rw[z] at e;have:=ea _ e;cases this)];exact e) (mU ea r (by rw[D.pure] at h;exact h))
 |_,_,.lst _ _ _,h=>by rw[D.pure] at h;cases h
 |_,_,.frz e r,h=>.frz (e.imp (λ⟨o,e⟩=>⟨o,by rw[aR (λz=>by rw[z] at e;have:=ea _ e;cases this)];exact e⟩) id) (mU ea r (by rw[D.pure] at h;exact h))
 |_,_,.cel _ _ _,h=>by rw[D.pure] at h;cases h
 |_,_,.dK _ _ _ _,h=>by rw[D.pure] at h;cases h
 |_,_,.dT _ _ _ _,h=>by rw[D.pure] at h;cases h
 |_,_,.fdK _ _ _,h=>by rw[D.pure] at h;cases h
 |_,_,.fdT _ _ _,h=>by rw[D.pure] at h;cases h
 |_,_,.exc _ _ _,h=>by rw[D.pure] at h;cases h
 |_,_,.ins _ _ _,h=>by rw[D.pure] at h;cases h
theorem mU{P:Addr->Prop}{H:Hp}{a:Addr}{u:HO}(ea:∀ob,H a=some ob->aE6 ob=true):∀{v:List V}{d:List D},bG P H v d->D.aJ d=true->bG P (upd H a u) v d
 |_,_,.nil,_=>.nil
 |_,_,.cons r t,h=>by
  rw[D.aJ,Bool.and_eq_true] at h;exact .cons (vG ea r h.1) (mU ea t h.2)
end
structure aNg(K:PySem.W.Frag)(x qual:Str)(st:Stmt)(f:Addr)(fd:FuncData)(T:Addr)(its:Array Value):Prop where
 ex:∃(oc:Value)(od:Option Addr)(kV doc pm:Value)(an:Option Addr)(cdv ct:Value)(osl:Array (Option Value)),
  fd=PySem.W.fnOf x qual (fJ st) (cR st) (aL st) (.ref T) kV doc pm an cdv ct/\K.lookup f=some ⟨oc,od,.func fd,osl⟩/\PySem.W.codeIn K cdv qual=true
 kp:PySem.W.keepIn K (.ref f)=true
 df:∃(tc:Value)(td:Option Addr)(tn:Nat)(tl:Array (Option Value)),K.lookup T=some ⟨tc,td,.seq its tn,tl⟩
structure aPw(P:Program)(w:World)(K:PySem.W.Frag)(mg:Str->Option Value)(base:Heap)(k:Nat)(x kw:Str)(n:Nat)(df:D)(f:List D->Res D):Prop where
 ex:∃(fad:Addr)(fd:FuncData)(ps:List Str)(u:Value)(v:V),lR P w K mg base CX0 k fad fd ps (spD f (n+1))/\mg x=some (.ref fad)/\PySem.W.keepIn K (.ref fad)=true/\Binds K fd ps []/\Binds K fd ps [u]/\RelV v u/\(∀H:Hp,Rep All H v df)/\
  ∀(s:Shared)(us:List Value)(y:Value),K.In s.heap->us.length=n->BindsTo s fd ⟨us,[(kw,y)]⟩ (ps.zip (us++[y]))
end
def G6:D->D->Res D
 |.tup a,.tup b=>if decide (a.length+b.length<=lim) then .ok (.tup (a++b)) else .bad
 |_,_=>.bad
def mV:List D->List D->List (D×D)->List (D×D)
 |k::ks,v::vs,m=>mV ks vs (putD m k v)
 |_,_,m=>m
noncomputable def TX(c:FT)(body:FS):Nat->List D->Res Fl
 |0,_=>.bad
 |n+1,ρ=>do
  let k <- c ρ
  if k then (do
   let r <- body ρ
   match r with
   |.nx ρ'=>TX c body n ρ'
   |.ct ρ'=>TX c body n ρ'
   |.bk ρ'=>.ok (.nx ρ')
   |.rt d=>.ok (.rt d))
  else .ok (.nx ρ)
def aMh(c:FT)(body:FS):FS:=λρ=>TX c body 9000 ρ
section
variable [KFrag]
section
theorem wJ:OpR X (binaryOp .Add) (r2 G6 false):=by
 intro pins s σ H x y v u Q I rx ry h;obtain⟨a,b,d,p,q,e,k⟩:=h;unfold G6 at e;split at e
 ·rename_i da db;split at e
  ·rename_i hl;cases e;obtain⟨l1,xs1,rfl,e1,r1⟩:=p.inv;obtain⟨l2,xs2,rfl,e2,r2⟩:=q.inv;cases rx;cases ry;have hz:xs1.length+xs2.length<=sizeLine:=by rw[r1.length,r2.length];exact lD hl
   obtain⟨its,w1,p1,_⟩:=I.tuple (.of e1);obtain⟨its2,w2,p2,_⟩:=I.tuple (.of e2);obtain⟨⟨cls,dd,data,sl⟩,ho,hc,n,hd⟩:=id p1;obtain⟨⟨cls2,dd2,data2,sl2⟩,ho2,hc2,n2,hd2⟩:=id p2;simp only at hc hd hc2 hd2;by_cases hv:its=[]
   ·have:xs1=[]:=w1.vY.mp hv;subst this;cases r1;refine concat_meets ⟨_,ho,hc⟩ ⟨_,ho2,hc2⟩ noFill_tuple_add seq_tuple_add PySem.F.slot_tuple_add PySem.F.entry_tuple_add (PySem.F.args_tuple_add_2 _ _)
     (tuple_addW0 l1 l2 its.toArray its2.toArray n n2 dd dd2 sl sl2 (by simp[hv])) ⟨by subst hc hd;exact ho,by subst hc2 hd2;exact ho2,.ref l2,H,I,rfl,?_⟩
    exact k.self (.tup e2 r2) (λz=>by cases z)
   ·refine aFn pins s σ H (.ref l1) (.ref l2) _ _ Q I rfl rfl ⟨l1,l2,xs1,xs2,rfl,rfl,.of e1,.of e2,λz=>hv (w1.vY.mpr z),hz,λz=>?_,λz p hp=>?_⟩
    ·subst z;cases r2;rw[List.append_nil] at k;exact k.self (.tup e1 r1) (λz=>by cases z)
    ·have sp:bU H (upd H p (.tup (xs1++xs2))):=bU.upd hp;exact k _ _ sp (.tup aH ((r1.append r2).same sp)) λz=>by cases z
  ·exact bx e
 ·exact bx e
def aE7(hp:PassesOwn (model X.prog X.w) X.A X.env X.xe)(hc:PT X c (gT gc))(hb:PSs X body (tS own fb)):PS X (.While c body [] pos) (tS own (aMh gc fb)):=
 PS.imp (N8 hp hc hb) λD σ H ⟨ρ,fl,E,h,q⟩=>by
 refine⟨λm σ' H'=>∃ρ' ,ES own H' σ' ρ'/\TX gc fb m ρ'=.ok fl/\kS own D σ' H' fl,⟨9000,ρ,E,h,q⟩,?_⟩;rintro m σ H ⟨ρ,E,h,q⟩;cases m with
 |zero=>exact bx h
 |succ m=>
  rw[TX] at h;obtain⟨k,h1,h2⟩:=aY h;refine⟨ρ,k,E.er,h1,λH1 s=>?_⟩;cases k with
  |true=>
   rw[if_pos rfl];rw[if_pos rfl] at h2;obtain⟨r,h3,h4⟩:=aY h2;refine⟨λσ' H'=>∃ρ',ES own H' σ' ρ'/\TX gc fb m ρ'=.ok fl/\kS own D σ' H' fl,λσ' H' w=>⟨m,Nat.lt_succ_self m,w⟩,ρ,r,E.same s,h3,?_⟩;have q1:=q.step (.same s);cases r with
   |nx ρ'=>exact λσ' H' ku E'=>⟨ρ',E',h4,q1.step ku⟩
   |ct ρ'=>exact λσ' H' ku E'=>⟨ρ',E',h4,q1.step ku⟩
   |bk ρ'=>cases h4;exact λσ' H' ku E'=>q1 σ' H' ku E'
   |rt d=>cases h4;exact q1
  |false=>
   rw[if_neg 0x2];rw[if_neg 0x2] at h2;cases h2;exact(q.step (.same s)) σ H1 (λa o e n=>⟨e,n⟩) (E.same s)
end
end
variable [KFrag]
def aJt(h:(cC P w).is k v=true):RelV (kV k) v:=by
 have h:J0 k v=true:=h;rcases cQ h with ⟨i,t,rfl,rfl⟩|⟨x,t,rfl,rfl⟩
 ·exact⟨t,rfl⟩
 ·exact⟨t,rfl⟩
section
def aC7(I:Inv X pins σ H s)(e:H a=some (.frz o u))(hn:∀o u,X.H₀ a≠some (.frz o u)):Inv X pins σ (upd H a u) s:=by
 have ne:∀b,H b=none->b≠a:=λb h z=>by subst z;rw[e] at h;cases h
 have keepT:∀b xs,H b=some (.tup xs)->upd H a u b=some (.tup xs):=λb xs h=>by
  rw[aR (λz=>by subst z;rw[e] at h;cases h)];exact h
 have keepO:∀b x,H b=some (.own x)->upd H a u b=some (.own x):=λb x h=>by
  rw[aR (λz=>by subst z;rw[e] at h;cases h)];exact h
 refine⟨I.ok,I.os,I.bare,⟨I.base.keep,I.base.slot,λb o h1 h2 h3=>?_,I.base.there,λb xs h=>?_,λb o' u' h=>?_,λb ps h=>?_⟩,I.loc,I.cell,?_,λx c h=>?_,λp hp=>?_,λb ob h=>?_,I.len⟩
 ·have:=I.base.free b o h1 h2 h3;rw[aR (ne b this)];exact this
 ·exact keepT b xs (I.base.tups b xs h)
 ·have:=I.base.frzs b o' u' h;rw[aR (λz=>by subst z;exact hn _ _ h)];exact this
 ·obtain⟨more,h1⟩:=I.base.tbls b ps h;refine⟨more,?_⟩;rw[aR (λz=>by subst z;rw[e] at h1;cases h1)];exact h1
 ·rw[aR (ne _ I.free)];exact I.free
 ·have:=I.freeC x c h;rw[aR (ne _ this)];exact this
 ·obtain⟨h1,h2,h3⟩:=I.pin p hp;exact⟨h1,by rw[aR (ne _ h2)];exact h2,h3⟩
 ·by_cases hb:b=a
  ·subst hb;rw[aH] at h;cases h;obtain⟨_,h2⟩:=I.hok b _ e;exact h2.stay (λ_ _ _ q=>q) (λc hc=>keepO c b hc) keepT
  ·rw[aR hb] at h;exact(I.hok b _ h).stay (λ_ _ _ q=>q) (λc hc=>keepO c b hc) keepT
end
end Mi
namespace Wz
open PySem PySem.Spec
noncomputable abbrev itO(t:Addr)(i:Nat):Obj:={cls:=.type "tuple_iterator",data:=.fields #[.ref t,.int i 0]}
noncomputable abbrev tuO(xs:Array Value)(n:Nat)(dd:Option Addr)(sl:Array (Option Value)):Obj:={cls:=.type "tuple",dict:=dd,data:=.seq xs n,slots:=sl}
abbrev zpO(f0 f1:Value)(TI TO:Addr):Obj:={cls:=.type "zip",data:=.fields #[f0,f1,.bool false,.ref TI,.ref TO]}
noncomputable abbrev prO(a b:Value):Obj:={cls:=.type "tuple",data:=.seq #[a,b]}
def TY(it t:Addr)(i:Nat)(xs:Array Value)(n:Nat)(dd:Option Addr)(sl:Array (Option Value))(x:Value)(hx:xs[i]?=some x) :
  Meets (Builtin.«tuple_iterator.__next__» ⟨[.ref it],[]⟩) (λ_ R s=>s.heap.get? it=some (itO t i)/\s.heap.get? t=some (tuO xs n dd sl)/\R (.ok (.ret x)) {s with heap:=s.heap.update it (Obj.mapFields (·.setIfInBounds 1 (rawInt (i+1))))}):=.of_wp λprog w A R s hs=>by
 obtain⟨hp,g,d,tk,os⟩:=s;obtain⟨e1,e2,hq⟩:=hs
 wp_walk
 rw[Int.toNat_natCast,hx]
 wp_walk
 exact⟨_,rfl,hq⟩
def T3(it t:Addr)(i:Nat)(xs:Array Value)(n:Nat)(dd:Option Addr)(sl:Array (Option Value))(hx:xs[i]?=none) :
  Meets (Builtin.«tuple_iterator.__next__» ⟨[.ref it],[]⟩) (λA R s=>A.handled=none/\s.heap.get? it=some (itO t i)/\s.heap.get? t=some (tuO xs n dd sl)/\∀h' e,Heap.ExtBut it s.heap h'->(∃o,h'.get? e=some o/\o.cls=.type "StopIteration")->R (.error (.ref e)) {s with heap:=h'}):=.of_wp λprog w A R s hs=>by
 obtain⟨hp,g,d,tk,os⟩:=s;obtain⟨hh,e1,e2,hq⟩:=hs
 wp_walk
 rw[Int.toNat_natCast,hx]
 wp_walk
 have hh1:A.in1.handled=none:=hh;unfold raiseNew
 wp_walk
 exact hq _ _ (((Heap.SameBut.update ..).extBut.push _).push _) ⟨_,Heap.get?_push_size _ rfl,rfl⟩
section
def drawn(e1:s.heap.get? it=some (itO t i))(e2:s.heap.get? t=some (tuO xs n dd sl))(hx:xs[i]?=some x)
 (q:∀h',h'.get? it=some (itO t (i+1))->Heap.SameBut it s.heap h'->Q x {s with heap:=h'}):wpAny (model prog w) A (Builtin.SmallTypes.nextOf (.ref it)) Q E s:=by
 have ty:s.TypeIs (.ref it) "tuple_iterator":=⟨_,e1,rfl⟩
 refine wpAny_bind (wpAny_callSpecial?_slot ty F.slot_tuple_iterator_next ?_);refine call_meets F.slot_tuple_iterator_next ty F.entry_tuple_iterator_next (F.args_tuple_iterator_next_1 _) (TY it t i xs n dd sl x hx) ⟨e1,e2,wpAny_pure (q _ ?_ (Heap.SameBut.update ..))⟩;exact Heap.get?_update_self _ e1 rfl
def over(hh:A.handled=none)(e1:s.heap.get? it=some (itO t i))(e2:s.heap.get? t=some (tuO xs n dd sl))(hx:xs[i]?=none)
 (q:∀h' e,Heap.ExtBut it s.heap h'->(∃o,h'.get? e=some o/\o.cls=.type "StopIteration")->E (.ref e) {s with heap:=h'}):wpAny (model prog w) A (Builtin.SmallTypes.nextOf (.ref it)) Q E s:=by
 have ty:s.TypeIs (.ref it) "tuple_iterator":=⟨_,e1,rfl⟩
 refine wpAny_bind (wpAny_callSpecial?_slot ty F.slot_tuple_iterator_next ?_);exact call_meets F.slot_tuple_iterator_next ty F.entry_tuple_iterator_next (F.args_tuple_iterator_next_1 _) (T3 it t i xs n dd sl hx) ⟨hh,e1,e2,λh' e k o=>q h' e k o⟩
end
structure Apart(z TI TO i1 i2 l1 l2:Addr):Prop where
 zTI:z≠TI
 zTO:z≠TO
 z1:z≠i1
 z2:z≠i2
 zl:z≠l1
 zm:z≠l2
 TT:TI≠TO
 T1:TI≠i1
 T2:TI≠i2
 O1:TO≠i1
 O2:TO≠i2
 Ol:TO≠l1
 Om:TO≠l2
 ij:i1≠i2
 il:i1≠l1
 im:i1≠l2
 jl:i2≠l1
 jm:i2≠l2
def aC8(z TO i1 i2:Addr)(h h':Heap):Prop:=∀c o,c≠z->c≠TO->c≠i1->c≠i2->h.get? c=some o->h'.get? c=some o
noncomputable abbrev nxt(z:Addr):Sem PySem.Fin:=Builtin.«zip.__next__» ⟨[.ref z],[]⟩
abbrev Got(Q:Value->Shared->Prop):PySem.Fin->Shared->Prop:=λr t=>∃v,r=.done (.ret v)/\Q v t
section
def there(e:s.heap.get? c=some o)(q:Q (some o) s):wpAny (model prog w) A (loadIfAlive c) Q E s:=λΓ p _=>by
 show Sem.wp _ Γ (.loadIfAlive c pure) _ _ p s;rw[Sem.wp_loadIfAlive,e];exact q
end
def five(h:Heap)(a b c d e:Obj)(fa:a.isFreed=false)(fb:b.isFreed=false)(fc:c.isFreed=false)(fd:d.isFreed=false)(fe:e.isFreed=false) :
  (((((h.push a).push b).push c).push d).push e).get? h.objs.size=some a/\(((((h.push a).push b).push c).push d).push e).get? (h.objs.size+1)=some b/\(((((h.push a).push b).push c).push d).push e).get? (h.objs.size+2)=some c/\(((((h.push a).push b).push c).push d).push e).get? (h.objs.size+3)=some d/\(((((h.push a).push b).push c).push d).push e).get? (h.objs.size+4)=some e/\
  (∀x o,h.get? x=some o->(((((h.push a).push b).push c).push d).push e).get? x=some o)/\(((((h.push a).push b).push c).push d).push e).objs.size=h.objs.size+5:=by
 have z1:(h.push a).objs.size=h.objs.size+1:=Heap.size_push ..;have z2:((h.push a).push b).objs.size=h.objs.size+2:=(Heap.size_push ..).trans (by rw[z1]);have z3:(((h.push a).push b).push c).objs.size=h.objs.size+3:=(Heap.size_push ..).trans (by rw[z2]);have z4:((((h.push a).push b).push c).push d).objs.size=h.objs.size+4:=(Heap.size_push ..).trans (by rw[z3]);have up:∀{h:Heap}{x:Addr}{o q:Obj},h.get? x=some o->(h.push q).get? x=some o:=λe=>Heap.get?_push_of_some _ e
 have g2:=Heap.get?_push_size (h.push a) fb;have g3:=Heap.get?_push_size ((h.push a).push b) fc;have g4:=Heap.get?_push_size (((h.push a).push b).push c) fd;have g5:=Heap.get?_push_size ((((h.push a).push b).push c).push d) fe;rw[z1] at g2;rw[z2] at g3;rw[z3] at g4;rw[z4] at g5;exact⟨up (up (up (up (Heap.get?_push_size h fa)))),up (up (up g2)),up (up g3),up g4,g5,λx o q=>up (up (up (up (up q)))),(Heap.size_push ..).trans (by rw[z4])⟩
def YK:typeLookup (.type "zip") "keys"=pure none:=by rw[typeLookup_type,builtinLookup_eq_fast];kernel_rfl
def noGet:typeLookup (.type "zip") "__getattr__"=pure none:=by rw[typeLookup_type,builtinLookup_eq_fast];kernel_rfl
def YL:entryFor table "zip.__getattribute__"=some Builtin.«object.__getattribute__»:=entryFor_alias (id':= "object.__getattribute__") 0x8 0x6 0x6 0x8
def nY(a:Addr)(f0 f1:Value)(TI TO:Addr)(u:Tok):Meets (Builtin.«object.__getattribute__» ⟨[.ref a,.str "keys" u],[]⟩) (λA R s=>s.heap.get? a=some (zpO f0 f1 TI TO)/\raisesAttr (.ref a) "keys" A R s):=.of_wp λprog w A R s hs=>by
 obtain⟨hp,g,d,tk,os⟩:=s;obtain⟨e,hh,q⟩:=hs;have ty:(⟨hp,g,d,tk,os⟩:Shared).TypeIs (.ref a) "zip":=⟨_,e,rfl⟩
 have no:=YK
 wp_walk
 exact wpAny_raiseAttrError hh q (attrMsg_fits 0x6 (by size_fits))
section
variable {prog:Program} {w:World} {A:Around} {E:Value->Shared->Prop} {hp:Heap} {g:Array GenState} {d:Drawn} {tk:Nat} {os:OsState} {a TI TO:Addr} {f0 f1:Value}
def gone(e:hp.get? a=some (zpO f0 f1 TI TO))(hh:A.handled=none)(hk:kw=[])(q:∀h' tk' x,Heap.NewAttrErr hp h' x (.ref a) "keys"->E (.ref x) ⟨h',g,d,tk',os⟩) :
  wpAny (model prog w) A (call (.builtin "zip.__getattribute__") ([.ref a]++[.str "keys" u]) kw) Q E ⟨hp,g,d,tk,os⟩:=by
 subst hk;exact call_meets F.slot_zip_getattribute ⟨_,e,rfl⟩ YL (F.args_zip_getattribute_2 _ _) (nY a f0 f1 TI TO u) ⟨e,hh,λh' tk' x hx=>q h' tk' x hx⟩
def lacks(e:hp.get? a=some (zpO f0 f1 TI TO))(hh:A.handled=none)(q:∀h' tk',(∀b o,hp.get? b=some o->h'.get? b=some o)->Q none ⟨h',g,d,tk',os⟩):wpAny (model prog w) A (getAttr? (.ref a) "keys") Q E ⟨hp,g,d,tk,os⟩:=by
 have ty:∀tk',(⟨hp,g,d,tk',os⟩:Shared).TypeIs (.ref a) "zip":=λ_=>⟨_,e,rfl⟩
 have f3:=F.slot_zip_getattribute.lookup;have f4:=F.slot_zip_getattribute.bind (.ref a);have f5:=noGet;have sub:=sub_AttributeError
 wp_walk using gone e hh
 case hk=>rfl
 intro h' tk' x hx;obtain⟨t,u,ex⟩:=hx.there;show wpAny _ _ (getattributeRaised _ _ _ _ _ _ _) _ _ _
 wp_walk
 exact q _ _ hx.keeps
end
section
def apart{h:Heap}(e:h.get? c=some o)(hc:o.cls=.type T)(ed:h.get? d=some od)(hd:od.cls=.type "dict")(ne:(Value.type T==Value.type "dict")=false):c≠d:=λq=>by
 subst q;rw[e] at ed;cases ed;rw[hc] at hd;rw[hd] at ne;simp at ne
end
def j_:entryFor table "dict.update.loop"=some Builtin.«dict.update.loop»:=entryFor_of_tree 0x8
end Wz
namespace Mi
open PySem L2 PySem.SeqAt PySem.Spec PyProof.Rows
section
variable [KFrag]
def boot_zip:bootBuiltins "zip"=some (.type "zip"):=by decide +kernel
def zZ:bootBuiltins "dict"=some (.type "dict"):=by decide +kernel
theorem YM:∀{vs:List V}{us:List Value}{ds:List D},bG P H vs ds->Vals vs us->ds.all gR=true->∃ks:List Key,ks.map kD=ds/\ks.length=us.length/\∀(i:Nat)(u:Value),us[i]?=some u->∃k,ks[i]?=some k/\(cC pr w).is k u=true
 |_,_,_,.nil,.nil,_=>⟨[],rfl,rfl,λi u h=>by simp at h⟩
 |v::vs,u::us,d::ds,.cons r t,.cons rv tv,h=>by
  rw[List.all_cons,Bool.and_eq_true] at h;obtain⟨ks,h1,h2,h3⟩:=YM t tv h.2;obtain⟨k,hk1,hk2⟩:∃k:Key,kD k=d/\(cC pr w).is k u=true:=by
   cases r with
   |int i=>exact⟨.inl i,rfl,zK rv⟩
   |str x=>exact⟨.inr x,rfl,zK rv⟩
   |_=>cases h.1
  refine⟨k::ks,by rw[List.map_cons,hk1,h1],by rw[List.length_cons,List.length_cons,h2],λi u' hu=>?_⟩;cases i with
  |zero=>simp at hu;subst hu;exact⟨k,rfl,hk2⟩
  |succ i=>exact h3 i u' (by simpa using hu)
theorem z6(r:Rep P H v d):∀{kvs:List (Key×V)}{ds:List (D×D)},fY P H kvs ds->(kvs.map (·.1)).Nodup->fY P H (putK kvs k v) (putD ds (kD k) d)
 |_,_,.nil,_=>.cons r .nil
 |_,_,.cons (k:=k') r' t,hn=>by
  rw[List.map_cons,List.nodup_cons] at hn;rw[putD,XN];by_cases h:k'=k
  ·rw[zR h (by rw[<-h];exact hn.1),if_pos (decide_eq_true h),h];exact .cons r t
  ·rw[zT h,if_neg (by simpa using h)];exact .cons r' (z6 r t hn.2)
theorem QT:∀{ks:List Key}{vs:List V}{ds:List D}{kvs:List (Key×V)}{es:List (D×D)},bG P H vs ds->fY P H kvs es->(kvs.map (·.1)).Nodup->fY P H (gB kvs (ks.zip vs)) (mV (ks.map kD) ds es)/\((gB kvs (ks.zip vs)).map (·.1)).Nodup
 |[],_,_,_,_,_,r,n=>by
  rw[List.zip_nil_left];exact⟨by cases ‹List D›<;>exact r,n⟩
 |k::ks,_,_,kvs,es,.nil,r,n=>⟨r,n⟩
 |k::ks,_,_,kvs,es,.cons rv tv,r,n=>QT (ks:=ks) tv (z6 rv r n) (jH n)
def aJu(r:Vals vs us):∀ks:List Key,KV (ks.zip vs) (ks.zip us):=by
 induction r with
 |nil=>intro ks;rw[List.zip_nil_right,List.zip_nil_right];exact .nil
 |cons h t ih=>
  intro ks;cases ks with
  |nil=>exact .nil
  |cons k ks=>exact .cons ⟨rfl,h⟩ (ih ks)
def YQ(hl:l<n)(hm:m<n):Wz.Apart (n+4) (n+2) (n+3) n (n+1) l m:=by
 constructor<;>(intro h;replace h:@Eq Nat _ _:=h;lia)
end
noncomputable def G7(i j:Nat):FS:=λρ=>match ρ.getD i .uD with
 |.lst xs=>(match xs[xs.length-1]? with|some x=>.ok (.nx ((ρ.set i (.lst xs.dropLast)).set j x))|none=>.bad)
 |_=>.bad
def aC9(i:Nat)(f:FE):FS:=λρ=>do
 let d <- f ρ
 match ρ.getD i .uD,d with
 |.lst xs,.lst ys=>if decide (xs.length+ys.length<=lim)&&D.aJ ys then .ok (.nx (ρ.set i (.lst (xs++ys)))) else .bad
 |_,_=>.bad
section
variable [KFrag]
section
variable {X:Cx} {own:Nat->Bool} {e:Expr} {fe:FE} {re:Bool} {pos:Pos}
def YS(ho:own i=true)(hN:X.N[i]?=some x)(hv:Vis X.env.scope x)(hnd:X.N.Nodup)(hj:X.N[j]?=some y)(hy:Loc X.env.scope y)(hoj:own j=false)(hd:nDb x:=by decide)(hcd:nCd x:=by decide)
 (hbase:attributeBase (.Name x p1) "pop" X.env (eval (.Name x p1) X.env)=eval (.Name x p1) X.env:=by rfl)
 (hline:(apos.endLine==cpos.line)=true:=by rfl)
 (hs:swapsWith (.Call (.Attribute (.Name x p1) "pop" apos) [] [] cpos) (some (.Name y py)) pos.line X.env=pure false:=by rfl)(hf:X.fn y=true\/X.env.scope.names.lookup y=some .local:=by first|exact .inl rfl|exact .inr rfl|assumption) :
  PS X (.Assign [.Name y py] (.Call (.Attribute (.Name x p1) "pop" apos) [] [] cpos) pos) (tS own (G7 i j)):=
 PS.imp (N7 hnd hj hy (FJ PySem.F.plainAttrs_list PySem.F.slot_list_pop PySem.F.type_list_pop O6 (aW hN hv hd hcd) hbase hline) hs hf) λD' σ H ⟨ρ,fl,E,h,q⟩=>by
 unfold G7 at h;split at h
 ·rename_i xs hx;split at h
  ·rename_i dx hdx;cases h;obtain⟨a,o,hσ,r,hin,ha,hm⟩:=E.ownAt ho (by rw[hx];intro z;cases z);rw[hx] at r hin;obtain⟨vs,hl,rr⟩:=yH r;obtain⟨v,hvx,rv⟩:=rr.get hdx;have hlen:=rr.length;refine⟨_,hσ,.inl ⟨rfl,vs,.of hl⟩,a,vs,v,rfl,rfl,hl,by rw[hlen];exact hvx,?_⟩;have hin':D.aJ xs=true:=hin;have pall:∀y∈xs,y.pure=true:=λy hy=>bZ.mp hin' y hy
   have pdx:dx.pure=true:=pall dx (List.mem_of_getElem? hdx);have pe:D.aJ xs.dropLast=true:=bZ.mpr λy hy=>pall y (List.dropLast_subset _ hy)
   have er:bG All H vs.dropLast xs.dropLast:=by
    rw[List.dropLast_eq_take,List.dropLast_eq_take,hlen];exact rr.take _
   obtain⟨E2,k2⟩:=E.mut ho hσ rfl (.lst aH trivial (er.upd pe hl rfl)) pe;have r1:=(bG.cons rv .nil).upd (o:=.lst vs.dropLast) (by rw[D.aJ,pdx];rfl) hl rfl;cases r1 with
   |cons r1 _=>
    have E3:=E2.set hoj (r1.bN pdx);exact q _ _ (k2.trans λb ob eb nb=>⟨eb,by rw[jX hoj];exact nb⟩) E3
  ·exact bx h
 ·exact bx h
def YT(ho:own i=true)(hN:X.N[i]?=some x)(hv:Vis X.env.scope x)(he:PE X e (gE fe re))(hd:nDb x:=by decide)(hcd:nCd x:=by decide)
 (hbase:attributeBase (.Name x p1) "extend" X.env (eval (.Name x p1) X.env)=eval (.Name x p1) X.env:=by rfl)
 (hs1:starEach [e] X.env=(false,eval e X.env)::starEach [] X.env:=by rfl)
 (hfew:((backTo cpos (starEach [e] X.env)).all (λx=>!x.1)&&(backToKw cpos (keywordEach [] X.env)).all (λx=>x.1.isSome)
  &&decide (([e]:List Expr).length+([]:List Keyword).length+(if ([]:List Keyword).isEmpty then 0 else 1)<30))=true:=by rfl)
 (hline:(apos.endLine==cpos.line)=true:=by rfl)
 (hs:swapsWith (.Call (.Attribute (.Name x p1) "extend" apos) [e] [] cpos) none pos.line X.env=pure false:=by rfl) :
  PS X (.Expr (.Call (.Attribute (.Name x p1) "extend" apos) [e] [] cpos) pos) (tS own (aC9 i fe)):=
 PS.imp (kO (J9 PySem.F.plainAttrs_list PySem.F.slot_list_extend PySem.F.type_list_extend FN (aW hN hv hd hcd) (bJ he dZ hs1) hbase hfew hline hs1 rfl) hs) λD' σ H ⟨ρ,fl,E,h,q⟩=>by
 obtain⟨d,h1,h2⟩:=aY h;split at h2
 ·rename_i xs ys hx;split at h2
  ·rename_i hk;cases h2;rw[Bool.and_eq_true,decide_eq_true_eq] at hk;obtain⟨a,o,hσ,r,hin,ha,hm⟩:=E.ownAt ho (by rw[hx];intro z;cases z);rw[hx] at r hin;obtain⟨vs,hl,rr⟩:=yH r;refine⟨_,hσ,.inl ⟨rfl,vs,.of hl⟩,ρ,_,E.er,h1,λv H' s rv _=>?_⟩;obtain⟨b,zs,rfl,hb,_,rz⟩:=rv.inv;have E':=E.same s;have hl':=s _ _ hl;refine⟨a,b,vs,zs,rfl,rfl,hl',hb,by rw[rr.length,rz.length];exact Nat.le_trans hk.1 (by rw[sizeLine_eq];decide),?_⟩;have hp:D.aJ (xs++ys)=true:=by rw[jG,Bool.and_eq_true];exact⟨hin,hk.2⟩
   obtain⟨E2,k2⟩:=E'.mut ho hσ rfl (.lst aH trivial (((rr.same s).append rz).upd hp hl' rfl)) hp;exact q _ _ ((KU.same s).trans k2) E2
  ·exact bx h2
 ·exact bx h2
end
end
noncomputable abbrev FX:=List D->Res (D×List D)
noncomputable abbrev FXT:=List D->Res (Bool×List D)
noncomputable def G8:D->Option (List D)
 |.lst xs=>some xs
 |.cel _ xs=>some xs
 |_=>none
noncomputable def aCa:D->List D->D
 |.cel a _,xs=>.cel a xs
 |_,xs=>.lst xs
noncomputable def vC(k:Nat):Nat->Bool:=λi=>decide (i<k)
open Classical in
noncomputable def ch1(f:List D->Res D)(xs rest:List D):Res (D×List D):=
 if h:∃p:D×List D,∀b,f (.cel b xs::rest)=.ok (.tup [p.1,.cel b p.2]) then .ok h.choose else .bad
def aJv(h:ch1 f xs rest=.ok p):∀b,f (.cel b xs::rest)=.ok (.tup [p.1,.cel b p.2]):=by
 unfold ch1 at h;split at h
 ·rename_i e;cases h;exact e.choose_spec
 ·exact bx h
def wK(h:∀b,f (.cel b xs::rest)=.ok (.tup [r,.cel b xs'])):ch1 f xs rest=.ok (r,xs'):=by
 have e:∃p:D×List D,∀b,f (.cel b xs::rest)=.ok (.tup [p.1,.cel b p.2]):=⟨(r,xs'),h⟩
 have q:ch1 f xs rest=.ok e.choose:=by unfold ch1;rw[dif_pos e]
 rw[q];have z:=e.choose_spec 0;rw[h 0] at z;injection z with z
 injection z with z
 injection z with z1 z2
 injection z2 with z2
 injection z2 with _ z2
 rw[z1,z2]
noncomputable def aNh(k:Nat):Fl->Res D
 |.rt (.tup (d::ρ))=>.ok (.tup (d::ρ.take k))
 |.nx ρ=>.ok (.tup (.non::ρ.take k))
 |_=>.bad
def fnX(k n m:Nat)(f:FS):List D->Res D:=λds=>do
 let r <- f (ds++List.replicate (m-n) .uD)
 aNh k r
def bT(f:List D->Res D)(n i:Nat)(fs:FA):FX:=λρ=>do
 let rest <- fs ρ
 match G8 (ρ.getD i .uD) with
 |some xs=>if decide (rest.length+1=n) then (do
   let p <- ch1 f xs rest
   if D.aJ p.2 then .ok (p.1,ρ.set i (aCa (ρ.getD i .uD) p.2)) else .bad) else .bad
 |none=>.bad
noncomputable def x2L(f:D->D->Res D)(fa:FX)(fb:FE):FX:=λρ=>do
 let p <- fa ρ
 if p.1.pure then (do
  let y <- fb p.2
  let d <- f p.1 y
  if d.pure then .ok (d,p.2) else .bad) else .bad
noncomputable def x2R(f:D->D->Res D)(fa:FE)(fb:FX):FX:=λρ=>do
 let x <- fa ρ
 let p <- fb ρ
 let d <- f x p.1
 if d.pure then .ok (d,p.2) else .bad
def xTB(f:FX):FXT:=λρ=>do
 let p <- f ρ
 let b <- asB p.1
 .ok (b,p.2)
def eV(o:Bool)(i:Nat)(f:FX):FS:=λρ=>do
 let p <- f ρ
 if (if o then inner p.1 else true) then .ok (.nx (p.2.set i p.1)) else .bad
noncomputable def aGl(c:FXT)(f g:FS):FS:=λρ=>do
 let p <- c ρ
 if p.1 then f p.2 else g p.2
def K_(i:Nat)(fk fv:FE):FS:=λρ=>do
 let d <- fv ρ
 let k <- fk ρ
 match G8 (ρ.getD i .uD),k with
 |some xs,.int k=>if d.pure then (match ixD xs.length k with|some j=>.ok (.nx (ρ.set i (aCa (ρ.getD i .uD) (xs.set j d))))|none=>.bad) else .bad
 |_,_=>.bad
noncomputable def bPu(f:FE):FE:=λρ=>do
 let d <- f ρ
 if d.pure then .ok d else .bad
noncomputable def isI:D->Bool
 |.int _=>true
 |_=>false
def aGm:List D->Res (List D)
 |[]=>.bad
 |.lst ys::xs=>if ys.all isI&&D.aJ xs then .ok (.scr ys::xs) else .bad
 |x::xs=>if x.pure then (do let r <- aGm xs;.ok (x::r)) else .bad
def aMi(f:FE):FE:=λρ=>do
 let d <- f ρ
 match d with
 |.lst xs=>(do let r <- aGm xs;.ok (.lst r))
 |_=>.bad
section
variable [KFrag]
section
variable {own:Nat->Bool}
def aE8(r:Rep P H (.ref a) d)(h:G8 d=some xs):∃vs,H a=some (.lst vs)/\P a/\bG P H vs xs:=by
 cases d<;>simp only[G8] at h<;>cases h<;>cases r
 ·exact⟨_,by assumption,by assumption,by assumption⟩
 ·exact⟨_,by assumption,by assumption,by assumption⟩
def YW(r:Rep P H v (.cel b xs)):v=.ref b:=by cases r;rfl
def YX(r:Rep P H (.ref a) d)(h:G8 d=some xs)(e:H' a=some (.lst vs'))(p:P' a)(r':bG P' H' vs' xs'):Rep P' H' (.ref a) (aCa d xs'):=by
 cases d<;>simp only[G8] at h<;>cases h<;>cases r
 ·exact .lst e p r'
 ·exact .cel e p r'
def aJw(h:G8 d=some xs):inner d=D.aJ xs:=by
 cases d<;>simp only[G8] at h<;>cases h<;>rfl
def LC(h:G8 d=some xs):inner (aCa d xs')=D.aJ xs':=by
 cases d<;>simp only[G8] at h<;>cases h<;>rfl
def aJx(h:G8 d=some xs):d≠.uD:=λz=>by subst z;cases h
def ES.aOn(E:ES own H σ ρ)(ho:own i=true)(hi:σ[i]?=some (some (.ref a)))(hk:∀b ob,H b=some ob->b≠a->H' b=some ob)(e:H' a=some o)(hm:PN o=true)(r:Rep All H' (.ref a) d)(hin:inner d=true) :
  ES own H' σ (ρ.set i d)/\KU own σ H σ H':=by
 have hOa:Own own σ a:=⟨i,ho,hi⟩
 obtain⟨a',oa,ea,_,_,hHa,hma,huq⟩:=E.own i _ ho hi;cases ea;have k:KU own σ H σ H':=λb ob e n=>⟨hk b ob e (λz=>by subst z;exact n hOa),n⟩
 have hl:i<ρ.length:=by rw[<-E.len];exact(List.getElem?_eq_some_iff.mp hi).1
 refine⟨⟨by simp[E.len],λj hj=>?_,λj w hj hw=>?_⟩,k⟩
 ·rw[cW] at hj ⊢;by_cases h:i=j/\i<ρ.length
  ·obtain⟨rfl,_⟩:=h;exact⟨_,hi,λz=>by rw[ho] at z;cases z⟩
  ·rw[if_neg h] at hj ⊢;obtain⟨w,h1,h2⟩:=E.at_ j hj;exact⟨w,h1,λhj=>k.rep E (h2 hj)⟩
 ·by_cases hij:i=j
  ·subst hij;rw[hi] at hw;cases hw;rw[cW,if_pos ⟨rfl,hl⟩];exact⟨a,o,rfl,r,hin,e,hm,huq⟩
  ·rw[cW,if_neg λz=>hij z.1];obtain⟨b,ob,h1,h2,h3,h4,h5,h6⟩:=E.own j w hj hw;subst h1;have hba:b≠a:=λz=>by subst z;exact hij (h6 i ho hi)
   refine⟨b,ob,rfl,?_,h3,hk _ _ h4 hba,h5,h6⟩;refine(h2.vC (P':=λc=>c=b) h3 rfl).keep (λc oc hc hp=>?_) λ_ _=>trivial
   refine hk _ _ hc λz=>?_
   subst z;rcases hp with hp|hp
   ·exact hba hp.symm
   ·rw[hHa] at hc;cases hc;rw[hma] at hp;cases hp
def NS(own:Nat->Bool)(ρ ρ':List D):Prop:=∀i,own i=false->ρ'.getD i .uD=ρ.getD i .uD
def NS.refl:NS own ρ ρ:=λ_ _=>rfl
def NS.set(ho:own i=true):NS own ρ (ρ.set i d):=λj hj=>by
 rw[cW,if_neg];rintro⟨rfl,_⟩;rw[ho] at hj;cases hj
def kX(own:Nat->Bool)(σ:L2.St)(H:Hp)(ρ:List D)(d:D)(ρ':List D)(Q:VK):Prop:=∀v H',KU own σ H σ H'->ES own H' σ ρ'->NS own ρ ρ'->Rep (New H) H' v d->Q v H'
noncomputable def gX(own:Nat->Bool)(f:FX):TE:=λσ H Q=>∃ρ d ρ',ES own H σ ρ/\f ρ=.ok (d,ρ')/\kX own σ H ρ d ρ' Q
noncomputable def gXT(own:Nat->Bool)(f:FXT):TT:=λσ H Q=>∃ρ d ρ',ES own H σ ρ/\f ρ=.ok (d,ρ')/\∀H',KU own σ H σ H'->ES own H' σ ρ'->NS own ρ ρ'->Q d H'
noncomputable def gAO(own:Nat->Bool)(f:FA):TA:=λσ H Q=>∃ρ ds,ES own H σ ρ/\f ρ=.ok ds/\∀vs H',bU H H'->bG (λa=>¬Own own σ a) H' vs ds->Q vs H'
def wL(E:ES own H σ ρ)(h:H a=none):¬Own own σ a:=λn=>by
 obtain⟨o',e,_⟩:=E.live n;rw[h] at e;cases e
def aGn(E:ES own H σ ρ)(E1:ES own H1 σ ρ1)(k:KU own σ H1 σ H2):KQ (New H) H1 H2:=λa o e hp=>by
 refine(k a o e ?_).1;rcases hp with hp|hp
 ·exact wL E hp
 ·intro n;obtain⟨o',e',hm⟩:=E1.live n;rw[e] at e';cases e';rw[hp] at hm;cases hm
def Rep.ku(r:Rep (New H) H1 v d)(E:ES own H σ ρ)(E1:ES own H1 σ ρ1)(k:KU own σ H1 σ H2):Rep (New H) H2 v d:=r.keep (aGn E E1 k) λ_ h=>h
theorem ES.aPx(E:ES own H σ ρ)(k:KU own σ H σ H')(E':ES own H' σ ρ')(ns:NS own ρ ρ')(ho:own i=true)(hn:H a=none)(r:Rep All H' (.ref a) d)(hin:inner d=true)(ha:H' a=some o)(hm:PN o=true) :
  ES own H' (σ.set i (some (.ref a))) (ρ'.set i d)/\KU own σ H (σ.set i (some (.ref a))) H':=by
 have hO:∀b,H b≠none->¬Own own σ b->¬Own own (σ.set i (some (.ref a))) b:=λb hb n ⟨j,hj,e⟩=>by
  by_cases hij:i=j
  ·subst hij;by_cases hl:i<σ.length
   ·rw[List.getElem?_set_self hl] at e;cases e;exact hb hn
   ·rw[List.getElem?_set,if_pos rfl,if_neg hl] at e;cases e
  ·rw[List.getElem?_set_ne hij] at e;exact n ⟨j,hj,e⟩
 have hna:¬Own own σ a:=wL E hn;refine⟨⟨by simp[E'.len],λj hj=>?_,λj w hj hw=>?_⟩,λb ob e n=>⟨(k b ob e n).1,hO b (by rw[e];simp) n⟩⟩
 ·rw[cW] at hj ⊢;by_cases h:i=j/\i<ρ'.length
  ·rw[if_pos h];obtain⟨rfl,hl⟩:=h;exact⟨.ref a,by rw[List.getElem?_set_self (by rw[E'.len];exact hl)],λz=>by rw[ho] at z;cases z⟩
  ·rw[if_neg h] at hj ⊢;obtain⟨w,h1,h2⟩:=E'.at_ j hj;by_cases hij:i=j
   ·subst hij;have:i<σ.length:=(List.getElem?_eq_some_iff.mp h1).1;rw[E'.len] at this;exact absurd ⟨rfl,this⟩ h
   ·refine⟨w,by rw[List.getElem?_set_ne hij];exact h1,λhoj=>?_⟩;rw[ns j hoj] at hj ⊢;obtain⟨w',h1',h2'⟩:=E.at_ j hj;rw[h1] at h1';cases h1';exact(h2' hoj).dom.keep (λc oc hc hp=>k.keep E c oc hc (hp.imp And.left id)) λb ⟨n,hb⟩=>hO b hb n
 ·by_cases hij:i=j
  ·subst hij;have hl:i<σ.length:=by
    have:=(List.getElem?_eq_some_iff.mp hw).1;simpa using this
   rw[List.getElem?_set_self hl] at hw;cases hw;rw[cW,if_pos ⟨rfl,by rw[<-E'.len];exact hl⟩];refine⟨a,o,rfl,r,hin,ha,hm,λk hk hs=>?_⟩;by_cases hik:i=k
   ·exact hik.symm
   ·rw[List.getElem?_set_ne hik] at hs;exact absurd ⟨k,hk,hs⟩ hna
  ·rw[List.getElem?_set_ne hij] at hw;rw[cW,if_neg λz=>hij z.1];obtain⟨b,ob,h1,h2,h3,h4,h5,h6⟩:=E'.own j w hj hw;refine⟨b,ob,h1,h2,h3,h4,h5,λk hk hs=>?_⟩;by_cases hik:i=k
   ·subst hik;by_cases hl:i<σ.length
    ·rw[List.getElem?_set_self hl] at hs;cases hs;subst h1;exact absurd ⟨j,hj,hw⟩ hna
    ·rw[List.getElem?_set,if_pos rfl,if_neg hl] at hs;cases hs
   ·rw[List.getElem?_set_ne hik] at hs;exact h6 k hk hs
end
section
def aOo(h:gX own (x2L f xa fb) σ H Q):tOp (r2 f fr) (gX own xa) (gE fb rb) σ H Q:=by
 obtain⟨ρ,d,ρ',E,h,q⟩:=h;obtain⟨⟨x,ρ1⟩,h1,h⟩:=aY h;split at h
 ·rename_i hp;obtain⟨y,h2,h⟩:=aY h;obtain⟨z,h3,h⟩:=aY h;split at h
  ·rename_i hz;cases h;refine⟨ρ,x,ρ1,E,h1,λv H1 k1 E1 ns r1=>⟨ρ1,y,E1.er,h2,λw H2 s2 r2 _=>⟨x,y,_,(r1.same s2).all,r2,h3,λu H3 s3 r3 _=>?_⟩⟩⟩;exact q u H3 (k1.trans (.same (s2.trans s3))) (E1.same (s2.trans s3)) ns (r3.bN hz)
  ·exact bx h
 ·exact bx h
def yK(ho:OpR X (binaryOp o) (r2 f fr))(ha:PE X a (gX own xa))(hb:PE X b (gE fb rb)):PE X (.BinOp a o b pos) (gX own (x2L f xa fb)):=PE.imp (aF9 ho ha hb) λ_ _ _=>aOo
def YZ(ho:OpR X (compareOp o) (r2 f fr))(ha:PE X a (gX own xa))(hb:PE X b (gE fb rb))(hm:behindInMarks o b=false):PT X (.Compare a [o] [b] pos) (gXT own (xTB (x2L f xa fb))):=
 PT.imp (V5 ho ha hb hm) λσ H Q ⟨ρ,k,ρ',E,h,q⟩=>by
  obtain⟨⟨d,ρ1⟩,h1,h2⟩:=aY h;obtain⟨b,h3,h4⟩:=aY h2;cases h4;refine aOo ⟨ρ,d,_,E,h1,λv H' k1 E1 ns r=>?_⟩;cases aDz h3;cases r.inv;exact⟨_,rfl,q H' k1 E1 ns⟩
def aPy(h:gX own (x2R f fa xb) σ H Q):tOp (r2 f fr) (gE fa true) (gX own xb) σ H Q:=by
 obtain⟨ρ,d,ρ',E,h,q⟩:=h;obtain⟨x,h1,h⟩:=aY h;obtain⟨⟨y,ρ1⟩,h2,h⟩:=aY h;obtain⟨z,h3,h⟩:=aY h;split at h
 ·rename_i hz;cases h;refine⟨ρ,x,E.er,h1,λv H1 s1 r1 n1=>⟨ρ,y,ρ1,E.same s1,h2,λw H2 k2 E2 ns r2=>⟨x,y,_,((n1 rfl).ku E (E.same s1) k2).all,r2.all,h3,λu H3 s3 r3 _=>?_⟩⟩⟩;exact q u H3 ((KU.same s1).trans (k2.trans (.same s3))) (E2.same s3) ns (r3.bN hz)
 ·exact bx h
def aJy(ho:OpR X (binaryOp o) (r2 f fr))(ha:PE X a (gE fa true))(hb:PE X b (gX own xb)):PE X (.BinOp a o b pos) (gX own (x2R f fa xb)):=PE.imp (aF9 ho ha hb) λ_ _ _=>aPy
def aJz(E:ES own H σ ρ)(ho:own i=false)(h:cO i ρ=.ok d):∃v,σ[i]?=some (some v)/\Rep (λa=>¬Own own σ a) H v d:=by
 obtain⟨v,hv,r,e⟩:=E.er.var h;have hne:ρ.getD i .uD≠.uD:=λz=>by
  rw[z] at e;subst e;exact Rep.uD r
 obtain⟨w,hw,hr⟩:=E.at_ i hne;rw[hv] at hw;cases hw;have r2:=hr ho;rw[e] at r2;exact⟨v,hv,r2⟩
def aPz(ho:own i=false)(h:gX own (x2R f (cO i) xb) σ H Q):tOp (r2 f fr) (gK i) (gX own xb) σ H Q:=by
 obtain⟨ρ,d,ρ',E,h,q⟩:=h;obtain⟨x,h1,h⟩:=aY h;obtain⟨⟨y,ρ1⟩,h2,h⟩:=aY h;obtain⟨z,h3,h⟩:=aY h;obtain⟨v,hv,rv⟩:=aJz E ho h1;split at h
 ·rename_i hz;cases h;refine⟨v,hv,ρ,y,ρ1,E,h2,λw H2 k2 E2 ns r2=>⟨x,y,_,(k2.rep E rv).all,r2.all,h3,λu H3 s3 r3 _=>?_⟩⟩;exact q u H3 (k2.trans (.same s3)) (E2.same s3) ns (r3.bN hz)
 ·exact bx h
def aE9(ho:IxR X (r2 f fr))(hoi:own i=false)(hN:X.N[i]?=some x)(hv:Vis X.env.scope x)(hb:PE X b (gX own xb))(hs:zG b)(hd:nDb x:=by decide)(hcd:nCd x:=by decide):PE X (.Subscript (.Name x pv) b pos) (gX own (x2R f (cO i) xb)):=PE.imp (WK ho (aW hN hv hd hcd) hb hs) λ_ _ _=>aPz hoi
def aCb(ho:own i=o)(h:tS own (eV o i xe) D' σ H):zB (gX own xe) (fZ i) D' σ H:=by
 obtain⟨ρ,fl,E,h,q⟩:=h;obtain⟨⟨d,ρ1⟩,h1,h2⟩:=aY h;cases o with
 |true=>
  simp only[if_true] at h2;split at h2
  ·rename_i hk;cases h2;refine⟨ρ,d,ρ1,E,h1,λv H' k E1 ns r=>?_⟩;obtain⟨a,ob,rfl,hn,ha,hm⟩:=aE4 r hk;obtain⟨E2,k2⟩:=E.aPx k E1 ns ho hn r.all hk ha hm;exact q _ H' k2 E2
  ·exact bx h2
 |false=>
  simp only[Bool.false_eq_true,if_false,if_true] at h2;cases h2;refine⟨ρ,d,ρ1,E,h1,λv H' k E1 ns r=>?_⟩;exact q _ H' (λa ob e hn=>⟨(k a ob e hn).1,by rw[jX ho];exact hn⟩) (E1.set ho (zQ E r))
def jU(ho:own i=o)(hN:X.N.Nodup)(hi:X.N[i]?=some x)(hx:Loc X.env.scope x)(he:PE X e (gX own xe))(hs:swapsWith e (some (.Name x pos')) pos.line X.env=pure false:=by rfl)(hf:X.fn x=true\/X.env.scope.names.lookup x=some .local:=by first|exact .inl rfl|exact .inr rfl|assumption) :
  PS X (.Assign [.Name x pos'] e pos) (tS own (eV o i xe)):=PS.imp (N7 hN hi hx he hs hf) λ_ _ _=>aCb ho
def aK0(hc:PT X c (gXT own xc))(ha:PSs X s1 (tS own f))(hb:PSs X s2 (tS own g)):PS X (.If c s1 s2 pos) (tS own (aGl xc f g)):=PS.imp (J6 hc ha hb) λD σ H ⟨ρ,fl,E,h,q⟩=>by
 obtain⟨⟨k,ρ1⟩,h1,h2⟩:=aY h;refine⟨ρ,k,ρ1,E,h1,λH' ku E1 ns=>?_⟩;cases k with
 |true=>rw[if_pos rfl];rw[if_pos rfl] at h2;exact⟨ρ1,fl,E1,h2,q.step ku⟩
 |false=>rw[if_neg 0x2];rw[if_neg 0x2] at h2;exact⟨ρ1,fl,E1,h2,q.step ku⟩
end
section
variable {own:Nat->Bool} {X:Cx} {a b c e:Expr} {pos pos':Pos} {fe:FE} {ra re:Bool}
def kRt.new{D:Ends}(h:kRt own D σ H (.tup (d0::ρ')))(hx:own rtX=true):∀v σ' H',KU own σ H σ' H'->ES own H' σ' ρ'->Rep (λa=>(Own own σ a\/H a=none)/\∀i b xs,ρ'.getD i .uD=.cel b xs->a≠b) H' v d0->D.rt v H':=by
 unfold kRt at h;rw[if_pos hx] at h;obtain⟨d1,ρ1,e,g⟩:=h;cases e;exact g
def iB(E:ES own H σ ρ){i b:Nat}(h:ρ.getD i .uD=.cel b xs):∃vs,σ[i]?=some (some (.ref b))/\H b=some (.lst vs):=by
 obtain⟨v,h1,h2⟩:=E.er i (by rw[h];intro z;cases z);rw[h] at h2;obtain⟨_,rfl,e,_,_⟩:=h2.inv;exact⟨_,h1,e⟩
def LK(he:PE X e (gE fe re))(hx:own rtX=true:=by rfl):PS X (.Return (some e) pos) (tS own (KJ fe re)):=PS.imp (oK he) λD σ H ⟨ρ,fl,E,h,q⟩=>by
 obtain⟨d,h1,h2⟩:=aY h;split at h2
 ·rename_i hk;cases h2;refine⟨ρ,d,E.er,h1,λv H' s r n=>kRt.new q hx v σ H' (.same s) (E.same s) ?_⟩;rw[Bool.or_eq_true] at hk;rcases hk with hk|hk
  ·refine(n hk).mono λa ha=>⟨.inr ha,λi b xs hb z=>?_⟩
   obtain⟨vs,_,e⟩:=iB E hb;subst z;rw[show H a=none from ha] at e;cases e
  ·exact r.bN hk
 ·exact bx h2
def vH(ho:own i=true)(hN:X.N[i]?=some x)(hv:Vis X.env.scope x)(hd:nDb x:=by decide)(hcd:nCd x:=by decide)(hx:own rtX=true:=by rfl):PS X (.Return (some (.Name x pos')) pos) (tS own (nM i)):=
 PS.imp (oK (aW hN hv hd hcd)) λD σ H ⟨ρ,fl,E,h,q⟩=>by
 obtain⟨d,h1,h2⟩:=aY h;split at h2
 ·rename_i hc;cases h2;obtain⟨v,hv,r,e⟩:=E.er.var h1;obtain⟨a,o,rfl,r2,hin,_,_,huq⟩:=E.own i v ho hv;rw[e] at hin;refine⟨_,hv,kRt.new q hx _ σ H (.same (bU.refl H)) E (r.vC hin ⟨.inl ⟨i,ho,hv⟩,λj b xs hb z=>?_⟩)⟩;obtain⟨vs,hj,eb⟩:=iB E hb;subst z;cases hoj:own j with
  |true=>
   have:=huq j hoj hj;subst this;rw[hb] at e;subst e;cases hc
  |false=>
   obtain⟨w,hw,hr⟩:=E.at_ j (by rw[hb];intro z;cases z);have r3:=hr hoj;rw[hb] at r3;obtain⟨_,rfl,e,p,r⟩:=r3.inv;exact p ⟨i,ho,hv⟩
 ·exact bx h2
def spV(k:Nat)(f:List D->Res D)(n:Nat):Sp:=λvs H Q _=>∃ds d ds',ds.length=n/\vs.length=n/\ES (vC k) H (vs.map some) ds/\(∀i,i<k->∃b xs xs',ds.getD i .uD=.cel b xs/\ds'.getD i .uD=.cel b xs')/\f ds=.ok (.tup (d::ds'))/\
 ∀v H',(∀a o,H a=some o->¬Own (vC k) (vs.map some) a->H' a=some o)->(∀i v,i<k->vs[i]?=some v->Rep All H' v (ds'.getD i .uD)/\inner (ds'.getD i .uD)=true)->Rep (New H) H' v d->Q v H'
def aGo(h:spV k f n vs H Q E):vs.length=n:=by
 obtain⟨ds,d,ds',h1,h2,_⟩:=h;exact h2
def G9{ρ:List D}(h:i<k):(ρ.take k).getD i .uD=ρ.getD i .uD:=by
 rw[List.getD_eq_getElem?_getD,List.getD_eq_getElem?_getD,List.getElem?_take,if_pos h]
def aCc{N ps:List Str}{f:FS}{vs:List V}{H:Hp}{Q:VK}{E:XK}(hx:own rtX=true)(hown:∀i,i<ps.length->own i=vC k i)(hkn:k<=ps.length)(h0:spV k (fnX k ps.length N.length f) ps.length vs H Q E):tS own f {nx:=λ_ H'=>Q .non H',rt:=Q} (start N vs) H:=by
 obtain⟨ds,d,ds',hl,hvl,E0,hc,h,q⟩:=h0;obtain⟨fl,h1,h2⟩:=aY h;have hst:start N vs=vs.map some++List.replicate (N.length-ps.length) none:=by
  show vs.map some++List.replicate (N.length-vs.length) none=_;rw[hvl]
 have low:∀i,i<ps.length->(start N vs)[i]?=(vs.map some)[i]?:=λi hi=>by rw[hst,List.getElem?_append_left (by simp[hvl,hi])]
 have high:∀i v,ps.length<=i->(start N vs)[i]?≠some (some v):=λi v hi e=>by
  rw[hst,List.getElem?_append_right (by simp[hvl];lia),List.getElem?_replicate] at e;split at e<;>cases e
 have hO:∀a,Own own (start N vs) a↔Own (vC k) (vs.map some) a:=λa=>by
  constructor
  ·rintro⟨i,hi,e⟩;by_cases hlt:i<ps.length
   ·exact⟨i,by rw[<-hown i hlt];exact hi,by rw[<-low i hlt];exact e⟩
   ·exact absurd e (high i _ 0x1)
  ·rintro⟨i,hi,e⟩;have hik:i<k:=by simpa[vC] using hi
   have hlt:i<ps.length:=by lia
   exact⟨i,by rw[hown i hlt];exact hi,by rw[low i hlt];exact e⟩
 have hOf:(λa=>¬Own own (start N vs) a)=λa=>¬Own (vC k) (vs.map some) a:=funext λa=>by rw[hO]
 have gd:∀i,i<ps.length->(ds++List.replicate (N.length-ps.length) D.uD).getD i .uD=ds.getD i .uD:=λi hi=>by
  rw[List.getD_eq_getElem?_getD,List.getElem?_append_left 0x1,List.getD_eq_getElem?_getD]
 have ES0:ES own H (start N vs) (ds++List.replicate (N.length-ps.length) .uD):=by
  refine⟨by rw[hst];simp[hvl,hl],λi hi=>?_,λi v hi hv=>?_⟩
  ·have hlt:i<ps.length:=Nat.lt_of_not_le λhge=>hi (by
    rw[List.getD_eq_getElem?_getD,List.getElem?_append_right 0x1,List.getElem?_replicate];split<;>rfl)
   rw[gd i hlt] at hi ⊢;obtain⟨v,g1,g2⟩:=E0.at_ i hi;exact⟨v,by rw[low i hlt];exact g1,λho=>by rw[hOf];exact g2 (by rw[<-hown i hlt];exact ho)⟩
  ·have hlt:i<ps.length:=Nat.lt_of_not_le λhge=>high i v hge hv
   rw[low i hlt] at hv;rw[gd i hlt];obtain⟨a,o,g1,g2,g3,g4,g5,g6⟩:=E0.own i v (by rw[<-hown i hlt];exact hi) hv;refine⟨a,o,g1,g2,g3,g4,g5,λj hj hs=>?_⟩;have hjl:j<ps.length:=Nat.lt_of_not_le λhge=>high j _ hge hs
   exact g6 j (by rw[<-hown j hjl];exact hj) (by rw[<-low j hjl];exact hs)
 have fin:∀v σ' H' ρ',ds'=ρ'.take k->KU own (start N vs) H σ' H'->ES own H' σ' ρ'->Rep (New H) H' v d->Q v H':=λv σ' H' ρ' ed ku E' r=>by
  refine q v H' (λa o e n=>(ku a o e (by rw[hO];exact n)).1) (λi w hi hw=>?_) r;have hlt:i<ps.length:=by lia
  obtain⟨b,xs,xs',g1,g2⟩:=hc i hi;have hoi:own i=true:=by rw[hown i hlt];simp[vC,hi]
  have g3:ρ'.getD i .uD=.cel b xs':=by rw[ed,G9 hi] at g2;exact g2
  obtain⟨vs0,z1,_⟩:=iB E0 g1;rw[List.getElem?_map,hw] at z1;cases z1;obtain⟨w',z2,_⟩:=E'.at_ i (by rw[g3];intro z;cases z);obtain⟨a,o,rfl,g4,g5,_⟩:=E'.own i w' hoi z2;rw[g3] at g4 g5;have:=YW g4;cases this;rw[g2];exact⟨g4,g5⟩
 refine⟨_,fl,ES0,h1,?_⟩;cases fl with
 |nx ρ'=>
  simp only[aNh] at h2;injection h2 with h2
  injection h2 with h2
  injection h2 with z1 z2
  subst z1;exact λσ' H' ku E'=>fin .non σ' H' ρ' z2.symm ku E' .non
 |bk ρ'=>exact bx h2
 |ct ρ'=>exact bx h2
 |rt d'=>
  show kRt own _ _ _ d';unfold kRt;rw[if_pos hx];unfold aNh at h2;split at h2
  ·rename_i d1 ρ' heq;cases heq;injection h2 with h2
   injection h2 with h2
   injection h2 with z1 z2
   subst z1;refine⟨_,_,rfl,λv σ' H' ku E' r=>fin v σ' H' ρ' z2.symm ku E' (r.mono λa ha=>?_)⟩;rcases ha.1 with ⟨i,hi,e⟩|hn
   ·exfalso;have hlt:i<ps.length:=Nat.lt_of_not_le λhge=>high i _ hge e
    have hik:i<k:=by rw[hown i hlt] at hi;simpa[vC] using hi
    obtain⟨b,xs,xs',g1,g2⟩:=hc i hik;obtain⟨vs0,q1,_⟩:=iB E0 g1;rw[low i hlt,q1] at e;cases e;rw[<-z2,G9 hik] at g2;exact ha.2 i _ xs' g2 rfl
   ·exact hn
  ·rename_i heq;cases heq
  ·exact bx h2
def aK1{w:World}{K:PySem.W.Frag}{mg:Str->Option Value}{base:Heap}{x qual:Str}{st:Stmt}{fad:Addr}{fd:FuncData}{N ps:List Str}{k c:Nat}{f:FS}(F:Fun K x qual st fad fd)(S:bY N ps (aL st))(own:Nat->Bool)(hx:own rtX=true)(hown:∀i,i<ps.length->own i=vC c i)(hkn:c<=ps.length)
 (hbody:∀(cdv:Value) (A:Around) (outer:List Env) (s:Shared) (H:Hp) (E:XK),lX k (A.deeper (envOfC qual (aL st) s.heap.objs.size fad cdv))->PSs (JW CX0 P w K mg base N qual (aL st) fad cdv A outer s H E).nox (cR st) (tS own f)):lR P w K mg base CX0 (k+1) fad fd ps (spV c (fnX c ps.length N.length f) ps.length):=
 F.ok S (λvs H Q E h=>aGo h) λcdv A outer s H vs Q E hr h=>⟨_,hbody cdv A outer s H E hr,aCc hx hown hkn h⟩
def z7(P:Program)(w:World)(K:PySem.W.Frag)(mg:Str->Option Value)(base:Heap)(k:Nat)(x:Str)(n c:Nat)(f:List D->Res D):Prop:=
 ∃(fad:Addr)(fd:FuncData)(ps:List Str),lR P w K mg base CX0 k fad fd ps (spV c f n)/\mg x=some (.ref fad)/\PySem.W.keepIn K (.ref fad)=true/\Binds K fd ps []
def sS{w:World}{K:PySem.W.Frag}{mg:Str->Option Value}{base:Heap}{x:Str}{k:Nat}{st:Stmt}{fad:Addr}{fd:FuncData}{N ps:List Str}{fs:FS}(c:Nat)(F:Fun K x x st fad fd)(hm:mg x=some (.ref fad))(hb:Binds K fd ps [])(S:bY N ps (aL st))(own:Nat->Bool)(hown:∀i,i<ps.length->own i=vC c i)(hkn:c<=ps.length)
 (hbody:∀(cdv:Value) (A:Around) (outer:List Env) (s:Shared) (H:Hp) (E:XK),lX k (A.deeper (envOfC x (aL st) s.heap.objs.size fad cdv))->PSs (JW CX0 P w K mg base N x (aL st) fad cdv A outer s H E).nox (cR st) (tS own fs))(hx:own rtX=true:=by rfl):z7 P w K mg base (k+1) x ps.length c (fnX c ps.length N.length fs):=
 ⟨fad,fd,ps,aK1 F S own hx hown hkn hbody,hm,F.kp,hb⟩
def gD:PA X [] (gAO own aQ):=PA.imp dZ λσ H Q ⟨ρ,ds,E,h,q⟩=>by cases h;exact q [] H (bU.refl H) .nil
def gP(ho:own i=false)(hN:X.N[i]?=some x)(hv:Vis X.env.scope x)(hes:PA X es (gAO own f))(hd:nDb x:=by decide)(hcd:nCd x:=by decide)(hs:starEach (.Name x pos::es) X.env=(false,eval (.Name x pos) X.env)::starEach es X.env:=by rfl):PA X (.Name x pos::es) (gAO own (aB (cO i) f)):=PA.imp (bJ (aW hN hv hd hcd) hes hs) λσ H Q ⟨ρ,ds,E,h,q⟩=>by
 obtain⟨x,h1,h⟩:=aY h;obtain⟨xs,h2,h⟩:=aY h;cases h;obtain⟨v,hv,rv⟩:=aJz E ho h1;exact⟨v,hv,ρ,xs,E,h2,λvs H2 s2 r2=>q _ _ s2 (.cons (rv.same s2) r2)⟩
def aGp(he:PE X e (gE fe re))(hes:PA X es (gAO own f))(hs:starEach (e::es) X.env=(false,eval e X.env)::starEach es X.env:=by rfl):PA X (e::es) (gAO own (aB (bPu fe) f)):=PA.imp (bJ he hes hs) λσ H Q ⟨ρ,ds,E,h,q⟩=>by
 obtain⟨x,h1,h⟩:=aY h;obtain⟨xs,h2,h⟩:=aY h;cases h;obtain⟨y,h3,h1⟩:=aY h1;split at h1
 ·rename_i hp;cases h1;exact⟨ρ,_,E.er,h3,λv H1 s1 r1 _=>⟨ρ,xs,E.same s1,h2,λvs H2 s2 r2=>q _ _ (s1.trans s2) (.cons ((r1.bN hp).same s2) r2)⟩⟩
 ·exact bx h1
def aK2(he:PE X e (gE fe true))(hes:PA X es (gAO own f))(hs:starEach (e::es) X.env=(false,eval e X.env)::starEach es X.env:=by rfl):PA X (e::es) (gAO own (aB fe f)):=PA.imp (bJ he hes hs) λσ H Q ⟨ρ,ds,E,h,q⟩=>by
 obtain⟨x,h1,h⟩:=aY h;obtain⟨xs,h2,h⟩:=aY h;cases h;exact⟨ρ,_,E.er,h1,λv H1 s1 r1 n1=>⟨ρ,xs,E.same s1,h2,λvs H2 s2 r2=>q _ _ (s1.trans s2) (.cons ((zQ E (n1 rfl)).same s2) r2)⟩⟩
def aNi{a:Addr}(ha:H a=some (.lst vs0))(ra:bG All H vs0 xs)(hp:D.aJ xs=true)(rs:bG (λb=>b≠a) H vs rest):ES (vC 1) H ((V.ref a::vs).map some) (.cel a xs::rest):=by
 have hO:∀b,Own (vC 1) ((V.ref a::vs).map some) b->b=a:=λb ⟨j,hj,e⟩=>by
  have:j=0:=by simp[vC] at hj;lia
  subst this;simp at e;exact e.symm
 refine⟨by simp[rs.length],λi hi=>?_,λi v hi hv=>?_⟩
 ·cases i with
  |zero=>exact⟨.ref a,rfl,λz=>by simp[vC] at z⟩
  |succ i=>
   have e:(D.cel a xs::rest).getD (i+1) .uD=rest.getD i .uD:=rfl;rw[e] at hi ⊢;cases hq:rest[i]? with
   |none=>rw[List.getD_eq_getElem?_getD,hq] at hi;exact absurd rfl hi
   |some d=>
    obtain⟨v,g1,g2⟩:=rs.get hq;rw[List.getD_eq_getElem?_getD,hq];exact⟨v,by simp[g1],λ_=>g2.mono λb hb ho=>hb (hO b ho)⟩
 ·have:i=0:=by simp[vC] at hi;lia
  subst this;simp at hv;subst hv;exact⟨a,.lst vs0,rfl,.cel ha trivial ra,hp,ha,rfl,λj hj _=>by simp[vC] at hj;lia⟩
def LQ(E:ES own H σ ρ)(ho:own i=true)(h:G8 (ρ.getD i .uD)=some xs):∃a vs,σ[i]?=some (some (.ref a))/\H a=some (.lst vs)/\bG All H vs xs/\D.aJ xs=true/\Rep All H (.ref a) (ρ.getD i .uD)/\∀b,ρ.getD i .uD=.cel b xs->b=a:=by
 obtain⟨a,o,hσ,r,hin,ha,hm⟩:=E.ownAt ho (aJx h);obtain⟨vs,e,_,rr⟩:=aE8 r h;exact⟨a,vs,hσ,e,rr,by rw[aJw h] at hin;exact hin,r,λb hb=>by rw[hb] at r;have:=YW r;cases this;rfl⟩
def aK3{a:Addr}(r:Rep All H (.ref a) d)(h:G8 d=some xs)(r':Rep All H' (.ref a) (.cel a xs')):∃vs,H' a=some (.lst vs)/\Rep All H' (.ref a) (aCa d xs'):=by
 obtain⟨vs,e,_,rr⟩:=aE8 r' rfl;exact⟨vs,e,YX r h e trivial rr⟩
def cN(C:z7 X.prog X.w X.K X.mg X.base k x n 1 f)(hr:lX k' X.A)(hkk:k<=k')(hg:Gl X x)(ho:own i=true)(hN:X.N[i]?=some y)(hv:Vis X.env.scope y)(ha:PA X es (gAO own fs))(hdb:nDb x:=by decide)(hd:(y==("__debug__" : Str))=false:=by decide)(hcd:(y==("__classdict__" : Str))=false:=by decide)
 (he:starEach (.Name y py::es) X.env=(false,eval (.Name y py) X.env)::starEach es X.env:=by rfl)(hpl:(backTo pos (starEach es X.env)).any (·.1)=false:=by rfl):PE X (.Call (.Name x p) (.Name y py::es) [] pos) (gX own (bT f n i fs)):=by
 obtain⟨fad,fd,ps,F,hm,hk,hb⟩:=C;refine PE.imp (V8 F (hr.mono hkk) hg hm hk hb .nil aBn (bJ (aW hN hv hd hcd) ha he) hdb he hpl) λσ H Q ⟨ρ,d,ρ',E,h,q⟩=>?_
 obtain⟨rest,h1,h⟩:=aY h;split at h
 ·rename_i xs hx;split at h
  ·rename_i hn;obtain⟨⟨r0,xs'⟩,h2,h⟩:=aY h;split at h
   ·rename_i hp';cases h;obtain⟨a,vs0,hσ,e0,rr0,hp0,rp0,_⟩:=LQ E ho hx;refine⟨_,hσ,ρ,rest,E,h1,λvs H1 s1 rs=>?_⟩;have hOa:Own own σ a:=⟨i,ho,hσ⟩
    have hl:rest.length+1=n:=of_decide_eq_true hn;dsimp only;rw[List.append_nil];refine⟨.cel a xs::rest,_,[.cel a xs'],by simp;lia,by simp[rs.length];lia,aNi (s1 _ _ e0) (rr0.same s1) hp0 (rs.mono λb hb z=>by subst z;exact hb hOa),λj hj=>?_,aJv h2 a,λv H' k1 own1 rn=>?_⟩
    ·have:j=0:=by lia
     subst this;exact⟨a,xs,xs',rfl,rfl⟩
    ·obtain⟨r1,hin⟩:=own1 0 _ 0x1 rfl;have r1:Rep All H' (.ref a) (.cel a xs'):=r1;obtain⟨vs1,e1,r2⟩:=aK3 (rp0.same s1) hx r1;have hk1:∀b ob,H1 b=some ob->b≠a->H' b=some ob:=λb ob e n=>k1 b ob e λ⟨j,hj,ej⟩=>by
      have:j=0:=by simp[vC] at hj;lia
      subst this;simp at ej;exact n ej.symm
     obtain⟨E2,k2⟩:=(E.same s1).aOn ho hσ hk1 e1 rfl r2 (by rw[LC hx];exact hp');exact q v H' ((KU.same s1).trans k2) E2 (.set ho) (rn.mono λb hb=>s1.free hb)
   ·exact bx h
  ·exact bx h
 ·exact bx h
end
end
noncomputable def xcf(f:FX):List D->List D->List D->Res (List D×List D)
 |acc,[],ρ=>.ok (acc,ρ)
 |acc,x::xs,ρ=>do
  let p <- f (ρ++[x])
  if p.1.pure then xcf f (acc++[p.1]) xs p.2.dropLast else .bad
def Y0(it:FI)(f:FX):FX:=λρ=>do
 let xs <- it ρ
 if xs.2&&decide (xs.1.length<=lim) then (do
  let p <- xcf f [] xs.1 ρ
  .ok (.lst p.1,p.2)) else .bad
section
variable [KFrag]
section
variable {own:Nat->Bool} {X:Cx} {a b c e:Expr} {pos pos':Pos} {fa:FE}
def Y4(ho:own i=true)(hN:X.N[i]?=some x)(hvi:Vis X.env.scope x)(hk:PE X k (gE fk rk))(hv:PE X value (gE fv rv))(hs:swapsWith value (some (.Subscript (.Name x p1) k pos')) pos.line X.env=pure false:=by rfl)(hd:nDb x:=by decide)(hcd:nCd x:=by decide) :
  PS X (.Assign [.Subscript (.Name x p1) k pos'] value pos) (tS own (K_ i fk fv)):=by
 intro pins s σ H D' I ⟨ρ,fl,E,h,q⟩;obtain⟨d,h0,h⟩:=aY h;obtain⟨kd,h1,h2⟩:=aY h;split at h2
 ·rename_i xs kk hx;split at h2
  ·rename_i hp;split at h2
   ·rename_i j hj;cases h2;obtain⟨a,vs,hσ,e0,rr,hin,rp,_⟩:=LQ E ho hx;have pn:D.aJ (xs.set j d)=true:=bZ.mpr λy hy=>by
     rcases List.mem_or_eq_of_mem_set hy with hy|hy
     ·exact bZ.mp hin y hy
     ·subst hy;exact hp
    have go:∀{v:V}{H2:Hp},bU H H2->Rep All H2 v d->D'.nx σ (upd H2 a (.lst (vs.set j v))):=λ{v H2} sm rv=>by
     have rn:bG All (upd H2 a (.lst (vs.set j v))) (vs.set j v) (xs.set j d):=((rr.same sm).set rv j).upd pn (sm _ _ e0) rfl;obtain⟨E2,k2⟩:=(E.same sm).aOn ho hσ (λb ob e n=>by rw[aR n];exact e) aH rfl (YX (rp.same sm) hx aH trivial rn) (by rw[LC hx];exact pn);exact q _ _ ((KU.same sm).trans k2) E2
    refine wpAny_Assign_Subscript (thn (hv pins s σ H (λv H1=>bU H H1/\Rep All H1 v d) I ⟨ρ,d,E.er,h0,λv H1 s1 r1 _=>⟨s1,r1⟩⟩) λu1 t1 ⟨v,H1,I1,rv1,sm1,rp1⟩=>
     thn (aW hN hvi hd hcd pins t1 σ H1 (λw H2=>w=.ref a/\H2=H1) I1 ⟨_,hσ,rfl,rfl⟩) λu2 t2 ⟨xx,H2,I2,rx,ex,eH⟩=>?_) hs
    subst ex;rw[eH] at I2;refine thn (hk pins t2 σ _ (λw H3=>bU H1 H3/\w=.int kk) I2 ⟨ρ,_,E.er.same sm1,h1,λw H3 s3 r3 _=>⟨s3,by cases r3.inv;rfl⟩⟩) λu3 t3 ⟨y,H3,I3,ry,sm3,ey⟩=>?_
    subst ey;exact thn (set_list pins t3 σ H3 (.ref a) (.int kk) v u2 u3 u1 (λH4=>D'.nx σ H4) I3 rx ry rv1 ⟨a,vs,kk,j,rfl,rfl,(sm1.trans sm3) _ _ e0,by rw[rr.length];exact hj,go (sm1.trans sm3) (rp1.same sm3)⟩) λ_ t4 ⟨H4,I4,q4⟩=>⟨σ,H4,I4,q4⟩
   ·exact bx h2
  ·exact bx h2
 ·exact bx h2
def T4{a:Addr}(I:Inv X pins σ H s)(e:H a=some (.lst vs)):∃o,Inv X pins σ (upd H a (.frz o (.lst vs))) s:=by
 obtain⟨its,n,r,ho,hz⟩:=I.lst e;refine⟨_,I.write (by rw[e];trivial) (.inl rfl) (λ_ _ _ q=>q) ⟨_,ho⟩ ⟨ho,hz,its,n,r,ho⟩⟩
def Y5(h:ys.all isI=true):D.aJ ys=true:=bZ.mpr λy hy=>by
 have:=List.all_eq_true.mp h y hy;cases y<;>first|rfl|cases this
theorem aEa:∀{xs r:List D}{vs:List V},aGm xs=.ok r->bG (New H) H' vs xs->∃b ws,H b=none/\H' b=some (.lst ws)/\D.aJ r=true/\(∃(k:Nat)(ys:List D),vs[k]?=some (V.ref b)/\bG (New H) H' ws ys/\ys.all isI=true)/\∀o,bG (λc=>H c=none) (upd H' b (.frz o (.lst ws))) vs r
 |[],r,vs,h,_=>by exact bx h
 |x::xs,r,_,h,.cons rx t=>by
  by_cases hl:∃ys,x=.lst ys
  ·obtain⟨ys,rfl⟩:=hl;simp only[aGm] at h;split at h
   ·rename_i hp;rw[Bool.and_eq_true] at hp;cases h;have hpi:=Y5 hp.1;obtain⟨b,ws,rfl,e,p,rr⟩:=rx.inv;have hne:∀ob,H' b=some ob->aE6 ob=true:=λob z=>by rw[e] at z;cases z;rfl
    refine⟨b,ws,p,e,by rw[D.aJ,Bool.and_eq_true];exact⟨hpi,hp.2⟩,⟨0,ys,rfl,rr,hp.1⟩,λo=>.cons (.frz (.inl ⟨o,aH⟩) ((mU hne rr hpi).bN hpi)) ((mU hne t hp.2).bN hp.2)⟩
   ·exact bx h
  ·have h':(if x.pure then (do let r <- aGm xs;.ok (x::r)) else .bad)=Res.ok r:=by
    cases x<;>first|exact h|exact absurd ⟨_,rfl⟩ hl
   split at h'
   ·rename_i hp;obtain⟨r',h1,h2⟩:=aY h';cases h2;obtain⟨b,ws,g1,g2,g3,⟨k,ys,g5,g6,g7⟩,g4⟩:=aEa h1 t;have hne:∀ob,H' b=some ob->aE6 ob=true:=λob z=>by rw[g2] at z;cases z;rfl
    exact⟨b,ws,g1,g2,by rw[D.aJ,Bool.and_eq_true];exact⟨hp,g3⟩,⟨k+1,ys,by simpa using g5,g6,g7⟩,λo=>.cons ((vG hne rx hp).bN hp) (g4 o)⟩
   ·exact bx h'
def aK4(ha:PE X a (gE fa true)):PE X a (gE (aMi fa) true):=by
 intro pins s σ H Q I ⟨ρ,d,E,h,q⟩;obtain⟨x,h1,h⟩:=aY h;split at h
 ·rename_i xs;obtain⟨r,h2,h⟩:=aY h;cases h;refine thn (ha pins s σ H (λv H'=>bU H H'/\Rep (New H) H' v (.lst xs)) I ⟨ρ,_,E,h1,λv H' sm rr n=>⟨sm,n rfl⟩⟩) λu s' ⟨v,H',I',rv,sm,rn⟩=>?_
  obtain⟨a,vs,rfl,e,p,rr⟩:=rn.inv;obtain⟨b,ws,g1,g2,g3,⟨k,ys,g5,g6,g7⟩,g4⟩:=aEa h2 rr;have hab:a≠b:=λz=>by
   subst z;rw[e] at g2;cases g2;obtain⟨d,hd,rd⟩:=g6.at g5;have:=List.all_eq_true.mp g7 d (List.mem_of_getElem? hd);cases d<;>first|(cases this;done)|(cases rd;done)
  obtain⟨o,I2⟩:=T4 I' g2;have s2:bU H (upd H' b (.frz o (.lst ws))):=λc oc hc=>by
   rw[aR (λz=>by subst z;rw[g1] at hc;cases hc)];exact sm c oc hc
  have e2:upd H' b (.frz o (.lst ws)) a=some (.lst vs):=by rw[aR hab];exact e
  exact⟨.ref a,_,I2,rv,q _ _ s2 (.lst e2 trivial (g4 o).all) λ_=>.lst e2 p (g4 o)⟩
 ·exact bx h
def ES.aQ0(E:ES own H σ ρ)(k:KU own σ H σ H5)(E5:ES own H5 σ ρ5)(ns:NS own ρ ρ5)(hp:H p=none)(e5:H5 p=some (.lst vs)):ES own (upd H5 p o) σ ρ5/\KU own σ H σ (upd H5 p o):=by
 have k':KU own σ H σ (upd H5 p o):=λb ob e n=>⟨by rw[aR (bI e hp)];exact(k b ob e n).1,n⟩
 refine⟨⟨E5.len,λj hj=>?_,λj w hj hw=>?_⟩,k'⟩
 ·obtain⟨w,h1,h2⟩:=E5.at_ j hj;refine⟨w,h1,λhoj=>?_⟩;rw[ns j hoj] at hj ⊢;obtain⟨w',h1',h2'⟩:=E.at_ j hj;rw[h1] at h1';cases h1';exact k'.rep E (h2' hoj)
 ·obtain⟨b,ob,h1,h2,h3,h4,h5,h6⟩:=E5.own j w hj hw;subst h1;have hbp:b≠p:=λz=>by subst z;exact wL E hp ⟨j,hj,hw⟩
  refine⟨b,ob,rfl,?_,h3,by rw[aR hbp];exact h4,h5,h6⟩;refine(h2.vC (P':=λc=>c=b) h3 rfl).keep (λc oc hc hq=>?_) λ_ _=>trivial
  rw[aR]
  ·exact hc
  ·intro z;subst z;rcases hq with hq|hq
   ·exact hbp hq.symm
   ·rw[e5] at hc;cases hc;cases hq
def ES.snoc(E:ES own H σ ρ)(ho:own σ.length=false)(r:Rep (λa=>¬Own own σ a) H x d):ES own H (σ++[some x]) (ρ++[d])/\∀a,Own own (σ++[some x]) a↔Own own σ a:=by
 have hO:∀a,Own own (σ++[some x]) a↔Own own σ a:=λa=>by
  constructor
  ·rintro⟨i,hi,e⟩;by_cases hl:i<σ.length
   ·exact⟨i,hi,by rw[List.getElem?_append_left hl] at e;exact e⟩
   ·by_cases hq:i=σ.length
    ·subst hq;rw[ho] at hi;cases hi
    ·rw[List.getElem?_append_right 0x1] at e;rw[List.getElem?_eq_none (by simp;lia)] at e;cases e
  ·rintro⟨i,hi,e⟩;exact⟨i,hi,by rw[List.getElem?_append_left (List.getElem?_eq_some_iff.mp e).1];exact e⟩
 have hOf:(λa=>¬Own own (σ++[some x]) a)=λa=>¬Own own σ a:=funext λa=>by rw[hO]
 refine⟨⟨by simp[E.len],λi hi=>?_,λi v hi hv=>?_⟩,hO⟩
 ·rw[hOf];by_cases hl:i<σ.length
  ·have e:(ρ++[d]).getD i .uD=ρ.getD i .uD:=by rw[List.getD_eq_getElem?_getD,List.getElem?_append_left (by rw[<-E.len];exact hl),List.getD_eq_getElem?_getD]
   rw[e] at hi ⊢;obtain⟨v,h1,h2⟩:=E.at_ i hi;exact⟨v,by rw[List.getElem?_append_left hl];exact h1,h2⟩
  ·by_cases hq:i=σ.length
   ·subst hq;have e:(ρ++[d]).getD σ.length .uD=d:=by rw[E.len];simp
    rw[e];exact⟨x,by simp,λ_=>r⟩
   ·exfalso;apply hi;rw[List.getD_eq_getElem?_getD,List.getElem?_eq_none (by simp;rw[<-E.len];lia)];rfl
 ·have hl:i<σ.length:=Nat.lt_of_not_le λhge=>by
   by_cases hq:i=σ.length
   ·subst hq;rw[ho] at hi;cases hi
   ·rw[List.getElem?_eq_none (by simp;lia)] at hv;cases hv
  rw[List.getElem?_append_left hl] at hv;have e:(ρ++[d]).getD i .uD=ρ.getD i .uD:=by rw[List.getD_eq_getElem?_getD,List.getElem?_append_left (by rw[<-E.len];exact hl),List.getD_eq_getElem?_getD]
  rw[e];obtain⟨b,ob,h1,h2,h3,h4,h5,h6⟩:=E.own i v hi hv;refine⟨b,ob,h1,h2,h3,h4,h5,λj hj hs=>?_⟩;have hjl:j<σ.length:=Nat.lt_of_not_le λhge=>by
   by_cases hq:j=σ.length
   ·subst hq;rw[ho] at hj;cases hj
   ·rw[List.getElem?_eq_none (by simp;lia)] at hs;cases hs
  exact h6 j hj (by rw[List.getElem?_append_left hjl] at hs;exact hs)
def ES.aK5(E:ES own H (σ++[x]) ρ)(hO:∀a,Own own (σ++[x]) a↔Own own σ a):ES own H σ ρ.dropLast:=by
 have hl:ρ.length=σ.length+1:=by rw[<-E.len];simp
 have gd:∀i,i<σ.length->ρ.dropLast.getD i .uD=ρ.getD i .uD:=λi hi=>by
  rw[List.getD_eq_getElem?_getD,List.getD_eq_getElem?_getD,List.getElem?_dropLast,if_pos 0x1]
 have hOf:(λa=>¬Own own (σ++[x]) a)=λa=>¬Own own σ a:=funext λa=>by rw[hO]
 refine⟨by simp[hl],λi hi=>?_,λi v hi hv=>?_⟩
 ·have hlt:i<σ.length:=Nat.lt_of_not_le λhge=>hi (by rw[List.getD_eq_getElem?_getD,List.getElem?_eq_none (by simp;lia)];rfl)
  rw[gd i hlt] at hi ⊢;obtain⟨v,h1,h2⟩:=E.at_ i hi;rw[hOf] at h2;exact⟨v,by rw[List.getElem?_append_left hlt] at h1;exact h1,h2⟩
 ·have hlt:i<σ.length:=(List.getElem?_eq_some_iff.mp hv).1;rw[gd i hlt];obtain⟨b,ob,h1,h2,h3,h4,h5,h6⟩:=E.own i v hi (by rw[List.getElem?_append_left hlt];exact hv);exact⟨b,ob,h1,h2,h3,h4,h5,λj hj hs=>h6 j hj (by rw[List.getElem?_append_left (List.getElem?_eq_some_iff.mp hs).1];exact hs)⟩
def T5{K:PySem.W.Frag}(ho:own n=false)(hn:σ.length=n)(h:gX own (Y0 it f) σ H Q) :
  FW (gI K it) (fZ n) (λ_ H Q=>Q true H) (gX own f) 1 σ H Q:=by
 obtain⟨ρ,d,ρ',E,h,q⟩:=h;obtain⟨⟨items,kk⟩,h1,h⟩:=aY h;split at h
 ·rename_i hk;rw[Bool.and_eq_true] at hk;obtain⟨⟨ys,ρf⟩,h2,h⟩:=aY h;cases h;refine⟨ρ,items,kk,E.er,h1,λJ H1 s1 _ hJ p hp=>?_⟩;have hp0:H p=none:=s1.free hp;have hJ1:ItQ K (λa=>¬Own own σ a) J H1 items:=(hJ hk.1).keep (λ_ _ e _=>e) λa ha=>wL E ha
  have E1:ES own H1 σ ρ:=E.same s1;refine⟨λi n' vs H'=>n'=items.length-i/\i<=items.length/\H' p=some (.lst vs)/\KU own σ H1 σ H'/\∃acc ρc,acc.length<=i/\D.aJ acc=true/\bG (λ_=>False) H' vs acc/\ES own H' σ ρc/\NS own ρ ρc/\xcf f acc (items.drop i) ρc=.ok (ys,ρf),⟨items.length,?_⟩,?_⟩
  ·exact⟨rfl,Nat.zero_le _,aH,.same (bU.upd hp),[],ρ,Nat.zero_le _,rfl,.nil,E1.same (bU.upd hp),.refl,h2⟩
  ·rintro i n' vs H' ⟨rfl,hi,hH,ku,acc,ρc,hal,hpa,racc,Ec,ns,hf⟩;refine⟨hH,?_⟩;have hJ':ItQ K (λa=>¬Own own σ a) J H' items:=hJ1.ku ku E1;rcases Nat.lt_or_ge i items.length with hlt|hge
   ·refine .inr ?_;have e:items[i]?=some items[i]:=List.getElem?_eq_getElem hlt;obtain⟨g1,g2⟩:=hJ'.go e;have hl1:items.length<=lim:=of_decide_eq_true hk.2;refine⟨g1,?_,λx H2 hy=>?_⟩
    ·rw[racc.length];exact Nat.lt_of_le_of_lt hal (Nat.lt_of_lt_of_le hlt (Nat.le_trans hl1 (by rw[sizeLine_eq];decide)))
    ·obtain⟨sH,rx⟩:=g2 x H2 hy;have es:(σ++List.replicate 1 none).set n (some x)=σ++[some x]:=by
      subst hn;simp
     show Ext _ ((σ++List.replicate 1 none).set n (some x))/\_;rw[es];rw[List.drop_eq_getElem_cons hlt] at hf;obtain⟨⟨y,ρ2⟩,hfy,hf⟩:=aY hf;split at hf
     ·rename_i hpy;have Ec2:=Ec.same sH;obtain⟨E2,hO⟩:=Ec2.snoc (by rw[hn];exact ho) rx;refine⟨⟨by simp,λj v hv=>?_⟩,?_⟩
      ·by_cases hj:j<σ.length
       ·rw[List.getElem?_append_left hj] at hv ⊢;exact hv
       ·rw[List.getElem?_append_right 0x1,List.getElem?_replicate] at hv;split at hv<;>cases hv
      ·dsimp only;rw[if_pos rfl];refine⟨_,y,ρ2,E2,hfy,λw H5 k5 E5 ns5 r5=>?_⟩;have k5':KU own σ H2 σ H5:=λb ob eb nb=>⟨(k5 b ob eb (by rw[hO];exact nb)).1,nb⟩
       have hpn:¬Own own σ p:=wL E hp0;have hp5:H5 p=some (.lst vs):=(k5' p _ (sH p _ hH) hpn).1;have E5':ES own H5 σ ρ2.dropLast:=E5.aK5 hO;have hlc:ρc.length=σ.length:=Ec.len.symm;have nsc:NS own ρ ρ2.dropLast:=λj hj=>by
        by_cases hjl:j<σ.length
        ·have hl2:ρ2.length=σ.length+1:=by rw[<-E5.len];simp
         rw[<-ns j hj,List.getD_eq_getElem?_getD,List.getElem?_dropLast,if_pos 0x1,<-List.getD_eq_getElem?_getD,ns5 j hj,List.getD_eq_getElem?_getD,List.getElem?_append_left 0x1,<-List.getD_eq_getElem?_getD]
        ·rw[List.getD_eq_getElem?_getD,List.getElem?_eq_none (by rw[<-E5'.len];lia),List.getD_eq_getElem?_getD,List.getElem?_eq_none (by rw[<-E.len];lia)]
       have ku5:KU own σ H1 σ H5:=ku.trans ((KU.same sH).trans k5');obtain⟨E6,k6⟩:=E1.aQ0 ku5 E5' nsc hp hp5;refine⟨hp5,items.length-(i+1),by lia,rfl,hlt,aH,k6,acc++[y],ρ2.dropLast,?_,?_,?_,E6,nsc,hf⟩
       ·rw[List.length_append,List.length_singleton];lia
       ·rw[jG,hpa];simp[D.aJ,hpy]
       ·have hpk:KQ (λ_=>False) H2 H5:=λc oc hc hq=>by
         refine(k5' c oc hc λnn=>?_).1;obtain⟨o',e',hm⟩:=Ec2.live nn;rw[hc] at e';cases e';rcases hq with hq|hq
         ·exact hq
         ·rw[hm] at hq;cases hq
        have r1:bG (λ_=>False) H5 vs acc:=(racc.same sH).keep hpk λ_ z=>z
        have r2:bG (λ_=>False) H5 (vs++[w]) (acc++[y]):=r1.snoc (r5.bN hpy);exact r2.keep (wC hp5 rfl) λ_ z=>z
     ·exact bx hf
   ·refine .inl ⟨hJ'.stop hge,?_⟩;rw[List.drop_eq_nil_of_le hge] at hf;cases hf;exact q _ _ ((KU.same s1).trans ku) Ec ns (.lst hH hp0 (racc.mono λ_ z=>z.elim))
 ·exact bx h
end
section
def T6(ha:PE X a (gE fa ra)):PE X a (gE (bPu fa) true):=PE.imp ha λσ H Q ⟨ρ,d,E,h,q⟩=>by
 obtain⟨x,h1,h⟩:=aY h;split at h
 ·rename_i hp;cases h;exact⟨ρ,_,E,h1,λv H' s r _=>q v H' s r λ_=>r.bN hp⟩
 ·exact bx h
end
end
noncomputable def T7(i:Nat):FX:=λρ=>match ρ.getD i .uD with
 |.lst xs=>(match xs[xs.length-1]? with|some x=>.ok (x,ρ.set i (.lst xs.dropLast))|none=>.bad)
 |_=>.bad
noncomputable def aEb(a:FT)(b:FXT):FXT:=λρ=>do
 let k <- a ρ
 if k then b ρ else .ok (false,ρ)
def aK6(f:FX):List D->Res (List D×List D):=λρ=>do
 let p <- f ρ
 let r <- iK [p.1]
 .ok (r.1,p.2)
def Y6(it:List D->Res (List D×List D))(t:D->List D->Res (List D))(body:FS):FS:=λρ=>do
 let p <- it ρ
 vA t body p.1 p.2
section
variable [KFrag]
section
variable {X:Cx} {own:Nat->Bool} {a b:Expr} {pos:Pos} {ga:FT} {xb:List D->Res (Bool×List D)} {xa:FX}
def aGq(ho:own i=true)(hN:X.N[i]?=some x)(hv:Vis X.env.scope x)(hd:nDb x:=by decide)(hcd:nCd x:=by decide)
 (hbase:attributeBase (.Name x p1) "pop" X.env (eval (.Name x p1) X.env)=eval (.Name x p1) X.env:=by rfl)
 (hline:(apos.endLine==cpos.line)=true:=by rfl) :
  PE X (.Call (.Attribute (.Name x p1) "pop" apos) [] [] cpos) (gX own (T7 i)):=
 PE.imp (FJ PySem.F.plainAttrs_list PySem.F.slot_list_pop PySem.F.type_list_pop O6 (aW hN hv hd hcd) hbase hline) λσ H Q ⟨ρ,d,ρ',E,h,q⟩=>by
 unfold T7 at h;split at h
 ·rename_i xs hx;split at h
  ·rename_i dx hdx;cases h;obtain⟨a,o,hσ,r,hin,ha,hm⟩:=E.ownAt ho (by rw[hx];intro z;cases z);rw[hx] at r hin;obtain⟨vs,hl,rr⟩:=yH r;obtain⟨v,hvx,rv⟩:=rr.get hdx;have hlen:=rr.length;refine⟨_,hσ,.inl ⟨rfl,vs,.of hl⟩,a,vs,v,rfl,rfl,hl,by rw[hlen];exact hvx,?_⟩;have hin':D.aJ xs=true:=hin;have pall:∀y∈xs,y.pure=true:=λy hy=>bZ.mp hin' y hy
   have pdx:d.pure=true:=pall d (List.mem_of_getElem? hdx);have pe:D.aJ xs.dropLast=true:=bZ.mpr λy hy=>pall y (List.dropLast_subset _ hy)
   have er:bG All H vs.dropLast xs.dropLast:=by
    rw[List.dropLast_eq_take,List.dropLast_eq_take,hlen];exact rr.take _
   obtain⟨E2,k2⟩:=E.mut ho hσ rfl (.lst aH trivial (er.upd pe hl rfl)) pe;have r1:=(bG.cons rv .nil).upd (o:=.lst vs.dropLast) (by rw[D.aJ,pdx];rfl) hl rfl;cases r1 with
   |cons r1 _=>exact q _ _ k2 E2 (.set ho) (r1.bN pdx)
  ·exact bx h
 ·exact bx h
def aGr(ha:PT X a (gXT own xb)):PW X (.BoolOp .And [a] pos) (gXT own xb):=VN ha
def aK7(ha:PT X a (gT ga))(hb:PW X (.BoolOp .And (b::rest) pos) (gXT own xb)):PW X (.BoolOp .And (a::b::rest) pos) (gXT own (aEb ga xb)):=PW.imp (aDt ha hb) λσ H Q ⟨ρ,d,ρ',E,h,q⟩=>by
 obtain⟨k,h1,h2⟩:=aY h;refine⟨ρ,k,E.er,h1,λH' s=>?_⟩;cases k with
 |true=>
  rw[if_pos rfl];rw[if_pos rfl] at h2;exact⟨ρ,d,ρ',E.same s,h2,λH2 k2 E2 n2=>q H2 ((KU.same s).trans k2) E2 n2⟩
 |false=>
  rw[if_neg 0x2];rw[if_neg 0x2] at h2;cases h2;exact q H' (.same s) (E.same s) .refl
noncomputable def gIX(K:PySem.W.Frag)(own:Nat->Bool)(f:List D->Res (List D×List D)):TI:=λσ H R=>∃ρ items ρ',ES own H σ ρ/\f ρ=.ok (items,ρ')/\∀J H1,KU own σ H σ H1->ES own H1 σ ρ'->ItQ K (λa=>¬Own own σ a) J H1 items->R J H1
def aK8(hg:Gl X "range")(hm:X.mg "range"=none)(ha:PE X a (gX own xa))(hs:starEach [a] X.env=[(false,eval a X.env)]:=by rfl):PI X tg (.Call (.Name "range" p) [a] [] pos) (gIX X.K own (aK6 xa)):=
 PI.imp (DQ hg hm (bJ ha dZ hs) hs) λσ H R ⟨ρ,items,ρ',E,h,q⟩=>by
 obtain⟨p,h1,h⟩:=aY h;obtain⟨r,h2,h⟩:=aY h;cases h;refine⟨ρ,p.1,p.2,E,h1,λv H1 k1 E1 n1 r1=>?_⟩;unfold iK at h2;split at h2
 ·rename_i n he;split at h2
  ·rename_i hb;cases h2;obtain⟨b1,b2⟩:=yG hb;injection he with he _
   rw[he] at r1;cases r1.inv;exact⟨_,rfl,b1,b2,q _ H1 k1 E1 (.rng 0 _ rfl rfl)⟩
  ·exact bx h2
 ·exact bx h2
def aK9(hp:PassesOwn (model X.prog X.w) X.A X.env X.xe)(hc:X.calm=true)(hi:PI X tg iter (gIX X.K own it))(ht:TgS own g t)(hg:PG X tg g)(hb:PSs X body (tS own fb))
 (hs:∀x,foldedSetIterable iter X.env x=pure x:=by intro _;rfl):PS X (.For tg iter body [] pos) (tS own (Y6 it t fb)):=PS.imp (N_ hp hc hi hg hb hs) λD' σ H ⟨ρ,fl,E,h,q⟩=>by
 obtain⟨⟨items,ρ1⟩,h1,h2⟩:=aY h;exact⟨ρ,items,ρ1,E,h1,λJ H1 k1 E1 hJ=>zV ht E1 hJ h2 (q.step k1)⟩
end
end
def bOw(i:Nat):FE:=λρ=>do
 let d <- cO i ρ
 if d.PK then .ok d else .bad
def G_(f:FA):FS:=λρ=>do
 let ds <- f ρ
 if decide (ds.length<=lim) then .ok (.rt (.tup (.lst ds::ρ))) else .bad
def Y7(f:FX)(is:List Nat):FS:=λρ=>do
 let p <- f ρ
 match p.1 with
 |.lst xs=>if decide (xs.length=is.length) then .ok (.nx (KN is xs p.2)) else .bad
 |_=>.bad
variable [KFrag]
section
theorem HB(hne:t≠it):∀(n i:Nat)(s:Shared)(Q:List Value->Shared->Prop),s.heap.IsListIter it t i->s.heap.IsList t items->i+n<=items.size->
  (∀h',h'.IsListIter it t (i+n)->Heap.SameBut it s.heap h'->Q ((items.toList.drop i).take n) {s with heap:=h'})->wpAny (model prog w) A (draw (.ref it) n) Q E s
 |0,i,s,Q,hit,_,_,hQ=>by
  show wpAny _ _ (pure []) Q E s;exact wpAny_pure (by simpa using hQ s.heap hit (Heap.SameBut.refl ..))
 |n+1,i,s,Q,hit,ht,hle,hQ=>by
  have hlt:i<items.size:=by lia
  have keep:∀{h h':Heap},h.IsList t items->Heap.SameBut it h h'->h'.IsList t items:=λ{h h'} ⟨o,e,r⟩ sb=>⟨o,(sb.2 t hne).trans e,r⟩
  show wpAny _ _ (pyNext (.ref it) >>= _) Q E s;refine wpAny_bind (wpAny_pyNext_list_item hit ht (x:=items[i]) (by simp[hlt]) λh₁ hit₁ hs₁=>?_);refine wpAny_bind (wpAny_holding (HB hne n (i+1) _ _ hit₁ (keep ht hs₁) 0x1 λh₂ hit₂ hs₂=>wpAny_pure ?_));have hd:items.toList.drop i=items[i]::items.toList.drop (i+1):=by simp[List.drop_eq_getElem_cons,hlt]
  have:=hQ h₂ (by rw[show i+(n+1)=i+1+n by lia];exact hit₂) (hs₁.trans hs₂);rw[hd,List.take_succ_cons] at this;exact this
def LR(hh:A.handled=none)(ht:s.heap.IsList t items)
 (hn:targets.length=items.size)(hstar:targets.findIdx? (·.1)=none)
 (h:∀h',Heap.ExtBut s.heap.objs.size s.heap h'->wpAny (model prog w) A (assignInOrder (targets.map (·.2)) items.toList) Q E {s with heap:=h'}) :
  wpAny (model prog w) A (unpack (.ref t) targets) Q E s:=by
 have hlt:t≠s.heap.objs.size:=by obtain⟨o,ho,_⟩:=ht;exact Nat.ne_of_lt (Heap.lt_size ho)
 have push:∀o,(s.heap.push o).IsList t items:=λo=>let ⟨o',e,r⟩:=ht;⟨o',Heap.get?_push_of_some _ e,r⟩
 unfold unpack;rw[hn,hstar];refine wpAny_bind (wpAny_holding ?_);unfold unpackItems;refine wpAny_bind ?_;unfold notIterableAtAll;refine wpAny_bind (wpAny_specialOf ht.typeIs PySem.F.slot_list_iter.lookup ?_);refine wpAny_pure ?_;simp only[Bool.false_eq_true,if_false];refine wpAny_bind (wpAny_holding (wpAny_pyIter_list ht ?_));refine wpAny_bind (wpAny_holding (HB hlt items.size 0 _ _ ⟨_,Heap.get?_push_size _ rfl,rfl,rfl⟩ (push _) 0x1 λh₁ hit₁ hs₁=>?_));have hall:List.take items.size (List.drop 0 items.toList)=items.toList:=by
  rw[List.drop_zero];exact List.take_of_length_le 0x2
 rw[hall];rw[if_neg 0x2];have ht₁:h₁.IsList t items:=let ⟨o,e,r⟩:=push {cls:=.type "list_iterator",data:=.fields #[.ref t,.int 0 0]};⟨o,(hs₁.2 t hlt).trans e,r⟩
 refine wpAny_bind (wpAny_holding (wpAny_pyNext_list_end hh hit₁ ht₁ 0x2 λh₂ he₂=>?_));simp only[Option.isSome_none,Bool.false_eq_true,if_false];exact wpAny_pure (h h₂ λb o hb e=>he₂ b o hb (hs₁.extBut b o hb (Heap.get?_push_of_some _ e)))
end
section
variable {own:Nat->Bool}
noncomputable def aKa(K:PySem.W.Frag)(n:Nat)(t:TGs):TG:=λv σ H Q=>∃a xs,v=.ref a/\SqL K H a xs/\xs.length=n/\t xs σ H Q
def aGs(hc:X.calm=true)(h:PGs X es t)
 (hn:(assignEach es X.env).length=n:=by rfl)(hst:(assignEach es X.env).findIdx? (·.1)=none:=by rfl):PG X (.Tuple es k pos) (aKa X.K n t):=by
 intro pins s σ H v u Q I r hw;obtain⟨a,xs,e1,hq,hl,hw⟩:=hw;subst e1;cases r;obtain⟨its,rv,ht,hz⟩:=I.list hq;rw[assign_Tuple];refine wpAny_bind (wpAny_standAt (LR (I.ok.hd hc) ht.isList (by simp[hn,<-hl,rv.length]) hst λh' hx=>?_));have I1:Inv X pins σ H {s with heap:=h'}:=I.kept λb o e=>hx b o (Nat.ne_of_lt (Heap.lt_size e)) e
 exact h pins _ σ H xs _ Q I1 (by simpa using rv) hw
def RP(own:Nat->Bool)(σ:L2.St)(H:Hp)(ρ:List D)(a:Addr):Prop:=(Own own σ a\/H a=none)/\∀i b xs,ρ.getD i .uD=.cel b xs->a≠b
theorem RP.same(s:bU H H')(h:RP own σ H' ρ a):RP own σ H ρ a:=⟨h.1.imp id s.free,h.2⟩
def aEc(E:ES own H σ ρ)(h:H a=none):RP own σ H ρ a:=⟨.inr h,λi b xs hb z=>by
 obtain⟨vs,_,e⟩:=iB E hb;subst z;rw[h] at e;cases e⟩
noncomputable def gAR(own:Nat->Bool)(f:FA):TA:=λσ H Q=>∃ρ ds,ES own H σ ρ/\f ρ=.ok ds/\∀vs H',bU H H'->bG (RP own σ H ρ) H' vs ds->Q vs H'
def aKb:PA X [] (gAR own aQ):=PA.imp dZ λσ H Q ⟨ρ,ds,E,h,q⟩=>by cases h;exact q [] H (bU.refl H) .nil
def Y8(ho:own i=true)(hN:X.N[i]?=some x)(hv:Vis X.env.scope x)(hes:PA X es (gAR own f))(hd:nDb x:=by decide)(hcd:nCd x:=by decide)(hs:starEach (.Name x pos::es) X.env=(false,eval (.Name x pos) X.env)::starEach es X.env:=by rfl):PA X (.Name x pos::es) (gAR own (aB (bOw i) f)):=PA.imp (bJ (aW hN hv hd hcd) hes hs) λσ H Q ⟨ρ,ds,E,h,q⟩=>by
 obtain⟨y,h1,h⟩:=aY h;obtain⟨xs,h2,h⟩:=aY h;cases h;obtain⟨d,h3,h1⟩:=aY h1;split at h1
 ·rename_i hc;cases h1;obtain⟨v,hv,r,e⟩:=E.er.var h3;obtain⟨a,o,rfl,r2,hin,_,_,huq⟩:=E.own i v ho hv;rw[e] at hin;have hp:RP own σ H ρ a:=⟨.inl ⟨i,ho,hv⟩,λj b xs hb z=>by
   obtain⟨vs,hj,eb⟩:=iB E hb;subst z;cases hoj:own j with
   |true=>
    have:=huq j hoj hj;subst this;rw[hb] at e;subst e;cases hc
   |false=>
    obtain⟨w,hw,hr⟩:=E.at_ j (by rw[hb];intro z;cases z);have r3:=hr hoj;rw[hb] at r3;obtain⟨_,rfl,e,p,r⟩:=r3.inv;exact p ⟨i,ho,hv⟩⟩
  exact⟨_,hv,ρ,xs,E,h2,λvs H2 s2 r2=>q _ _ s2 (.cons ((r.vC hin hp).same s2) r2)⟩
 ·exact bx h1
def aKc(he:PE X e (gE fe true))(hes:PA X es (gAR own f))(hs:starEach (e::es) X.env=(false,eval e X.env)::starEach es X.env:=by rfl):PA X (e::es) (gAR own (aB fe f)):=PA.imp (bJ he hes hs) λσ H Q ⟨ρ,ds,E,h,q⟩=>by
 obtain⟨y,h1,h⟩:=aY h;obtain⟨xs,h2,h⟩:=aY h;cases h;exact⟨ρ,_,E.er,h1,λv H1 s1 r1 n1=>⟨ρ,xs,E.same s1,h2,λvs H2 s2 r2=>q _ _ (s1.trans s2) (.cons (((n1 rfl).mono λa ha=>aEc E ha).same s2) (r2.mono λa ha=>ha.same s1))⟩⟩
def aCd(h:PA X es (gAR own f))(hx:own rtX=true:=by rfl):PS X (.Return (some (.List es pos')) pos) (tS own (G_ f)):=PS.imp (oK (O3 h)) λD σ H ⟨ρ,fl,E,h,q⟩=>by
 obtain⟨ds,h1,h2⟩:=aY h;split at h2
 ·rename_i hl;cases h2;refine⟨ρ,ds,E,h1,λvs H1 s1 r1=>⟨by rw[r1.length];exact lD hl,λp hp=>?_⟩⟩;have s2:bU H1 (upd H1 p (.lst vs)):=bU.upd hp;have hpH:H p=none:=s1.free hp;exact kRt.new q hx _ σ _ (.same (s1.trans s2)) (E.same (s1.trans s2)) (.lst aH (aEc E hpH) (r1.same s2))
 ·exact bx h2
def aKd(ho:∀i∈is,own i=false)(he:PE X e (gX own xe))(hg:PG X (.Tuple es k pt) (aKa X.K is.length (gIx is)))(hs:swapsWithSole [.Tuple es k pt] e pos.line X.env=pure false:=by rfl)(hw:swappedStores [.Tuple es k pt] e X.env=pure none:=by rfl)
 (h1:(assignEach [.Tuple es k pt] X.env).map (·.2)=[assign (.Tuple es k pt) X.env]:=by rfl):PS X (.Assign [.Tuple es k pt] e pos) (tS own (Y7 xe is)):=PS.imp (nH he hg hs hw h1) λD' σ H ⟨ρ,fl,E,h,q⟩=>by
 obtain⟨p,h1,h2⟩:=aY h;refine⟨ρ,p.1,p.2,E,h1,λv H1 k1 E1 n1 r=>?_⟩;split at h2
 ·rename_i xs hxs;split at h2
  ·rename_i hl;cases h2;have hl':=of_decide_eq_true hl;rw[hxs] at r;have r2:=zQ E r;obtain⟨a,vs,rfl,sq,rr⟩:=r2.j6;refine⟨a,vs,rfl,sq,by rw[rr.length];exact hl',K4 _ _ _ (by rw[rr.length];exact hl') ?_⟩;obtain⟨E2,hO⟩:=ES.sets ho E1 rr;exact q _ H1 (k1.trans λa o e n=>⟨e,by rw[hO];exact n⟩) E2
  ·exact bx h2
 ·exact bx h2
end
end Mi
namespace Mi
open PySem PySem.Spec
namespace Rv
def T8:typeLookup (.type "tuple") "__reversed__"=pure none:=by rw[typeLookup_type,builtinLookup_eq_fast];kernel_rfl
def T9:typeLookup (.type "reversed") "__len__"=pure none:=by rw[typeLookup_type,builtinLookup_eq_fast];kernel_rfl
def slot_next:Slot "reversed" "__next__" "reversed.__next__":=
 .of (owner:= "reversed") (n:= "__next__") (by rw[typeLookup_type,builtinLookup_eq_fast];kernel_rfl) 0x6 0x6 0x6
  (by first|exact .inl 0x6|exact .inr 0x6) (by rw[isSubtype_type];kernel_rfl)
def wM:Slot "reversed" "__length_hint__" "reversed.__length_hint__":=
 .of (owner:= "reversed") (n:= "__length_hint__") (by rw[typeLookup_type,builtinLookup_eq_fast];kernel_rfl) 0x6 0x6 0x6
  (by first|exact .inl 0x6|exact .inr 0x6) (by rw[isSubtype_type];kernel_rfl)
def HD:Slot "reversed" "__iter__" "reversed.__iter__":=
 .of (owner:= "reversed") (n:= "__iter__") (by rw[typeLookup_type,builtinLookup_eq_fast];kernel_rfl) 0x6 0x6 0x6
  (by first|exact .inl 0x6|exact .inr 0x6) (by rw[isSubtype_type];kernel_rfl)
def entry_next:entryFor table "reversed.__next__"=some Builtin.«reversed.__next__»:=entryFor_of_tree 0x8
def T_:entryFor table "reversed.__length_hint__"=some Builtin.«reversed.__length_hint__»:=entryFor_of_tree 0x8
def UG:entryFor table "reversed.__iter__"=some Builtin.«dict_keyiterator.__iter__»:=
 entryFor_alias (id':= "dict_keyiterator.__iter__") 0x8 (by first|rfl|decide +kernel|(unfold String.splitOn;simp +decide [String.splitOnAux])) 0x6 0x8
def owner:Manifest.owners.lookup (String.ofList ['d','e','s','r','e','v','e','r'].reverse)=some Manifest.sig_reversed:=by kernel_rfl
def args_next(a:Value):argsOk "reversed.__next__" ⟨[a],[]⟩:=by
 unfold argsOk;rw[signature?_of (n:=['_','_','t','x','e','n','_','_']) 0x8 owner];kernel_rfl
def Y9(a:Value):argsOk "reversed.__iter__" ⟨[a],[]⟩:=by
 unfold argsOk;rw[signature?_of (n:=['_','_','r','e','t','i','_','_']) 0x8 owner];kernel_rfl
def Y_(a:Value):argsOk "reversed.__length_hint__" ⟨[a],[]⟩:=by
 unfold argsOk;rw[signature?_of (n:=['_','_','t','n','i','h','_','h','t','g','n','e','l','_','_']) 0x8 owner];kernel_rfl
def ZC:Slot "reversed" "__init__" "object.__init__":=
 .of (owner:= "object") (n:= "__init__") (by rw[typeLookup_type,builtinLookup_eq_fast];kernel_rfl) 0x6 0x6 0x6
  (by first|exact .inl 0x6|exact .inr 0x6) (by rw[isSubtype_type];kernel_rfl)
def called:TypeCalled "reversed" "reversed.__new__" "object.__init__":=
 ⟨by decide +kernel,by decide +kernel,⟨_,_,PySem.F.mro_reversed⟩,PySem.F.made_reversed,by decide +kernel,by rw[isSubtype_type];kernel_rfl,ZC⟩
noncomputable def obj(t:Addr)(i:Int):Obj:={cls:=.type "reversed",data:=.fields #[.ref t,rawInt i]}
def ZD(t:Addr)(items:Array Value)(n:Nat)(dct:Option Addr)(sl:Array (Option Value))(hz:(items.size:Int)<2 ^ 62) :
  Meets (Builtin.«reversed.__new__» ⟨[.type "reversed",.ref t],[]⟩) (λ_ R s=>s.heap.get? t=some {cls:=.type "tuple",dict:=dct,data:=.seq items n,slots:=sl}/\
   ∀tk,R (.ok (.ret (.ref s.heap.objs.size))) {s with heap:=s.heap.push (obj t ((items.size:Int)-1)),toks:=tk}):=
 .of_wp λprog w A R s h=>by
  obtain⟨hp,g,d,tk,os⟩:=s;obtain⟨hl,h⟩:=h;have hT:(Shared.mk hp g d tk os).TypeIs (.ref t) "tuple":=⟨_,hl,rfl⟩
  unfold Builtin.«reversed.__new__»;refine wpAny_bind (wpAny_of_eq (newClass_reversed _) ?_)
  try dsimp only
  refine wpAny_bind (wpAny_of_eq (by first|rfl|kernel_rfl) ?_);refine wpAny_bind (wpAny_of_eq (by first|rfl|kernel_rfl) ?_)
  try dsimp only
  refine wpAny_bind (wpAny_specialOf hT T8 ?_)
  try dsimp only
  refine wpAny_bind ?_;refine wpAny_bind (wpAny_isInstance (b:=false) hT (by rw[isSubtype_type];kernel_rfl) ?_);refine wpAny_ite_split (λhab=>absurd hab 0x4) (λ_=>?_);refine wpAny_bind (wpAny_specialOf hT PyProof.Rows.slot_tuple_getitem.lookup ?_);dsimp only;rw[if_pos 0x6];refine wpAny_pure ?_;rw[if_neg 0x4];refine wpAny_bind (PyProof.Rows.len_tuple ⟨_,hl,rfl,n,rfl⟩ 0x1 ?_);refine wpAny_bind (wpAny_of_eq rfl ?_);dsimp only;refine wpAny_bind ?_;unfold Builtin.SmallTypes.newRecord;exact wpAny_newObj_type (wpAny_pure ⟨_,rfl,h _⟩)
def aCe(hL:s.heap.IsTuple t items)(hz:(items.size:Int)<2 ^ 62)
 (h:∀tk,Q (.ref s.heap.objs.size) {s with heap:=s.heap.push (obj t ((items.size:Int)-1)),toks:=tk}):wpAny (model prog w) A (call (.type "reversed") [.ref t]) Q E s:=by
 obtain⟨⟨c,dct,dt,sl⟩,hl,hc,n,hd⟩:=hL;replace hc:c=.type "tuple":=hc;replace hd:dt=.seq items n:=hd;subst hc hd;refine callType_new called 0x4 (PySem.F.typeCall_reversed_1 _) (PySem.F.newCall_reversed_1 _) (λobj=>PySem.F.args_object_init_2 obj _) PySem.F.entry_reversed_new (ZD t items n dct sl hz) ⟨hl,λtk=>⟨⟨_,Heap.get?_push_size _ rfl,rfl⟩,h tk⟩⟩
def Is(h:Heap)(a t:Addr)(i:Int):Prop:=∃o,h.get? a=some o/\o.cls=.type "reversed"/\o.data=.fields #[.ref t,rawInt i]
def Is.ty{s:Shared}(x:Is s.heap a t i):s.TypeIs (.ref a) "reversed":=let ⟨o,ho,hc,_⟩:=x;⟨o,ho,hc⟩
def Is.at(x:Is h a t i)(e:∀o,h.get? a=some o->h'.get? a=some o):Is h' a t i:=let ⟨o,ho,r⟩:=x;⟨o,e o ho,r⟩
section
theorem next_item{i:Nat}{x:Value}{Q:Option Value->Shared->Prop}(hit:Is s.heap it t (i:Int))(hl:s.heap.IsTuple t items)(hx:items[i]?=some x)(hz:(items.size:Int)<2 ^ 62)
 (hQ:∀h' tk,Is h' it t ((i:Int)-1)->Heap.SameBut it s.heap h'->Q (some x) {s with heap:=h',toks:=tk}):wpAny (model prog w) A (pyNext (.ref it)) Q E s:=by
 obtain⟨o,ho,hc,hd⟩:=id hit;have hi:i<items.size:=(Array.getElem?_eq_some_iff.mp hx).1;unfold pyNext;refine wpAny_bind (wpAny_attempt (wpAny_callSpecial?_slot hit.ty slot_next
  (wpAny_call_entry slot_next hit.ty entry_next ?_ (args_next _))))
 unfold Builtin.«reversed.__next__»;refine wpAny_bind (wpAny_of_eq rfl ?_)
 try dsimp only
 refine wpAny_bind (wpAny_field ho hd rfl ?_);refine wpAny_bind (wpAny_field ho hd rfl ?_);show wpAny _ _ (if (i:Int)<0 then _ else _) _ _ s;rw[if_neg 0x1];refine wpAny_bind (wpAny_specialOf hl.typeIs PyProof.Rows.slot_tuple_getitem.lookup ?_);rw[if_neg 0x2];refine wpAny_bind (wpAny_mkInt ?_);refine wpAny_bind (wpAny_attempt (PyProof.Rows.getItem_tuple hl 0x1 0x1 (by unfold seqIndex?;simp;lia) hx ?_));dsimp only;refine wpAny_bind (wpAny_field ho hd rfl ?_);show wpAny _ _ (setField (.ref it) 1 (rawInt ((i:Int)-1)) >>= _) _ _ _;refine wpAny_bind (wpAny_setField ho hd 0x2 ?_);refine wpAny_pure ⟨x,rfl,wpAny_pure (hQ _ _ ?_ (Heap.SameBut.update ..))⟩;exact⟨_,Heap.get?_update_self _ ho (Obj.isFreed_of_fields (Obj.data_mapFields hd _)),(Obj.cls_mapFields ..).trans hc,by
  rw[Obj.data_mapFields hd];simp⟩
theorem next_end(hh:A.handled=none)(hit:Is s.heap it t (-1))
 (hQ:∀h',Heap.ExtBut it s.heap h'->Q none {s with heap:=h'}):wpAny (model prog w) A (pyNext (.ref it)) Q E s:=by
 obtain⟨o,ho,hc,hd⟩:=id hit;unfold pyNext;refine wpAny_bind (wpAny_attempt (wpAny_callSpecial?_slot hit.ty slot_next
  (wpAny_call_entry slot_next hit.ty entry_next ?_ (args_next _))))
 unfold Builtin.«reversed.__next__»;refine wpAny_bind (wpAny_of_eq rfl ?_)
 try dsimp only
 refine wpAny_bind (wpAny_field ho hd rfl ?_);refine wpAny_bind (wpAny_field ho hd rfl ?_);show wpAny _ _ (if (-1:Int)<0 then _ else _) _ _ s;rw[if_pos 0x4];refine wpAny_bind (wpAny_rule ?_);refine wpAny_bind ?_;refine wpAny_bind (wpAny_setField ho hd 0x2 ?_);have h1:=Heap.get?_update_self (Obj.mapFields (·.set! 1 (rawInt (-1)))) ho (Obj.isFreed_of_fields (Obj.data_mapFields hd _));have hd1:(Obj.mapFields (·.set! 1 (rawInt (-1))) o).data=.fields #[.ref t,rawInt (-1)]:=by rw[Obj.data_mapFields hd];simp
 refine wpAny_setField h1 hd1 0x2 ?_;refine wpAny_bind ?_;unfold Builtin.SmallTypes.stopIteration;simp only[newExc,newTuple];refine wpAny_bind ?_;refine wpAny_bind (wpAny_newObj_type ?_ (by size_fits));refine wpAny_bind (wpAny_of_eq (by first|rfl|(simp only[firstArgMember];rfl)) ?_);refine wpAny_newObj_type ?_ (by size_fits);simp only[raiseNew];refine wpAny_bind (wpAny_handled ?_)
 first|rw[show A.in1.handled=none from hh]|rw[hh]
 refine wpAny_bind (wpAny_pure (wpAny_throw ?_));refine wpAny_bind (wpAny_isInstance ⟨_,Heap.get?_push_size _ rfl,rfl⟩ isSubtype_stop ?_);exact wpAny_pure (hQ _ ((((Heap.SameBut.update ..).trans (Heap.SameBut.update ..)).extBut.push _).push _))
def HF(hit:Is s.heap it t i)(h:Q (.ref it) s):wpAny (model prog w) A (pyIter (.ref it)) Q E s:=by
 refine wpAny_pyIter_slot hit.ty HD (wpAny_call_entry HD hit.ty UG ?_ (Y9 _));show wpAny _ _ (ret (.ref it)) _ _ s;exact wpAny_pure ⟨_,rfl,"reversed",_,hit.ty,slot_next.lookup,h⟩
end
def walks{prog:Program}(hh:A.handled=none)(I l:Addr)(hne:l≠I)(items:Array Value)(hz:(items.size:Int)<2 ^ 62) :
  Walks prog w A I [I,l] [I] items.size (λi v=>items[items.size-1-i]?=some v) (λi h=>i<=items.size/\Is h I l ((items.size:Int)-1-(i:Int))/\h.IsTuple l items) where
 sub:=λb hb=>by simp at hb;simp[hb]
 frame:=λ_ _ _ x hk=>⟨x.1,x.2.1.at λo e=>hk I 0x2 o e,let ⟨o,e,r⟩:=x.2.2;⟨o,hk l 0x2 o e,r⟩⟩
 item:=λi s Q E hi x hQ=>by
  have e:(items.size:Int)-1-(i:Int)=((items.size-1-i:Nat):Int):=by lia
  have hit:=x.2.1;rw[e] at hit;have hx:items[items.size-1-i]?=some (items[items.size-1-i]' 0x1):=Array.getElem?_eq_getElem 0x1;refine next_item hit x.2.2 hx hz λh' tk hit' hs'=>?_
  have e2:((items.size-1-i:Nat):Int)-1=(items.size:Int)-1-((i+1:Nat):Int):=by lia
  rw[e2] at hit';exact hQ _ h' tk hx ⟨hi,hit',let ⟨o,eo,r⟩:=x.2.2;⟨o,(hs'.2 l hne).trans eo,r⟩⟩ λb o hb eo=>hs'.extBut b o (λh=>hb (by simp[h])) eo
 done:=λs Q E x hQ=>by
  have e:(items.size:Int)-1-(items.size:Int)=-1:=by lia
  have hit:=x.2.1;rw[e] at hit;exact next_end hh hit λh' he'=>hQ h' s.toks λb o hb eo=>he' b o (λh=>hb (by simp[h])) eo
 self:=λ_ _ _ _ x hQ=>HF x.2.1 hQ
section
variable {prog:Program} {w:World} {A:Around} {E:Value->Shared->Prop} {s:Shared}
theorem hint(hit:Is s.heap I l ((items.size:Int)-1))(hl:s.heap.IsTuple l items)(hz:items.size<=sizeLine)(h:∀b tk,Q b {s with toks:=tk}):wpAny (model prog w) A (Builtin.List.listLengthHint (.ref I)) Q E s:=by
 unfold Builtin.List.listLengthHint;refine wpAny_bind (wpAny_specialOf hit.ty T9 ?_);dsimp only;refine wpAny_ite_split (λhab=>absurd hab 0x6) (λ_=>?_);rw[if_neg 0x2];refine wpAny_bind (wpAny_specialOf hit.ty wM.lookup ?_);generalize hid:("reversed.__length_hint__" : String)=id0
 wp_delta
 rw[show splitId id0=some ("reversed","__length_hint__") from by subst hid;decide +kernel];subst hid;refine wpAny_bind (wpAny_isInstance (T:= "reversed") (b:=true) hit.ty PySem.F.sub_reversed_self ?_);refine wpAny_ite_split (λhab=>absurd hab 0x4) (λ_=>?_);refine wpAny_ite_split (λhab=>absurd hab 0x6) (λ_=>?_);refine wpAny_bind (wpAny_rule ?_);refine wpAny_bind (wpAny_of_eq (wM.bind _) ?_);refine wpAny_bind (wpAny_attempt (wpAny_call_entry wM hit.ty T_ ?_ (Y_ _)));obtain⟨o,ho,hc,hd⟩:=id hit;unfold Builtin.«reversed.__length_hint__»;refine wpAny_bind (wpAny_of_eq (a:=Value.ref I) rfl ?_);refine wpAny_bind (wpAny_field ho hd (x:=.ref l) rfl ?_);rw[if_neg (show ¬((Value.ref l==Value.none)=true) from Bool.false_ne_true)];rw[sizeLine_eq] at hz;refine wpAny_bind (PyProof.Rows.len_tuple (items:=items) hl 0x1 ?_);refine wpAny_bind (wpAny_of_eq (a:=some (items.size:Int)) rfl ?_);dsimp only;refine wpAny_bind (wpAny_field ho hd (x:=rawInt ((items.size:Int)-1)) rfl ?_);show wpAny _ _ (if (items.size:Int)<(items.size:Int)-1+1 then _ else _) _ _ _;rw[if_neg 0x1];refine wpAny_bind (wpAny_mkInt (wpAny_pure ⟨_,rfl,?_⟩));dsimp only;refine wpAny_bind (wpAny_of_eq (a:=some ((items.size:Int)-1+1)) rfl ?_);dsimp only;rw[if_neg (by simp only[Builtin.List.listFitsIndex,Bool.not_eq_true',Bool.not_eq_false,Bool.and_eq_true,decide_eq_true_eq];lia),if_neg 0x1,if_neg (by simp only[Builtin.List.listTooLong,decide_eq_true_eq,sizeLine_eq];lia)];exact wpAny_pure (h _ _)
def extend(hh:A.handled=none)(hit:Is s.heap I l ((items.size:Int)-1))(hl:s.heap.IsTuple l items)(hIl:l≠I)(S:Addr)(hSr:S≠I)(hSd:S≠l)(res:Value)(c₀:Nat)(hS:s.heap.get? S=some {cls:=.type "list",data:=.seq #[] c₀})
 (hR:∀h' tk acc' c',(∀b o,b≠S->b≠I->s.heap.get? b=some o->h'.get? b=some o)->h'.get? S=some {cls:=.type "list",dict:=none,data:=.seq acc' c',slots:=#[]}->ItemsOf (λi v=>items[items.size-1-i]?=some v) acc' items.size->R (.ok (.ret res)) {s with heap:=h',toks:=tk})(hn:items.size<=sizeLine) :
  wpAny (model prog w) A.in1 (Builtin.List.listExtendWith (.ref S) (.ref I) res)
   (λfin s'=>match fin with|.done f=>R (.ok f) s'|.again c'=>c'.quiet=true/\codeAny (model prog w) A c' R s') (λe s'=>R (.error e) s') s:=by
 have hz:(items.size:Int)<2 ^ 62:=by rw[sizeLine_eq] at hn;lia
 have W:=walks (prog:=prog) (w:=w) (A:=A.in1) hh I l hIl items hz;have hSf:S∉[I,l]:=by simp only[List.mem_cons,List.not_mem_nil,or_false,not_or];exact⟨hSr,hSd⟩
 have st0:∀{h:Heap},Is h I l ((items.size:Int)-1)->h.IsTuple l items->0<=items.size/\Is h I l ((items.size:Int)-1-((0:Nat):Int))/\h.IsTuple l items:=λ{h} a b=>⟨Nat.zero_le _,by simpa using a,b⟩
 have key:∀(h:Heap)(c₁ tk:Nat),Is h I l ((items.size:Int)-1)->h.IsTuple l items->(∀b o,b≠S->s.heap.get? b=some o->h.get? b=some o)->
   h.get? S=some {cls:=.type "list",data:=.seq #[] c₁}->codeAny (model prog w) A (.builtin "list.extend.loop" ⟨[.ref S,.ref I,res],[]⟩) R {s with heap:=h,toks:=tk}:=by
  intro h c₁ tk h1 h2 hk hS₁;refine codeAny_extend_loopS W.toS hn S hSf res items.size 0 _ #[] c₁ rfl (Nat.zero_le _) (st0 h1 h2) hS₁ (ItemsOf.nil _) λs' acc' c' hm hS' hacc=>?_
  rw[Moved.eq_with hm];refine hR s'.heap s'.toks acc' c' (λb o hb hbI e=>hm.heap b o (λhmem=>?_) (hk b o hb e)) hS' hacc;rcases List.mem_cons.mp hmem with e'|hmem
  ·exact hb e'
  ·exact hbI (List.mem_singleton.mp hmem)
 unfold Builtin.List.listExtendWith;refine wpAny_bind (wpAny_typeOf (T:= "reversed") hit.ty ?_);have h1:Builtin.List.listSameRef (.ref S) (.ref I)=false:=by simp[Builtin.List.listSameRef,hSr]
 have n1:(Value.type "reversed"==Value.type "list")=false:=by decide
 have n2:(Value.type "reversed"==Value.type "tuple")=false:=by decide
 simp only[h1,n1,n2,Bool.or_false,Bool.false_eq_true,if_false];refine wpAny_bind (HF hit ?_);refine wpAny_bind (wpAny_holding (hint hit hl hn λb tk=>?_));refine wpAny_ite_split (λ_=>?_) (λ_=>wpAny_pure ⟨plainId_quiet PySem.F.plain_extend_loop _,key _ c₀ _ hit hl (λb o _ e=>e) hS⟩);refine wpAny_bind (wpAny_rule ?_);refine wpAny_bind ?_;show wpAny _ _ (updateSeq S (·.push .none) >>= λ_=>updateSeq S (·.pop)) _ _ _;refine wpAny_bind (wpAny_updateSeq hS rfl ?_);have hS₂:=Heap.get?_update_self (Obj.mapSeq (·.push Value.none)) hS rfl;refine wpAny_updateSeq (hz:=by seq_fits) hS₂ rfl ?_;have hS₃:=Heap.get?_update_self (Obj.mapSeq (·.pop)) hS₂ rfl;have oth:∀b o,b≠S->s.heap.get? b=some o->((s.heap.update S (Obj.mapSeq (·.push Value.none))).update S (Obj.mapSeq (·.pop))).get? b=some o:=λb o hb e=>(Heap.get?_update_other _ _ (Ne.symm hb)).trans ((Heap.get?_update_other _ _ (Ne.symm hb)).trans e)
 refine wpAny_pure ⟨plainId_quiet PySem.F.plain_extend_loop _,key _ _ _ (hit.at λo e=>oth I o (Ne.symm hSr) e) (let ⟨o,e,r⟩:=hl;⟨o,oth l o (Ne.symm hSd) e,r⟩) (λb o hb e=>oth b o hb e) hS₃⟩
def init(hh:A.handled=none)(hit:Is s.heap I l ((items.size:Int)-1))(hl:s.heap.IsTuple l items)(hIl:l≠I)(S:Addr)(hSr:S≠I)(hSd:S≠l)(hS:s.heap.get? S=some {cls:=.type "list",data:=.seq #[]})
 (hR:∀h' tk acc' c',(∀b o,b≠S->b≠I->s.heap.get? b=some o->h'.get? b=some o)->h'.get? S=some {cls:=.type "list",dict:=none,data:=.seq acc' c',slots:=#[]}->ItemsOf (λi v=>items[items.size-1-i]?=some v) acc' items.size->R (.ok (.ret .none)) {s with heap:=h',toks:=tk})(hn:items.size<=sizeLine) :
  wpAny (model prog w) A.in1 (Builtin.«list.__init__» ⟨[.ref S,.ref I],[]⟩)
   (λfin s'=>match fin with|.done f=>R (.ok f) s'|.again c'=>c'.quiet=true/\codeAny (model prog w) A c' R s') (λe s'=>R (.error e) s') s:=by
 show wpAny _ _ (do let old <- Builtin.List.listItems (.ref S);Builtin.List.listUpdate (.ref S) (λ_=>#[]);letGo old.toList.reverse;Builtin.List.listExtendWith (.ref S) (.ref I) .none) _ _ s;refine wpAny_bind ?_;unfold Builtin.List.listItems;refine wpAny_bind (wpAny_seqItems hS rfl (wpAny_pure ?_));show wpAny _ _ (updateSeq S (λ_=>#[]) >>= λ_=>letGo (#[]:Array Value).toList.reverse >>= λ_=>Builtin.List.listExtendWith (.ref S) (.ref I) .none) _ _ s;refine wpAny_bind (wpAny_updateSeq hS rfl ?_);have hS₂:=Heap.get?_update_self (Obj.mapSeq (λ_=>(#[]:Array Value))) hS rfl;have oth:∀b o,b≠S->s.heap.get? b=some o->(s.heap.update S (Obj.mapSeq (λ_=>(#[]:Array Value)))).get? b=some o:=
  λb o hb e=>(Heap.get?_update_other _ _ (Ne.symm hb)).trans e
 refine wpAny_bind (wpAny_letGo ?_);refine extend hh (hit.at λo e=>oth I o (Ne.symm hSr) e) (let ⟨o,e,r⟩:=hl;⟨o,oth l o (Ne.symm hSd) e,r⟩) hIl S hSr hSd .none _ hS₂ (λh' tk acc' c' hk hS' hacc=>?_) hn;exact hR h' tk acc' c' (λb o hb hbI e=>hk b o hb hbI (oth b o hb e)) hS' hacc
def ZF(hh:A.handled=none)(hit:Is s.heap I l ((items.size:Int)-1))(hl:s.heap.IsTuple l items)(hIl:l≠I)(hn:items.size<=sizeLine)
 (hQ:∀h' tk acc' c',(∀b o,b≠I->s.heap.get? b=some o->h'.get? b=some o)->h'.get? s.heap.objs.size=some {cls:=.type "list",dict:=none,data:=.seq acc' c',slots:=#[]}->ItemsOf (λi v=>items[items.size-1-i]?=some v) acc' items.size->Q (.ref s.heap.objs.size) {s with heap:=h',toks:=tk}) :
  wpAny (model prog w) A (call (.type "list") [.ref I]) Q E s:=by
 refine callType_codes (Q₁:=λobj s₁=>obj=.ref s.heap.objs.size/\s₁={s with heap:=s.heap.push {cls:=.type "list",data:=.seq #[]}}) PySem.F.called_list (PySem.F.typeCall_list_1 _) PySem.F.entry_list_init
  (code_list_new _ ⟨rfl,rfl⟩) λobj s₁ h₁=>?_
 obtain⟨rfl,rfl⟩:=h₁;have hS:(s.heap.push {cls:=.type "list",data:=.seq #[]}).get? s.heap.objs.size=some {cls:=.type "list",data:=.seq #[]}:=Heap.get?_push_size _ rfl;have lt:∀{b:Addr}{o:Obj},s.heap.get? b=some o->s.heap.objs.size≠b:=λe=>Nat.ne_of_gt (Heap.lt_size e)
 have l1:s.heap.objs.size≠I:=let ⟨o,e,_⟩:=hit;lt e
 have l2:s.heap.objs.size≠l:=let ⟨o,e,_⟩:=hl;lt e
 refine⟨⟨_,hS,rfl⟩,PySem.F.args_list_init_2 _ _,init (A:=A.in1) hh (hit.at λo e=>Heap.get?_push_of_some _ e) (let ⟨o,e,r⟩:=hl;⟨o,Heap.get?_push_of_some _ e,r⟩) hIl _ l1 l2 hS (λh' tk acc' c' hk hS' hacc=>?_) hn⟩;exact⟨rfl,hQ h' tk acc' c' (λb o hb e=>hk b o (Ne.symm (lt e)) hb (Heap.get?_push_of_some _ e)) hS' hacc⟩
end
end Rv
open L2 PySem.SeqAt PyProof.Rows
def aB3:D->Res D
 |.tup xs=>if D.aJ xs&&decide (xs.length<=lim) then .ok (.lst xs.reverse) else .bad
 |_=>.bad
def L_:bootBuiltins "reversed"=some (.type "reversed"):=by decide +kernel
variable [KFrag]
theorem bG.rev:∀{vs:List V}{ds:List D},bG P H vs ds->bG P H vs.reverse ds.reverse
 |_,_,.nil=>.nil
 |_,_,.cons r t=>by rw[List.reverse_cons,List.reverse_cons];exact t.rev.snoc r
def iC(h:D.aJ ds=true):D.aJ ds.reverse=true:=bZ.mpr λy hy=>bZ.mp h y (List.mem_reverse.mp hy)
def aCf(r:Vals xs its)(hl:acc.length=its.length)(h:∀j v,acc[j]?=some v->its[its.length-1-j]?=some v):Vals xs.reverse acc:=by
 have e:acc=its.reverse:=by
  refine List.ext_getElem? λj=>?_
  by_cases hj:j<its.length
  ·have h1:acc[j]?=some (acc[j]' 0x1):=List.getElem?_eq_getElem 0x1;have h2:=h j _ h1;rw[h1,List.getElem?_reverse hj,h2]
  ·rw[List.getElem?_eq_none 0x1,List.getElem?_eq_none (by rw[List.length_reverse];lia)]
 rw[e];clear e h hl;induction r with
 |nil=>exact .nil
 |cons h t ih=>
  rw[List.reverse_cons,List.reverse_cons];exact ih.append (.cons h .nil)
section
variable {X:Cx} {e:Expr} {fe:FE} {re:Bool} {p p2 pos pos2:Pos}
def MF(hc:X.calm=true)(hg:Gl X "list")(hm:X.mg "list"=none)(hg2:Gl X "reversed")(hm2:X.mg "reversed"=none)(he:PE X e (gE fe re))(hs:starEach [e] X.env=[(false,eval e X.env)]:=by rfl)
 (hs2:starEach [.Call (.Name "reversed" p2) [e] [] pos2] X.env=[(false,eval (.Call (.Name "reversed" p2) [e] [] pos2) X.env)]:=by rfl) :
  PE X (.Call (.Name "list" p) [.Call (.Name "reversed" p2) [e] [] pos2] [] pos) (gE (b1 aB3 fe) true):=by
 intro pins s σ H Q I ⟨ρ,d,E,h,q⟩;obtain⟨d0,h1,h2⟩:=aY h;unfold aB3 at h2;split at h2
 rotate_left
 ·exact bx h2
 rename_i ds;split at h2
 rotate_left
 ·exact bx h2
 rename_i hb;cases h2;rw[Bool.and_eq_true] at hb;refine wpAny_Call_Name_kw (nF I hg hm X4 ?_);refine PyProof.Rows.callWith_type1 ?_ hs2 rfl;rw[hs2];show wpAny _ _ (spliced [(false,eval (.Call (.Name "reversed" p2) [e] [] pos2) X.env)]) _ _ s;refine Calls.spliced_cons ?_;refine wpAny_Call_Name_kw (nF I hg2 hm2 L_ ?_);refine PyProof.Rows.callWith_type1 ?_ hs rfl;rw[hs];show wpAny _ _ (spliced [(false,eval e X.env)]) _ _ s;refine Calls.spliced_cons (thn (he pins s σ H (λv H1=>bU H H1/\Rep All H1 v (.tup ds)) I ⟨ρ,_,E,h1,λv H1 s1 r1 _=>⟨s1,r1⟩⟩) λu s1 ⟨x,H1,I1,ru,sm,rx⟩=>?_);obtain⟨t,xs,rfl,ex,rr⟩:=rx.iM;cases ru;obtain⟨its,rv,ht,hz⟩:=I1.tuple (.of ex);have htt:s1.heap.IsTuple t its.toArray:=ht;refine Calls.spliced_nil ?_;have hz':its.toArray.size<=sizeLine:=by rw[List.size_toArray,<-rv.length];exact hz
 refine Rv.aCe htt (by rw[sizeLine_eq] at hz';lia) λtk=>?_
 refine Calls.spliced_nil ?_;have hne:t≠s1.heap.objs.size:=let ⟨o,e,_⟩:=htt;Nat.ne_of_lt (Heap.lt_size e)
 refine Rv.ZF (I1.ok.hd hc) ⟨_,Heap.get?_push_size _ rfl,rfl,rfl⟩ (let ⟨o,e,r⟩:=htt;⟨o,Heap.get?_push_of_some _ e,r⟩) hne hz' λh' tk' acc c hk hS hacc=>?_
 have hsz:((s1.heap.push (Rv.obj t ((its.toArray.size:Int)-1))).objs.size)=s1.heap.objs.size+1:=Heap.size_push ..;have hfr:H1 (s1.heap.push (Rv.obj t ((its.toArray.size:Int)-1))).objs.size=none:=I1.hok.fresh (by rw[hsz];lia);have hlen:acc.toList.length=its.length:=by have:=hacc.1;simpa using this
 have hv:Vals xs.reverse acc.toList:=aCf rv hlen λj v hj=>by
  have:=hacc.2 j v (by simpa using hj);simpa using this
 have sm2:bU H1 (upd H1 (s1.heap.push (Rv.obj t ((its.toArray.size:Int)-1))).objs.size (.lst xs.reverse)):=bU.upd hfr;refine⟨.ref (s1.heap.push (Rv.obj t ((its.toArray.size:Int)-1))).objs.size,_,I1.laid (a:=(s1.heap.push (Rv.obj t ((its.toArray.size:Int)-1))).objs.size) (o:=.lst xs.reverse) (h':=h') (t':=tk') (λb o e=>hk b o (Nat.ne_of_lt (Heap.lt_size e)) (Heap.get?_push_of_some _ e)) (by rw[hsz];lia) ⟨by rw[List.length_reverse];exact hz,acc.toList,c,hv,by simpa using hS⟩,rfl,?_⟩;exact q _ _ (sm.trans sm2) (.lst aH trivial (rr.rev.same sm2)) λ_=>.lst aH (sm.free hfr) ((rr.rev.bN (iC hb.1)).same sm2)
end
end Mi
namespace Wl
open PySem PySem.Spec
noncomputable abbrev liO(xs:Array Value)(n:Nat):Obj:={cls:=.type "list",data:=.seq xs n}
def YK:typeLookup (.type "list") "keys"=pure none:=by rw[typeLookup_type,builtinLookup_eq_fast];kernel_rfl
def noGet:typeLookup (.type "list") "__getattr__"=pure none:=by rw[typeLookup_type,builtinLookup_eq_fast];kernel_rfl
def YL:entryFor table "list.__getattribute__"=some Builtin.«object.__getattribute__»:=entryFor_alias (id':= "object.__getattribute__") 0x8 0x6 0x6 0x8
def nY(a:Addr)(xs:Array Value)(n:Nat)(u:Tok):Meets (Builtin.«object.__getattribute__» ⟨[.ref a,.str "keys" u],[]⟩) (λA R s=>s.heap.get? a=some (liO xs n)/\raisesAttr (.ref a) "keys" A R s):=.of_wp λprog w A R s hs=>by
 obtain⟨hp,g,d,tk,os⟩:=s;obtain⟨e,hh,q⟩:=hs;have ty:(⟨hp,g,d,tk,os⟩:Shared).TypeIs (.ref a) "list":=⟨_,e,rfl⟩
 have no:=YK
 wp_walk
 exact wpAny_raiseAttrError hh q (attrMsg_fits 0x6 (by size_fits))
section
variable {prog:Program} {w:World} {A:Around} {E:Value->Shared->Prop} {hp:Heap} {g:Array GenState} {d:Drawn} {tk:Nat} {os:OsState} {a:Addr} {xs:Array Value} {n:Nat}
def gone(e:hp.get? a=some (liO xs n))(hh:A.handled=none)(hk:kw=[])(q:∀h' tk' x,Heap.NewAttrErr hp h' x (.ref a) "keys"->E (.ref x) ⟨h',g,d,tk',os⟩) :
  wpAny (model prog w) A (call (.builtin "list.__getattribute__") ([.ref a]++[.str "keys" u]) kw) Q E ⟨hp,g,d,tk,os⟩:=by
 subst hk;exact call_meets F.slot_list_getattribute ⟨_,e,rfl⟩ YL (F.args_list_getattribute_2 _ _) (nY a xs n u) ⟨e,hh,λh' tk' x hx=>q h' tk' x hx⟩
def lacks(e:hp.get? a=some (liO xs n))(hh:A.handled=none)(q:∀h' tk',(∀b o,hp.get? b=some o->h'.get? b=some o)->Q none ⟨h',g,d,tk',os⟩):wpAny (model prog w) A (getAttr? (.ref a) "keys") Q E ⟨hp,g,d,tk,os⟩:=by
 have ty:∀tk',(⟨hp,g,d,tk',os⟩:Shared).TypeIs (.ref a) "list":=λ_=>⟨_,e,rfl⟩
 have f3:=F.slot_list_getattribute.lookup;have f4:=F.slot_list_getattribute.bind (.ref a);have f5:=noGet;have sub:=sub_AttributeError
 wp_walk using gone e hh
 case hk=>rfl
 intro h' tk' x hx;obtain⟨t,u,ex⟩:=hx.there;show wpAny _ _ (getattributeRaised _ _ _ _ _ _ _) _ _ _
 wp_walk
 exact q _ _ hx.keeps
end
def yL{h:Heap}(e:h.get? c=some o)(hc:o.cls=.type T)(ed:h.get? d=some od)(hd:od.cls=.type U)(ne:(Value.type T==Value.type U)=false):c≠d:=λq=>by
 subst q;rw[e] at ed;cases ed;rw[hc] at hd;rw[hd] at ne;simp at ne
def Prs{prog:Program}{w:World}{K:Type}[DecidableEq K](knd:KeyKind prog w K)(items:Array Value)(ps:List (K×Value))(h:Heap):Prop:=items.size=ps.length/\∀(i:Nat)(kv:K×Value),ps[i]?=some kv->∃(p:Addr)(x:Value)(o:Obj)(n:Nat),items[i]?=some (Value.ref p)/\h.get? p=some o/\o.cls=.type "tuple"/\o.data=.seq #[x,kv.2] n/\knd.is kv.1 x=true
def Prs.keep[DecidableEq K]{knd:KeyKind prog w K}{items:Array Value}{ps:List (K×Value)}{h h':Heap}(x:Prs knd items ps h)(k:∀c o,o.cls=.type "tuple"->h.get? c=some o->h'.get? c=some o):Prs knd items ps h':=
 ⟨x.1,λi kv e=>let ⟨p,v,o,n,h1,h2,h3,h4,h5⟩:=x.2 i kv e;⟨p,v,o,n,h1,k p o h3 h2,h3,h4,h5⟩⟩
section
variable {prog:Program} {w:World} {K:Type} [DecidableEq K] {knd:KeyKind prog w K} {A:Around} {R:Except Value Flow->Shared->Prop} {it l d:Addr} {items:Array Value} {ps:List (K×Value)} {nl:Nat}
theorem z8(hh:A.handled=none)(hdi:d≠it)(hdl:d≠l)(hil:l≠it) :
  ∀(m k:Nat)(s:Shared)(kvs:List (K×Value)),k+m=items.size->kvs.length+m<=sizeLine->s.heap.IsListIter it l k->s.heap.get? l=some (liO items nl)->Prs knd items ps s.heap->s.heap.DictOf knd d kvs->
  (∀h' tk,h'.DictOf knd d (merged kvs (ps.drop k))->(∀c o,c≠d->c≠it->s.heap.get? c=some o->h'.get? c=some o)->R (.ok (.ret .none)) {s with heap:=h',toks:=tk})->
  codeAny (model prog w) A (.builtin "dict.update.loop" ⟨[.ref d,.ref it,rawInt k,.none],[]⟩) R s:=by
 intro m;induction m with
 |zero=>
  intro k s kvs hkm hl Z el Pp hd q;refine codeAny_builtin Wz.j_ ?_;rw[Around.under_plainId (show plainId "dict.update.loop"=true by decide +kernel) _];refine wpAny_bind (wpAny_pyNext_list_end hh Z ⟨_,el,rfl,_,rfl⟩ (Array.getElem?_eq_none 0x1) λh' kp=>?_);refine wpAny_bind ?_;unfold Builtin.Dict.addKeywords;rw[List.forIn_nil];refine wpAny_bind (wpAny_pure (wpAny_pure (wpAny_pure ?_)));have e:ps.drop k=[]:=List.drop_eq_nil_of_le (by have:=Pp.1;lia);rw[e] at q;obtain⟨o,es,ep,ho,r⟩:=hd;exact q _ s.toks ⟨o,es,ep,kp d o hdi ho,r⟩ λc o _ c1 e=>kp c o c1 e
 |succ m ih=>
  intro k s kvs hkm hl Z el Pp hd q;have hlp:k<ps.length:=by have:=Pp.1;lia
  obtain⟨p,x,o,n,hi,hp,hpc,hpd,his⟩:=Pp.2 k ps[k] (List.getElem?_eq_getElem hlp);have hpi:p≠it:=let ⟨oi,ei,ci,_⟩:=Z;yL hp hpc ei ci 0x4
  refine codeAny_builtin Wz.j_ ?_;rw[Around.under_plainId (show plainId "dict.update.loop"=true by decide +kernel) _];refine wpAny_bind (wpAny_pyNext_list_item Z ⟨_,el,rfl,_,rfl⟩ hi λh' Z' kp=>?_);have hp':h'.get? p=some o:=(kp.2 p hpi).trans hp;refine wpAny_bind (wpAny_holding (wpAny_bind (wpAny_tryCatch ?_)));refine wpAny_bind (wpAny_typeOf ⟨_,hp',hpc⟩ ?_);rw[if_pos 0x4];refine wpAny_bind (wpAny_seqItems hp' hpd (wpAny_pure ?_));show wpAny _ _ (holding [x,ps[k].2] (dictSet d x ps[k].2)) _ _ _;have hd':h'.DictOf knd d kvs:=let ⟨o,es,ep,ho,r⟩:=hd;⟨o,es,ep,(kp.2 d hdi).trans ho,r⟩
  obtain⟨od,es,ep,ho,hc,_⟩:=id hd';refine wpAny_holding (wpAny_dictSet_pairs his hd' (λh2 hd2' sb=>?_) 0x1);refine wpAny_pure ⟨Code.quiet_builtin _ 0x6,?_⟩;have ek:(rawInt (k+1):Value)=rawInt ((k+1:Nat):Int):=rfl;rw[ek];have hdrop:ps.drop k=ps[k]::ps.drop (k+1):=List.drop_eq_getElem_cons hlp;have ls:(stored kvs ps[k].1 ps[k].2).length<=kvs.length+1:=by
   unfold stored;split
   ·rw[List.length_map];lia
   ·rw[List.length_append];exact Nat.le_refl _
  have keep:∀c o,c≠d->c≠it->s.heap.get? c=some o->h2.get? c=some o:=λc o c0 c1 e=>(sb.2 c c0).trans ((kp.2 c c1).trans e)
  have hdc:∀c (oc:Obj),oc.cls=.type "tuple"->s.heap.get? c=some oc->c≠d/\c≠it:=λc oc hoc e=>⟨let ⟨o1,_,_,e1,c1,_⟩:=hd;yL e hoc e1 c1.1 0x4,let ⟨oi,ei,ci,_⟩:=Z;yL e hoc ei ci 0x4⟩
  refine ih (k+1) _ (stored kvs ps[k].1 ps[k].2) 0x1 0x1 (let ⟨oi,ei,r⟩:=Z';⟨oi,(sb.2 it (Ne.symm hdi)).trans ei,r⟩) (keep l _ (Ne.symm hdl) hil el) (Pp.keep λc oc hoc e=>keep c oc (hdc c oc hoc e).1 (hdc c oc hoc e).2 e) hd2' λh3 tk hd3 kp3=>?_
  exact q h3 tk (by rw[hdrop];exact hd3) λc o c0 c1 e=>kp3 c o c0 c1 (keep c o c0 c1 e)
end
section
variable {prog:Program} {w:World} {K:Type} [DecidableEq K] {knd:KeyKind prog w K} {A:Around} {E:Value->Shared->Prop} {hp:Heap} {g:Array GenState} {dr:Drawn} {tk:Nat} {os:OsState} {l:Addr} {items:Array Value} {ps:List (K×Value)} {nl:Nat}
def dict_list(hh:A.handled=none)(el:hp.get? l=some (liO items nl))(Pp:Prs knd items ps hp)(hz:items.size<=1000000)
 (q:∀h' tk',h'.DictOf knd hp.objs.size (merged [] ps)->(∀c o,hp.get? c=some o->h'.get? c=some o)->Q (.ref hp.objs.size) ⟨h',g,dr,tk',os⟩) :
  wpAny (model prog w) A (call (.type "dict") [.ref l]) Q E ⟨hp,g,dr,tk,os⟩:=by
 have hnew:(hp.push {cls:=.type "dict",data:=.dict #[]}).DictOf knd hp.objs.size []:=Heap.DictOf.new hp;have up:∀c o,hp.get? c=some o->(hp.push {cls:=.type "dict",data:=.dict #[]}).get? c=some o:=λc o e=>Heap.get?_push_of_some _ e
 have lt:∀{c o},hp.get? c=some o->hp.objs.size≠c:=λe=>Nat.ne_of_gt (Heap.lt_size e)
 refine callType_codes (Q₁:=λv s₁=>v=.ref hp.objs.size/\s₁=⟨hp.push {cls:=.type "dict",data:=.dict #[]},g,dr,tk,os⟩) F.kt_called_dict (F.kt_typeCall_dict_1 _) F.entry_dict_init (kt_code_dict_new _ ⟨rfl,rfl⟩) λv s₁ hv=>?_
 obtain⟨rfl,rfl⟩:=hv;have ty:(⟨hp.push {cls:=.type "dict",data:=.dict #[]},g,dr,tk,os⟩:Shared).TypeIs (.ref hp.objs.size) "dict":=hnew.typeIs;have ez:=up _ _ el;have tz:(⟨hp.push {cls:=.type "dict",data:=.dict #[]},g,dr,tk,os⟩:Shared).TypeIs (.ref l) "list":=⟨_,ez,rfl⟩
 refine⟨ty,F.args_dict_init_2 _ _,wpAny_bind (wpAny_bind (wpAny_notOrdered_dict ty (wpAny_pure ?_)))⟩;refine wpAny_bind (m:=typeOf (.ref l)) (wpAny_typeOf tz ?_);rw[if_pos 0x4];refine wpAny_bind (lacks ez hh λh' tk' kp=>?_);rw[if_pos (show(none:Option Value).isNone=true from rfl)];refine wpAny_bind (wpAny_rule (wpAny_bind (wpAny_pyIter_list ⟨_,kp _ _ ez,rfl,_,rfl⟩ (wpAny_pure ⟨Code.quiet_builtin _ 0x6,?_⟩))));have hd':h'.DictOf knd hp.objs.size []:=let ⟨o,es,ep,ho,r⟩:=hnew;⟨o,es,ep,kp _ _ ho,r⟩
 have ltd:hp.objs.size<h'.objs.size:=let ⟨o,es,ep,ho,r⟩:=hd';Heap.lt_size ho
 have ltl:l<h'.objs.size:=Heap.lt_size (kp _ _ ez);refine z8 (A:=A.in1) (ps:=ps) (it:=h'.objs.size) (l:=l) (items:=items) (nl:=nl) (show A.in1.handled=none from hh) (Nat.ne_of_lt ltd) (lt el) (Nat.ne_of_lt ltl) items.size 0 _ [] 0x1 (by rw[List.length_nil,sizeLine_eq];lia) ⟨_,Heap.get?_push_size _ rfl,rfl,rfl⟩ (Heap.get?_push_of_some _ (kp _ _ ez)) (Pp.keep λc o _ e=>Heap.get?_push_of_some _ (kp c o (up c o e))) (let ⟨o,es,ep,ho,r⟩:=hd';⟨o,es,ep,Heap.get?_push_of_some _ ho,r⟩) λh2 tk2 hd2 kp2=>?_
 exact⟨rfl,q h2 tk2 hd2 λc o e=>kp2 c o (λx=>lt e x.symm) (Nat.ne_of_lt (Heap.lt_size (kp c o (up c o e)))) (Heap.get?_push_of_some _ (kp c o (up c o e)))⟩
end
end Wl
namespace Mi
open PySem L2 PySem.SeqAt PySem.Spec PyProof.Rows
def wN:List D->Option (List (D×D))
 |[]=>some []
 |.tup [k,v]::r=>if gR k&&v.pure then (wN r).map ((k,v)::·) else none
 |_::_=>none
def kE(kvs:List (D×D))(more:List (D×D)):List (D×D):=more.foldl (λacc p=>putD acc p.1 p.2) kvs
def wO:D->Res D
 |.lst xs=>match wN xs with
  |some ps=>if decide (xs.length<=1000) then .ok (.dct (kE [] ps)) else .bad
  |none=>.bad
 |_=>.bad
variable [KFrag]
theorem QV(I:Inv X pins σ H s):∀{xs:List D}{vs:List V}{us:List Value}{ps:List (D×D)},bG All H vs xs->Vals vs us->wN xs=some ps->
  ∃(kvs:List (Key×V))(prs:List (Key×Value)),KV kvs prs/\fY All H kvs ps/\D.aJ (ps.map (·.2))=true/\us.length=prs.length/\∀(i:Nat)(kv:Key×Value),prs[i]?=some kv->∃(p:Addr)(x:Value)(o:Obj)(n:Nat),us[i]?=some (Value.ref p)/\s.heap.get? p=some o/\o.cls=.type "tuple"/\o.data=.seq #[x,kv.2] n/\(cC X.prog X.w).is kv.1 x=true
 |[],_,_,_,.nil,.nil,h=>by
  cases h;exact⟨[],[],.nil,.nil,rfl,rfl,λi kv h=>by simp at h⟩
 |d::xs,_,_,ps,.cons r t,.cons rv tv,h=>by
  unfold wN at h;split at h
  ·rename_i h0;cases h0
  ·rename_i k v r' h0;injection h0 with h0 h1
   subst h0 h1;split at h
   ·rename_i hf;rw[Bool.and_eq_true] at hf;obtain⟨ps',hp,rfl⟩:=Option.map_eq_some_iff.mp h;obtain⟨kvs,prs,g1,g2,g3,g4,g5⟩:=QV I t tv hp;obtain⟨a,ws,rfl,ea,rr⟩:=r.iM;cases rv;obtain⟨its,rvs,o,ho,hc,n,hd⟩:=j5 I ea;cases rr with
    |cons rk rr=>
     cases rr with
     |cons rw_ rr=>
      cases rr;cases rvs with
      |cons q1 rvs=>
       cases rvs with
       |cons q2 rvs=>
        cases rvs;rename_i wk ww uk uw;obtain⟨key,hk1,hk2⟩:∃key:Key,kD key=k/\(cC X.prog X.w).is key uk=true:=by
         cases rk with
         |int i=>exact⟨.inl i,rfl,zK q1⟩
         |str x=>exact⟨.inr x,rfl,zK q1⟩
         |_=>cases hf.1
        subst hk1;refine⟨(key,ww)::kvs,(key,uw)::prs,.cons ⟨rfl,q2⟩ g1,.cons rw_ g2,by rw[List.map_cons,D.aJ,hf.2,g3];rfl,by rw[List.length_cons,List.length_cons,g4],λi kv hi=>?_⟩;cases i with
        |zero=>
         simp at hi;subst hi;exact⟨a,uk,o,n,rfl,ho,hc,hd,hk2⟩
        |succ i=>
         obtain⟨p,x,o',n',z1,z2⟩:=g5 i kv (by simpa using hi);exact⟨p,x,o',n',by simpa using z1,z2⟩
   ·cases h
  ·cases h
theorem yM:∀{more:List (Key×V)}{ds:List (D×D)}{kvs:List (Key×V)}{es:List (D×D)},fY P H more ds->fY P H kvs es->(kvs.map (·.1)).Nodup->fY P H (gB kvs more) (kE es ds)/\((gB kvs more).map (·.1)).Nodup
 |_,_,_,_,.nil,r,n=>⟨r,n⟩
 |_,_,_,_,.cons (k:=k) rv t,r,n=>by have:=yM t (z6 (k:=k) rv r n) (jH n);exact this
theorem mW:∀{ds es:List (D×D)},D.aJ (ds.map (·.2))=true->D.aJ (es.map (·.2))=true->D.aJ ((kE es ds).map (·.2))=true
 |[],_,_,h=>h
 | (k,v)::ds,es,h,h2=>by
  rw[List.map_cons,D.aJ,Bool.and_eq_true] at h;exact mW (ds:=ds) h.2 (j9 h.1 h2)
section
def HH(hc:X.calm=true)(hg:Gl X "dict")(hm:X.mg "dict"=none)(he:PE X e (gE fe re))(hs:starEach [e] X.env=[(false,eval e X.env)]:=by rfl) :
  PE X (.Call (.Name "dict" p) [e] [] pos) (gE (b1 wO fe) true):=by
 intro pins s σ H Q I ⟨ρ,d,E,h,q⟩;obtain⟨d0,h1,h2⟩:=aY h;unfold wO at h2;split at h2
 rotate_left
 ·exact bx h2
 rename_i xs;split at h2
 rotate_left
 ·exact bx h2
 rename_i ps hps;split at h2
 rotate_left
 ·exact bx h2
 rename_i hb;cases h2;have hb:=of_decide_eq_true hb;refine wpAny_Call_Name_kw (nF I hg hm zZ ?_);refine PyProof.Rows.callWith_type1 ?_ hs rfl;rw[hs];show wpAny _ _ (spliced [(false,eval e X.env)]) _ _ s;refine Calls.spliced_cons (thn (he pins s σ H (λv H1=>bU H H1/\Rep All H1 v (.lst xs)) I ⟨ρ,_,E,h1,λv H1 s1 r1 _=>⟨s1,r1⟩⟩) λu s1 ⟨x,H1,I1,ru,sm,rx⟩=>?_);obtain⟨a,vs,rfl,ea,rr⟩:∃a vs,x=.ref a/\H1 a=some (.lst vs)/\bG All H1 vs xs:=by
  obtain⟨_,_,rfl,e,p,r⟩:=rx.inv;exact⟨_,_,rfl,e,r⟩
 cases ru;refine Calls.spliced_nil ?_;obtain⟨hz,its,nl,rv,hl⟩:vs.length<=sizeLine/\∃(its:List Value)(n:Nat),Vals vs its/\s1.heap.get? a=some {cls:=.type "list",data:=.seq its.toArray n}:=I1.hok a _ ea;obtain⟨kvs,prs,g1,g2,g3,g4,g5⟩:=QV I1 rr rv hps;have hlen:its.length<=1000:=by rw[<-rv.length,rr.length];exact hb
 obtain⟨hp,g,dr,tk,os⟩:=s1;refine Wl.dict_list (knd:=cC X.prog X.w) (ps:=prs) (items:=its.toArray) (I1.ok.hd hc) hl ⟨by rw[List.size_toArray];exact g4,λi kv hi=>?_⟩ (by rw[List.size_toArray];lia) λh' tk' hd kp=>?_
 ·obtain⟨p,x,o,n,z1,z2⟩:=g5 i kv hi;exact⟨p,x,o,n,by simpa using z1,z2⟩
 ·have hfr:H1 hp.objs.size=none:=I1.hok.fresh (Nat.le_refl _);have rel:KV (gB [] kvs) (merged [] prs):=g1.merge .nil;have hz2:(gB [] kvs).length<=sizeLine:=by
   have:=kY kvs [];have l1:kvs.length=prs.length:=Paired.length g1;rw[List.length_nil] at this;rw[sizeLine_eq];lia
  obtain⟨rk,nd⟩:=yM (kvs:=[]) g2 fY.nil List.nodup_nil;have sp:bU H1 (upd H1 hp.objs.size (.dK (gB [] kvs))):=bU.upd hfr;have rk2:∀{P:Addr->Prop},fY P (upd H1 hp.objs.size (.dK (gB [] kvs))) (gB [] kvs) (kE [] ps):=λ{P}=>(rk.keep (.same sp) λ_ h=>h).bN (mW g3 rfl)
  refine⟨.ref hp.objs.size,_,I1.laid (a:=hp.objs.size) (t':=tk') (o:=.dK (gB [] kvs)) kp (Nat.le_refl _) (WT hz2 (beq_eq_false_iff_ne.mpr ?_) rel hd),rfl,?_⟩
  ·exact Ne.symm (Nat.ne_of_lt I1.big)
  ·exact q _ _ (sm.trans sp) (.dK aH trivial rk2 nd) λ_=>.dK aH (sm.free hfr) rk2 nd
end
end Mi
namespace Mi
open PySem
def ZG(o:Obj)(f:Array Value->Array Value):(o.mapFields f).dict=o.dict:=by
 obtain⟨c,d,dt,sl⟩:=o;cases dt<;>rfl
def QW(T:Addr):(Value.ref T !=Value.none)=true:=by simp
def aCg(L:Addr):¬((Value.none==rawInt L)=true):=by simp[rawInt]
def TrD(h B:Heap)(e:Addr)(c:Value)(dd:Option Addr)(fl:Value):Prop:=
 ∃o vs T oT ts,(h.get? e=some o/\o.cls=c/\o.dict=dd/\o.data=.fields vs)/\(vs[1]?=some (.ref T)/\B.get? T=none/\T≠e)/\h.get? T=some oT/\oT.data=.fields ts/\ts[3]?=some fl
def FD(B:Heap)(l:List Env)(e:Addr)(c:Value)(dd:Option Addr)(fl:Value)(h:Heap):Prop:=B.StaysIn h/\B.get? e=none/\h.FunFrames B l/\TrD h B e c dd fl
def FD.there(x:FD B l e c dd fl h):∃o,h.get? e=some o/\o.cls=c/\o.dict=dd/\∃vs,o.data=.fields vs:=by
 obtain⟨_,_,_,o,vs,_,_,_,⟨a,b,d,f⟩,_⟩:=x;exact⟨o,a,b,d,vs,f⟩
section
variable {M:Model} {A:Around} {E:Value->Shared->Prop} {s:Shared} {B:Heap} {env:Env} {outer l:List Env} {L e:Addr} {oe:Obj} {vs:Array Value} {head c:Value} {dd:Option Addr} {Q:Unit->Shared->Prop}
def MJ{h:Heap}(i:Nat)(v:Value)(ho:h.get? a=some o)(hd:o.data=.fields ws) :
  ∃h2:Heap,h2=h.update a (Obj.mapFields (·.setIfInBounds i v))/\(∀b,b≠a->h2.get? b=h.get? b)/\∃o2,h2.get? a=some o2/\o2.cls=o.cls/\o2.dict=o.dict/\o2.data=.fields (ws.setIfInBounds i v):=
 ⟨_,rfl,λb hb=>Heap.get?_update_other _ _ (Ne.symm hb),_,Heap.get?_update_self _ ho (Obj.isFreed_of_fields (Obj.data_mapFields hd _)),Obj.cls_mapFields _ _,ZG _ _,Obj.data_mapFields hd _⟩
def QX(hfr:A.frames=some (env::outer))(hl:s.heap.FunFrames B (env::outer))(hf:env.frame=some L)(he:s.heap.get? e=some oe)(hB:B.StaysIn s.heap)(hn:B.get? e=none)(hd:oe.data=.fields vs)(hz:1<vs.size)
 (q:∀h',FD B (env::outer) e oe.cls oe.dict (rawInt L) h'->s.heap.UpToSlots h'->Q () {s with heap:=h'}) :
  wpAny M A (do let a <- frameOf env;let pl <- entryPlaceOf L had;let b <- EntryCells.newEntry head a .none (rawInt L) .none pl;setField (.ref e) 1 b) Q E s:=by
 have nf:e∉(env::outer).filterMap (·.frame):=λz=>by
  obtain⟨_,o,ho,k⟩:=hl.mem z;cases he.symm.trans ho;exact k _ hd
 refine wpAny_bind (wpAny_frameOf_fun hfr hl hf λh1 so=>wpAny_bind (wpAny_entryPlaceOf λpl hp=>?_));unfold EntryCells.newEntry;unfold newFields;refine wpAny_bind (wpAny_newObj_type ?_ (hp.sizeOk5 _ _ _ _ _));generalize hon:({cls:=.type "traceback",dict:=none,data:=.fields ([head,.ref L,.none,rawInt L,.none]++(if pl.isEmpty then List.replicate 6 Value.none else pl)).toArray}:Obj)=on;have e1:h1.get? e=some oe:=(so.2.1 e nf).trans he;have B1:B.StaysIn h1:=λb o k=>(so.2.1 b λz=>by rw[(hl.mem z).1] at k;cases k).trans (hB b o k)
 have e2:=Heap.get?_push_of_some on e1;obtain⟨h3,r3,k3,o3,g3,c3,d3,f3⟩:=MJ 1 (.ref h1.objs.size) e2 hd;have ne:h1.objs.size≠e:=Nat.ne_of_gt (Heap.lt_size e1);have t3:h3.get? h1.objs.size=some on:=(k3 _ ne).trans (Heap.get?_push_size h1 (by rw[<-hon];rfl));have keep:∀b o,b≠e->h1.get? b=some o->h3.get? b=some o:=λb o hb k=>(k3 b hb).trans (Heap.get?_push_of_some _ k)
 have nr:∀b o,s.heap.get? b=some o->(∀vs,o.data≠.fields vs)->b≠e:=λb o k z w=>by
  rw[w] at k;cases he.symm.trans k;exact z _ hd
 have up:s.heap.UpToSlots h3:=λb o k z=>by
  obtain⟨sl,w⟩:=so.2.2 b o k;exact⟨sl,keep b _ (nr b o k z) w⟩
 refine wpAny_setField e2 hd hz ?_;rw[<-r3];refine q h3 ⟨λb o k=>keep b o (λz=>by rw[z,hn] at k;cases k) (B1 b o k),hn,hl.of_keeps λb o k z=>let ⟨sl,w⟩:=up b o k z;⟨_,w,rfl⟩,?_⟩ up;have don:on.data=.fields ([head,.ref L,.none,rawInt L,.none]++(if pl.isEmpty then List.replicate 6 Value.none else pl)).toArray:=by rw[<-hon]
 exact⟨o3,_,h1.objs.size,on,_,⟨g3,c3,d3,f3⟩,⟨by simp[hz],B1.fresh,ne⟩,t3,don,by simp⟩
def oZ(x:FD B l e c dd fl s.heap)(q:∀h',FD B l e c dd .none h'->s.heap.UpToSlots h'->Q () {s with heap:=h'}):wpAny M A (setFlight (.ref e) none) Q E s:=by
 obtain⟨k1,k2,k3,o,vs,T,oT,ts,⟨g1,g2,g3,g4⟩,⟨t1,t2,t3⟩,u1,u2,u3⟩:=x;obtain⟨h2,r2,j2,o2,p1,p2,p3,p4⟩:=MJ 3 Value.none u1 u2;have hz:3<ts.size:=(Array.getElem?_eq_some_iff.mp u3).1;have up:∀b o,s.heap.get? b=some o->(∀vs,o.data≠.fields vs)->h2.get? b=some o:=λb o k z=>(j2 b λw=>by
  rw[w] at k;cases u1.symm.trans k;exact z _ u2).trans k
 unfold setFlight;refine wpAny_bind (wpAny_field g1 g4 t1 ?_);rw[if_pos (QW T)];refine wpAny_setField u1 u2 hz ?_;show Q () {s with heap:=s.heap.update T (Obj.mapFields (·.setIfInBounds 3 Value.none))};rw[<-r2];exact q h2 ⟨λb o k=>(j2 b λw=>by rw[w,t2] at k;cases k).trans (k1 b o k),k2,k3.of_keeps λb o k z=>⟨o,up b o k z,rfl⟩,o,vs,T,o2,_,⟨(j2 e (Ne.symm t3)).trans g1,g2,g3,g4⟩,⟨t1,t2,t3⟩,p1,p4,by simp[hz]⟩ λb o k z=>⟨o.slots,up b o k z⟩
def ZJ(hfr:A.frames=some (env::outer))(hf:env.frame=some L)(x:FD B (env::outer) e c dd .none s.heap)(q:∀h',FD B (env::outer) e c dd (rawInt L) h'->s.heap.UpToSlots h'->Q () {s with heap:=h'}):wpAny M A (noteFrame (.ref e) env) Q E s:=by
 obtain⟨k1,k2,k3,o,vs,T,oT,ts,⟨g1,g2,g3,g4⟩,⟨t1,t2,t3⟩,u1,u2,u3⟩:=x;obtain⟨h2,r2,j2,o2,p1,p2,p3,p4⟩:=MJ 3 Value.none u1 u2;have up:∀b o,s.heap.get? b=some o->(∀vs,o.data≠.fields vs)->h2.get? b=some o:=λb o k z=>(j2 b λw=>by
  rw[w] at k;cases u1.symm.trans k;exact z _ u2).trans k
 unfold noteFrame;simp only[hf];refine wpAny_bind (wpAny_field g1 g4 t1 ?_);rw[if_pos (QW T)];refine wpAny_bind (wpAny_field u1 u2 u3 ?_);rw[if_neg (aCg L)];refine wpAny_bind (wpAny_setField u1 u2 (Array.getElem?_eq_some_iff.mp u3).1 ?_);rw[<-r2];have g1':h2.get? e=some o:=(j2 e (Ne.symm t3)).trans g1;subst g2 g3;refine QX hfr (k3.of_keeps λb o k z=>⟨o,up b o k z,rfl⟩) hf g1' (λb o k=>(j2 b λw=>by rw[w,t2] at k;cases k).trans (k1 b o k)) k2 g4 (Array.getElem?_eq_some_iff.mp t1).1 λh' y z=>q h' y λb o k w=>z b o (up b o k w) w
def aCh(hfr:A.frames=some (env::outer))(hf:env.frame=some L)(x:FD B (env::outer) e c dd .none s.heap)(q:∀h',FD B outer e c dd .none h'->s.heap.UpToSlots h'->Q () {s with heap:=h'}):wpAny M A (leaving env (.ref e)) Q E s:=by
 unfold leaving;refine wpAny_bind (ZJ hfr hf x λh1 x1 u1=>oZ x1 λh2 x2 u2=>q h2 ⟨x2.1,x2.2.1,x2.2.2.1.2.2,x2.2.2.2⟩ (u1.trans u2))
def aCi(hfr:A.frames=some (env::outer))(hf:env.frame=some L)(hl:s.heap.FunFrames B (env::outer))(he:s.heap.get? e=some oe)(hB:B.StaysIn s.heap)(hn:B.get? e=none)(hd:oe.data=.fields vs)(hv:vs[1]?=some .none)
 (q:∀h',FD B outer e oe.cls oe.dict .none h'->s.heap.UpToSlots h'->Q () {s with heap:=h'}):wpAny M A (leaving env (.ref e)) Q E s:=by
 unfold leaving noteFrame;simp only[hf];refine wpAny_bind (wpAny_bind (wpAny_field he hd hv ?_));rw[if_neg 0x4];exact QX hfr hl hf he hB hn hd (Array.getElem?_eq_some_iff.mp hv).1 λh1 x1 u1=>oZ x1 λh2 x2 u2=>q h2 ⟨x2.1,x2.2.1,x2.2.2.1.2.2,x2.2.2.2⟩ (u1.trans u2)
end
open L2 PySem.W PySem.SeqAt PySem.Spec PyProof.Rows Builtin Builtin.ObjectAttr
def XO.stay(x:XO a C dx h1)(k:∀o,h1.get? a=some o->h2.get? a=some o):XO a C dx h2:=let ⟨o,e,r⟩:=x;⟨o,k _ e,r⟩
section
def aNj(x:XO a C dx h):gQ P w H h a (.ext (XO a C dx)):=⟨x,let ⟨o,e,_⟩:=x;⟨o,e⟩,λ_ _ y k=>y.stay k⟩
end
def CX2(P:Program)(w:World):CXT:=λouter H s E e s'=>∃(a C:Addr)(dd:Option Addr)(H1:Hp)(B:Heap),e=.ref a/\s'.os=s.os/\AllBare s'.gens/\FD B outer a (.ref C) dd .none s'.heap/\
 (∀h6:Heap,B.StaysIn h6->s'.heap.UpToSlots h6->Un (L2.frs outer) [] H H1 s.heap h6/\HOk P w H1 h6)/\H1 a=none/\s.heap.get? a=none/\E (.ref C) dd H1
section
variable {P:Program} {w:World} {K:PySem.W.Frag} {mg:Str->Option Value} {base:Heap} {N:List Str} {qual:Str} {scope:Scope} {f C:Addr} {cd:Value} {A:Around} {outer:List Env} {s:Shared} {H:Hp} {E:XK}
def sU:vV (CX2 P w) (JW (CX2 P w) P w K mg base N qual scope f cd A outer s H E) E:=by
 intro pins σ Hm sm e s' I hx;obtain⟨a,C,dd,H1,B,rfl,os',bare',fly,clo,hn,hgone,hE⟩:=hx
 let env:=envOfC qual scope s.heap.objs.size f cd
 have hfr:L2.frs (env::outer)=s.heap.objs.size::L2.frs outer:=by
  unfold L2.frs;rw[List.filterMap_cons];rfl
 have u0:Un (L2.frs outer) [] H Hm s.heap sm.heap:=I.base;show wpAny (model P w) (A.deeper env) (leaving env (.ref a)) (λ_ s''=>CX2 P w outer H s E (.ref a) s'') (λe' s''=>CX2 P w outer H s E e' s'') s';refine aCh I.ok.frames rfl fly λh' x1 x4=>?_
 have hgone0:s.heap.get? a=none:=by
  cases q:s.heap.get? a with
  |none=>rfl
  |some o=>
   obtain⟨o',e1⟩:=u0.there a o q 0x2;rw[hgone] at e1;cases e1
 refine⟨a,C,dd,H1,B,rfl,os'.trans I.os,bare',x1,λh6 st up=>?_,hn,hgone0,hE⟩;obtain⟨u2,hok⟩:=clo h6 st (x4.trans up);have nL:∀b o,s.heap.get? b=some o->b∉L2.frs outer->b∉L2.frs (env::outer):=λb o eb hb z=>by
  rw[hfr] at z;rcases List.mem_cons.mp z with z|z
  ·exact absurd (Heap.lt_size eb) (by rw[z];exact Nat.lt_irrefl _)
  ·exact hb z
 refine⟨⟨λb o eb hn hb hx'=>u2.keep b o (u0.keep b o eb hn hb hx') (u0.free b o eb hn hx') (nL b o eb hb) 0x2,λb o eb hn hb hx'=>?_,λb o eb hn hx'=>?_,λb o eb hx'=>?_,λb xs q=>u2.tups b xs (u0.tups b xs q),λb o u q=>u2.frzs b o u (u0.frzs b o u q),λb ps q=>?_⟩,hok⟩
 ·obtain⟨sl,e1⟩:=u0.slot b o eb hn hb hx';obtain⟨sl',e2⟩:=u2.slot b _ e1 (u0.free b o eb hn hx') (show b∈L2.frs (env::outer) by rw[hfr];exact List.mem_cons_of_mem _ hb) 0x2;exact⟨sl',e2⟩
 ·obtain⟨o',e1⟩:=u0.there b o eb hx';exact u2.free b o' e1 (u0.free b o eb hn hx') 0x2
 ·obtain⟨o',e1⟩:=u0.there b o eb hx';exact u2.there b o' e1 0x2
 ·obtain⟨m1,q1⟩:=u0.tbls b ps q;obtain⟨m2,q2⟩:=u2.tbls b _ q1;exact⟨m1++m2,by rw[<-Array.append_assoc];exact q2⟩
end
end Mi
namespace Mi
open PySem L2 PySem.W PySem.SeqAt PySem.Spec PyProof.Rows
noncomputable def noE{α:Type}(f:List D->Res α):List D->Res α:=λρ=>match f ρ with|.ok a=>.ok a|_=>.bad
def aKe(h:f ρ=.ok a):noE f ρ=.ok a:=by unfold noE;rw[h]
def aKf{f:List D->Res α}:(∃a,f ρ=.ok a/\noE f ρ=.ok a)\/noE f ρ=.bad:=by
 unfold noE;cases f ρ with
 |ok a=>exact .inl ⟨a,rfl,rfl⟩
 |err c as=>exact .inr rfl
 |bad=>exact .inr rfl
section
variable [KFrag]
def aNk(E:XK)(H:Hp)(c:Str)(as:List D):Prop:=∃fs C,as=[.exc c fs]/\nsIn KFrag.K mainGlobals c=some (some (.ref C))/\∀H' dx,bU H H'->XDs H' fs dx->E (.ref C) dx H'
def kZE(E:XK)(H:Hp)(Q:VK):Res D->Prop
 |.ok d=>kR H d true Q
 |.err c as=>aNk E H c as
 |.bad=>False
noncomputable def spZ(f:List D->Res D)(n:Nat):Sp:=λvs H Q E=>∃ds,ds.length=n/\bG All H vs ds/\kZE E H Q (f ds)
def aCj(P:Program)(w:World)(K:PySem.W.Frag)(mg:Str->Option Value)(base:Heap)(k:Nat)(x:Str)(n:Nat)(f:List D->Res D):Prop:=
 ∃(fad:Addr)(fd:FuncData)(ps:List Str),lR P w K mg base (CX2 P w) k fad fd ps (spZ f n)/\mg x=some (.ref fad)/\PySem.W.keepIn K (.ref fad)=true/\Binds K fd ps []
end
open Builtin Builtin.ObjectAttr
variable [KFrag]
def XO.exc(x:XO a C dx h):ExcAt a C h:=let ⟨o,e,c,_⟩:=x;⟨o,e,c⟩
end Mi
namespace Mi
open PySem L2 PySem.W PySem.SeqAt PySem.Spec PyProof.Rows
section
variable [KFrag]
def QZ(ho:own i=false)(a:Addr):Own own (σ.set i none) a↔Own own σ a:=by
 constructor
 ·rintro⟨j,hj,e⟩;have:i≠j:=λz=>by subst z;rw[ho] at hj;cases hj
  rw[List.getElem?_set_ne this] at e;exact⟨j,hj,e⟩
 ·rintro⟨j,hj,e⟩;have:i≠j:=λz=>by subst z;rw[ho] at hj;cases hj
  exact⟨j,hj,by rw[List.getElem?_set_ne this];exact e⟩
def ES.drop{own:Nat->Bool}(ho:own i=false)(es:ES own H σ ρ):ES own H (σ.set i none) (ρ.set i .uD):=by
 refine⟨by simp[es.len],λj hj=>?_,λj v hj hv=>?_⟩
 ·rw[cW] at hj ⊢;by_cases h:i=j/\i<ρ.length
  ·rw[if_pos h] at hj;exact absurd rfl hj
  ·rw[if_neg h] at hj ⊢;obtain⟨v,h1,h2⟩:=es.at_ j hj;have ne:i≠j:=λz=>by
    subst z;have:i<σ.length:=(List.getElem?_eq_some_iff.mp h1).1;exact h ⟨rfl,by rw[<-es.len];exact this⟩
   exact⟨v,by rw[List.getElem?_set_ne ne];exact h1,λo=>(h2 o).mono λa n z=>n ((QZ ho a).mp z)⟩
 ·have ne:i≠j:=λz=>by subst z;rw[ho] at hj;cases hj
  rw[List.getElem?_set_ne ne] at hv;obtain⟨a,o,h1,h2,h3,h4,h5,h6⟩:=es.own j v hj hv;have e:(ρ.set i .uD).getD j .uD=ρ.getD j .uD:=by rw[cW,if_neg (λz=>ne z.1)]
  refine⟨a,o,h1,by rw[e];exact h2,by rw[e];exact h3,h4,h5,λl hl hs=>h6 l hl ?_⟩;have:i≠l:=λz=>by subst z;rw[ho] at hl;cases hl
  rwa [List.getElem?_set_ne this] at hs
section
def aGt(er:ER H σ ρ)(h:ρ.getD i .uD=.exc c fs):∃a C dx,σ[i]?=some (some (.ref a))/\nsIn KFrag.K mainGlobals c=some (some (.ref C))/\H a=some (.ext (XO a C dx)):=by
 obtain⟨v,h1,r1⟩:=er i (by rw[h];intro z;cases z);rw[h] at r1;obtain⟨a,C,dx,rfl,n,e,q⟩:=r1.inv;exact⟨a,C,dx,h1,n,e⟩
end
end
def aNl(p:Str->Bool->Prop):List (Str×Bool)->Prop
 |[]=>True
 | (c,b)::r=>p c b/\aNl p r
theorem ZK:∀{t:List (Str×Bool)},aNl p t->∀c b,t.lookup c=some b->p c b
 |[],_,_,_,h=>by cases h
 | (d,e)::r,⟨h1,h2⟩,c,b,h=>by
  rw[List.lookup_cons] at h;split at h
  ·rename_i z;rw[beq_iff_eq.mp z];cases h;exact h1
  ·exact ZK h2 c b h
def aNm(p:Str->Prop):List Str->Prop
 |[]=>True
 |c::r=>p c/\aNm p r
theorem ZL:∀{t:List Str},aNm p t->∀c,t.contains c=true->p c
 |[],_,_,h=>by cases h
 |d::r,⟨h1,h2⟩,c,h=>by
  rw[List.contains_cons] at h;rcases(Bool.or_eq_true _ _).mp h with z|z
  ·rw[beq_iff_eq.mp z];exact h1
  ·exact ZL h2 c z
section
variable [KFrag]
end
section
variable {P:Program} {w:World} {K:PySem.W.Frag} {mg:Str->Option Value} {base:Heap} {N:List Str} {qual:Str} {scope:Scope} {f C:Addr} {cd:Value} {A:Around} {outer:List Env} {s:Shared} {H:Hp} {E:XK}
def ZM(I:Inv (JW (CX2 P w) P w K mg base N qual scope f cd A outer s H E) pins σ H1 s1)(hx:Heap.MadeExcOf s1.heap h2 e (.ref C) args)(hE:E (.ref C) none H1) :
  (JW (CX2 P w) P w K mg base N qual scope f cd A outer s H E).xe (.ref e) {s1 with heap:=h2}:=by
 let env:=envOfC qual scope s.heap.objs.size f cd
 have hfr:L2.frs (env::outer)=s.heap.objs.size::L2.frs outer:=by
  unfold L2.frs;rw[List.filterMap_cons];rfl
 have hin:∀v∈(env::outer),∀b,v.frame=some b->b∈L2.frs (env::outer):=λv hv b hb=>List.mem_filterMap.mpr ⟨v,hv,hb⟩
 have stk:s1.heap.FunFrames base (env::outer):=I.stack;have sfree:∀b∈L2.frs (env::outer),H1 b=none:=I.J4;have u0:Un (L2.frs outer) [] H H1 s.heap s1.heap:=I.base;obtain⟨t,ht,_,_⟩:=hx.there;have hn0:(PySem.W.hideAll s1.heap (L2.frs (env::outer))).get? e=none:=by
  cases q:(PySem.W.hideAll s1.heap (L2.frs (env::outer))).get? e with
  |none=>rfl
  |some o=>
   have e1:=PySem.W.of_hideAll _ q;rw[hx.new] at e1;cases e1
 show wpAny (model P w) (A.deeper env) (leaving env (.ref e)) (λ_ s''=>CX2 P w outer H s E (.ref e) s'') (λe' s''=>CX2 P w outer H s E e' s'') {s1 with heap:=h2};refine aCi I.ok.frames rfl ((PySem.W.funFrames_hide stk hin).of_keeps λb o k _=>⟨o,hx.keeps b o k,rfl⟩) ht (λb o q=>hx.keeps b o (PySem.W.of_hideAll _ q)) hn0 rfl rfl λh' x1 x4=>?_
 have hgone:s.heap.get? e=none:=by
  cases q:s.heap.get? e with
  |none=>rfl
  |some o=>
   obtain⟨o',e1⟩:=u0.there e o q 0x2;rw[hx.new] at e1;cases e1
 have huntr:H1 e=none:=by
  cases q:H1 e with
  |none=>rfl
  |some u=>
   obtain⟨o,e1⟩:=K9 (I.hok e u q);rw[hx.new] at e1;cases e1
 refine⟨e,C,none,H1,_,rfl,I.os,I.bare,x1,λh6 st up=>?_,huntr,hgone,hE⟩;have k:∀b o,s1.heap.get? b=some o->b∉L2.frs (env::outer)->h6.get? b=some o:=λb o eb hb=>st b o (PySem.W.hideAll_get _ eb hb)
 have up6:s1.heap.UpToSlots h6:=((Heap.UpToSlots.of_keeps hx.keeps).trans x4).trans up;have nL:∀b o,s.heap.get? b=some o->b∉L2.frs outer->b∉L2.frs (env::outer):=λb o eb hb z=>by
  rw[hfr] at z;rcases List.mem_cons.mp z with z|z
  ·exact absurd (Heap.lt_size eb) (by rw[z];exact Nat.lt_irrefl _)
  ·exact hb z
 have slot:∀b o,s1.heap.get? b=some o->b∈L2.frs outer->∃sl,h6.get? b=some {o with slots:=sl}:=λb o eb hb=>by
  obtain⟨_,o',ho',hd⟩:=stk.mem (show b∈L2.frs (env::outer) by rw[hfr];exact List.mem_cons_of_mem _ hb);rw[eb] at ho';cases ho';exact up6 b o eb hd
 refine⟨⟨λb o eb hn hb hx'=>k b o (u0.keep b o eb hn hb hx') (nL b o eb hb),λb o eb hn hb hx'=>?_,λb o eb hn hx'=>u0.free b o eb hn hx',λb o eb hx'=>?_,u0.tups,u0.frzs,u0.tbls⟩,λb u eb=>?_⟩
 ·obtain⟨sl,e1⟩:=u0.slot b o eb hn hb hx';obtain⟨sl',e2⟩:=slot b _ e1 hb;exact⟨sl',e2⟩
 ·obtain⟨o',e1⟩:=u0.there b o eb hx';by_cases hb:b∈L2.frs outer
  ·obtain⟨sl,e2⟩:=slot b o' e1 hb;exact⟨_,e2⟩
  ·exact⟨o',k b o' e1 (nL b o eb hb)⟩
 ·refine(I.hok b u eb).stay (λc v hc q=>k c v q λz=>?_) (λ_ q=>q) λ_ _ q=>q
  have:=sfree c z;rcases hc with hc|hc
  ·rw[hc,eb] at this;cases this
  ·rw[hc] at this;cases this
end
variable [KFrag]
end Mi
namespace Wl
open PySem PySem.Spec
noncomputable abbrev aB4(K:Type):=List K×Addr×Value
noncomputable def wQ{K:Type}[DecidableEq K](xs:List (aB4 K))(ps:List (aB4 K)):List (aB4 K):=ps.foldl (λacc p=>storedH acc p.1 p.2.1 p.2.2) xs
def PrH{prog:Program}{w:World}{K:Type}[DecidableEq K](knd:KeyKind prog w K)(items:Array Value)(ps:List (aB4 K))(h:Heap):Prop:=items.size=ps.length/\∀(i:Nat)(kv:aB4 K),ps[i]?=some kv->IsTupleKey knd h kv.1 kv.2.1/\∃(p:Addr)(o:Obj)(n:Nat),items[i]?=some (Value.ref p)/\h.get? p=some o/\o.cls=.type "tuple"/\o.data=.seq #[.ref kv.2.1,kv.2.2] n
def z9[DecidableEq K]{knd:KeyKind prog w K}{ks:List K}{a:Addr}{h h':Heap}(x:IsTupleKey knd h ks a)(k:∀c o,o.cls=.type "tuple"->h.get? c=some o->h'.get? c=some o):IsTupleKey knd h' ks a:=
 let ⟨o,its,n,h1,h2,h3⟩:=x;⟨o,its,n,k a o h2 h1,h2,h3⟩
def PrH.keep{prog:Program}{w:World}{K:Type}[DecidableEq K]{knd:KeyKind prog w K}{items:Array Value}{ps:List (aB4 K)}{h h':Heap}(x:PrH knd items ps h)(k:∀c o,o.cls=.type "tuple"->h.get? c=some o->h'.get? c=some o):PrH knd items ps h':=
 ⟨x.1,λi kv e=>let ⟨z,p,o,n,h1,h2,h3,h4⟩:=x.2 i kv e;⟨z9 z k,p,o,n,h1,k p o h3 h2,h3,h4⟩⟩
def vI{prog:Program}{w:World}{K:Type}[DecidableEq K]{knd:KeyKind prog w K}{d:Addr}{xs:List (aB4 K)}{h h':Heap}(x:h.DictOfH (tupleKind knd) d xs)(hd:∀o,h.get? d=some o->h'.get? d=some o)(k:∀c o,o.cls=.type "tuple"->h.get? c=some o->h'.get? c=some o):h'.DictOfH (tupleKind knd) d xs:=
 let ⟨o,es,ep,h1,h2,h3,h4,h5,h6⟩:=x;⟨o,es,ep,hd o h1,h2,h3,h4,λy hy=>z9 (h5 y hy) k,h6⟩
section
variable {prog:Program} {w:World} {K:Type} [DecidableEq K] {knd:KeyKind prog w K} {A:Around} {R:Except Value Flow->Shared->Prop} {it l d:Addr} {items:Array Value} {ps:List (aB4 K)} {nl:Nat}
def aNn(hh:A.handled=none)(hu:A.units+1<cLine)(hdi:d≠it)(hdl:d≠l)(hil:l≠it) :
  ∀(m k:Nat)(s:Shared)(kvs:List (aB4 K)),k+m=items.size->kvs.length+m<=sizeLine->s.heap.IsListIter it l k->s.heap.get? l=some (liO items nl)->PrH knd items ps s.heap->s.heap.DictOfH (tupleKind knd) d kvs->
  (∀h' tk,h'.DictOfH (tupleKind knd) d (wQ kvs (ps.drop k))->(∀c o,c≠d->c≠it->s.heap.get? c=some o->h'.get? c=some o)->R (.ok (.ret .none)) {s with heap:=h',toks:=tk})->
  codeAny (model prog w) A (.builtin "dict.update.loop" ⟨[.ref d,.ref it,rawInt k,.none],[]⟩) R s:=by
 intro m;induction m with
 |zero=>
  intro k s kvs hkm hl Z el Pp hd q;refine codeAny_builtin Wz.j_ ?_;rw[Around.under_plainId (show plainId "dict.update.loop"=true by decide +kernel) _];refine wpAny_bind (wpAny_pyNext_list_end hh Z ⟨_,el,rfl,_,rfl⟩ (Array.getElem?_eq_none 0x1) λh' kp=>?_);refine wpAny_bind ?_;unfold Builtin.Dict.addKeywords;rw[List.forIn_nil];refine wpAny_bind (wpAny_pure (wpAny_pure (wpAny_pure ?_)));have e:ps.drop k=[]:=List.drop_eq_nil_of_le (by have:=Pp.1;lia);rw[e] at q;have ni:∀c (oc:Obj),oc.cls=.type "tuple"->s.heap.get? c=some oc->c≠it:=λc oc hoc e=>let ⟨oi,ei,ci,_⟩:=Z;yL e hoc ei ci 0x4
  exact q _ s.toks (vI hd (λo ho=>kp d o hdi ho) λc o hc e=>kp c o (ni c o hc e) e) λc o _ c1 e=>kp c o c1 e
 |succ m ih=>
  intro k s kvs hkm hl Z el Pp hd q;have hlp:k<ps.length:=by have:=Pp.1;lia
  obtain⟨hik,p,o,n,hi,hp,hpc,hpd⟩:=Pp.2 k ps[k] (List.getElem?_eq_getElem hlp);have ni:∀c (oc:Obj),oc.cls=.type "tuple"->s.heap.get? c=some oc->c≠it:=λc oc hoc e=>let ⟨oi,ei,ci,_⟩:=Z;yL e hoc ei ci 0x4
  have hpi:p≠it:=ni p o hpc hp;refine codeAny_builtin Wz.j_ ?_;rw[Around.under_plainId (show plainId "dict.update.loop"=true by decide +kernel) _];refine wpAny_bind (wpAny_pyNext_list_item Z ⟨_,el,rfl,_,rfl⟩ hi λh' Z' kp=>?_);have hp':h'.get? p=some o:=(kp.2 p hpi).trans hp;refine wpAny_bind (wpAny_holding (wpAny_bind (wpAny_tryCatch ?_)));refine wpAny_bind (wpAny_typeOf ⟨_,hp',hpc⟩ ?_);rw[if_pos 0x4];refine wpAny_bind (wpAny_seqItems hp' hpd (wpAny_pure ?_));show wpAny _ _ (holding [.ref ps[k].2.1,ps[k].2.2] (dictSet d (.ref ps[k].2.1) ps[k].2.2)) _ _ _;have kt:∀c (oc:Obj),oc.cls=.type "tuple"->s.heap.get? c=some oc->h'.get? c=some oc:=λc oc hoc e=>(kp.2 c (ni c oc hoc e)).trans e
  have hd':h'.DictOfH (tupleKind knd) d kvs:=vI hd (λo ho=>(kp.2 d hdi).trans ho) kt;refine wpAny_holding (wpAny_dictSet_heap (tupleKind_room_in1 hu) (z9 hik kt) hd' λh2 hd2' sb=>?_);refine wpAny_pure ⟨Code.quiet_builtin _ 0x6,?_⟩;have ek:(rawInt (k+1):Value)=rawInt ((k+1:Nat):Int):=rfl;rw[ek];have hdrop:ps.drop k=ps[k]::ps.drop (k+1):=List.drop_eq_getElem_cons hlp;have ls:(storedH kvs ps[k].1 ps[k].2.1 ps[k].2.2).length<=kvs.length+1:=by
   unfold storedH;split
   ·rw[List.length_map];lia
   ·rw[List.length_append];exact Nat.le_refl _
  have keep:∀c o,c≠d->c≠it->s.heap.get? c=some o->h2.get? c=some o:=λc o c0 c1 e=>(sb.2 c c0).trans ((kp.2 c c1).trans e)
  have hdc:∀c (oc:Obj),oc.cls=.type "tuple"->s.heap.get? c=some oc->c≠d/\c≠it:=λc oc hoc e=>⟨let ⟨o1,_,_,e1,c1,_⟩:=hd;yL e hoc e1 c1.1 0x4,ni c oc hoc e⟩
  refine ih (k+1) _ (storedH kvs ps[k].1 ps[k].2.1 ps[k].2.2) 0x1 0x1 (let ⟨oi,ei,r⟩:=Z';⟨oi,(sb.2 it (Ne.symm hdi)).trans ei,r⟩) (keep l _ (Ne.symm hdl) hil el) (Pp.keep λc oc hoc e=>keep c oc (hdc c oc hoc e).1 (hdc c oc hoc e).2 e) hd2' λh3 tk hd3 kp3=>?_
  exact q h3 tk (by rw[hdrop];exact hd3) λc o c0 c1 e=>kp3 c o c0 c1 (keep c o c0 c1 e)
end
section
variable [DecidableEq K]
def UJ{prog:Program}{w:World}{knd:KeyKind prog w K}{A:Around}{E:Value->Shared->Prop}{hp:Heap}{g:Array GenState}{dr:Drawn}{tk:Nat}{os:OsState}{l:Addr}{items:Array Value}{ps:List (aB4 K)}{nl:Nat}(hh:A.handled=none)(hu:A.units+2<cLine)(el:hp.get? l=some (liO items nl))(Pp:PrH knd items ps hp)(hz:items.size<=1000000)
 (q:∀h' tk',h'.DictOfH (tupleKind knd) hp.objs.size (wQ [] ps)->(∀c o,hp.get? c=some o->h'.get? c=some o)->Q (.ref hp.objs.size) ⟨h',g,dr,tk',os⟩) :
  wpAny (model prog w) A (call (.type "dict") [.ref l]) Q E ⟨hp,g,dr,tk,os⟩:=by
 have hnew:(hp.push {cls:=.type "dict",data:=.dict #[]}).DictOfH (tupleKind knd) hp.objs.size []:=Heap.DictOfH.new hp;have up:∀c o,hp.get? c=some o->(hp.push {cls:=.type "dict",data:=.dict #[]}).get? c=some o:=λc o e=>Heap.get?_push_of_some _ e
 have lt:∀{c o},hp.get? c=some o->hp.objs.size≠c:=λe=>Nat.ne_of_gt (Heap.lt_size e)
 refine callType_codes (Q₁:=λv s₁=>v=.ref hp.objs.size/\s₁=⟨hp.push {cls:=.type "dict",data:=.dict #[]},g,dr,tk,os⟩) F.kt_called_dict (F.kt_typeCall_dict_1 _) F.entry_dict_init (kt_code_dict_new _ ⟨rfl,rfl⟩) λv s₁ hv=>?_
 obtain⟨rfl,rfl⟩:=hv;have ty:(⟨hp.push {cls:=.type "dict",data:=.dict #[]},g,dr,tk,os⟩:Shared).TypeIs (.ref hp.objs.size) "dict":=hnew.typeIs;have ez:=up _ _ el;have tz:(⟨hp.push {cls:=.type "dict",data:=.dict #[]},g,dr,tk,os⟩:Shared).TypeIs (.ref l) "list":=⟨_,ez,rfl⟩
 refine⟨ty,F.args_dict_init_2 _ _,wpAny_bind (wpAny_bind (wpAny_notOrdered_dict ty (wpAny_pure ?_)))⟩;refine wpAny_bind (m:=typeOf (.ref l)) (wpAny_typeOf tz ?_);rw[if_pos 0x4];refine wpAny_bind (lacks ez hh λh' tk' kp=>?_);rw[if_pos (show(none:Option Value).isNone=true from rfl)];refine wpAny_bind (wpAny_rule (wpAny_bind (wpAny_pyIter_list ⟨_,kp _ _ ez,rfl,_,rfl⟩ (wpAny_pure ⟨Code.quiet_builtin _ 0x6,?_⟩))));have hd':h'.DictOfH (tupleKind knd) hp.objs.size []:=vI hnew (λo ho=>kp _ _ ho) λc o _ e=>kp c o e
 have ltd:hp.objs.size<h'.objs.size:=let ⟨o,es,ep,ho,r⟩:=hd';Heap.lt_size ho
 have ltl:l<h'.objs.size:=Heap.lt_size (kp _ _ ez);refine aNn (A:=A.in1) (ps:=ps) (it:=h'.objs.size) (l:=l) (items:=items) (nl:=nl) (show A.in1.handled=none from hh) (show A.units+1+1<cLine from hu) (Nat.ne_of_lt ltd) (lt el) (Nat.ne_of_lt ltl) items.size 0 _ [] 0x1 (by rw[List.length_nil,sizeLine_eq];lia) ⟨_,Heap.get?_push_size _ rfl,rfl,rfl⟩ (Heap.get?_push_of_some _ (kp _ _ ez)) (Pp.keep λc o _ e=>Heap.get?_push_of_some _ (kp c o (up c o e))) (vI hd' (λo ho=>Heap.get?_push_of_some _ ho) λc o _ e=>Heap.get?_push_of_some _ e) λh2 tk2 hd2 kp2=>?_
 exact⟨rfl,q h2 tk2 hd2 λc o e=>kp2 c o (λx=>lt e x.symm) (Nat.ne_of_lt (Heap.lt_size (kp c o (up c o e)))) (Heap.get?_push_of_some _ (kp c o (up c o e)))⟩
end
end Wl
namespace Mi
open PySem L2 PySem.SeqAt PySem.Spec PyProof.Rows
def wR:List D->Option (List (D×D))
 |[]=>some []
 |.tup [.tup ks,v]::r=>if ks.all gR&&v.pure then (wR r).map ((.tup ks,v)::·) else none
 |_::_=>none
def A_:D->Res D
 |.lst xs=>match wR xs with
  |some ps=>if decide (xs.length<=1000) then .ok (.dct (kE [] ps)) else .bad
  |none=>.bad
 |_=>.bad
section
variable [KFrag]
theorem HJ(I:Inv X pins σ H s):∀{xs:List D}{vs:List V}{us:List Value}{ps:List (D×D)},bG All H vs xs->Vals vs us->wR xs=some ps->
  ∃(kvs:List (List Key×V))(prs:List (List Key×Addr×Value)),KT H kvs prs/\lZ All H kvs ps/\D.aJ (ps.map (·.2))=true/\us.length=prs.length/\∀(i:Nat)(kv:List Key×Addr×Value),prs[i]?=some kv->IsTupleKey (cC X.prog X.w) s.heap kv.1 kv.2.1/\∃(p:Addr)(o:Obj)(n:Nat),us[i]?=some (Value.ref p)/\s.heap.get? p=some o/\o.cls=.type "tuple"/\o.data=.seq #[.ref kv.2.1,kv.2.2] n
 |[],_,_,_,.nil,.nil,h=>by
  cases h;exact⟨[],[],.nil,.nil,rfl,rfl,λi kv h=>by simp at h⟩
 |d::xs,_,_,ps,.cons r t,.cons rv tv,h=>by
  unfold wR at h;split at h
  ·rename_i h0;cases h0
  ·rename_i k v r' h0;injection h0 with h0 h1
   subst h0 h1;split at h
   ·rename_i hf;rw[Bool.and_eq_true] at hf;obtain⟨ps',hp,rfl⟩:=Option.map_eq_some_iff.mp h;obtain⟨kvs,prs,g1,g2,g3,g4,g5⟩:=HJ I t tv hp;obtain⟨a,ws,rfl,ea,rr⟩:=r.iM;cases rv;obtain⟨its,rvs,o,ho,hc,n,hd⟩:=j5 I ea;cases rr with
    |cons rk rr=>
     cases rr with
     |cons rw_ rr=>
      cases rr;cases rvs with
      |cons q1 rvs=>
       cases rvs with
       |cons q2 rvs=>
        cases rvs;rename_i wk ww uk uw;rcases jD (k:=.tup k) hf.1 rk with ⟨q,_,e⟩|⟨b,ks,rfl,eb,e⟩
        ·cases q<;>cases e
        ·injection e with e
         subst e;cases q1;refine⟨(ks,ww)::kvs,(ks,b,uw)::prs,.cons ⟨rfl,eb,q2⟩ g1,.cons rw_ g2,by rw[List.map_cons,D.aJ,hf.2,g3];rfl,by rw[List.length_cons,List.length_cons,g4],λi kv hi=>?_⟩;cases i with
         |zero=>
          simp at hi;subst hi;exact⟨yE I.hok eb,a,o,n,rfl,ho,hc,hd⟩
         |succ i=>
          obtain⟨z0,p,o',n',z1,z2⟩:=g5 i kv (by simpa using hi);exact⟨z0,p,o',n',by simpa using z1,z2⟩
   ·cases h
  ·cases h
def lW(kvs more:List (List Key×V)):List (List Key×V):=more.foldl (λacc p=>putK acc p.1 p.2) kvs
theorem yN:∀{more:List (List Key×V)}{ds:List (D×D)}{kvs:List (List Key×V)}{es:List (D×D)},lZ P H more ds->lZ P H kvs es->(kvs.map (·.1)).Nodup->lZ P H (lW kvs more) (kE es ds)/\((lW kvs more).map (·.1)).Nodup
 |_,_,_,_,.nil,r,n=>⟨r,n⟩
 |_,_,_,_,.cons (k:=k) rv t,r,n=>by have:=yN t (vD (k:=k) rv r n) (jH n);exact this
theorem Q0:∀{more:List (List Key×V)}{ms:List (List Key×Addr×Value)}{kvs:List (List Key×V)}{xs:List (List Key×Addr×Value)},KT H more ms->KT H kvs xs->KT H (lW kvs more) (Wl.wQ xs ms)
 |_,_,_,_,.nil,r=>r
 |_,_,_,_,.cons (a:=p) (b:=q) h t,r=>by
  have h1:=h.1;have:=Q0 t (r.put p.1 h.2.1 h.2.2);show KT H (lW (putK _ p.1 p.2) _) (Wl.wQ (storedH _ q.1 q.2.1 q.2.2) _);rw[<-h1];exact this
theorem yO:∀(more kvs:List (List Key×V)),(lW kvs more).length<=kvs.length+more.length
 |[],kvs=>Nat.le_refl _
 |p::r,kvs=>by
  have h1:=yO r (putK kvs p.1 p.2);have h2:=kW kvs p.1 p.2;rw[List.length_cons];show(lW (putK kvs p.1 p.2) r).length<=_;lia
section
def UL(hc:X.calm=true)(hu:X.A.units+20<cLine)(hg:Gl X "dict")(hm:X.mg "dict"=none)(he:PE X e (gE fe re))(hs:starEach [e] X.env=[(false,eval e X.env)]:=by rfl) :
  PE X (.Call (.Name "dict" p) [e] [] pos) (gE (b1 A_ fe) true):=by
 intro pins s σ H Q I ⟨ρ,d,E,h,q⟩;obtain⟨d0,h1,h2⟩:=aY h;unfold A_ at h2;split at h2
 rotate_left
 ·exact bx h2
 rename_i xs;split at h2
 rotate_left
 ·exact bx h2
 rename_i ps hps;split at h2
 rotate_left
 ·exact bx h2
 rename_i hb;cases h2;have hb:=of_decide_eq_true hb;refine wpAny_Call_Name_kw (nF I hg hm zZ ?_);refine PyProof.Rows.callWith_type1 ?_ hs rfl;rw[hs];show wpAny _ _ (spliced [(false,eval e X.env)]) _ _ s;refine Calls.spliced_cons (thn (he pins s σ H (λv H1=>bU H H1/\Rep All H1 v (.lst xs)) I ⟨ρ,_,E,h1,λv H1 s1 r1 _=>⟨s1,r1⟩⟩) λu s1 ⟨x,H1,I1,ru,sm,rx⟩=>?_);obtain⟨a,vs,rfl,ea,rr⟩:∃a vs,x=.ref a/\H1 a=some (.lst vs)/\bG All H1 vs xs:=by
  obtain⟨_,_,rfl,e,p,r⟩:=rx.inv;exact⟨_,_,rfl,e,r⟩
 cases ru;refine Calls.spliced_nil ?_;obtain⟨hz,its,nl,rv,hl⟩:vs.length<=sizeLine/\∃(its:List Value)(n:Nat),Vals vs its/\s1.heap.get? a=some {cls:=.type "list",data:=.seq its.toArray n}:=I1.hok a _ ea;obtain⟨kvs,prs,g1,g2,g3,g4,g5⟩:=HJ I1 rr rv hps;have hlen:its.length<=1000:=by rw[<-rv.length,rr.length];exact hb
 obtain⟨hp,g,dr,tk,os⟩:=s1;refine Wl.UJ (knd:=cC X.prog X.w) (ps:=prs) (items:=its.toArray) (I1.ok.hd hc) 0x1 hl ⟨by rw[List.size_toArray];exact g4,λi kv hi=>?_⟩ (by rw[List.size_toArray];lia) λh' tk' hd kp=>?_
 ·obtain⟨z0,p,o,n,z1,z2⟩:=g5 i kv hi;exact⟨z0,p,o,n,by simpa using z1,z2⟩
 ·have hfr:H1 hp.objs.size=none:=I1.hok.fresh (Nat.le_refl _);have rel:KT H1 (lW [] kvs) (Wl.wQ [] prs):=Q0 g1 .nil;have hz2:(lW [] kvs).length<=sizeLine:=by
   have:=yO kvs [];have l1:kvs.length=prs.length:=Paired.length g1;rw[List.length_nil] at this;rw[sizeLine_eq];lia
  obtain⟨rk,nd⟩:=yN (kvs:=[]) g2 lZ.nil List.nodup_nil;have sp:bU H1 (upd H1 hp.objs.size (.dT (lW [] kvs))):=bU.upd hfr;have rk2:∀{P:Addr->Prop},lZ P (upd H1 hp.objs.size (.dT (lW [] kvs))) (lW [] kvs) (kE [] ps):=λ{P}=>(rk.keep (.same sp) λ_ h=>h).bN (mW g3 rfl)
  obtain⟨o,es,ep,k1,k2,k3,k4,_,k6⟩:=hd;refine⟨.ref hp.objs.size,_,I1.laid (a:=hp.objs.size) (t':=tk') (o:=.dT (lW [] kvs)) kp (Nat.le_refl _) ⟨hz2,beq_eq_false_iff_ne.mpr ?_,_,rel.keeps λb ys e=>sp _ _ e,o,es,ep,k1,k2,k3,k4,k6⟩,rfl,?_⟩
  ·exact Ne.symm (Nat.ne_of_lt I1.big)
  ·exact q _ _ (sm.trans sp) (.dT aH trivial rk2 nd) λ_=>.dT aH (sm.free hfr) rk2 nd
end
end
inductive Srx where
 |par (i:Nat)
 |exp (f:FE)
def Srx.ev(ρ:List D):Srx->Res D
 |.par i=>cO i ρ
 |.exp f=>f ρ
def okF(d:D):Bool:=d.pure||inner d
def evS(ρ:List D):List (Str×Srx)->Res (List (Str×D))
 |[]=>.ok []
 | (f,s)::r=>do
  let d <- s.ev ρ
  let ds <- evS ρ r
  if okF d then .ok ((f,d)::ds) else .bad
def aCk(c f:Str)(fa:FE):FE:=λρ=>do
 let d <- fa ρ
 match d with
 |.ins c' fs=>if decide (c'=c) then Res.ofOpt (fs.lookup f) else .bad
 |_=>.bad
noncomputable def aQ1:HO->Bool
 |.tup _=>true
 |.frz _ _=>true
 |.ext _=>true
 |_=>false
section
variable [KFrag]
def xU(H H':Hp):Prop:=∀a o,H a=some o->aQ1 o=true->H' a=some o
mutual
theorem Rep.fL{P P':Addr->Prop}{H H':Hp}(k:xU H H'):∀{v:V}{d:D},Rep P H v d->d.pure=true->Rep P' H' v d
 |_,_,.non,_=>.non
 |_,_,.bl b,_=>.bl b
 |_,_,.int i,_=>.int i
 |_,_,.str x,_=>.str x
 |_,_,.tup e r,h=>.tup (k _ _ e rfl) (bG.fL k r (by rw[D.pure] at h;exact h))
 |_,_,.lst _ _ _,h=>by rw[D.pure] at h;cases h
 |_,_,.cel _ _ _,h=>by rw[D.pure] at h;cases h
 |_,_,.frz e r,h=>.frz (e.imp (λ⟨o,e⟩=>⟨o,k _ _ e rfl⟩) id) (bG.fL k r (by rw[D.pure] at h;exact h))
 |_,_,.dK _ _ _ _,h=>by rw[D.pure] at h;cases h
 |_,_,.dT _ _ _ _,h=>by rw[D.pure] at h;cases h
 |_,_,.fdK _ _ _,h=>by rw[D.pure] at h;cases h
 |_,_,.fdT _ _ _,h=>by rw[D.pure] at h;cases h
 |_,_,.exc _ _ _,h=>by rw[D.pure] at h;cases h
 |_,_,.ins _ _ _,h=>by rw[D.pure] at h;cases h
theorem bG.fL{P P':Addr->Prop}{H H':Hp}(k:xU H H'):∀{v:List V}{d:List D},bG P H v d->D.aJ d=true->bG P' H' v d
 |_,_,.nil,_=>.nil
 |_,_,.cons r t,h=>by
  rw[D.aJ,Bool.and_eq_true] at h;exact .cons (Rep.fL k r h.1) (bG.fL k t h.2)
end
theorem fY.fL(k:xU H H'):∀{v:List (Key×V)}{d:List (D×D)},fY P H v d->D.aJ (d.map (·.2))=true->fY P' H' v d
 |_,_,.nil,_=>.nil
 |_,_,.cons r t,h=>by
  rw[List.map_cons,D.aJ,Bool.and_eq_true] at h;exact .cons (r.fL k h.1) (fY.fL k t h.2)
theorem lZ.fL(k:xU H H'):∀{v:List (List Key×V)}{d:List (D×D)},lZ P H v d->D.aJ (d.map (·.2))=true->lZ P' H' v d
 |_,_,.nil,_=>.nil
 |_,_,.cons r t,h=>by
  rw[List.map_cons,D.aJ,Bool.and_eq_true] at h;exact .cons (r.fL k h.1) (lZ.fL k t h.2)
def l_(x:Addr)(H H':Hp):Prop:=∀a o,H a=some o->a≠x->H' a=some o
def l_.upd:l_ x H (upd H x o):=λa o' e n=>by rw[aR n];exact e
def l_.same(s:bU H H'):l_ x H H':=λa o e _=>s a o e
def l_.use(b:l_ x H H')(hx:H x=some (.ins C dx fs)):xU H H':=λa o e u=>b a o e λz=>by
 subst z;rw[hx] at e;cases e;cases u
def Rep.okK(b:l_ x H H')(hx:H x=some (.ins C dx fs))(m:∀a,P a->P' a)(r:Rep P H v d)(h:okF d=true):Rep P' H' v d:=by
 have k:=b.use hx;rcases(Bool.or_eq_true _ _).mp h with h|h
 ·exact r.fL k h
 ·cases r with
  |lst e p r=>exact .lst (b _ _ e (oH e hx 0x7)) (m _ p) (r.fL k h)
  |cel e p r=>exact .cel (b _ _ e (oH e hx 0x7)) (m _ p) (r.fL k h)
  |dK e p r n=>exact .dK (b _ _ e (oH e hx 0x7)) (m _ p) (r.fL k h) n
  |dT e p r n=>exact .dT (b _ _ e (oH e hx 0x7)) (m _ p) (r.fL k h) n
  |_=>cases h
theorem nO.okK(b:l_ x H H')(hx:H x=some (.ins C dx fs))(m:∀a,P a->P' a):∀{v:List (Str×V)}{d:List (Str×D)},nO P H v d->(d.all λp=>okF p.2)=true->nO P' H' v d
 |_,_,.nil,_=>.nil
 |_,_,.cons r t,h=>by
  rw[List.all_cons,Bool.and_eq_true] at h;exact .cons (r.okK b hx m h.1) (nO.okK b hx m t h.2)
theorem nO.snoc(r1:Rep P H w e):∀{v:List (Str×V)}{d:List (Str×D)},nO P H v d->nO P H (v++[(f,w)]) (d++[(f,e)])
 |_,_,.nil=>.cons r1 .nil
 |_,_,.cons r t=>.cons r (nO.snoc r1 t)
theorem nO.look:∀{v:List (Str×V)}{d:List (Str×D)},nO P H v d->d.lookup f=some e->∃w,v.lookup f=some w/\Rep P H w e
 |_,_,.nil,h=>by cases h
 |_,_,.cons r t,h=>by
  rw[List.lookup_cons] at h ⊢;split at h
  ·cases h;exact⟨_,rfl,r⟩
  ·exact nO.look t h
theorem Q3:∀{vf:List (Str×V)},f∉vf.map (·.1)->uI f y vf=vf++[(f,y)]
 |[],_=>rfl
 | (g,x)::r,h=>by
  rw[List.map_cons,List.mem_cons,not_or] at h;show(if g=f then (g,y)::r else (g,x)::uI f y r)=_;rw[if_neg (λz=>h.1 z.symm),Q3 h.2];rfl
theorem aEd:∀{l:List (Str×Srx)}{fs:List (Str×D)},evS ρ l=.ok fs->(fs.all λp=>okF p.2)=true/\fs.map (·.1)=l.map (·.1)
 |[],_,h=>by cases h;exact⟨rfl,rfl⟩
 | (f,s)::r,fs,h=>by
  obtain⟨d,h1,h⟩:=aY h;obtain⟨ds,h2,h⟩:=aY h;split at h
  ·rename_i hk;cases h;obtain⟨i1,i2⟩:=aEd h2;exact⟨by rw[List.all_cons,i1,hk];rfl,by rw[List.map_cons,List.map_cons,i2]⟩
  ·exact bx h
def sT:Srx->TE
 |.par i=>gK i
 |.exp f=>gE f true
def aMj(K:PySem.W.Frag):List (Str×Srx)->TS
 |[]=>aF8
 | (f,s)::r=>xN (aIa K (gK 0) (sT s) f) (aMj K r)
def RFx(H1:Hp)(us:List V)(ds:List D)(H:Hp)(vf:List (Str×V))(fs:List (Str×D)):Prop:=∀P:Addr->Prop,(∀a,H1 a=none->P a)->bG P H1 us ds->nO P H vf fs
theorem aEe{K:PySem.W.Frag}(cls:Cls K C)(hx0:σ[0]?=some (some (.ref x)))(hn:H1 x=none)(hr:bG All H1 us ds)(hρ:∀i d,cO i ρ=.ok d->∃v,σ[i]?=some (some v)/\∀P,bG P H1 us ds->Rep P H1 v d):∀(l:List (Str×Srx))(H:Hp)(vf:List (Str×V))(fs0 fs:List (Str×D)),H x=some (.ins C dx vf)->bU H1 H->RFx H1 us ds H vf fs0->(fs0.all λp=>okF p.2)=true->evS ρ l=.ok fs->(vf.map (·.1)++l.map (·.1)).Nodup->(∀f∈l.map (·.1),cD K C f)->vf.length+l.length<1000->
  (∀H' vf',bU H1 H'->H' x=some (.ins C dx vf')->RFx H1 us ds H' vf' (fs0++fs)->D'.nx σ H')->aMj K l D' σ H
 |[],H,vf,fs0,fs,hx,sm,rf,ok0,he,nd,na,hl,q=>by
  cases he;exact q H vf sm hx (by rw[List.append_nil];exact rf)
 | (f,s)::r,H,vf,fs0,fs,hx,sm,rf,ok0,he,nd,na,hl,q=>by
  obtain⟨d,h1,he⟩:=aY he;obtain⟨ds',h2,he⟩:=aY he;split at he
  ·rename_i hk;cases he;have hlf:f∉vf.map (·.1):=λz=>(List.nodup_append.mp nd).2.2 f z f 0x2 rfl
   have key:∀y H2,bU H H2->(∀P,(∀a,H1 a=none->P a)->bG P H1 us ds->Rep P H2 y d)->∃a C' dx' fs',gK 0 σ H2 λx' H3=>x'=.ref a/\H3 a=some (.ins C' dx' fs')/\Cls K C'/\cD K C' f/\fs'.length<1000/\aMj K r D' σ (upd H3 a (.ins C' dx' (uI f y fs'))):=by
    intro y H2 s2 ry;have hx2:=s2 _ _ hx;refine⟨x,C,dx,vf,_,hx0,rfl,hx2,cls,na f 0x2,by lia,?_⟩;have sm':bU H1 (upd H2 x (.ins C dx (uI f y vf))):=λa o e=>by
     rw[aR (λz=>by subst z;rw[hn] at e;cases e)];exact s2 _ _ (sm _ _ e)
    rw[Q3 hlf] at sm' ⊢;refine aEe cls hx0 hn hr hρ r _ (vf++[(f,y)]) (fs0++[(f,d)]) ds' aH sm' (λP hP hR=>?_) (by rw[List.all_append,ok0];simp[hk]) h2 ?_ (λg hg=>na g (by simp at hg ⊢;exact .inr hg)) (by simp at hl ⊢;lia) (λH' vf' a b c=>q H' vf' a b (by simpa using c))
    ·have z1:=(rf P hP hR)
     have z2:nO P H2 vf fs0:=z1.keep (λa o e _=>s2 _ _ e) λ_ h=>h
     exact nO.snoc ((ry P hP hR).okK l_.upd hx2 (λ_ h=>h) hk) (z2.okK l_.upd hx2 (λ_ h=>h) ok0)
    ·simpa[List.append_assoc] using nd
   cases s with
   |par i=>
    obtain⟨v,e1,e2⟩:=hρ i d h1;obtain⟨a,C',dx',fs',z⟩:=key v H (bU.refl H) λP hP hR=>(e2 P hR).same sm
    obtain⟨v0,w1,w2⟩:=z;exact⟨v,e1,v0,w1,a,C',dx',fs',w2⟩
   |exp g=>
    refine⟨ρ,d,λi hi=>?_,h1,λy H2 s2 r2 n2=>?_⟩
    ·obtain⟨v,e1,e2⟩:=hρ i (ρ.getD i .uD) (by
      unfold cO;split
      ·rename_i q;exact absurd q hi
      ·rfl)
     exact⟨v,e1,(e2 All hr).same sm⟩
    ·obtain⟨a,C',dx',fs',z⟩:=key y H2 s2 λP hP hR=>(n2 rfl).mono λa ha=>hP a (by
      cases hq:H1 a with
      |none=>rfl
      |some o=>have:=sm a o hq;rw[show H a=none from ha] at this;cases this)
     obtain⟨v0,w1,w2⟩:=z;exact⟨v0,w1,a,C',dx',fs',w2⟩
  ·exact bx he
def aCl(C:Addr)(l:List (Str×Srx))(n:Nat):Sp:=λvs H Q _=>∃x dx H1 us ds fs,vs=.ref x::us/\us.length=n/\H x=some (.ins C dx [])/\H1 x=none/\bU H1 H/\bG All H1 us ds/\evS (.uD::ds) l=.ok fs/\∀H' vf,bU H1 H'->H' x=some (.ins C dx vf)->RFx H1 us ds H' vf fs->Q .non H'
theorem Q4:∀{us:List V}{ds:List D}{i:Nat}{d:D},us.length=ds.length->ds[i]?=some d->∃v,us[i]?=some v/\∀P,bG P H us ds->Rep P H v d
 |[],[],_,_,_,h=>by simp at h
 |u::us,e::ds,0,d,_,h=>by
  simp at h;subst h;exact⟨u,rfl,λP r=>by cases r;assumption⟩
 |u::us,e::ds,i+1,d,hl,h=>by
  obtain⟨v,h1,h2⟩:=Q4 (by simpa using hl) (by simpa using h);exact⟨v,by simpa using h1,λP r=>by cases r with|cons _ t=>exact h2 P t⟩
def aEf{w:World}{K:PySem.W.Frag}{mg:Str->Option Value}{base:Heap}{x qual:Str}{st:Stmt}{fad C:Addr}{fd:FuncData}{N ps:List Str}{k:Nat}{l:List (Str×Srx)}(F:Fun K x qual st fad fd)(S:bY N ps (aL st))(hN:N.length=ps.length){n:Nat}(hp:ps.length=n+1)(cls:Cls K C)(nd:(l.map (·.1)).Nodup)(na:∀f∈l.map (·.1),cD K C f)(hl:l.length<1000)
 (hbody:∀(cdv:Value) (A:Around) (outer:List Env) (s:Shared) (H:Hp) (E:XK),lX k (A.deeper (envOfC qual (aL st) s.heap.objs.size fad cdv))->PSs (JW CX0 P w K mg base N qual (aL st) fad cdv A outer s H E).nox (cR st) (aMj K l)):lR P w K mg base CX0 (k+1) fad fd ps (aCl C l n):=by
 refine F.ok S (λvs H Q E ⟨_,_,_,us,_,_,e,h,_⟩=>by rw[e,hp,List.length_cons,h]) λcdv A outer s H vs Q E hr ⟨x,dx,H1,us,ds,fs,e,hu,hx,hn,sm,r,he,q⟩=>⟨_,hbody cdv A outer s H E hr,?_⟩
 subst e;have hst:L2.start N (V.ref x::us)=some (.ref x)::us.map some:=by
  unfold L2.start;rw[hN,hp,List.length_cons,hu,Nat.sub_self];simp
 rw[hst];refine aEe cls rfl hn r (λi d hd=>?_) l H [] [] fs hx sm (λ_ _ _=>.nil) rfl he (by simpa using nd) na (by simpa using hl) λH' vf s' hx' rf=>q H' vf s' hx' (by simpa using rf)
 match i,hd with
 |0,hd=>exact bx hd
 |i+1,hd=>
  have hd':cO i ds=.ok d:=hd;have hg:ds[i]?=some d:=by
   unfold cO at hd';rw[List.getD_eq_getElem?_getD] at hd';cases hq:ds[i]? with
   |none=>rw[hq] at hd';exact bx hd'
   |some e=>
    rw[hq] at hd';have:e=d:=by
     revert hd'
     cases e<;>intro z<;>first|(exact bx z;done)|(cases z;rfl)
    rw[this]
  obtain⟨v,h1,h2⟩:=Q4 r.length hg;exact⟨v,by simpa using h1,h2⟩
def aIe(P:Program)(w:World)(K:PySem.W.Frag)(mg:Str->Option Value)(base:Heap)(k:Nat)(c:Str)(l:List (Str×Srx))(n:Nat):Prop:=
 ∃(C fi:Addr)(fd:FuncData)(ps:List Str),PySem.W.nsIn K mainGlobals c=some (some (.ref C))/\mg c=some (.ref C)/\Mk K C fi/\lR P w K mg base CX0 k fi fd ps (aCl C l n)/\Binds K fd ps []
def tMk(K:PySem.W.Frag)(c:Str)(l:List (Str×Srx))(n:Nat)(t:TA):TE:=λσ H Q=>t σ H λus H1=>∃ds fs,us.length=n/\bG All H1 us ds/\evS (.uD::ds) l=.ok fs/\∀C x dx H' vf,PySem.W.nsIn K mainGlobals c=some (some (.ref C))->H1 x=none->bU H1 H'->H' x=some (.ins C dx vf)->RFx H1 us ds H' vf fs->Q (.ref x) H'
section
variable {x c:Str}
def aGu(R:aIe X.prog X.w X.K X.mg X.base k x l n)(hr:lX k' X.A)(hkk:k+1<=k')(hg:Gl X x)(ha:PA X (e::es) t)(hdb:nDb x:=by decide)(he:starEach (e::es) X.env=(false,eval e X.env)::starEach es X.env:=by rfl)(hpl:(backTo pos (starEach es X.env)).any (·.1)=false:=by rfl)(hmono:∀(σ:L2.St) (H:Hp) (Q Q':List V->Hp->Prop),(∀vs H',Q vs H'->Q' vs H')->t σ H Q->t σ H Q') :
  PE X (.Call (.Name x p) (e::es) [] pos) (tMk X.K x l n t):=by
 obtain⟨C,fi,fd,ps,hn,hm,M,F,hb⟩:=R;refine PE.imp (aFh M F (hr.mono hkk) hg hm hb .nil aBn ha hdb he hpl) λσ H Q h=>hmono σ H _ _ ?_ h
 rintro us H1 ⟨ds,fs,hl,r,he,q⟩ y dx hy hdx hne;refine⟨y,dx,H1,us,ds,fs,by rw[List.append_nil],hl,aH,hy,λa o e=>?_,r,he,λH' vf s' hx' rf=>⟨rfl,q C y dx H' vf hn hy s' hx' rf⟩⟩;rw[aR (bI e hy),aR (bI e hdx)];exact e
def JZ(K:PySem.W.Frag)(c f:Str):Prop:=∀C,PySem.W.nsIn K mainGlobals c=some (some (.ref C))->Cls K C/\cD K C f
def HN(hK:KFrag.K=X.K)(R:JZ X.K c f)(he:PE X e (gE fe re))(hb:attributeBase e f X.env (eval e X.env)=eval e X.env:=by rfl):PE X (.Attribute e f pos) (gE (aCk c f fe) false):=PE.imp (jO he hb) λσ H Q ⟨ρ,d,E,h,q⟩=>by
 obtain⟨d0,h1,h2⟩:=aY h;split at h2
 ·rename_i c' fs;split at h2
  ·rename_i hc;have hc:=of_decide_eq_true hc;subst hc;refine⟨ρ,_,E,h1,λv H1 s1 r1 _=>?_⟩;obtain⟨_,_,_,_,rfl,hn,hx,rf⟩:=r1.inv;rw[hK] at hn;obtain⟨k1,k2⟩:=R _ hn;cases hl:fs.lookup f with
   |none=>rw[hl] at h2;exact bx h2
   |some d1=>
    rw[hl] at h2;cases h2;obtain⟨w,g1,g2⟩:=rf.look hl;exact⟨_,_,_,_,w,rfl,hx,k1,k2,g1,q w H1 s1 g2 (λz=>by cases z)⟩
  ·exact bx h2
 ·exact bx h2
end
end
def HQ(i:Nat):FX:=λρ=>match G8 (ρ.getD i .uD) with
 |some xs=>(match xs[xs.length-1]? with|some x=>.ok (x,ρ.set i (aCa (ρ.getD i .uD) xs.dropLast))|none=>.bad)
 |none=>.bad
section
variable [KFrag]
theorem nO.HR:∀{v:List (Str×V)}{d:List (Str×D)},nO P H v d->d.lookup f=none->v.lookup f=none
 |_,_,.nil,_=>rfl
 |_,_,.cons r t,h=>by
  rw[List.lookup_cons] at h ⊢;split at h
  ·cases h
  ·exact nO.HR t h
section
def aGv(ho:own i=true)(hN:X.N[i]?=some x)(hv:Vis X.env.scope x)(hd:nDb x:=by decide)(hcd:nCd x:=by decide)
 (hbase:attributeBase (.Name x p1) "pop" X.env (eval (.Name x p1) X.env)=eval (.Name x p1) X.env:=by rfl)
 (hline:(apos.endLine==cpos.line)=true:=by rfl) :
  PE X (.Call (.Attribute (.Name x p1) "pop" apos) [] [] cpos) (gX own (HQ i)):=
 PE.imp (FJ PySem.F.plainAttrs_list PySem.F.slot_list_pop PySem.F.type_list_pop O6 (aW hN hv hd hcd) hbase hline) λσ H Q ⟨ρ,d,ρ',E,h,q⟩=>by
 unfold HQ at h;split at h
 ·rename_i xs hx;split at h
  ·rename_i dx hdx;cases h;obtain⟨a,vs,hσ,hl,rr,hin,r,_⟩:=LQ E ho hx;obtain⟨v,hvx,rv⟩:=rr.get hdx;have hlen:=rr.length;refine⟨_,hσ,.inl ⟨rfl,vs,.of hl⟩,a,vs,v,rfl,rfl,hl,by rw[hlen];exact hvx,?_⟩;have pall:∀y∈xs,y.pure=true:=λy hy=>bZ.mp hin y hy
   have pdx:d.pure=true:=pall d (List.mem_of_getElem? hdx);have pe:D.aJ xs.dropLast=true:=bZ.mpr λy hy=>pall y (List.dropLast_subset _ hy)
   have er:bG All H vs.dropLast xs.dropLast:=by
    rw[List.dropLast_eq_take,List.dropLast_eq_take,hlen];exact rr.take _
   obtain⟨E2,k2⟩:=E.mut ho hσ rfl (YX r hx aH trivial (er.upd pe hl rfl)) (by rw[LC hx];exact pe);have r1:=(bG.cons rv .nil).upd (o:=.lst vs.dropLast) (by rw[D.aJ,pdx];rfl) hl rfl;cases r1 with
   |cons r1 _=>exact q _ _ k2 E2 (.set ho) (r1.bN pdx)
  ·exact bx h
 ·exact bx h
end
noncomputable def own1(j:Nat):Nat->Bool:=λi=>i==j
def aNo(K:PySem.W.Frag)(i:Nat):TE:=aOj K "list" aOk (gK i)
def tm1:TE:=tUn (rU λi=>.int (-i)) (tC (.int 1))
def aOp(K:PySem.W.Frag)(i:Nat):TT:=λσ H Q=>gK i σ H λx H'=>∃k,aM8 K x H' k/\Q k H'
section
def aCm:uI "left" (.int (((j+1:Nat):Int)-1)) [("words",w1),("left",.int ((j+1:Nat):Int)),("known",w3)]=([("words",w1),("left",.int j),("known",w3)]:List (Str×V)):=by
 have:((j+1:Nat):Int)-1=j:=by lia
 rw[this];unfold uI;rw[if_neg 0x4];unfold uI;rw[if_pos rfl]
end
end
noncomputable def rowOf(s:Stmt)(j:Nat):Stmt:=match s with
 |.ClassDef _ _ _ b _ _ _ _ _ _ _=>b.getD j (.Pass ⟨0,0,0,0⟩)
 |_=>.Pass ⟨0,0,0,0⟩
variable [KFrag]
end Mi
namespace Wy
open PySem PySem.Spec
open Wz
noncomputable abbrev liO(t:Addr)(i:Nat):Obj:={cls:=.type "list_iterator",data:=.fields #[.ref t,.int i 0]}
noncomputable abbrev lsO(xs:Array Value)(n:Nat)(dd:Option Addr)(sl:Array (Option Value)):Obj:={cls:=.type "list",dict:=dd,data:=.seq xs n,slots:=sl}
def MK(it t:Addr)(i:Nat)(xs:Array Value)(n:Nat)(dd:Option Addr)(sl:Array (Option Value))(x:Value)(hx:xs[i]?=some x) :
  Meets (Builtin.«list_iterator.__next__» ⟨[.ref it],[]⟩) (λ_ R s=>s.heap.get? it=some (liO t i)/\s.heap.get? t=some (lsO xs n dd sl)/\R (.ok (.ret x)) {s with heap:=s.heap.update it (Obj.mapFields (·.setIfInBounds 1 (rawInt (i+1))))}):=.of_wp λprog w A R s hs=>by
 obtain⟨hp,g,d,tk,os⟩:=s;obtain⟨e1,e2,hq⟩:=hs
 wp_walk
 rw[Int.toNat_natCast,hx]
 wp_walk
 exact⟨_,rfl,hq⟩
section
def aEg(e1:s.heap.get? it=some (liO t i))(e2:s.heap.get? t=some (lsO xs n dd sl))(hx:xs[i]?=some x)
 (q:∀h',h'.get? it=some (liO t (i+1))->Heap.SameBut it s.heap h'->Q x {s with heap:=h'}):wpAny (model prog w) A (Builtin.SmallTypes.nextOf (.ref it)) Q E s:=by
 have ty:s.TypeIs (.ref it) "list_iterator":=⟨_,e1,rfl⟩
 refine wpAny_bind (wpAny_callSpecial?_slot ty slot_listiter_next ?_);refine call_meets slot_listiter_next ty entry_listiter_next (args_listiter_next _) (MK it t i xs n dd sl x hx) ⟨e1,e2,wpAny_pure (q _ ?_ (Heap.SameBut.update ..))⟩;exact Heap.get?_update_self _ e1 rfl
end
structure W(z TI TO i1 i2 l1 l2:Addr)(o1 o2:Obj)(f0 f1 a b:Value)(k1 k2:Nat)(h:Heap):Prop where
 z_:h.get? z=some (zpO f0 f1 TI TO)
 ti:h.get? TI=some (prO (.ref i1) (.ref i2))
 to:h.get? TO=some (prO a b)
 j1:h.get? i1=some (itO l1 k1)
 j2:h.get? i2=some (liO l2 k2)
 t1:h.get? l1=some o1
 t2:h.get? l2=some o2
section
def W.onZ(x:W z TI TO i1 i2 l1 l2 o1 o2 f0 f1 a b k1 k2 h)(ap:Apart z TI TO i1 i2 l1 l2)(e:h'.get? z=some (zpO g0 g1 TI TO))(k:Heap.SameBut z h h'):W z TI TO i1 i2 l1 l2 o1 o2 g0 g1 a b k1 k2 h':=
 ⟨e,(k.2 _ ap.zTI.symm).trans x.ti,(k.2 _ ap.zTO.symm).trans x.to,(k.2 _ ap.z1.symm).trans x.j1,(k.2 _ ap.z2.symm).trans x.j2,(k.2 _ ap.zl.symm).trans x.t1,(k.2 _ ap.zm.symm).trans x.t2⟩
def W.onT(x:W z TI TO i1 i2 l1 l2 o1 o2 f0 f1 a b k1 k2 h)(ap:Apart z TI TO i1 i2 l1 l2)(e:h'.get? TO=some (prO c d))(k:Heap.SameBut TO h h'):W z TI TO i1 i2 l1 l2 o1 o2 f0 f1 c d k1 k2 h':=
 ⟨(k.2 _ ap.zTO).trans x.z_,(k.2 _ ap.TT).trans x.ti,e,(k.2 _ ap.O1.symm).trans x.j1,(k.2 _ ap.O2.symm).trans x.j2,(k.2 _ ap.Ol.symm).trans x.t1,(k.2 _ ap.Om.symm).trans x.t2⟩
def W.on1(x:W z TI TO i1 i2 l1 l2 o1 o2 f0 f1 a b k1 k2 h)(ap:Apart z TI TO i1 i2 l1 l2)(e:h'.get? i1=some (itO l1 k))(s:Heap.SameBut i1 h h'):W z TI TO i1 i2 l1 l2 o1 o2 f0 f1 a b k k2 h':=
 ⟨(s.2 _ ap.z1).trans x.z_,(s.2 _ ap.T1).trans x.ti,(s.2 _ ap.O1).trans x.to,e,(s.2 _ ap.ij.symm).trans x.j2,(s.2 _ ap.il.symm).trans x.t1,(s.2 _ ap.im.symm).trans x.t2⟩
def W.on2(x:W z TI TO i1 i2 l1 l2 o1 o2 f0 f1 a b k1 k2 h)(ap:Apart z TI TO i1 i2 l1 l2)(e:h'.get? i2=some (liO l2 k))(s:Heap.SameBut i2 h h'):W z TI TO i1 i2 l1 l2 o1 o2 f0 f1 a b k1 k h':=
 ⟨(s.2 _ ap.z2).trans x.z_,(s.2 _ ap.T2).trans x.ti,(s.2 _ ap.O2).trans x.to,(s.2 _ ap.ij).trans x.j1,e,(s.2 _ ap.jl.symm).trans x.t1,(s.2 _ ap.jm.symm).trans x.t2⟩
def W.up(x:W z TI TO i1 i2 l1 l2 o1 o2 f0 f1 a b k1 k2 h)(k:∀c o,c=z\/c=TI\/c=TO\/c=i1\/c=i2\/c=l1\/c=l2->h.get? c=some o->h'.get? c=some o):W z TI TO i1 i2 l1 l2 o1 o2 f0 f1 a b k1 k2 h':=
 ⟨k _ _ 0x2 x.z_,k _ _ 0x2 x.ti,k _ _ 0x2 x.to,k _ _ 0x2 x.j1,k _ _ 0x2 x.j2,k _ _ 0x2 x.t1,k _ _ 0x2 x.t2⟩
end
section
variable {s:Shared} {z TI TO i1 i2 l1 l2:Addr} {f0 f1 a b:Value}
def W.ty(hw:W z TI TO i1 i2 l1 l2 o1 o2 f0 f1 a b k1 k2 s.heap):s.TypeIs (.ref z) "zip":=⟨_,hw.z_,rfl⟩
end
section
def keptAt(j:Nat)(v c d:Value)(hw:W z TI TO i1 i2 l1 l2 o1 o2 f0 f1 a b k1 k2 s.heap)(ap:Apart z TI TO i1 i2 l1 l2)(hj:(#[a,b]:Array Value).setIfInBounds j v=#[c,d])
 (q:∀h',W z TI TO i1 i2 l1 l2 o1 o2 f0 f1 c d k1 k2 h'->Heap.SameBut TO s.heap h'->Q () {s with heap:=h'}):wpAny (model prog w) A (updateSeq TO (·.setIfInBounds j v)) Q E s:=
 wpAny_updateSeq_pair hw.to λh' e sb=>q h' (hw.onT ap (by rw[e,hj]) sb) sb
def first(ap:Apart z TI TO i1 i2 l1 l2)(hw:W z TI TO i1 i2 l1 l2 (tuO xs n1 d1 s1) (lsO ys n2 d2 s2) .none (.bool false) a b k k s.heap)(hx:xs[k]?=some x)(hy:ys[k]?=some y)
 (q:∀(h':Heap) (p:Addr),W z TI TO i1 i2 l1 l2 (tuO xs n1 d1 s1) (lsO ys n2 d2 s2) (rawInt p) (.bool false) x y (k+1) (k+1) h'->h'.get? p=some (prO x y)->p=s.heap.objs.size->aC8 z TO i1 i2 s.heap h'->Q (.ref p) {s with heap:=h'}) :
  wpAny (model prog w) A (nxt z) (Got Q) E s:=by
 refine wpAny_bind (m:=field (.ref z) 2) (wpAny_field hw.z_ rfl rfl (wpAny_bind (m:=field (.ref z) 3) (wpAny_field hw.z_ rfl (x:=.ref TI) rfl (wpAny_bind (wpAny_seqItems hw.ti rfl ?_)))));refine wpAny_bind (m:=Builtin.SmallTypes.ownedTupleIsFree (.ref z)) (wpAny_bind (wpAny_field hw.z_ rfl (x:=.none) rfl (wpAny_pure ?_)));rw[if_pos rfl];refine wpAny_bind (wpAny_rule (wpAny_bind (wpAny_field hw.z_ rfl (x:=.ref TO) rfl (wpAny_bind (wpAny_setField_rec hw.z_ 0x2 λh1 e1 k1=>?_)))));have w1:W z TI TO i1 i2 l1 l2 (tuO xs n1 d1 s1) (lsO ys n2 d2 s2) .ellipsis (.bool false) a b k k h1:=hw.onZ ap e1 k1;simp only[List.zipIdx_cons,List.zipIdx_nil,List.forIn_cons,List.forIn_nil];refine wpAny_bind (wpAny_bind (wpAny_bind (wpAny_onRaise (wpAny_bind (m:=Builtin.SmallTypes.nextOf (.ref i1)) (drawn w1.j1 w1.t1 hx λh2 e2 k2=>wpAny_pure ?_)))));have w2:=w1.on1 ap e2 k2;refine wpAny_bind (wpAny_seqItems w2.to rfl (wpAny_bind (keptAt 0 x x b w2 ap rfl λh3 w3 k3=>wpAny_bind (wpAny_letGo (wpAny_pure ?_)))));refine wpAny_bind (wpAny_bind (wpAny_onRaise (wpAny_bind (m:=Builtin.SmallTypes.nextOf (.ref i2)) (aEg w3.j2 w3.t2 hy λh4 e4 k4=>wpAny_pure ?_))));have w4:=w3.on2 ap e4 k4;refine wpAny_bind (wpAny_seqItems w4.to rfl (wpAny_bind (keptAt 1 y x y w4 ap rfl λh5 w5 k5=>wpAny_bind (wpAny_letGo (wpAny_pure (wpAny_pure ?_))))));have sd:aC8 z TO i1 i2 s.heap h5:=λc o c1 c2 c3 c4 e=>(k5.2 c c2).trans ((k4.2 c c4).trans ((k3.2 c c2).trans ((k2.2 c c3).trans ((k1.2 c c1).trans e))))
 have sz:h5.objs.size=s.heap.objs.size:=by rw[k5.1,k4.1,k3.1,k2.1,k1.1]
 refine wpAny_bind (wpAny_seqItems w5.to rfl (wpAny_bind (wpAny_newTuple ?_)));have w6:W z TI TO i1 i2 l1 l2 (tuO xs n1 d1 s1) (lsO ys n2 d2 s2) .ellipsis (.bool false) x y (k+1) (k+1) (h5.push (prO x y)):=w5.up λc o _ e=>Heap.get?_push_of_some _ e
 refine wpAny_bind (m:=Builtin.SmallTypes.ownedTupleHandOut (.ref z) (.ref h5.objs.size)) (wpAny_bind (wpAny_setField_rec w6.z_ 0x2 λh7 e7 k7=>?_));have w7:W z TI TO i1 i2 l1 l2 (tuO xs n1 d1 s1) (lsO ys n2 d2 s2) (rawInt h5.objs.size) (.bool false) x y (k+1) (k+1) h7:=w6.onZ ap e7 k7;refine wpAny_setField_rec w7.z_ 0x2 λh8 e8 k8=>wpAny_pure ⟨_,rfl,?_⟩
 have w8:W z TI TO i1 i2 l1 l2 (tuO xs n1 d1 s1) (lsO ys n2 d2 s2) (rawInt h5.objs.size) (.bool false) x y (k+1) (k+1) h8:=w7.onZ ap e8 k8;have nz:h5.objs.size≠z:=Nat.ne_of_gt (Heap.lt_size w5.z_);exact q h8 _ w8 ((k8.2 _ nz).trans ((k7.2 _ nz).trans (Heap.get?_push_size _ rfl))) sz λc o c1 c2 c3 c4 e=>(k8.2 c c1).trans ((k7.2 c c1).trans (Heap.get?_push_of_some _ (sd c o c1 c2 c3 c4 e)))
def aCn(hh:A.handled=none)(ap:Apart z TI TO i1 i2 l1 l2)(hw:W z TI TO i1 i2 l1 l2 (tuO xs n1 d1 s1) (lsO ys n2 d2 s2) .none (.bool false) a b k k s.heap)(hx:xs[k]?=none)
 (q:∀h' e,aC8 z TO i1 i2 s.heap h'->(∃o,h'.get? e=some o/\o.cls=.type "StopIteration")->E (.ref e) {s with heap:=h'}) :
  wpAny (model prog w) A (nxt z) Q E s:=by
 refine wpAny_bind (m:=field (.ref z) 2) (wpAny_field hw.z_ rfl rfl (wpAny_bind (m:=field (.ref z) 3) (wpAny_field hw.z_ rfl (x:=.ref TI) rfl (wpAny_bind (wpAny_seqItems hw.ti rfl ?_)))));refine wpAny_bind (m:=Builtin.SmallTypes.ownedTupleIsFree (.ref z)) (wpAny_bind (wpAny_field hw.z_ rfl (x:=.none) rfl (wpAny_pure ?_)));rw[if_pos rfl];refine wpAny_bind (wpAny_rule (wpAny_bind (wpAny_field hw.z_ rfl (x:=.ref TO) rfl (wpAny_bind (wpAny_setField_rec hw.z_ 0x2 λh1 e1 k1=>?_)))));have w1:W z TI TO i1 i2 l1 l2 (tuO xs n1 d1 s1) (lsO ys n2 d2 s2) .ellipsis (.bool false) a b k k h1:=hw.onZ ap e1 k1;simp only[List.zipIdx_cons,List.zipIdx_nil,List.forIn_cons,List.forIn_nil];refine wpAny_bind (wpAny_bind (wpAny_bind (wpAny_onRaise (wpAny_bind (m:=Builtin.SmallTypes.nextOf (.ref i1)) (over hh w1.j1 w1.t1 hx λh2 e k2 he=>?_)))));obtain⟨oe,he,hc⟩:=he;have ez:h2.get? z=some (zpO .ellipsis (.bool false) TI TO):=k2 _ _ ap.z1 w1.z_;have hez:e≠z:=λv=>by
  rw[v,ez] at he;cases he;exact absurd (show Value.type "zip"=Value.type "StopIteration" from hc) 0x4
 exact wpAny_setField_rec ez 0x2 λh3 _ k3=>q h3 e (λc o c1 _ c3 _ v=>(k3.2 c c1).trans (k2 c o c3 ((k1.2 c c1).trans v))) ⟨oe,(k3.2 e hez).trans he,hc⟩
def taken{T:Addr}(ap:Apart z TI TO i1 i2 l1 l2)(hw:W z TI TO i1 i2 l1 l2 o1 o2 (rawInt T) (.bool bb) a b k1 k2 s.heap)(hT:s.heap.get? T=some oT)
 (q:∀h',W z TI TO i1 i2 l1 l2 o1 o2 (rawInt T) (.bool true) a b k1 k2 h'->Heap.SameBut z s.heap h'->Q false {s with heap:=h'}):wpAny (model prog w) A (Builtin.SmallTypes.ownedTupleIsFree (.ref z)) Q E s:=by
 refine wpAny_bind (wpAny_field hw.z_ rfl rfl (wpAny_bind (there hT ?_)));refine wpAny_bind (wpAny_field hw.z_ rfl rfl ?_);cases bb
 ·exact wpAny_bind (wpAny_setField_rec hw.z_ 0x2 λh1 e1 k1=>wpAny_pure (q h1 (hw.onZ ap e1 k1) k1))
 ·exact wpAny_pure (q _ hw (Heap.SameBut.refl _ _))
def more{T:Addr}{bb:Bool}{oT:Obj}{Q:Value->Shared->Prop}(ap:Apart z TI TO i1 i2 l1 l2)(hw:W z TI TO i1 i2 l1 l2 (tuO xs n1 d1 s1) (lsO ys n2 d2 s2) (rawInt T) (.bool bb) a b k k s.heap)(hT:s.heap.get? T=some oT)(hx:xs[k]?=some x)(hy:ys[k]?=some y)
 (q:∀h' p,W z TI TO i1 i2 l1 l2 (tuO xs n1 d1 s1) (lsO ys n2 d2 s2) (rawInt T) (.bool true) a b (k+1) (k+1) h'->h'.get? p=some (prO x y)->aC8 z TO i1 i2 s.heap h'->Q (.ref p) {s with heap:=h'}) :
  wpAny (model prog w) A (nxt z) (Got Q) E s:=by
 refine wpAny_bind (m:=field (.ref z) 2) (wpAny_field hw.z_ rfl rfl (wpAny_bind (m:=field (.ref z) 3) (wpAny_field hw.z_ rfl (x:=.ref TI) rfl (wpAny_bind (wpAny_seqItems hw.ti rfl ?_)))));refine wpAny_bind (m:=Builtin.SmallTypes.ownedTupleIsFree (.ref z)) (taken ap hw hT λh1 w1 k1=>?_);rw[if_neg Bool.false_ne_true];dsimp only;rw[<-Array.forIn_toList];simp only[List.forIn_cons,List.forIn_nil];refine wpAny_bind (wpAny_bind (wpAny_bind (wpAny_holding (wpAny_bind (m:=Builtin.SmallTypes.nextOf (.ref i1)) (drawn w1.j1 w1.t1 hx λh2 e2 k2=>wpAny_pure (wpAny_pure ?_))))));have w2:=w1.on1 ap e2 k2;refine wpAny_bind (wpAny_bind (wpAny_holding (wpAny_bind (m:=Builtin.SmallTypes.nextOf (.ref i2)) (aEg w2.j2 w2.t2 hy λh3 e3 k3=>wpAny_pure (wpAny_pure (wpAny_pure ?_))))));have w3:=w2.on2 ap e3 k3;refine wpAny_bind (wpAny_newTuple (wpAny_pure ⟨_,rfl,?_⟩) (hsz:=by show(2:Nat)<=sizeLine;decide));exact q _ _ (w3.up λc o _ e=>Heap.get?_push_of_some _ e) (Heap.get?_push_size _ rfl) λc o c1 c2 c3 c4 e=>Heap.get?_push_of_some _ ((k3.2 c c4).trans ((k2.2 c c3).trans ((k1.2 c c1).trans e)))
def aGw{T:Addr}{bb:Bool}{oT:Obj}{Q:Fin->Shared->Prop}(hh:A.handled=none)(ap:Apart z TI TO i1 i2 l1 l2)(hw:W z TI TO i1 i2 l1 l2 (tuO xs n1 d1 s1) (lsO ys n2 d2 s2) (rawInt T) (.bool bb) a b k k s.heap)(hT:s.heap.get? T=some oT)(hx:xs[k]?=none)
 (q:∀h' e,aC8 z TO i1 i2 s.heap h'->(∃o,h'.get? e=some o/\o.cls=.type "StopIteration")->E (.ref e) {s with heap:=h'}) :
  wpAny (model prog w) A (nxt z) Q E s:=by
 refine wpAny_bind (m:=field (.ref z) 2) (wpAny_field hw.z_ rfl rfl (wpAny_bind (wpAny_field hw.z_ rfl rfl (wpAny_bind (wpAny_seqItems hw.ti rfl ?_)))));refine wpAny_bind (taken ap hw hT λh1 w1 k1=>?_);rw[if_neg Bool.false_ne_true];dsimp only;rw[<-Array.forIn_toList];simp only[List.forIn_cons,List.forIn_nil];exact wpAny_bind (wpAny_bind (wpAny_bind (wpAny_holding (wpAny_bind (over hh w1.j1 w1.t1 hx λh2 e k2 he=>q h2 e (λc o c1 _ c3 _ v=>k2 c o c3 ((k1.2 c c1).trans v)) he)))))
end
def ZP(t u:Addr)(xs ys:Array Value) :
  Meets (Builtin.«zip.__new__» ⟨[.type "zip",.ref t,.ref u],[]⟩) (λ_ R s=>s.heap.IsTuple t xs/\s.heap.IsList u ys/\∀h' n,n=s.heap.objs.size->h'.get? n=some (itO t 0)->h'.get? (n+1)=some (liO u 0)->h'.get? (n+2)=some (prO (.ref n) (.ref (n+1)))->h'.get? (n+3)=some (prO .none .none)->h'.get? (n+4)=some (zpO .none (.bool false) (n+2) (n+3))->
   (∀x o,s.heap.get? x=some o->h'.get? x=some o)->h'.objs.size=n+5->R (.ok (.ret (.ref (n+4)))) {s with heap:=h'}):=
 .of_wp λprog w A R s hs=>by
  obtain⟨hp,g,d,tk,os⟩:=s;obtain⟨ht,hu,q⟩:=hs;have sub:=sub_zip;have p1:Heap.IsTuple (Shared.heap ⟨hp,g,d,tk,os⟩) t xs:=ht;have p2:Heap.IsList (Shared.heap ⟨hp.push {cls:=.type "tuple_iterator",data:=.fields #[.ref t,.int 0 0]},g,d,tk,os⟩) u ys:=Heap.IsList.push hu _;have f:=five hp (itO t 0) (liO u 0) (prO (.ref hp.objs.size) (.ref (hp.objs.size+1))) (prO .none .none) (zpO .none (.bool false) (hp.objs.size+2) (hp.objs.size+3)) rfl rfl rfl rfl rfl
  wp_walk using wpAny_pyIter_tuple p1,wpAny_pyIter_list p2
  refine⟨_,rfl,?_⟩;have fin:=q _ hp.objs.size rfl f.1 f.2.1 f.2.2.1 f.2.2.2.1 f.2.2.2.2.1 f.2.2.2.2.2.1 f.2.2.2.2.2.2;have gen:∀m1 m2 m3 m4:Nat,m1=hp.objs.size+1->m2=hp.objs.size+2->m3=hp.objs.size+3->m4=hp.objs.size+4->R (.ok (.ret (.ref m4))) ⟨((((hp.push (itO t 0)).push (liO u 0)).push (prO (.ref hp.objs.size) (.ref m1))).push (prO .none .none)).push (zpO .none (.bool false) m2 m3),g,d,tk,os⟩:=by
   intro m1 m2 m3 m4 q1 q2 q3 q4;subst q1 q2 q3 q4;exact fin
  exact gen _ _ _ _ (Heap.size_push ..) ((Heap.size_push ..).trans (congrArg (·+1) (Heap.size_push ..))) ((Heap.size_push ..).trans (congrArg (·+1) ((Heap.size_push ..).trans (congrArg (·+1) (Heap.size_push ..))))) ((Heap.size_push ..).trans (congrArg (·+1) ((Heap.size_push ..).trans (congrArg (·+1) ((Heap.size_push ..).trans (congrArg (·+1) (Heap.size_push ..)))))))
section
def aKg(ht:s.heap.IsTuple t xs)(hu:s.heap.IsList u ys)
 (q:∀h' n,n=s.heap.objs.size->h'.get? n=some (itO t 0)->h'.get? (n+1)=some (liO u 0)->h'.get? (n+2)=some (prO (.ref n) (.ref (n+1)))->h'.get? (n+3)=some (prO .none .none)->h'.get? (n+4)=some (zpO .none (.bool false) (n+2) (n+3))->
   (∀x o,s.heap.get? x=some o->h'.get? x=some o)->h'.objs.size=n+5->Q (.ref (n+4)) {s with heap:=h'}) :
  wpAny (model prog w) A (call (.type "zip") [.ref t,.ref u]) Q E s:=
 callType_new F.called_zip 0x4 (F.typeCall_zip_2 _ _) (F.newCall_zip_2 _ _) (λobj=>F.args_object_init_3 obj _ _) F.entry_zip_new (ZP t u xs ys)
  ⟨ht,hu,λh' n e a1 a2 a3 a4 a5 k z=>⟨⟨_,a5,rfl⟩,q h' n e a1 a2 a3 a4 a5 k z⟩⟩
end
def ZS(z TI TO i1 i2 l1 l2:Addr)(o1 o2:Obj)(k:Nat)(h:Heap):Prop:=∃f0 f1 a b,W z TI TO i1 i2 l1 l2 o1 o2 f0 f1 a b k k h/\
 ((f0=.none/\f1=.bool false)\/∃(T:Addr)(bb:Bool)(u v:Value),f0=rawInt T/\f1=.bool bb/\h.get? T=some (prO u v)/\T≠z/\T≠TO/\T≠i1/\T≠i2)
section
variable {prog:Program} {w:World} {A:Around} {E:Value->Shared->Prop} {s:Shared} {z TI TO i1 i2 l1 l2 d:Addr} {n1 n2:Nat} {d1 d2:Option Addr} {s1 s2:Array (Option Value)} {x y:Value} {k:Nat} {xs ys:Array Value}
def ZS.keep(Z:ZS z TI TO i1 i2 l1 l2 (tuO xs n1 d1 s1) (lsO ys n2 d2 s2) k h)(ed:h.get? d=some od)(hd:od.cls=.type "dict")(e:∀c o,c≠d->h.get? c=some o->h'.get? c=some o):ZS z TI TO i1 i2 l1 l2 (tuO xs n1 d1 s1) (lsO ys n2 d2 s2) k h':=by
 obtain⟨f0,f1,a,b,hw,hf⟩:=Z;refine⟨f0,f1,a,b,⟨e _ _ (Wz.apart hw.z_ rfl ed hd 0x4) hw.z_,e _ _ (Wz.apart hw.ti rfl ed hd 0x4) hw.ti,e _ _ (Wz.apart hw.to rfl ed hd 0x4) hw.to,e _ _ (Wz.apart hw.j1 rfl ed hd 0x4) hw.j1,e _ _ (Wz.apart hw.j2 rfl ed hd 0x4) hw.j2,e _ _ (Wz.apart hw.t1 rfl ed hd 0x4) hw.t1,e _ _ (Wz.apart hw.t2 rfl ed hd 0x4) hw.t2⟩,?_⟩;rcases hf with hf|⟨T,bb,u,v,h1,h2,h3,h4⟩
 ·exact .inl hf
 ·exact .inr ⟨T,bb,u,v,h1,h2,e _ _ (Wz.apart h3 rfl ed hd 0x4) h3,h4⟩
def aGx(ap:Apart z TI TO i1 i2 l1 l2)(Z:ZS z TI TO i1 i2 l1 l2 (tuO xs n1 d1 s1) (lsO ys n2 d2 s2) k s.heap)(hx:xs[k]?=some x)(hy:ys[k]?=some y)
 (q:∀h' p,ZS z TI TO i1 i2 l1 l2 (tuO xs n1 d1 s1) (lsO ys n2 d2 s2) (k+1) h'->h'.get? p=some (prO x y)->aC8 z TO i1 i2 s.heap h'->Q (some (.ref p)) {s with heap:=h'}):wpAny (model prog w) A (pyNext (.ref z)) Q E s:=by
 obtain⟨f0,f1,a,b,hw,hf⟩:=Z;refine wpAny_bind (wpAny_attempt (wpAny_callSpecial?_slot hw.ty F.slot_zip_next (wpAny_call_entry F.slot_zip_next hw.ty F.entry_zip_next ?_ (F.args_zip_next_1 _))));rcases hf with ⟨rfl,rfl⟩|⟨T,bb,u,v,rfl,rfl,hT,t1,t2,t3,t4⟩
 ·refine first ap hw hx hy λh' p w' ep pp sd=>wpAny_pure (q h' p ⟨_,_,_,_,w',.inr ⟨p,false,x,y,rfl,rfl,ep,?_⟩⟩ ep sd)
  subst pp;have lt:∀{c o},s.heap.get? c=some o->s.heap.objs.size≠c:=λe=>Nat.ne_of_gt (Heap.lt_size e)
  exact⟨lt hw.z_,lt hw.to,lt hw.j1,lt hw.j2⟩
 ·exact more ap hw hT hx hy λh' p w' ep sd=>wpAny_pure (q h' p ⟨_,_,_,_,w',.inr ⟨T,true,u,v,rfl,rfl,sd _ _ t1 t2 t3 t4 hT,t1,t2,t3,t4⟩⟩ ep sd)
def aKh(hh:A.handled=none)(ap:Apart z TI TO i1 i2 l1 l2)(Z:ZS z TI TO i1 i2 l1 l2 (tuO xs n1 d1 s1) (lsO ys n2 d2 s2) k s.heap)(hx:xs[k]?=none)
 (q:∀h',aC8 z TO i1 i2 s.heap h'->Q none {s with heap:=h'}):wpAny (model prog w) A (pyNext (.ref z)) Q E s:=by
 obtain⟨f0,f1,a,b,hw,hf⟩:=Z;refine wpAny_bind (wpAny_attempt (wpAny_callSpecial?_slot hw.ty F.slot_zip_next (wpAny_call_entry F.slot_zip_next hw.ty F.entry_zip_next ?_ (F.args_zip_next_1 _))));have stop:∀h' e,aC8 z TO i1 i2 s.heap h'->(∃o,h'.get? e=some o/\o.cls=.type "StopIteration")->wpAny (model prog w) A (do if <- isInstance (.ref e) (.type "StopIteration") then pure none else throw (.ref e)) Q E {s with heap:=h'}:=λh' e sd he=>wpAny_bind (wpAny_isInstance he isSubtype_stop (wpAny_pure (q h' sd)))
 rcases hf with ⟨rfl,rfl⟩|⟨T,bb,u,v,rfl,rfl,hT,_⟩
 ·exact aCn hh ap hw hx λh' e sd he=>stop h' e sd he
 ·exact aGw hh ap hw hT hx λh' e sd he=>stop h' e sd he
end
section
variable {prog:Program} {w:World} {K:Type} [DecidableEq K] {knd:KeyKind prog w K} {A:Around} {R:Except Value Flow->Shared->Prop} {z TI TO i1 i2 l1 l2 d:Addr} {n1 n2:Nat} {d1 d2:Option Addr} {s1 s2:Array (Option Value)} {xs ys:Array Value} {ks:List K}
theorem z8(hh:A.handled=none)(ap:Apart z TI TO i1 i2 l1 l2)(hdz:d≠z)(hdT:d≠TO)(hd1:d≠i1)(hd2:d≠i2)(hsz:ys.size=xs.size)(hk:∀(i:Nat) (x:Value),xs[i]?=some x->∃k,ks[i]?=some k/\knd.is k x=true) :
  ∀(m k:Nat)(s:Shared)(kvs:List (K×Value)),k+m=xs.size->kvs.length+m<=sizeLine->ZS z TI TO i1 i2 l1 l2 (tuO xs n1 d1 s1) (lsO ys n2 d2 s2) k s.heap->s.heap.DictOf knd d kvs->
  (∀h' tk,h'.DictOf knd d (merged kvs ((ks.zip ys.toList).drop k))->(∀c o,c≠d->c≠z->c≠TO->c≠i1->c≠i2->s.heap.get? c=some o->h'.get? c=some o)->R (.ok (.ret .none)) {s with heap:=h',toks:=tk})->
  codeAny (model prog w) A (.builtin "dict.update.loop" ⟨[.ref d,.ref z,rawInt k,.none],[]⟩) R s:=by
 intro m;induction m with
 |zero=>
  intro k s kvs hkm hl Z hd q;refine codeAny_builtin j_ ?_;rw[Around.under_plainId (show plainId "dict.update.loop"=true by decide +kernel) _];refine wpAny_bind (aKh hh ap Z (Array.getElem?_eq_none 0x1) λh' kp=>?_);refine wpAny_bind ?_;unfold Builtin.Dict.addKeywords;rw[List.forIn_nil];refine wpAny_bind (wpAny_pure (wpAny_pure (wpAny_pure ?_)));have e:(ks.zip ys.toList).drop k=[]:=List.drop_eq_nil_of_le (by rw[List.length_zip];have:ys.toList.length=ys.size:=Array.length_toList;lia);rw[e] at q;obtain⟨o,es,ep,ho,r⟩:=hd;exact q _ s.toks ⟨o,es,ep,kp d o hdz hdT hd1 hd2 ho,r⟩ λc o _ c1 c2 c3 c4 e=>kp c o c1 c2 c3 c4 e
 |succ m ih=>
  intro k s kvs hkm hl Z hd q;have hlt:k<xs.size:=by lia
  have hlt2:k<ys.size:=by lia
  have hx:xs[k]?=some xs[k]:=Array.getElem?_eq_getElem hlt;have hy:ys[k]?=some ys[k]:=Array.getElem?_eq_getElem hlt2;obtain⟨key,hkey,his⟩:=hk k _ hx;refine codeAny_builtin j_ ?_;rw[Around.under_plainId (show plainId "dict.update.loop"=true by decide +kernel) _];refine wpAny_bind (aGx ap Z hx hy λh' p Z' hp kp=>?_);refine wpAny_bind (wpAny_holding (wpAny_bind (wpAny_tryCatch ?_)));refine wpAny_bind (wpAny_typeOf ⟨_,hp,rfl⟩ ?_);rw[if_pos 0x4];refine wpAny_bind (wpAny_seqItems hp rfl (wpAny_pure ?_));show wpAny _ _ (holding [xs[k],ys[k]] (dictSet d xs[k] ys[k])) _ _ _;have hd':h'.DictOf knd d kvs:=let ⟨o,es,ep,ho,r⟩:=hd;⟨o,es,ep,kp d o hdz hdT hd1 hd2 ho,r⟩
  obtain⟨od,es,ep,ho,hc,_⟩:=id hd';refine wpAny_holding (wpAny_dictSet_pairs his hd' (λh2 hd2' sb=>?_) 0x1);refine wpAny_pure ⟨Code.quiet_builtin _ 0x6,?_⟩;have ek:(rawInt (k+1):Value)=rawInt ((k+1:Nat):Int):=rfl;rw[ek];have hzip:(ks.zip ys.toList).drop k=(key,ys[k])::(ks.zip ys.toList).drop (k+1):=by
   have hlz:(ks.zip ys.toList)[k]?=some (key,ys[k]):=by
    rw[List.getElem?_zip_eq_some];exact⟨hkey,by rw[Array.getElem?_toList];exact hy⟩
   obtain⟨h1,h2⟩:=List.getElem?_eq_some_iff.mp hlz;rw[List.drop_eq_getElem_cons h1,h2]
  have ls:(stored kvs key ys[k]).length<=kvs.length+1:=by
   unfold stored;split
   ·rw[List.length_map];lia
   ·rw[List.length_append];exact Nat.le_refl _
  refine ih (k+1) _ (stored kvs key ys[k]) 0x1 0x1 (Z'.keep ho hc.1 λc o hcd e=>(sb.2 c hcd).trans e) hd2' λh3 tk hd3 kp3=>?_
  refine q h3 tk (by rw[hzip];exact hd3) λc o c0 c1 c2 c3 c4 e=>kp3 c o c0 c1 c2 c3 c4 ((sb.2 c c0).trans (kp c o c1 c2 c3 c4 e))
end
section
variable {prog:Program} {w:World} {K:Type} [DecidableEq K] {knd:KeyKind prog w K} {A:Around} {E:Value->Shared->Prop} {hp:Heap} {g:Array GenState} {dr:Drawn} {tk:Nat} {os:OsState} {z TI TO i1 i2 l1 l2:Addr} {n1 n2:Nat} {d1 d2:Option Addr} {s1 s2:Array (Option Value)} {xs ys:Array Value} {ks:List K}
def aCo(hh:A.handled=none)(ap:Apart z TI TO i1 i2 l1 l2)(hw:W z TI TO i1 i2 l1 l2 (tuO xs n1 d1 s1) (lsO ys n2 d2 s2) .none (.bool false) a b 0 0 hp)(hsz:ys.size=xs.size)(hxs:xs.size<=1000)(hk:∀(i:Nat) (x:Value),xs[i]?=some x->∃k,ks[i]?=some k/\knd.is k x=true)
 (q:∀h' tk',h'.DictOf knd hp.objs.size (merged [] (ks.zip ys.toList))->aC8 z TO i1 i2 hp h'->Q (.ref hp.objs.size) ⟨h',g,dr,tk',os⟩) :
  wpAny (model prog w) A (call (.type "dict") [.ref z]) Q E ⟨hp,g,dr,tk,os⟩:=by
 have hnew:(hp.push {cls:=.type "dict",data:=.dict #[]}).DictOf knd hp.objs.size []:=Heap.DictOf.new hp;have up:∀c o,hp.get? c=some o->(hp.push {cls:=.type "dict",data:=.dict #[]}).get? c=some o:=λc o e=>Heap.get?_push_of_some _ e
 have lt:∀{c o},hp.get? c=some o->hp.objs.size≠c:=λe=>Nat.ne_of_gt (Heap.lt_size e)
 refine callType_codes (Q₁:=λv s₁=>v=.ref hp.objs.size/\s₁=⟨hp.push {cls:=.type "dict",data:=.dict #[]},g,dr,tk,os⟩) F.kt_called_dict (F.kt_typeCall_dict_1 _) F.entry_dict_init (kt_code_dict_new _ ⟨rfl,rfl⟩) λv s₁ hv=>?_
 obtain⟨rfl,rfl⟩:=hv;have ty:(⟨hp.push {cls:=.type "dict",data:=.dict #[]},g,dr,tk,os⟩:Shared).TypeIs (.ref hp.objs.size) "dict":=hnew.typeIs;have ez:=up _ _ hw.z_;have tz:(⟨hp.push {cls:=.type "dict",data:=.dict #[]},g,dr,tk,os⟩:Shared).TypeIs (.ref z) "zip":=⟨_,ez,rfl⟩
 refine⟨ty,F.args_dict_init_2 _ _,wpAny_bind (wpAny_bind (wpAny_notOrdered_dict ty (wpAny_pure ?_)))⟩;refine wpAny_bind (m:=typeOf (.ref z)) (wpAny_typeOf tz ?_);rw[if_pos 0x4];refine wpAny_bind (lacks ez hh λh' tk' kp=>?_);rw[if_pos (show(none:Option Value).isNone=true from rfl)];refine wpAny_bind (wpAny_rule (wpAny_bind (wpAny_pyIter_zip (TI:=TI) (TO:=TO) (f0:=.none) (kp _ _ ez) (wpAny_pure ⟨Code.quiet_builtin _ 0x6,?_⟩))));have hd':h'.DictOf knd hp.objs.size []:=let ⟨o,es,ep,ho,r⟩:=hnew;⟨o,es,ep,kp _ _ ho,r⟩
 refine z8 (A:=A.in1) (ks:=ks) (show A.in1.handled=none from hh) ap (lt hw.z_) (lt hw.to) (lt hw.j1) (lt hw.j2) hsz hk xs.size 0 ⟨h',g,dr,tk',os⟩ [] 0x1 (by rw[List.length_nil,sizeLine_eq];lia) ⟨_,_,_,_,hw.up λc o _ e=>kp c o (up c o e),.inl ⟨rfl,rfl⟩⟩ hd' λh2 tk2 hd2 kp2=>?_
 exact⟨rfl,q h2 tk2 hd2 λc o c1 c2 c3 c4 e=>kp2 c o (λx=>lt e x.symm) c1 c2 c3 c4 (kp c o (up c o e))⟩
end
end Wy
namespace Mi
open PySem L2 PySem.SeqAt PySem.Spec PyProof.Rows
def lH:List D->Res D
 |[.tup xs,.lst ys]=>if decide (xs.length<=1000)&&decide (ys.length=xs.length)&&xs.all gR&&D.aJ ys then .ok (.dct (mV xs ys [])) else .bad
 |_=>.bad
section
variable [KFrag]
def Rep.aNp(r:Rep P H v (.lst ds)):∃a vs,v=.ref a/\H a=some (.lst vs)/\bG P H vs ds:=by
 obtain⟨_,_,rfl,e,_,r⟩:=r.inv;exact⟨_,_,rfl,e,r⟩
section
theorem aCp(hg:Gl X "dict")(hm:X.mg "dict"=none)(hg2:Gl X "zip")(hm2:X.mg "zip"=none)(ha:PA X [a,b] (gA fs rr))(hc:X.calm=true:=by rfl)(hs2:starEach [a,b] X.env=(false,eval a X.env)::starEach [b] X.env:=by rfl)(hpl2:(backTo pos2 (starEach [b] X.env)).any (·.1)=false:=by rfl)
 (hs:starEach [.Call (.Name "zip" p2) [a,b] [] pos2] X.env=(false,eval (.Call (.Name "zip" p2) [a,b] [] pos2) X.env)::starEach [] X.env:=by rfl) :
  PE X (.Call (.Name "dict" p) [.Call (.Name "zip" p2) [a,b] [] pos2] [] pos) (gE (aV lH fs) true):=by
 intro pins s σ H Q I ⟨ρ,d,E,h,q⟩;obtain⟨xs,h1,h2⟩:=aY h;unfold lH at h2;split at h2
 ·rename_i xs ys;split at h2
  ·rename_i hb;cases h2;simp only[Bool.and_eq_true,decide_eq_true_eq] at hb;obtain⟨⟨⟨hb1,hb2⟩,hb3⟩,hb4⟩:=hb;refine wpAny_Call_Name_kw (nF I hg hm zZ ?_);refine PyProof.Rows.callWith_type1 ?_ hs rfl;rw[hs];show wpAny _ _ (spliced ((false,eval (.Call (.Name "zip" p2) [a,b] [] pos2) X.env)::backTo pos (starEach [] X.env))) _ _ s;refine Calls.spliced_cons ?_;refine wpAny_Call_Name_kw (nF I hg2 hm2 boot_zip ?_);refine PyProof.Rows.callWith_type1 (thn (ha pos2 pins s σ H (λvs H1=>bU H H1/\bG All H1 vs [.tup xs,.lst ys]) I ⟨ρ,_,E,h1,λvs H1 s1 r1 _=>⟨s1,r1⟩⟩) λus s1 ⟨vs,H1,I1,r1,sm,rp⟩=>?_) hs2 hpl2;cases rp with
   |cons rp1 rp=>
    cases rp with
    |cons rp2 rp=>
     cases rp;obtain⟨l1,vs1,rfl,e1,rr1⟩:=rp1.iM;obtain⟨l2,vs2,rfl,e2,rr2⟩:=rp2.aNp;cases r1 with
     |cons q1 r1=>
      cases r1 with
      |cons q2 r1=>
       cases r1;cases q1;cases q2;obtain⟨its1,w1,p1,_⟩:=I1.tuple (.of e1);obtain⟨_,its2,m2,w2,g2⟩:=I1.hok _ _ e2;have t1:s1.heap.IsTuple l1 its1.toArray:=p1;have t2:s1.heap.IsList l2 its2.toArray:=⟨_,g2,rfl,_,rfl⟩
       obtain⟨⟨c1,dd1,da1,sl1⟩,g1,hc1,m1,hd1⟩:=id p1;simp only at hc1 hd1;subst hc1 hd1;have hl1:=Heap.lt_size g1;have hl2:=Heap.lt_size g2;refine Wy.aKg t1 t2 λh' n hn z1 z2 z3 z4 z5 kp zsz=>?_
       subst hn;refine Calls.spliced_nil ?_;have n1:=w1.length;have n2:=w2.length;have m1:=rr1.length;have m2:=rr2.length;obtain⟨ks,k1,k2,k3⟩:=YM rr1 w1 hb3;refine Wy.aCo (I1.ok.hd hc) (YQ hl1 hl2) ⟨z5,z3,z4,z1,z2,kp _ _ g1,kp _ _ g2⟩ (by simp only[List.size_toArray];lia) (by simp only[List.size_toArray];lia) (λi u hu=>k3 i u (by simpa using hu)) λh2 tk dd kp2=>?_
       have hfr:H1 h'.objs.size=none:=I1.hok.fresh (by rw[zsz];lia);have kall:∀c o,s1.heap.get? c=some o->h2.get? c=some o:=λc o e=>by
        have:=Heap.lt_size e;exact kp2 c o (Nat.ne_of_lt (Nat.lt_of_lt_of_le this (Nat.le_add_right _ 4))) (Nat.ne_of_lt (Nat.lt_of_lt_of_le this (Nat.le_add_right _ 3))) (Nat.ne_of_lt this) (Nat.ne_of_lt (Nat.lt_of_lt_of_le this (Nat.le_add_right _ 1))) (kp c o e)
       have rel:KV (gB [] (ks.zip vs2)) (merged [] (ks.zip its2)):=(aJu w2 ks).merge .nil;have hz:(gB [] (ks.zip vs2)).length<=sizeLine:=by
        have:=kY (ks.zip vs2) [];rw[List.length_nil,List.length_zip] at this;rw[sizeLine_eq];lia
       obtain⟨rk,nd⟩:=QT (rr2) fY.nil List.nodup_nil;rw[k1] at rk;have sp:bU H1 (upd H1 h'.objs.size (.dK (gB [] (ks.zip vs2)))):=bU.upd hfr;have pv:D.aJ ((mV xs ys []).map (·.2))=true:=by
        have go:∀(a b:List D)(m:List (D×D)),D.aJ b=true->D.aJ (m.map (·.2))=true->D.aJ ((mV a b m).map (·.2))=true:=by
         intro a;induction a with
         |nil=>intro b m _ hm;cases b<;>exact hm
         |cons x a ih=>
          intro b m hb hm;cases b with
          |nil=>exact hm
          |cons y b=>
           rw[D.aJ,Bool.and_eq_true] at hb;refine ih b _ hb.2 ?_;have hp:=j9 (ds:=m) (k:=x) hb.1 hm;exact hp
        exact go xs ys [] hb4 rfl
       have rk2:∀{P:Addr->Prop},fY P (upd H1 h'.objs.size (.dK (gB [] (ks.zip vs2)))) (gB [] (ks.zip vs2)) (mV xs ys []):=λ{P}=>(rk.keep (.same sp) λ_ h=>h).bN pv
       refine⟨.ref h'.objs.size,_,I1.laid (a:=h'.objs.size) (t':=tk) (o:=.dK (gB [] (ks.zip vs2))) kall (by rw[zsz];lia) (WT hz (beq_eq_false_iff_ne.mpr ?_) rel (by simpa using dd)),rfl,?_⟩
       ·exact Ne.symm (Nat.ne_of_lt (Nat.lt_of_lt_of_le I1.big (by rw[zsz];exact Nat.le_add_right _ 5)))
       ·exact q _ _ (sm.trans sp) (.dK aH trivial rk2 nd) λ_=>.dK aH (sm.free hfr) rk2 nd
  ·exact bx h2
 ·exact bx h2
end
end
noncomputable def ZQ(x:Str):List D->Option Nat
 |[]=>some 0
 |.str y::r=>(ZQ x r).map λn=>(if y==x then n+1 else n)
 |_::_=>none
def HS:D->List D->Res D
 |.tup xs,[.str y]=>match ZQ y xs with|some n=>.ok (.int n)|none=>.bad
 |_,_=>.bad
noncomputable def aCq(x:Str):Value->Bool
 |.str y _=>y==x
 |_=>false
section
variable [KFrag]
theorem aEh:∀{zs:List V}{ds:List D}{its:List Value}{n:Nat},ZQ x ds=some n->bG P H zs ds->Vals zs its->its.countP (aCq x)=n/\∀u∈its,MeetsSeq.EqGives u (.str x t) (aCq x u)
 |_,_,_,_,h,.nil,.nil=>by cases h;exact⟨rfl,λu hu=>by cases hu⟩
 |_,d::ds,_,n,h,.cons r rt,.cons v vt=>by
  cases d with
  |str y=>
   obtain⟨m,h1,rfl⟩:=Option.map_eq_some_iff.mp h;obtain⟨i1,i2⟩:=aEh h1 rt vt;cases r.inv;obtain⟨tk,rfl⟩:=v;refine⟨?_,λu hu=>?_⟩
   ·rw[List.countP_cons,i1];show m+(if (y==x)=true then 1 else 0)=if (y==x)=true then m+1 else m
    split<;>rfl
   ·rcases List.mem_cons.mp hu with e|e
    ·subst e;exact eqGives_str y x tk t
    ·exact i2 u e
  |_=>cases h
def ZR(e:Value->Bool)(ht:IsTup s.heap l items)(he:∀y,y∈items->MeetsSeq.EqGives y x (e y))(h:R (.done (.ret (.int (items.toList.countP e:Nat) s.toks))) {s with toks:=s.toks+1}) :
  wpAny (model prog w) A (Builtin.«tuple.count» ⟨[.ref l,x],[]⟩) R E s:=by
 show wpAny _ _ (Builtin.Tuple.tupleItemsOf (.ref l) >>= _) _ _ s;refine wpAny_bind (tupleItemsOf_ ht ?_);refine wpAny_bind (wpAny_forIn_array' _ (λrest (b:Nat) s'=>s'=s/\(∀y,y∈rest->y∈items)/\b+rest.countP e=items.toList.countP e) _ ?_ ?_ _ _ ⟨rfl,λy hy=>by simpa using hy,by simp⟩)
 ·rintro y rest b s' ⟨rfl,hm,hb⟩;refine wpAny_bind (he y (hm y 0x2) prog w _ _ _ _ ?_);rw[List.countP_cons] at hb;cases hy:e y with
  |true=>
   rw[hy] at hb;exact wpAny_pure ⟨rfl,λz hz=>hm z (by simp[hz]),by rw[if_pos rfl] at hb;lia⟩
  |false=>
   rw[hy] at hb;exact wpAny_pure ⟨rfl,λz hz=>hm z (by simp[hz]),by rw[if_neg Bool.false_ne_true] at hb;lia⟩
 ·rintro b s' ⟨rfl,_,hb⟩;rw[List.countP_nil,Nat.add_zero] at hb;subst hb;show wpAny _ _ (retInt _) _ _ s';unfold retInt;exact wpAny_bind (wpAny_mkInt (wpAny_pure h))
section
variable {X:Cx}
theorem ZV:MtR X "tuple.count" (rm HS true):=by
 intro pins s σ H x xs v us Q I rv vr ⟨a,ds,d,ra,rs,h,k⟩;unfold HS at h;split at h
 ·rename_i ys y;split at h
  ·rename_i n hn;cases h;obtain⟨vv,uu,rfl,rfl,r,rk⟩:=j8 rs vr;obtain⟨l,zs,rfl,ee,rr⟩:=ra.iM;cases rv;cases r.inv;obtain⟨tk,rfl⟩:=rk;obtain⟨its,vr',pl⟩:=j5 I ee;obtain⟨c1,c2⟩:=aEh hn rr vr';obtain⟨⟨cls,dd,data,sl⟩,ho,hc,n',hd⟩:=id pl;refine wpAny_call (codeAny_call_builtin F.slot_tuple_count.plain F.entry_tuple_count (F.slot_tuple_count.check _ _ _ _ _ _ _ _ ⟨_,ho,hc⟩ (F.args_tuple_count_2 _ _) ?_));refine ZR (aCq y) pl (λw hw=>c2 w (by simpa using hw)) ?_;rw[show(its.toArray.toList.countP (aCq y))=n from by simpa using c1];exact⟨.int n,H,I.tok _,⟨_,rfl⟩,k.int⟩
  ·exact bx h
 ·exact bx h
def ZW(h:HS d ds=.ok r)(rp:Rep All H v d):tyV X.K "tuple" v H:=by
 unfold HS at h;split at h
 ·obtain⟨a,xs,rfl,e,_⟩:=rp.iM;exact .inr (.inl ⟨rfl,.inr ⟨_,e⟩⟩)
 ·exact bx h
def Iti(a:Addr)(o:Obj)(u:HO)(kvs:List (Key×V)):It where
 go:=λi H=>H a=some (.frz o u)/\∃p,kvs[i]?=some p
 yld:=λi H x H'=>∃b p,kvs[i]?=some p/\x=.ref b/\H b=none/\H'=upd H b (.tup [kV p.1,p.2])
 stop:=λi H=>H a=some (.frz o u)/\kvs.length<=i
def UT{K:PySem.W.Frag}{x1}(hne:a≠it)(hd:∀h:Heap,h.get? a=some o->h.DictAt (cC P w) a vs ep)(rel:KV kvs vs) :
  Turn P w K (.Tuple elts x1 tp) (Iti a o u kvs) [it] it (λi h=>∃ok ov,IsItemIter h it a i vs.length ep ok ov) where
 mem:=by simp
 obj:=λi h ⟨ok,ov,e⟩ b hb=>by
  have eb:b=it:=by simpa using hb
  subst eb;exact⟨_,e,λv z=>by cases z⟩
 keep:=λi h h' ⟨ok,ov,e⟩ k=>⟨ok,ov,k it 0x2 _ e⟩
 item:=by
  intro X hP hw hK hc i pins s σ H E I hf ⟨ok,ov,st⟩ hg;subst hP hw hK;obtain⟨ea,⟨k,x⟩,hx⟩:=hg;obtain⟨px,_⟩:=I.hok a _ ea;obtain⟨v,hv,rv⟩:=aE5 rel hx;refine wpAny_pyNext_items_item st (hd _ px) hv λkey h' hk st' ht hsz kp=>?_
  refine⟨_,rfl,wpAny_letOwnedTupleGo_items st' λh'' st'' sb=>?_⟩;have sb':Heap.SameBut it h' h'':=sb;have lt:s.heap.objs.size≠it:=Nat.ne_of_gt (Heap.lt_size st);have kk:∀c o,c∉[it]->s.heap.get? c=some o->h''.get? c=some o:=λc o hc e=>by
   have hc':c≠it:=by simpa using hc
   exact(sb'.2 c hc').trans (kp c o hc' e)
  refine⟨.ref s.heap.objs.size,upd H s.heap.objs.size (.tup [kV k,x]),K6 (s:=s) I kk hf (Nat.le_refl _) ?_,rfl,⟨_,_,hx,rfl,I.hok.fresh (Nat.le_refl _),rfl⟩,⟨_,_,st''⟩,λc hc=>?_⟩
  ·exact⟨by show 2<=sizeLine;rw[sizeLine_eq];decide,[key,v],.cons (aJt hk) (.cons rv .nil),⟨_,(sb'.2 _ lt).trans ht,rfl,0,rfl⟩⟩
  ·have hn:=(hf c hc).1;have hc':c=it:=by simpa using hc
   subst hc';rw[aR (Ne.symm lt)];exact hn
 done:=by
  intro X hP hw hK hc i pins s σ H E I hf ⟨ok,ov,st⟩ hg;subst hP hw hK;obtain⟨ea,hx⟩:=hg;obtain⟨px,_⟩:=I.hok a _ ea;obtain⟨f0,f1,f2,f3,f4,f5⟩:=hf it 0x2;have hl:kvs.length=vs.length:=Paired.length rel;exact wpAny_pyNext_items_end (I.ok.hd hc) st (hd _ px) (List.getElem?_eq_none_iff.mpr 0x1) λh' eb=>⟨rfl,I.turned (λb o hb e=>eb b o hb e) f0 f1 f3 f4 f5⟩
 self:=λ_ _ _ _ _ ⟨ok,ov,st⟩ h=>PySem.W.kcp_self st h
def aCr:MtR X "dict.items" (λx xs H Q=>∃a kvs,x=.ref a/\xs=[]/\DV H a kvs/\∀vw,H vw=none->Q (.ref vw) (upd H vw (.ext λh=>h.IsItemsView vw a))):=by
 intro pins s σ H x xs v us Q I rx rxs ⟨a,kvs,e1,e2,hu,q⟩;subst e1 e2;cases rx;cases rxs;obtain⟨z,hs,vs,rel,dd⟩:=YJ I hu;have hfr:H s.heap.objs.size=none:=I.hok.fresh (Nat.le_refl _);refine call_meetsIn PySem.F.slot_dict_items dd.typeIs PySem.F.entry_dict_items (PySem.F.args_dict_items_1 _) (meets_dict_items (cC X.prog X.w) a hs) ⟨⟨vs,dd⟩,?_⟩;refine⟨.ref s.heap.objs.size,_,I.laid (λb o e=>Heap.get?_push_of_some _ e) (Nat.le_refl _) ?_,rfl,q _ hfr⟩;have hg:=Heap.get?_push_size s.heap (o:={cls:=.type "dict_items",data:=.fields #[.ref a]}) rfl;exact⟨⟨_,hg,rfl,rfl⟩,⟨_,hg⟩,λh1 h2 ⟨o,e,r⟩ k=>⟨o,k o e,r⟩⟩
theorem aCs{x1}{i:Nat}{np ap cp:Pos}(hN:X.N[i]?=some x)(hv:Vis X.env.scope x)(hd:nDb x:=by decide)(hcd:nCd x:=by decide)(hbase:attributeBase (.Name x np) "items" X.env (eval (.Name x np) X.env)=eval (.Name x np) X.env:=by rfl)(hline:(ap.endLine==cp.line)=true:=by rfl) :
  PI X (.Tuple elts x1 tp) (.Call (.Attribute (.Name x np) "items" ap) [] [] cp) (λσ H R=>∃a kvs u,σ[i]?=some (some (.ref a))/\DV H a kvs/\H a=some u/\∀o H1,bU H H1->R (Iti a o u kvs) (upd H1 a (.frz o u))):=by
 intro pins s σ H R I ⟨a,kvs,u,hσ,hu,hua,q⟩;have ty:tyV X.K "dict" (.ref a) H:=by
  rcases hu with h|⟨_,h⟩
  ·exact .inr (.inr (.inl ⟨rfl,.inl ⟨_,h⟩⟩))
  ·exact .inr (.inr (.inl ⟨rfl,.inr ⟨_,h⟩⟩))
 have hp:=FJ PySem.F.plainAttrs_dict PySem.F.slot_dict_items PySem.F.type_dict_items aCr (aW hN hv hd hcd) hbase hline;refine thn (hp pins s σ H (λv H1=>∃vw,v=.ref vw/\H1 vw=some (.ext λh=>h.IsItemsView vw a)/\bU H H1) I ⟨.ref a,hσ,ty,a,kvs,rfl,rfl,hu,λvw hvw=>⟨vw,rfl,aH,bU.upd hvw⟩⟩) λy s1 ⟨v,H1,I1,r1,vw,e,evw,sm⟩=>?_
 subst e;cases r1;have hu1:DV H1 a kvs:=by
  rcases hu with h|⟨h0,h⟩
  ·exact .inl (sm _ _ h)
  ·exact .inr ⟨h0,sm _ _ h⟩
 obtain⟨z,hs,vs,rel,dd⟩:=YJ I1 hu1;obtain⟨ep,da⟩:=dd.dictAt;obtain⟨o,es,ho,r⟩:=id da;have hda:∀h:Heap,h.get? a=some o->h.DictAt (cC X.prog X.w) a vs ep:=λh e=>⟨o,es,e,r⟩
 obtain⟨pv,_⟩:=I1.hok vw _ evw;obtain⟨u',hu2,fu⟩:=aJs I1 hu1 ho;rw[sm _ _ hua] at hu2;cases hu2;have If:Inv X pins σ (upd H1 a (.frz o u)) s1:=I1.write (aJr hu1) (.inl rfl) (λ_ _ _ q=>q) ⟨o,ho⟩ ⟨ho,fu _ _ ho⟩;refine wpAny_pyIter_items pv da ?_;have I2:Inv X pins σ (upd H1 a (.frz o u)) {s1 with heap:=s1.heap.push {cls:=.type "dict_itemiterator",data:=.fields #[.none,.bool false,.ref a,.int 0 0,.int vs.length 0,.int ep 0,.none,.none]}}:=If.kept λb o e=>Heap.get?_push_of_some _ e
 refine⟨s1.heap.objs.size,[s1.heap.objs.size],λi h=>∃ok ov,IsItemIter h s1.heap.objs.size a i vs.length ep ok ov,Iti a o u kvs,_,rfl,I2,UT (Nat.ne_of_lt (Heap.lt_size ho)) hda rel,⟨_,_,Heap.get?_push_size _ rfl⟩,λb hb=>?_,q o H1 sm⟩;have e:b=s1.heap.objs.size:=by simpa using hb
 subst e;exact If.aIr (Nat.le_refl _) (If.hok.fresh (Nat.le_refl _))
end
end
open PySem.W
structure Cn where
 c:Int
 p:Int
 d:Int
noncomputable def Cn.use(k:Cn)(u z:Int):Cn:=if u=0 then {k with d:=k.d+z} else {k with p:=k.p+(u-1)*z}
noncomputable def Cn.call(k:Cn):Cn:={k with c:=k.c+1}
noncomputable def prF(hd mk rl:List (D×D))(m:Int)(k:Cn):List (Str×D):=[("heads",.dct hd),("makers",.dct mk),("rules",.dct rl),("most",.int m),("calls",.int k.c),("copies",.int k.p),("drops",.int k.d)]
noncomputable def prV(h1 h2 h3:V)(m:Int)(k:Cn):List (Str×V):=[("heads",h1),("makers",h2),("rules",h3),("most",.int m),("calls",.int k.c),("copies",.int k.p),("drops",.int k.d)]
def nZ(ws:List D):List (D×D)->Cn->Option Cn
 |[],k=>some k
 | (.str x,.tup [_,_,.int z])::r,k=>match ZQ x ws with
  |some n=>if decide (n<1000000) then nZ ws r (k.use n z) else none
  |none=>none
 |_::_,_=>none
noncomputable def ZX:Res (List D×List (D×D)×Cn):=.err "Spent" [.exc "Spent" []]
def aB5(rl:List (D×D))(m:Int)(k:Cn)(tk:D):List D->Res (List D×List (D×D)×Cn)
 |.tup [w0,.tup xs,z0]::more=>match getD (.dct rl) (.tup [tk,w0]) with
  |.ok (.tup [r0,r1,.tup own,.tup ws])=>if decide (xs.length+more.length<=1000)&&(D.aJ xs&&(D.aJ more&&D.aJ ws)) then (match lH [.tup own,.lst (xs++more)] with
   |.ok (.dct kn)=>(match nZ ws kn k.call with
    |some k'=>if k'.c+k'.p+k'.d > m then ZX else .ok (ws,kn,k')
    |none=>.bad)
   |_=>.bad) else .bad
  |_=>.bad
 |_=>.bad
section
variable [KFrag]
def aMk(S:Addr->Prop)(H H':Hp):Prop:=∀b o,H b=some o->¬S b->H' b=some o
inductive EL(H:Hp):List (Option V)->List D->Prop
 |nil {σ:List (Option V)}:EL H σ []
 |skip {o:Option V} {σ:List (Option V)} {ρ:List D}:EL H σ ρ->EL H (o::σ) (.uD::ρ)
 |cons {v:V} {d:D} {σ:List (Option V)} {ρ:List D}:Rep All H v d->EL H σ ρ->EL H (some v::σ) (d::ρ)
theorem EL.er:∀{σ:List (Option V)}{ρ:List D},EL H σ ρ->ER H σ ρ
 |_,_,.nil=>λi hi=>absurd 0x2 hi
 |_,_,.skip t=>λi hi=>match i,hi with
  |0,hi=>absurd rfl hi
  |i+1,hi=>EL.er t i hi
 |_,_,.cons r t=>λi hi=>match i,hi with
  |0,_=>⟨_,rfl,r⟩
  |i+1,hi=>EL.er t i hi
def aNq{K:PySem.W.Frag}{base:Heap}{x qual:Str}{st:Stmt}{f:Addr}{fd:FuncData}{N ps:List Str}{k:Nat}{sp:Sp}(F:Fun K x qual st f fd)(S:bY N ps (aL st))(len:∀vs H Q E,sp vs H Q E->vs.length=ps.length)
 (hbody:∀(cdv:Value) (A:Around) (outer:List Env) (s:Shared) (H:Hp) (vs:List V) (Q:VK) (E:XK),lX k (A.deeper (envOfC qual (aL st) s.heap.objs.size f cdv))->sp vs H Q E->
   ∃t,PSs (JW (CX2 P w) P w K mg base N qual (aL st) f cdv A outer s H E) (cR st) t/\t {nx:=λ_ H'=>Q .non H',rt:=Q} (start N vs) H):lR P w K mg base (CX2 P w) (k+1) f fd ps sp:=by
 obtain⟨oc,od,kV,doc,pm,an,cdv,ct,osl,rfl,lk,hcd⟩:=F.ex;exact aFi lk hcd S len λA outer s H vs Q E hr hsp=>hbody cdv A outer s H vs Q E hr hsp
def aOq(t:TS):TS:=λD σ H=>∃ad u0,H ad=some u0/\PN u0=true/\t {D with nx:=λσ' H'=>∃o u,H' ad=some (.frz o u)/\D.nx σ' (upd H' ad u)} σ H
def aKi{st:Stmt}(h:PS X st t):PS X st (aOq t):=by
 intro pins s σ H D I ⟨ad,u0,h1,h2,h3⟩;have hn:∀o u,X.H₀ ad≠some (.frz o u):=λo u z=>by
  have:=I.base.frzs ad o u z;rw[h1] at this;cases this;cases h2
 refine wpAny_mono (h pins s σ H _ I h3) (λf s' q=>?_) λ_ _ z=>z
 cases f with
 |next=>
  obtain⟨σ',H',I',o,u,e,q⟩:=q;exact⟨σ',_,aC7 I' e hn,q⟩
 |brk=>exact q
 |cont=>exact q
 |ret v=>exact q
section
variable {K:PySem.W.Frag} {C CF CS:Addr} {l:List (Str×Srx)}
def tCU(K:PySem.W.Frag):TS:=aI9 (tB (aMr (gK 1) (tC (.int 0))))
 (aIa K (gK 0) (aI8 (OJ K (gK 0) "drops") (gK 2)) "drops")
 (aIa K (gK 0) (aI8 (OJ K (gK 0) "copies") (aOf (aMp (gK 1) (tC (.int 1))) (gK 2))) "copies")
def aIf(C:Addr):Sp:=λvs H Q _=>∃(a dx:Addr)(h1 h2 h3:V)(m:Int)(k:Cn)(u z:Int),vs=[.ref a,.int u,.int z]/\H a=some (.ins C dx (prV h1 h2 h3 m k))/\(-(2 ^ 64)<u-1/\u-1<2 ^ 64)/\Q .non (upd H a (.ins C dx (prV h1 h2 h3 m (k.use u z))))
def ZZ:uI "drops" (.int y) (prV h1 h2 h3 m k)=prV h1 h2 h3 m {k with d:=y}:=rfl
def UV:uI "copies" (.int y) (prV h1 h2 h3 m k)=prV h1 h2 h3 m {k with p:=y}:=rfl
def Z0:uI "calls" (.int y) (prV h1 h2 h3 m k)=prV h1 h2 h3 m {k with c:=y}:=rfl
def aGy(hN:N.length=3)(cl:Cls K C)(n1:cD K C "drops")(n2:cD K C "copies")(h:aIf C vs H Q E):tCU K {nx:=λ_ H'=>Q .non H',rt:=Q} (L2.start N vs) H:=by
 obtain⟨a,dx,h1,h2,h3,m,k,u,z,rfl,ha,hu,q⟩:=h;have hst:L2.start N [V.ref a,.int u,.int z]=[some (.ref a),some (.int u),some (.int z)]:=by
  unfold L2.start;rw[hN];rfl
 rw[hst];refine⟨.int u,rfl,u,0,rfl,rfl,_,rfl,?_⟩;dsimp only;by_cases hz:u=0
 ·rw[if_pos (decide_eq_true hz)];unfold Cn.use at q;rw[if_pos hz] at q;refine⟨.ref a,rfl,a,C,dx,_,.int k.d,rfl,ha,cl,n1,rfl,.int z,rfl,k.d,z,rfl,rfl,.ref a,rfl,a,C,dx,_,rfl,ha,cl,n1,by show 7<1000;decide,?_⟩;rw[ZZ];exact q
 ·rw[if_neg (by simp[hz])];unfold Cn.use at q;rw[if_neg hz] at q;refine⟨.ref a,rfl,a,C,dx,_,.int k.p,rfl,ha,cl,n2,rfl,.int u,rfl,u,1,rfl,rfl,.int z,rfl,u-1,z,rfl,rfl,hu,k.p,(u-1)*z,rfl,rfl,.ref a,rfl,a,C,dx,_,rfl,ha,cl,n2,by show 7<1000;decide,?_⟩;rw[UV];exact q
def FrA(CF:Addr)(H:Hp)(fr:Addr)(ws:List D)(i:Nat)(kn:List (D×D)):Prop:=∃dx w1 w3,H fr=some (.ins CF dx [("words",w1),("left",.int i),("known",w3)])/\Rep All H w1 (.tup ws)/\Rep All H w3 (.dct kn)
def aQ2(CF CS:Addr)(a:Addr)(hd mk rl:List (D×D))(m:Int)(H:Hp)(Q:VK)(E:XK):Res (List D×List (D×D)×Cn)->Prop
 |.ok (ws,kn,k')=>∀H' x,H x=none->l_ a H H'->Rep All H' (.ref a) (.ins "PlainRun" (prF hd mk rl m k'))->FrA CF H' x ws ws.length kn->Q (.ref x) H'
 |.err _ _=>∀H',l_ a H H'->E (.ref CS) none H'
 |.bad=>False
def okR(hd mk rl:List (D×D)):Prop:=D.aJ (hd.map (·.2))=true/\D.aJ (mk.map (·.2))=true/\D.aJ (rl.map (·.2))=true
def Z1(CF CS:Addr):Sp:=λvs H Q E=>∃a vt vp hd mk rl m k tk ps,vs=[.ref a,vt,vp]/\okR hd mk rl/\tk.pure=true/\D.aJ ps=true/\Rep All H (.ref a) (.ins "PlainRun" (prF hd mk rl m k))/\Rep All H vt tk/\Rep All H vp (.lst ps)/\aQ2 CF CS a hd mk rl m H Q E (aB5 rl m k tk ps)
def cf1:FE:=b2 getD eY cG
def cf2:FE:=b2 getD (aCk "PlainRun" "rules" nJ) (fW (aB fD (aB (b2 getD c7 cG) aQ)))
def cf3:FE:=aV lH (aB (b2 getD d7 iW) (aB (b2 (aU .add) (aV aBr (aB (b2 getD c7 cP) aQ)) (nC eY (eZ cP) fX)) aQ))
def aNr:FE:=bM HS (b2 getD d7 h_) (aB jR aQ)
def aNs:FE:=b2 getD jN iW
def cf7:FE:=b2 getD d7 h_
def aQ3(i:Nat):TI:=λσ H R=>∃a kvs u,σ[i]?=some (some (.ref a))/\DV H a kvs/\H a=some u/\∀o H1,bU H H1->R (Iti a o u kvs) (upd H1 a (.frz o u))
def aOr(K:PySem.W.Frag)(C CS:Addr)(l:List (Str×Srx))(E:XK):TS:=
 xN (zB (gE cf1 false) (fZ 3)) (xN (zB (gE cf2 false) (fZ 4)) (xN (zB (gE cf3 true) (fZ 5))
  (xN (aIa K (gK 0) (aI8 (OJ K (gK 0) "calls") (tC (.int 1))) "calls")
   (xN (aOq (aOg (aQ3 5) (aM7 K 2 (R5 (fZ 6) (R5 (fZ 7) aM6))) (y_ (SX C "count_uses" (aIf C) [] E0 (gK 0) (dG (gE aNr true) (dG (gE aNs false) vU))))))
    (xN (aI9 (tB (tGt (aI8 (aI8 (OJ K (gK 0) "calls") (OJ K (gK 0) "copies")) (OJ K (gK 0) "drops")) (OJ K (gK 0) "most"))) (λ_ _ H=>E (.ref CS) none H) aF8)
     (aIq (tMk K "Frame" l 2 (dG (gE cf7 false) (dG (gK 5) vU)))))))))
def aKj:cf1 [.uD,.uD,.lst (d::ps)]=.ok d:=by
 show Res.ofOpt ((ixD (ps.length+1) 0).bind λj=>(d::ps)[j]?)=_;unfold ixD;rw[if_pos 0x1,if_pos 0x1];rfl
def aQ4:getD (.tup (a::r)) (.int 0)=.ok a:=by
 show Res.ofOpt ((ixD (r.length+1) 0).bind λj=>(a::r)[j]?)=_;unfold ixD;rw[if_pos 0x1,if_pos 0x1];rfl
def Z2{d:D}(h:d.pure=true):d≠.uD:=λz=>by subst z;cases h
def bV(h:ρ.getD i .uD=d)(hn:d≠.uD):cO i ρ=.ok d:=by
 unfold cO;rw[h];cases d<;>first|rfl|exact absurd rfl hn
def aKk(ht:tk.pure=true)(h:getD (.dct rl) (.tup [tk,w0])=.ok d):cf2 [.ins "PlainRun" (prF hd mk rl m k),tk,u,.tup (w0::r)]=.ok d:=by
 have e1:aCk "PlainRun" "rules" nJ [.ins "PlainRun" (prF hd mk rl m k),tk,u,.tup (w0::r)]=.ok (.dct rl):=rfl;have e2:b2 getD c7 cG [.ins "PlainRun" (prF hd mk rl m k),tk,u,.tup (w0::r)]=.ok w0:=aQ4;have e3:cO 1 [.ins "PlainRun" (prF hd mk rl m k),tk,u,.tup (w0::r)]=.ok tk:=bV rfl (Z2 ht);exact aK e1 (fB (aD e3 (aD e2 rfl)) (by show 2<=lim;rw[bF];lia)) h
def aKl{w0 z0 r0 r1 d:D}(hl:xs.length+more.length<=1000)(hx:D.aJ xs=true)(hm:D.aJ more=true)(hp0:(D.tup [w0,.tup xs,z0]).pure=true)(h:lH [.tup own,.lst (xs++more)]=.ok d):cf3 [a,b,.lst (.tup [w0,.tup xs,z0]::more),.tup [w0,.tup xs,z0],.tup (r0::r1::.tup own::r)]=.ok d:=by
 generalize hρ:[a,b,.lst (.tup [w0,.tup xs,z0]::more),.tup [w0,.tup xs,z0],.tup (r0::r1::.tup own::r)]=ρ;have e1:b2 getD d7 iW ρ=.ok (.tup own):=by
  subst hρ;show Res.ofOpt ((ixD (r.length+1+1+1) 2).bind λj=>(r0::r1::.tup own::r)[j]?)=_;unfold ixD;rw[if_pos 0x1,if_pos 0x1];rfl
 have e2:b2 getD c7 cP ρ=.ok (.tup xs):=by subst hρ;rfl
 have e3:aV aBr (aB (b2 getD c7 cP) aQ) ρ=.ok (.lst xs):=bO (aD e2 rfl) (by
  show(if D.aJ xs=true then Res.ok (D.lst xs) else .bad)=_;rw[if_pos hx])
 have e4:nC eY (eZ cP) fX ρ=.ok (.lst more):=by
  subst hρ;show(if D.aJ (.tup [w0,.tup xs,z0]::more)=true then Res.ok (D.lst (cutD (.tup [w0,.tup xs,z0]::more) (some 1) none)) else .bad)=_;rw[if_pos (by rw[D.aJ,hp0,hm];rfl)];have:cutD (D.tup [w0,.tup xs,z0]::more) (some 1) none=more:=by
   show((D.tup [w0,.tup xs,z0]::more).drop ((min (1:Int) ((more.length+1:Nat):Int)).toNat)).take ((more.length+1)-(min (1:Int) ((more.length+1:Nat):Int)).toNat)=more;have:(min (1:Int) ((more.length+1:Nat):Int)).toNat=1:=by lia
   rw[this,List.drop_succ_cons,List.drop_zero,List.take_of_length_le 0x1]
  rw[this]
 exact bO (aD e1 (aD (aK e3 e4 (by
  show(if (decide (xs.length+more.length<=lim)&&D.aJ xs&&D.aJ more)=true then Res.ok (D.lst (xs++more)) else .bad)=_;rw[if_pos (by rw[hx,hm,decide_eq_true (by rw[bF];lia)];rfl)])) rfl)) h
def aGz{r0 r1 r2:D}(h:ZQ x ws=some n):aNr [a,b,c,d,.tup [r0,r1,r2,.tup ws],e,.str x,g]=.ok (.int n):=by
 show(match ZQ x ws with|some n=>Res.ok (D.int n)|none=>.bad)=_;rw[h]
def aH0{r0 r1:D}:aNs [a,b,c,d,e,f,g,.tup [r0,r1,.int z]]=.ok (.int z):=rfl
def aKm{r0 r1 r2:D}:cf7 [a,b,c,d,.tup [r0,r1,r2,.tup ws]]=.ok (.tup ws):=rfl
def BJ(h:aB5 rl m k tk ps=res)(hne:res≠.bad):∃w0 xs z0 more r0 r1 own ws kn k',ps=.tup [w0,.tup xs,z0]::more/\getD (.dct rl) (.tup [tk,w0])=.ok (.tup [r0,r1,.tup own,.tup ws])/\xs.length+more.length<=1000/\D.aJ xs=true/\D.aJ more=true/\D.aJ ws=true/\lH [.tup own,.lst (xs++more)]=.ok (.dct kn)/\nZ ws kn k.call=some k'/\res=if k'.c+k'.p+k'.d > m then ZX else .ok (ws,kn,k'):=by
 unfold aB5 at h;split at h
 ·rename_i w0 xs z0 more;split at h
  ·rename_i r0 r1 own ws hg;split at h
   ·rename_i hb;simp only[Bool.and_eq_true,decide_eq_true_eq] at hb;split at h
    ·rename_i kn hz;split at h
     ·rename_i k' hu;exact⟨w0,xs,z0,more,r0,r1,own,ws,kn,k',rfl,hg,hb.1,hb.2.1,hb.2.2.1,hb.2.2.2,hz,hu,h.symm⟩
     ·exact absurd h.symm hne
    ·exact absurd h.symm hne
   ·exact absurd h.symm hne
  ·exact absurd h.symm hne
 ·exact absurd h.symm hne
def HW(h:nZ ws (p::r) k=some k'):∃x w y z n,p=(.str x,.tup [w,y,.int z])/\ZQ x ws=some n/\n<1000000/\nZ ws r (k.use n z)=some k':=by
 obtain⟨a,b⟩:=p;have key:∀a b,nZ ws ((a,b)::r) k=some k'->∃x w y z,a=.str x/\b=.tup [w,y,.int z]:=by
  intro a b h;cases a with
  |str x=>
   cases b with
   |tup l=>
    rcases l with _|⟨w,_|⟨y,_|⟨q,_|_⟩⟩⟩
    ·cases h
    ·cases h
    ·cases h
    ·cases q with
     |int z=>exact⟨x,w,y,z,rfl,rfl⟩
     |_=>cases h
    ·cases q<;>cases h
   |_=>cases h
  |_=>cases h
 obtain⟨x,w,y,z,rfl,rfl⟩:=key a b h;have h:(match ZQ x ws with|some n=>if decide (n<1000000) then nZ ws r (k.use n z) else none|none=>none)=some k':=h;split at h
 ·rename_i n hn;split at h
  ·rename_i hb;exact⟨x,w,y,z,n,rfl,hn,of_decide_eq_true hb,h⟩
  ·cases h
 ·cases h
theorem Q5:∀{kn:List (D×D)}{k k':Cn},nZ ws kn k=some k'->kn.all (λp=>!isTup p.1)=true
 |[],_,_,_=>rfl
 |p::r,_,_,h=>by
  obtain⟨x,w,y,z,n,rfl,_,_,h⟩:=HW h;rw[List.all_cons,Q5 h];rfl
theorem fY.at_:∀{kvs:List (Key×V)}{ds:List (D×D)}{i:Nat}{p:Key×V},fY P H kvs ds->kvs[i]?=some p->∃d,ds[i]?=some (kD p.1,d)/\Rep P H p.2 d
 |_,_,_,_,.nil,h=>by simp at h
 |_,_,0,_,.cons r t,h=>by simp at h;subst h;exact⟨_,rfl,r⟩
 |_,_,i+1,p,.cons r t,h=>by
  obtain⟨d,h1,h2⟩:=fY.at_ t (by simpa using h);exact⟨d,by simpa using h1,h2⟩
def fY.len:∀{kvs:List (Key×V)}{ds:List (D×D)},fY P H kvs ds->kvs.length=ds.length
 |_,_,.nil=>rfl
 |_,_,.cons r t=>by rw[List.length_cons,List.length_cons,fY.len t]
def aKn(r:Rep P H v (.dct kn))(hb:kn.all (λp=>!isTup p.1)=true):∃kd kvs u,v=.ref kd/\P kd/\DV H kd kvs/\H kd=some u/\PN u=true/\fY P H kvs kn/\(kvs.map (·.1)).Nodup:=by
 cases r with
 |dK e p rk n=>exact⟨_,_,_,rfl,p,.inl e,e,rfl,rk,n⟩
 |dT e p rt n=>
  cases rt with
  |nil=>exact⟨_,[],_,rfl,p,.inr ⟨rfl,e⟩,e,rfl,.nil,by simp⟩
  |cons r t=>simp[isTup] at hb
def DV.rep(h:DV H kd kvs)(p:P kd)(r:fY P H kvs kn)(n:(kvs.map (·.1)).Nodup):Rep P H (.ref kd) (.dct kn):=by
 rcases h with h|⟨rfl,h⟩
 ·exact .dK h p r n
 ·cases r;exact .dT h p .nil 0x2
def Q6(h:lH [.tup own,.lst ys]=.ok (.dct kn)):D.aJ (kn.map (·.2))=true:=by
 have h:(if decide (own.length<=1000)&&decide (ys.length=own.length)&&own.all gR&&D.aJ ys then Res.ok (D.dct (mV own ys [])) else .bad)=.ok (.dct kn):=h;split at h
 ·rename_i hb;cases h;simp only[Bool.and_eq_true,decide_eq_true_eq] at hb;have go:∀(a b:List D)(m:List (D×D)),D.aJ b=true->D.aJ (m.map (·.2))=true->D.aJ ((mV a b m).map (·.2))=true:=by
   intro a;induction a with
   |nil=>intro b m _ hm;cases b<;>exact hm
   |cons x a ih=>
    intro b m hb hm;cases b with
    |nil=>exact hm
    |cons y b=>
     rw[D.aJ,Bool.and_eq_true] at hb;exact ih b _ hb.2 (j9 hb.1 hm)
  exact go _ _ [] hb.2 rfl
 ·exact bx h
def BK(h:D.aJ (kn.map (·.2))=true):okF (.dct kn)=true:=by
 unfold okF;rw[show inner (.dct kn)=D.aJ (kn.map (·.2)) from rfl,h];simp
theorem BL:∀{rl:List (D×D)},D.aJ (rl.map (·.2))=true->cA rl q=some d->d.pure=true
 |[],_,z=>by cases z
 | (p1,p2)::r,hp,z=>by
  rw[List.map_cons,D.aJ,Bool.and_eq_true] at hp;rw[cA] at z;split at z
  ·cases z;exact hp.1
  ·exact BL hp.2 z
def Z3(h:D.aJ (rl.map (·.2))=true)(hg:getD (.dct rl) q=.ok d):d.pure=true:=by
 have e:getD (.dct rl) q=if keyOk q then Res.ofOpt (cA rl q) else .bad:=by cases q<;>rfl
 rw[e] at hg;split at hg
 ·cases hl:cA rl q with
  |none=>rw[hl] at hg;exact bx hg
  |some y=>
   rw[hl] at hg;cases hg;exact BL h hl
 ·exact bx hg
def lJ(hK:KFrag.K=K)(hC:nsIn K mainGlobals "PlainRun"=some (some (.ref C)))(r:Rep All H (.ref a) (.ins "PlainRun" (prF hd mk rl m k))):∃dx h1 h2 h3,H a=some (.ins C dx (prV h1 h2 h3 m k))/\Rep All H h1 (.dct hd)/\Rep All H h2 (.dct mk)/\Rep All H h3 (.dct rl):=by
 cases r with
 |ins hn hx rf=>
 rw[hK,hC] at hn;cases hn;cases rf with
 |cons r1 rf=>
 cases rf with
 |cons r2 rf=>
 cases rf with
 |cons r3 rf=>
 cases rf with
 |cons r4 rf=>
 cases rf with
 |cons r5 rf=>
 cases rf with
 |cons r6 rf=>
 cases rf with
 |cons r7 rf=>
 cases rf;cases r4.inv;cases r5.inv;cases r6.inv;cases r7.inv;exact⟨_,_,_,_,hx,r1,r2,r3⟩
def wU(hK:KFrag.K=K)(hC:nsIn K mainGlobals "PlainRun"=some (some (.ref C)))(hx:H a=some (.ins C dx (prV h1 h2 h3 m k)))(r1:Rep P H h1 (.dct hd))(r2:Rep P H h2 (.dct mk))(r3:Rep P H h3 (.dct rl)):Rep P H (.ref a) (.ins "PlainRun" (prF hd mk rl m k)):=
 .ins (by rw[hK];exact hC) hx (.cons r1 (.cons r2 (.cons r3 (.cons (.int _) (.cons (.int _) (.cons (.int _) (.cons (.int _) .nil)))))))
def aCt{r0 r1 r2:D}{kn:List (D×D)}{kvs:List (Key×V)}{o:Obj}{u:HO}{Hf:Hp}{D':Ends}{o6 o7:Option V}(cl:Cls K C)
 (ha:Hf a=some (.ins C dx (prV h1 h2 h3 m k)))(hkd:Hf kd=some (.frz o u))(hr:Rep All Hf v4 (.tup [r0,r1,r2,.tup ws]))(pr:(D.tup [r0,r1,r2,.tup ws]).pure=true)(rk:fY All Hf kvs kn)(pk:D.aJ (kn.map (·.2))=true)(hu:nZ ws kn k=some k')
 (q:∀o6 o7 H',l_ a Hf H'->H' a=some (.ins C dx (prV h1 h2 h3 m k'))->D'.nx [some (.ref a),some vt,some vp,some v3,some v4,some (.ref kd),o6,o7] H') :
  ∃W:Nat->Nat->L2.St->Hp->Prop,(∃n,W 0 n [some (.ref a),some vt,some vp,some v3,some v4,some (.ref kd),o6,o7] Hf)/\∀i n σ H,W i n σ H->
   ((Iti kd o u kvs).stop i H/\D'.nx σ H)\/((Iti kd o u kvs).go i H/\∃N:L2.St->Hp->Prop,(∀σ' H',N σ' H'->∃n',n'<n/\W (i+1) n' σ' H')/\∀x H',(Iti kd o u kvs).yld i H x H'->aM7 K 2 (R5 (fZ 6) (R5 (fZ 7) aM6)) x σ H' λσ2 H2=>y_ (SX C "count_uses" (aIf C) [] E0 (gK 0) (dG (gE aNr true) (dG (gE aNs false) vU))) {D' with nx:=N,ct:=N,bk:=D'.nx} σ2 H2):=by
 have nka:kd≠a:=oH hkd ha 0x7;refine⟨λi n σ H=>n=kvs.length-i/\i<=kvs.length/\(∃o6 o7,σ=[some (.ref a),some vt,some vp,some v3,some v4,some (.ref kd),o6,o7])/\l_ a Hf H/\∃ki,H a=some (.ins C dx (prV h1 h2 h3 m ki))/\nZ ws (kn.drop i) ki=some k',⟨kvs.length,rfl,Nat.zero_le _,⟨_,_,rfl⟩,λ_ _ e _=>e,k,ha,hu⟩,?_⟩;rintro i n σ H ⟨rfl,hi,⟨o6,o7,rfl⟩,b,ki,hai,hui⟩;have lk:=rk.len;rcases Nat.lt_or_ge i kvs.length with hlt|hge
 ·refine .inr ?_;have e:kvs[i]?=some kvs[i]:=List.getElem?_eq_getElem hlt;obtain⟨d,e2,rd⟩:=rk.at_ e;obtain⟨hlt2,e3⟩:=List.getElem?_eq_some_iff.mp e2;rw[List.drop_eq_getElem_cons hlt2,e3] at hui;obtain⟨x,w,y,z,c,ep,hc,hc2,hui2⟩:=HW hui;have ek:kD kvs[i].1=.str x:=congrArg (·.1) ep;have ed:d=.tup [w,y,.int z]:=congrArg (·.2) ep;subst ed;have pd:(D.tup [w,y,.int z]).pure=true:=bZ.mp pk _ (List.mem_map.mpr ⟨_,List.mem_of_getElem? e2,rfl⟩);have ekV:kV kvs[i].1=.str x:=by
   generalize kvs[i].1=key at ek;cases key with
   |inl j=>cases ek
   |inr t=>cases ek;rfl
  refine⟨⟨b _ _ hkd nka,_,e⟩,λσ' H'=>(∃o6 o7,σ'=[some (.ref a),some vt,some vp,some v3,some v4,some (.ref kd),o6,o7])/\l_ a Hf H'/\∃ki,H' a=some (.ins C dx (prV h1 h2 h3 m ki))/\nZ ws (kn.drop (i+1)) ki=some k',λσ' H' ⟨n1,n2⟩=>⟨kvs.length-(i+1),by lia,rfl,hlt,n1,n2⟩,λx' H2 hy=>?_⟩;obtain⟨bb,p,hp,rfl,hb,rfl⟩:=hy;rw[e] at hp;cases hp;have sm:bU H (upd H bb (.tup [kV kvs[i].1,kvs[i].2])):=bU.upd hb;have us:xU Hf (upd H bb (.tup [kV kvs[i].1,kvs[i].2])):=λc oc ec uc=>sm _ _ (b c oc ec λz=>by
   subst z;rw[ha] at ec;cases ec;cases uc)
  refine⟨bb,[kV kvs[i].1,kvs[i].2],rfl,.inl (.of aH),rfl,_,_,rfl,_,_,rfl,rfl,?_⟩;show y_ _ _ [some (.ref a),some vt,some vp,some v3,some v4,some (.ref kd),some (kV kvs[i].1),some kvs[i].2] _;rw[ekV];have hr2:=hr.fL (P':=All) us pr;have rd2:=rd.fL (P':=All) us pd;rw[ekV] at sm hr2 rd2;refine⟨.ref a,rfl,a,dx,_,rfl,sm _ _ hai,rfl,[.uD,.uD,.uD,.uD,.tup [r0,r1,r2,.tup ws],.uD,.str x,.uD],.int c,(EL.skip (.skip (.skip (.skip (.cons hr2 (.skip (.cons (.str x) (.skip .nil)))))))).er,aGz hc,λv8 H3 s3 r8 _=>?_⟩;refine⟨[.uD,.uD,.uD,.uD,.uD,.uD,.uD,.tup [w,y,.int z]],.int z,(EL.skip (.skip (.skip (.skip (.skip (.skip (.skip (.cons (rd2.same s3) .nil)))))))).er,aH0,λv9 H4 s4 r9 _=>?_⟩;cases r8.inv;cases r9.inv;have ha4:=s4 _ _ (s3 _ _ (sm _ _ hai));refine⟨a,dx,h1,h2,h3,m,ki,c,z,rfl,ha4,⟨by lia,by lia⟩,⟨_,_,rfl⟩,λc' oc ec nc=>?_,_,aH,hui2⟩;rw[aR nc];exact s4 _ _ (s3 _ _ (sm _ _ (b c' oc ec nc)))
 ·refine .inl ⟨⟨b _ _ hkd nka,hge⟩,?_⟩;rw[List.drop_eq_nil_of_le 0x1] at hui;cases hui;exact q _ _ _ b hai
def aCu(hN:N.length=8)(hK:KFrag.K=K)(hC:nsIn K mainGlobals "PlainRun"=some (some (.ref C)))(hCF:nsIn K mainGlobals "Frame"=some (some (.ref CF)))(cl:Cls K C)(nc:cD K C "calls")(np:cD K C "copies")(nd:cD K C "drops")(nm:cD K C "most")
 (hl:∀ws kn,D.aJ ws=true->D.aJ (kn.map (·.2))=true->evS [.uD,.tup ws,.dct kn] l=.ok [("words",.tup ws),("left",.int ws.length),("known",.dct kn)])(h:Z1 CF CS vs H Q E):aOr K C CS l E {nx:=λ_ H'=>Q .non H',rt:=Q} (L2.start N vs) H:=by
 obtain⟨a,vt,vp,hd,mk,rl,m,k,tk,ps,rfl,⟨o1,o2,o3⟩,ptk,pps,ra,rt,rp,hc⟩:=h;have hst:L2.start N [V.ref a,vt,vp]=[some (.ref a),some vt,some vp,none,none,none,none,none]:=by
  unfold L2.start;rw[hN];rfl
 rw[hst];generalize hres:aB5 rl m k tk ps=res at hc;have hne:res≠.bad:=λz=>by subst z;exact hc
 obtain⟨w0,xs,z0,more,r0,r1,own,ws,kn,k',rfl,hg,hlen,px,pm,pw,hz,hu,rfl⟩:=BJ hres hne;clear hres hne;rw[D.aJ,Bool.and_eq_true] at pps;obtain⟨dx,h1,h2,h3,hsa,e1,e2,e3⟩:=lJ hK hC ra;have prl:(D.tup [r0,r1,.tup own,.tup ws]).pure=true:=by
  refine Z3 o3 hg
 -- rows 1 to 3
 refine⟨[.uD,.uD,.lst (.tup [w0,.tup xs,z0]::more)],_,(EL.skip (.skip (.cons rp .nil))).er,aKj,λv3 Ha s1 rv3 _=>?_⟩;refine⟨[.ins "PlainRun" (prF hd mk rl m k),tk,.uD,.tup [w0,.tup xs,z0]],_,(EL.cons (ra.same s1) (.cons (rt.same s1) (.skip (.cons rv3 .nil)))).er,aKk ptk hg,λv4 Hb s2 rv4 _=>?_⟩;refine⟨[.uD,.uD,.lst (.tup [w0,.tup xs,z0]::more),.tup [w0,.tup xs,z0],.tup [r0,r1,.tup own,.tup ws]],_,(EL.skip (.skip (.cons (rp.same (s1.trans s2)) (.cons (rv3.same s2) (.cons rv4 .nil))))).er,aKl hlen px pm pps.1 hz,λv5 Hc s3 rv5 n5=>?_⟩;obtain⟨kd,kvs,u,rfl,fkd,hDV,hkd,hmu,rk,ndk⟩:=aKn (n5 rfl) (Q5 hu);have pkn:=Q6 hz;have huk:∀o:Obj,aE6 (.frz o u)=true/\aE6 u=true:=λo=>by
  rcases hDV with z|⟨_,z⟩<;>(rw[z] at hkd;cases hkd;exact⟨rfl,rfl⟩)
 have s13:=(s1.trans s2).trans s3;have hac:=s13 _ _ hsa
 -- row 4
 show xN _ _ _ [some (.ref a),some vt,some vp,some v3,some v4,some (.ref kd),none,none] Hc;refine⟨.ref a,rfl,a,C,dx,_,.int k.c,rfl,hac,cl,nc,rfl,k.c,1,rfl,rfl,.ref a,rfl,a,C,dx,_,rfl,hac,cl,nc,by show 7<1000;decide,?_⟩;rw[Z0];have nka:kd≠a:=λz=>by
  subst z;rw[hac] at hkd;cases hkd;cases hmu
 have b4:l_ a Hc (upd Hc a (.ins C dx (prV h1 h2 h3 m k.call))):=l_.upd;have had:upd Hc a (.ins C dx (prV h1 h2 h3 m k.call)) a=some (.ins C dx (prV h1 h2 h3 m k.call)):=aH;show xN _ _ _ [some (.ref a),some vt,some vp,some v3,some v4,some (.ref kd),none,none] (upd Hc a (.ins C dx (prV h1 h2 h3 m k.call)));generalize upd Hc a (.ins C dx (prV h1 h2 h3 m k.call))=Hd at b4 had;have hkd4:=b4 _ _ hkd nka;have hDV4:DV Hd kd kvs:=by
  rcases hDV with z|⟨z0,z⟩
  ·exact .inl (b4 _ _ z nka)
  ·exact .inr ⟨z0,b4 _ _ z nka⟩
 -- row 5
 refine⟨kd,u,hkd4,hmu,kd,kvs,u,rfl,hDV4,hkd4,λo He s5=>?_⟩;have hke:=s5 _ _ hkd4;have hae:=s5 _ _ had;have noT:∀ob,He kd=some ob->aE6 ob=true:=λob z=>by
  rw[hke] at z;cases z;exact(huk o).2
 have toF:∀{v:V}{d:D},Rep All Hc v d->d.pure=true->Rep All (upd He kd (.frz o u)) v d:=λr p=>vG noT ((r.fL (b4.use hac) p).same s5) p
 have rkF:fY All (upd He kd (.frz o u)) kvs kn:=by
  have go:∀{kvs:List (Key×V)}{ds:List (D×D)},fY (New Hb) Hc kvs ds->D.aJ (ds.map (·.2))=true->fY All (upd He kd (.frz o u)) kvs ds:=by
   intro kvs ds r;induction kvs generalizing ds with
   |nil=>cases r;intro _;exact .nil
   |cons p kvs ih=>cases r with
    |cons r t=>
     intro h;rw[List.map_cons,D.aJ,Bool.and_eq_true] at h;exact .cons (toF r.all h.1) (ih t h.2)
  exact go rk pkn
 refine aCt cl (by rw[aR (Ne.symm nka)];exact hae) aH (toF (rv4.same s3) prl) prl rkF pkn hu λo6 o7 Hg bg hag=>⟨o,u,bg _ _ aH nka,?_⟩
 have hag2:upd Hg kd u a=some (.ins C dx (prV h1 h2 h3 m k')):=by rw[aR (Ne.symm nka)];exact hag
 -- from the beginning on
 have ball:l_ a H (upd Hg kd u):=λc oc ec nca=>by
  have c3:=s13 _ _ ec;have nck:c≠kd:=λz=>by
   subst z;have:=(s1.trans s2) _ _ ec;rw[show Hb c=none from fkd] at this;cases this
  rw[aR nck];refine bg _ _ ?_ nca;rw[aR nck];exact s5 _ _ (b4 _ _ c3 nca)
 have noT2:∀ob,Hg kd=some ob->aE6 ob=true:=λob z=>by
  rw[bg _ _ aH nka] at z;cases z;exact(huk o).1
 have useG:xU (upd He kd (.frz o u)) Hg:=λc oc ec uc=>bg c oc ec λz=>by
  subst z;rw[aR (Ne.symm nka),hae] at ec;cases ec;cases uc
 have toG:∀{v:V}{d:D},Rep All Hc v d->d.pure=true->Rep All (upd Hg kd u) v d:=λr p=>vG noT2 ((toF r p).fL useG p) p
 have hkg:upd Hg kd u kd=some u:=aH;have hDVg:DV (upd Hg kd u) kd kvs:=by
  rcases hDV with z|⟨z0,z⟩
  ·rw[z] at hkd;cases hkd;exact .inl hkg
  ·rw[z] at hkd;cases hkd;exact .inr ⟨z0,hkg⟩
 have rkG:fY All (upd Hg kd u) kvs kn:=by
  have go:∀{kvs:List (Key×V)}{ds:List (D×D)},fY (New Hb) Hc kvs ds->D.aJ (ds.map (·.2))=true->fY All (upd Hg kd u) kvs ds:=by
   intro kvs ds r;induction kvs generalizing ds with
   |nil=>cases r;intro _;exact .nil
   |cons p kvs ih=>cases r with
    |cons r t=>
     intro h;rw[List.map_cons,D.aJ,Bool.and_eq_true] at h;exact .cons (toG r.all h.1) (ih t h.2)
  exact go rk pkn
 have rv4g:=toG (rv4.same s3) prl;have self4:∀H2,bU (upd Hg kd u) H2->Rep All H2 (.ref a) (.ins "PlainRun" (prF hd mk rl m k')):=λH2 sm=>by
  have t1:l_ a H H2:=λc oc ec nca=>sm _ _ (ball c oc ec nca)
  exact wU hK hC (sm _ _ hag2) (e1.okK t1 hsa (λ_ h=>h) (BK o1)) (e2.okK t1 hsa (λ_ h=>h) (BK o2)) (e3.okK t1 hsa (λ_ h=>h) (BK o3))
 generalize upd Hg kd u=Hh at hag2 ball hDVg rkG rv4g self4 hkg
 -- row 6
 show xN _ _ _ [some (.ref a),some vt,some vp,some v3,some v4,some (.ref kd),o6,o7] Hh;refine⟨.ref a,rfl,a,C,dx,_,.int k'.c,rfl,hag2,cl,nc,rfl,.ref a,rfl,a,C,dx,_,.int k'.p,rfl,hag2,cl,np,rfl,k'.c,k'.p,rfl,rfl,.ref a,rfl,a,C,dx,_,.int k'.d,rfl,hag2,cl,nd,rfl,k'.c+k'.p,k'.d,rfl,rfl,.ref a,rfl,a,C,dx,_,.int m,rfl,hag2,cl,nm,rfl,k'.c+k'.p+k'.d,m,rfl,rfl,_,rfl,?_⟩;dsimp only;by_cases hgt:k'.c+k'.p+k'.d > m
 ·rw[if_pos (by simpa using hgt)];rw[if_pos hgt] at hc;exact hc _ ball
 ·rw[if_neg (by simpa using hgt)];rw[if_neg hgt] at hc
  -- row 7
  show aIq (tMk K "Frame" l 2 (dG (gE cf7 false) (dG (gK 5) vU))) {nx:=λ_ H'=>Q .non H',rt:=Q} [some (.ref a),some vt,some vp,some v3,some v4,some (.ref kd),o6,o7] Hh;refine⟨[.uD,.uD,.uD,.uD,.tup [r0,r1,.tup own,.tup ws]],.tup ws,(EL.skip (.skip (.skip (.skip (.cons rv4g .nil))))).er,aKm,λv10 Hi s10 r10 _=>⟨.ref kd,rfl,?_⟩⟩;have rkd:Rep All Hi (.ref kd) (.dct kn):=(hDVg.rep trivial rkG ndk).same s10;refine⟨[.tup ws,.dct kn],_,rfl,.cons r10 (.cons rkd .nil),hl ws kn pw pkn,λCF' x dxx Hj vf hn hx sj hxj rf=>?_⟩;rw[hCF] at hn;cases hn;have rfa:=rf All (λ_ _=>trivial) (.cons r10 (.cons rkd .nil));cases rfa with
  |cons q1 rfa=>
  cases rfa with
  |cons q2 rfa=>
  cases rfa with
  |cons q3 rfa=>
  cases rfa;cases q2.inv;refine hc Hj x ?_ (λc oc ec nca=>sj _ _ (s10 _ _ (ball c oc ec nca))) (self4 Hj (s10.trans sj)) ⟨_,_,_,hxj,q1,q3⟩;cases hq:H x with
  |none=>rfl
  |some oo=>
   by_cases hxa:x=a
   ·subst hxa;rw[s10 _ _ hag2] at hx;cases hx
   ·rw[s10 _ _ (ball _ _ hq hxa)] at hx;cases hx
end
end
noncomputable abbrev aCv:Int:=9000
noncomputable def aNt:D->Bool
 |.str _=>true
 |_=>false
def tkN(hd:List (D×D))(w:D):Option Nat:=match getD (.dct hd) w with
 |.ok (.tup [_,.tup ks])=>if D.aJ ks&&decide (ks.length<=1000) then some ks.length else none
 |_=>none
def aEi:List D->Option Int
 |[]=>some 0
 |.tup [_,_,.int z]::r=>if decide (-aCv<=z)&&decide (z<=aCv) then (aEi r).map (z+·) else none
 |_::_=>none
def MN(hd mk rl:List (D×D))(m:Int)(k:Cn)(kn:List (D×D))(st:List D)(w:D):Res (List D×Option (List D×List (D×D))×Cn):=
  if aNt w&&uK kn w&&uK mk w&&decide (st.length <= 100000) then (match cA kn w with
    |some v=>.ok (v::st,none,k)
    |none=>match tkN hd w with
      |some n=>if n <= st.length then
          (if (cA mk w).isSome then (match aEi (st.take n) with|some z=>.ok (.tup [w,.tup (st.take n),.int (1+z)]::st.drop n,none,k)|none=>.bad)
           else (match aB5 rl m k w (st.take n) with|.ok (ws,kn',k')=>.ok (st.drop n,some (ws,kn'),k')|.err c as=>.err c as|.bad=>.bad))
        else .bad
      |none=>.bad)
  else .bad
def aOs:FT:=bTB (b2 inX c7 d7)
def tkg:FE:=b2 getD d7 c7
def tki:FI:=bK (b2 getD (b2 getD (aCk "PlainRun" "heads" nJ) c7) cP) false
def aOt:FT:=bTB (b2 inX c7 (aCk "PlainRun" "makers" nJ))
def tkv:FE:=fW (aB c7 (aB (aV cX (aB mC aQ)) (aB (b2 (aU .add) cP (aV zY (aB (cJ 6 (bK mC false) jT dH (b2 getD jR iW) false) aQ))) aQ)))
section
variable [KFrag]
def aH1(h:uK kn (.str x)=true):aOs [a,b,c,.str x,.dct kn]=.ok (cA kn (.str x)).isSome:=by
 show(do let y <- (if uK kn (.str x) then Res.ok (D.bl (cA kn (.str x)).isSome) else .bad);asB y)=_;rw[if_pos h];rfl
def aH2(h:uK mk (.str x)=true):aOt [.ins "PlainRun" (prF hd mk rl m k),b,c,.str x]=.ok (cA mk (.str x)).isSome:=by
 show(do let y <- (if uK mk (.str x) then Res.ok (D.bl (cA mk (.str x)).isSome) else .bad);asB y)=_;rw[if_pos h];rfl
def aKo(h:cA kn (.str x)=some v):tkg [a,b,c,.str x,.dct kn]=.ok v:=by
 show(if keyOk (.str x)=true then Res.ofOpt (cA kn (.str x)) else .bad)=_;rw[h];rfl
def aEj(h:tkN hd (.str x)=some n):∃ks,ks.length=n/\n<=1000/\tki [.ins "PlainRun" (prF hd mk rl m k),b,c,.str x,e,f]=.ok (ks,true):=by
 unfold tkN at h;split at h
 ·rename_i u ks hg;split at h
  ·rename_i hb;rw[Bool.and_eq_true,decide_eq_true_eq] at hb;cases h;refine⟨ks,rfl,hb.2,?_⟩;have e1:b2 getD (b2 getD (aCk "PlainRun" "heads" nJ) c7) cP [.ins "PlainRun" (prF hd mk rl m k),b,c,.str x,e,f]=.ok (.tup ks):=by
    have e0:b2 getD (aCk "PlainRun" "heads" nJ) c7 [.ins "PlainRun" (prF hd mk rl m k),b,c,.str x,e,f]=.ok (.tup [u,.tup ks]):=hg;exact aK e0 rfl rfl
   unfold tki bK;rw[e1];show Res.ok (ks,false||(D.tup ks).pure)=_;rw[D.pure,hb.1];rfl
  ·cases h
 ·cases h
theorem aKp:∀(its ps acc:List D),its.length=ps.length->D.aJ ps=true->xcf (HQ 2) acc its [s,f,.cel b ((ps++vs).reverse),w,k,u]=.ok (acc++ps,[s,f,.cel b vs.reverse,w,k,u])
 |[],[],acc,_,_=>by
  show Res.ok (acc,_)=_;rw[List.append_nil];rfl
 |i::its,p::ps,acc,hl,hp=>by
  rw[D.aJ,Bool.and_eq_true] at hp;have e:((p::ps)++vs).reverse=(ps++vs).reverse++[p]:=by simp
  rw[e];have h1:HQ 2 ([s,f,.cel b ((ps++vs).reverse++[p]),w,k,u]++[i])=.ok (p,[s,f,.cel b ((ps++vs).reverse),w,k,u,i]):=by
   show(match ((ps++vs).reverse++[p])[((ps++vs).reverse++[p]).length-1]? with|some x=>Res.ok (x,[s,f,D.cel b ((ps++vs).reverse++[p]).dropLast,w,k,u,i])|none=>.bad)=_;rw[List.length_append,List.length_singleton,Nat.add_sub_cancel,List.getElem?_append_right (Nat.le_refl _),Nat.sub_self,List.dropLast_concat];rfl
  show(do let q <- HQ 2 ([s,f,.cel b ((ps++vs).reverse++[p]),w,k,u]++[i]);if q.1.pure then xcf (HQ 2) (acc++[q.1]) its q.2.dropLast else .bad)=_;rw[h1,Res.aO];rw[if_pos hp.1];have ih:=aKp (s:=s) (f:=f) (w:=w) (k:=k) (u:=u) (b:=b) (vs:=vs) its ps (acc++[p]) (by simpa using hl) hp.2;rw[List.append_assoc] at ih;exact ih
def aKq{st:List D}(h:tkN hd (.str x)=some n)(hn:n<=st.length)(hp:D.aJ st=true):Y0 tki (HQ 2) [.ins "PlainRun" (prF hd mk rl m k),f,.cel b st.reverse,.str x,e,u]=.ok (.lst (st.take n),[.ins "PlainRun" (prF hd mk rl m k),f,.cel b (st.drop n).reverse,.str x,e,u]):=by
 obtain⟨ks,hk,hb,he⟩:=aEj (hd:=hd) (mk:=mk) (rl:=rl) (m:=m) (k:=k) (b:=f) (c:=.cel b st.reverse) (e:=e) (f:=u) h;unfold Y0;rw[he,Res.aO];rw[if_pos (by rw[Bool.true_and];exact decide_eq_true (Nat.le_trans (Nat.le_of_eq hk) (Nat.le_trans hb 0x4)))];have hs:st=st.take n++st.drop n:=(List.take_append_drop n st).symm;have pt:D.aJ (st.take n)=true:=bZ.mpr λy hy=>bZ.mp hp y (List.mem_of_mem_take hy)
 have:=aKp (s:=.ins "PlainRun" (prF hd mk rl m k)) (f:=f) (w:=.str x) (k:=e) (u:=u) (b:=b) (vs:=st.drop n) ks (st.take n) [] (by rw[hk,List.length_take];lia) pt;rw[<-hs] at this;rw[this];rfl
theorem Q7(hρ:ρ.length=6):∀{ps:List D}{z:Int},aEi ps=some z->∃ns:List Int,ns.length=ps.length/\ns.sum=z/\(∀i∈ns,-aCv<=i/\i<=aCv)/\∀acc:List D,nT (FQ 6 jT dH (b2 getD jR iW) false ρ) acc ps=.ok (acc++ns.map D.int)
 |[],z,h=>by cases h;exact⟨[],rfl,rfl,(λi hi=>by cases hi),λacc=>by rw[List.map_nil,List.append_nil];rfl⟩
 |p::r,z,h=>by
  unfold aEi at h;split at h
  ·cases ‹_::_=[]›
  ·rename_i a b y r' e;cases e;split at h
   ·rename_i hb;rw[Bool.and_eq_true,decide_eq_true_eq,decide_eq_true_eq] at hb;obtain⟨z',h1,rfl⟩:=Option.map_eq_some_iff.mp h;obtain⟨ns,i1,i2,i3,i4⟩:=Q7 hρ h1;refine⟨y::ns,by rw[List.length_cons,List.length_cons,i1],by rw[List.sum_cons,i2],λi hi=>?_,λacc=>?_⟩
    ·rcases List.mem_cons.mp hi with rfl|hi
     ·exact hb
     ·exact i3 i hi
    ·have e6:cO 6 (ρ++[D.tup [a,b,.int y]])=.ok (.tup [a,b,.int y]):=bV (by rw[List.getD_eq_getElem?_getD,List.getElem?_append_right 0x1,hρ];rfl) 0x7;rw[nT,wI hρ rfl λ_=>⟨aK e6 rfl rfl,rfl⟩];show nT _ (acc++[D.int y]) _=_;rw[i4,List.append_assoc];rfl
   ·cases h
  ·cases h
def Q8:∀ns:List Int,intsOf (ns.map D.int)=some ns
 |[]=>rfl
 |n::ns=>by
  show(intsOf (ns.map D.int)).map (n::·)=_;rw[Q8 ns];rfl
def aKr(h:aEi ps=some z)(hl:ps.length<=1000):tkv [a,b,c,.str x,e,.lst ps]=.ok (.tup [.str x,.tup ps,.int (1+z)]):=by
 obtain⟨ns,i1,i2,i3,i4⟩:=Q7 (ρ:=[a,b,c,.str x,e,.lst ps]) rfl h;have e1:cJ 6 (bK mC false) jT dH (b2 getD jR iW) false [a,b,c,.str x,e,.lst ps]=.ok (.lst (ns.map D.int)):=K7 rfl (by rw[bF];lia) (i4 []);have e2:zY [.lst (ns.map D.int)]=.ok (.int z):=by
  show(match intsOf (ns.map D.int) with|some ns=>if ns.all (λi=>decide (-aCv<=i)&&decide (i<=aCv))&&decide (ns.length<=100000) then Res.ok (D.int ns.sum) else .bad|none=>.bad)=_;rw[Q8];dsimp only;rw[if_pos,i2];rw[Bool.and_eq_true,List.all_eq_true,decide_eq_true_eq];refine⟨λi hi=>?_,by lia⟩;rw[Bool.and_eq_true,decide_eq_true_eq,decide_eq_true_eq];exact i3 i hi
 exact fB (aD rfl (aD (bO (aD rfl rfl) (show cX [.lst ps]=.ok (.tup ps) from rfl)) (aD (aK rfl (bO (aD e1 rfl) e2) rfl) rfl))) (by show 3<=lim;decide)
def kTk(CF CS:Addr)(a af av:Addr)(fl:List V)(hd mk rl:List (D×D))(m:Int)(H:Hp)(Q:VK)(E:XK):Res (List D×Option (List D×List (D×D))×Cn)->Prop
 |.ok (st',none,_)=>∀H' vs',l_ av H H'->H' av=some (.lst vs')->bG All H' vs' st'.reverse->Q .non H'
 |.ok (st',some (ws',kn'),k')=>∀H' vs' x,H x=none->aMk (λb=>b=a\/b=af\/b=av) H H'->Rep All H' (.ref a) (.ins "PlainRun" (prF hd mk rl m k'))->H' af=some (.lst (fl++[.ref x]))->FrA CF H' x ws' ws'.length kn'->H' av=some (.lst vs')->bG All H' vs' st'.reverse->Q .non H'
 |.err _ _=>∀H',aMk (λb=>b=a\/b=af\/b=av) H H'->E (.ref CS) none H'
 |.bad=>False
def aKs(CF CS:Addr):Sp:=λvs H Q E=>∃a af av vw hd mk rl m k kn st w fl fr ws i vs0,vs=[.ref a,.ref af,.ref av,vw]/\okR hd mk rl/\D.aJ (kn.map (·.2))=true/\D.aJ st=true/\Rep All H (.ref a) (.ins "PlainRun" (prF hd mk rl m k))/\H af=some (.lst fl)/\fl.length<1000000/\atI fl (-1)=some (.ref fr)/\FrA CF H fr ws i kn/\H av=some (.lst vs0)/\bG All H vs0 st.reverse/\af≠av/\Rep All H vw w/\kTk CF CS a af av fl hd mk rl m H Q E (MN hd mk rl m k kn st w)
def aOu(K:PySem.W.Frag)(C CF CS:Addr)(E:XK):TS:=aI9 (gT aOt) (y_ (tBM K "list" zJ (gK 2) (dG (gE tkv false) vU)))
 (y_ (tBM K "list" zJ (gK 1) (dG (SX C "called" (Z1 CF CS) [] E (gK 0) (dG (gK 3) (dG (gK 5) vU))) vU)))
def aOv(K:PySem.W.Frag)(C CF CS:Addr)(E:XK):TS:=aI9 (gT aOs) (y_ (tBM K "list" zJ (gK 2) (dG (gE tkg false) vU)))
 (xN (zB (gX (own1 2) (Y0 tki (HQ 2))) (fZ 5)) (aOu K C CF CS E))
def tTk(K:PySem.W.Frag)(C CF CS:Addr)(E:XK):TS:=xN (zB (OJ K (tOp (aMa K) (gK 1) tm1) "known") (fZ 4)) (aOv K C CF CS E)
def aCw(S:cH X.N X.env.scope scope [cn])(hn:X.N.length=n)(hcalm:X.calm=true)(hon:own n=false)(hi:PI X tg iter (gI X.K it))(hg:∀y,PG (mkC X scope [cn] y) tg (fZ n))(he:∀y,PE (mkC X scope [cn] y) elt (gX own f))
 (hs:∀x,foldedSetIterable iter X.env x=pure x)(hNn:X.N.Nodup)(hiy:X.N[iy]?=some y)(hxy:Loc X.env.scope y)(hfy:X.fn y=true\/X.env.scope.names.lookup y=some .local)(hsw:swapsWith (.ListComp elt [⟨tg,iter,[],0⟩] scope pos) (some (.Name y py)) pos2.line X.env=pure true) :
  PS X (.Assign [.Name y py] (.ListComp elt [⟨tg,iter,[],0⟩] scope pos) pos2) (zB (gX own (Y0 it f)) (fZ iy)):=by
 intro pins s σ H D I h;refine QJ S hcalm hi (λX' cc=>by obtain⟨y,rfl⟩:=lU cc;exact hg y) (λX' cc=>by obtain⟨y,rfl⟩:=lU cc;exact he y) hs hNn hiy hxy hfy hsw pins s σ H D I ?_;exact T5 hon (I.len.trans hn) h
def lK(b:l_ x H H')(hx:H x=some (.lst xs))(r:Rep All H v (.dct kn))(p:D.aJ (kn.map (·.2))=true):Rep (λc=>c≠x) H' v (.dct kn):=by
 have k:xU H H':=λa o e u=>b a o e λz=>by
  subst z;rw[hx] at e;cases e;cases u
 cases r with
 |dK e _ r n=>
  have ne:=oH e hx 0x7;exact .dK (b _ _ e ne) ne (r.fL k p) n
 |dT e _ r n=>
  have ne:=oH e hx 0x7;exact .dT (b _ _ e ne) ne (r.fL k p) n
def sV{st:List D}(h:D.aJ st=true):D.aJ (st.drop n)=true:=bZ.mpr λy hy=>bZ.mp h y (List.mem_of_mem_drop hy)
def yP{st:List D}(h:D.aJ st=true):D.aJ (st.take n)=true:=bZ.mpr λy hy=>bZ.mp h y (List.mem_of_mem_take hy)
def aKt(h:aB5 rl m k tk ps=.ok (ws,kn,k')):D.aJ ws=true:=by
 obtain⟨w0,xs,z0,more,r0,r1,own,ws',kn',k'',_,_,_,_,_,pw,hz,_,e⟩:=BJ h 0x7;split at e
 ·cases e
 ·cases e;exact pw
def aOw(h:aB5 rl m k tk ps=.ok (ws,kn,k')):D.aJ (kn.map (·.2))=true:=by
 obtain⟨w0,xs,z0,more,r0,r1,own,ws',kn',k'',_,_,_,_,_,pw,hz,_,e⟩:=BJ h 0x7;split at e
 ·cases e
 ·cases e;exact Q6 hz
section
def aH3{K:PySem.W.Frag}(hN:N.length=6)(hK:KFrag.K=K)(hC:nsIn K mainGlobals "PlainRun"=some (some (.ref C)))(clF:Cls K CF)(nk:cD K CF "known"){H:Hp}{Q:VK}{E:XK}(h:aKs CF CS vs H Q E):tTk K C CF CS E {nx:=λ_ H'=>Q .non H',rt:=Q} (L2.start N vs) H:=by
 obtain⟨a,af,av,vw,hd,mk,rl,m,k,kn,st,w,fl,fr,ws,i,vs0,rfl,⟨o1,o2,o3⟩,pkn,pst,ra,hf,hfl,hlast,⟨dxf,w1,w3,hfr,rw1,rw3⟩,hv,rv,hne,rw,hc⟩:=h;have hst:L2.start N [V.ref a,.ref af,.ref av,vw]=[some (.ref a),some (.ref af),some (.ref av),some vw,none,none]:=by
  unfold L2.start;rw[hN];rfl
 rw[hst];unfold MN at hc;split at hc
 ·rename_i hb;simp only[Bool.and_eq_true,decide_eq_true_eq] at hb;obtain⟨⟨⟨hb1,hb2⟩,hb3⟩,hb4⟩:=hb;obtain⟨x,rfl⟩:∃x,w=.str x:=by
   cases w with
   |str x=>exact⟨x,rfl⟩
   |_=>cases hb1
  have lv:vs0.length<=100000:=by rw[rv.length,List.length_reverse];exact hb4
  obtain⟨dx,h1,h2,h3,hsa,e1,e2,e3⟩:=lJ hK hC ra;have nva:a≠av:=oH hsa hv 0x7;have nfa:a≠af:=oH hsa hf 0x7
  -- known
  refine⟨.ref af,rfl,1,rfl,af,fl,-1,.ref fr,rfl,rfl,.of hf,hlast,fr,CF,dxf,_,w3,rfl,hfr,clF,nk,rfl,?_⟩;show aOv K C CF CS E {nx:=λ_ H'=>Q .non H',rt:=Q} [some (.ref a),some (.ref af),some (.ref av),some vw,some w3,none] H;refine⟨[.uD,.uD,.uD,.str x,.dct kn],_,(EL.skip (.skip (.skip (.cons rw (.cons rw3 .nil))))).er,aH1 hb2,λH1 s1=>?_⟩;split at hc
  ·rename_i v hlk;rw[hlk];show(if true=true then _ else _);rw[if_pos rfl];refine⟨.ref av,rfl,.inl ⟨rfl,_,.of (s1 _ _ hv)⟩,[.uD,.uD,.uD,.str x,.dct kn],v,(EL.skip (.skip (.skip (.cons (rw.same s1) (.cons (rw3.same s1) .nil))))).er,aKo hlk,λvv H2 s2 rvv _=>⟨av,vs0,vv,rfl,rfl,s2 _ _ (s1 _ _ hv),Nat.lt_of_le_of_lt lv (by rw[sizeLine_eq];decide),?_⟩⟩;have hv2:=s2 _ _ (s1 _ _ hv);have pv:v.pure=true:=BL pkn hlk;refine hc _ (vs0++[vv]) (λb o e nb=>?_) aH ?_
   ·rw[aR nb];exact s2 _ _ (s1 _ _ e)
   ·rw[List.reverse_cons];exact(((rv.same s1).same s2).snoc rvv).upd (by rw[jG,iC pst];simp[D.aJ,pv]) hv2 rfl
  ·rename_i hlk;rw[hlk];show(if false=true then _ else _);rw[if_neg Bool.false_ne_true];split at hc
   ·rename_i n hn;split at hc
    ·rename_i hle;have b1:l_ av H H1:=l_.same s1;have d1:=lK b1 hv e1 o1;have d2:=lK b1 hv e2 o2;have d3:=lK b1 hv e3 o3;have hv1:=s1 _ _ hv;have hO:∀b,Own (own1 2) [some (.ref a),some (.ref af),some (.ref av),some vw,some w3,none] b↔b=av:=λb=>by
      constructor
      ·rintro⟨j,hj,e⟩;have:j=2:=by simpa[own1] using hj
       subst this;cases e;rfl
      ·rintro rfl;exact⟨2,rfl,rfl⟩
     have hOf:(λb=>¬Own (own1 2) [some (.ref a),some (.ref af),some (.ref av),some vw,some w3,none] b)=λb=>b≠av:=funext λb=>by rw[hO]
     refine⟨[.ins "PlainRun" (prF hd mk rl m k),.uD,.cel av st.reverse,.str x,.uD,.uD],_,_,⟨rfl,λj hj=>?_,λj u hj hu=>?_⟩,aKq hn hle pst,λv5 H2 ku E2 _ r5=>?_⟩
     ·rw[hOf]
      match j,hj with
      |0,_=>exact⟨_,rfl,λ_=>wU hK hC (s1 _ _ hsa) d1 d2 d3⟩
      |1,hj=>exact absurd rfl hj
      |2,_=>exact⟨_,rfl,λh=>by cases h⟩
      |3,_=>exact⟨_,rfl,λ_=>(rw.same s1).bN rfl⟩
      |4,hj=>exact absurd rfl hj
      |5,hj=>exact absurd rfl hj
      |j+6,hj=>exact absurd rfl hj
     ·have:j=2:=by simpa[own1] using hj
      subst this;cases hu;exact⟨av,_,rfl,.cel hv1 trivial (rv.same s1),iC pst,hv1,rfl,λq hq _=>by simpa[own1] using hq⟩
     ·have b2:l_ av H1 H2:=λb o e nb=>(ku b o e λz=>nb ((hO b).mp z)).1
      obtain⟨vs1,hv2,rv2⟩:∃vs1,H2 av=some (.lst vs1)/\bG All H2 vs1 (st.drop n).reverse:=by
       obtain⟨ad,o,ea,r,_⟩:=E2.own 2 (.ref av) rfl rfl;cases r with
       |cel e _ r=>exact⟨_,e,r⟩
      have hsa2:=b2 _ _ (s1 _ _ hsa) nva;have b12:l_ av H H2:=λb o e nb=>b2 _ _ (s1 _ _ e) nb
      have ra2:Rep All H2 (.ref a) (.ins "PlainRun" (prF hd mk rl m k)):=wU hK hC hsa2 (lK b12 hv e1 o1).all (lK b12 hv e2 o2).all (lK b12 hv e3 o3).all;have rw2:Rep All H2 vw (.str x):=by cases rw.inv;exact .str x
      show aOu K C CF CS E {nx:=λ_ H'=>Q .non H',rt:=Q} [some (.ref a),some (.ref af),some (.ref av),some vw,some w3,some v5] H2;refine⟨[.ins "PlainRun" (prF hd mk rl m k),.uD,.uD,.str x],_,(EL.cons ra2 (.skip (.skip (.cons rw2 .nil)))).er,aH2 hb3,λH3 s3=>?_⟩;split at hc
      ·rename_i hm;rw[hm];rw[if_pos rfl];split at hc
       ·rename_i z hz;refine⟨.ref av,rfl,.inl ⟨rfl,_,.of (s3 _ _ hv2)⟩,[.uD,.uD,.uD,.str x,.uD,.lst (st.take n)],_,(EL.skip (.skip (.skip (.cons (rw2.same s3) (.skip (.cons (r5.all.same s3) .nil)))))).er,aKr hz (by rw[List.length_take];have:=aEj (mk:=mk) (rl:=rl) (m:=m) (k:=k) (b:=.uD) (c:=.uD) (e:=.uD) (f:=.uD) hn;obtain⟨_,_,q,_⟩:=this;lia),λvv H4 s4 rvv _=>⟨av,vs1,vv,rfl,rfl,s4 _ _ (s3 _ _ hv2),?_,?_⟩⟩
        ·have:=rv2.length;rw[List.length_reverse,List.length_drop] at this;rw[sizeLine_eq];lia
        ·have hv4:=s4 _ _ (s3 _ _ hv2);refine hc _ (vs1++[vv]) (λb o e nb=>?_) aH ?_
         ·rw[aR nb];exact s4 _ _ (s3 _ _ (b12 _ _ e nb))
         ·rw[List.reverse_cons];refine(((rv2.same s3).same s4).snoc rvv).upd ?_ hv4 rfl;rw[jG,iC (sV pst)];simp[D.aJ,D.pure,yP pst]
       ·exact hc.elim
      ·rename_i hm;rw[Bool.not_eq_true] at hm;rw[hm];rw[if_neg Bool.false_ne_true];have hf3:=s3 _ _ (b2 _ _ (s1 _ _ hf) hne);have hv3:=s3 _ _ hv2;have bs:∀H4,l_ a H3 H4->aMk (λb=>b=a\/b=af\/b=av) H H4:=λH4 b4 b o e nb=>b4 _ _ (s3 _ _ (b12 _ _ e λz=>nb (.inr (.inr z)))) λz=>nb (.inl z)
       refine⟨.ref af,rfl,.inl ⟨rfl,_,.of hf3⟩,.ref a,rfl,a,dx,_,rfl,s3 _ _ hsa2,rfl,vw,rfl,v5,rfl,a,vw,v5,hd,mk,rl,m,k,.str x,st.take n,rfl,⟨o1,o2,o3⟩,rfl,yP pst,ra2.same s3,rw2.same s3,r5.all.same s3,?_⟩;cases hq:aB5 rl m k (.str x) (st.take n) with
       |ok r=>
        obtain⟨ws',kn',k'⟩:=r;rw[hq] at hc;intro H4 xx hxx b4 rs fa;have hf4:=b4 _ _ hf3 (Ne.symm nfa);have hv4:=b4 _ _ hv3 (Ne.symm nva);refine⟨af,fl,.ref xx,rfl,rfl,hf4,by rw[sizeLine_eq];lia,?_⟩;have nxf:xx≠af:=λz=>by rw[z,hf3] at hxx;cases hxx
        have us:xU H4 (upd H4 af (.lst (fl++[.ref xx]))):=λb o e u=>by
         rw[aR (λz=>by subst z;rw[hf4] at e;cases e;cases u)];exact e
        have bf:l_ af H4 (upd H4 af (.lst (fl++[.ref xx]))):=l_.upd;have dk:∀{v:V}{kk:List (D×D)},Rep All H4 v (.dct kk)->D.aJ (kk.map (·.2))=true->Rep All (upd H4 af (.lst (fl++[.ref xx]))) v (.dct kk):=λr p=>(lK bf hf4 r p).all
        obtain⟨dx4,g1,g2,g3,hs4,q1,q2,q3⟩:=lJ hK hC rs;obtain⟨dxx,y1,y3,hx4,ry1,ry3⟩:=fa;refine hc _ vs1 xx ?_ (λb o e nb=>?_) (wU hK hC (by rw[aR nfa];exact hs4) (dk q1 o1) (dk q2 o2) (dk q3 o3)) aH ⟨dxx,y1,y3,by rw[aR nxf];exact hx4,?_,?_⟩ (by rw[aR (Ne.symm hne)];exact hv4) ?_
        ·cases hh:H xx with
         |none=>rfl
         |some oo=>
          exfalso;by_cases hxv:xx=av
          ·rw[hxv,hv3] at hxx;cases hxx
          ·rw[s3 _ _ (b12 _ _ hh hxv)] at hxx;cases hxx
        ·rw[aR λz=>nb (.inr (.inl z))];exact bs H4 b4 b o e nb
        ·exact ry1.fL us (by rw[D.pure];exact aKt hq)
        ·exact dk ry3 (aOw hq)
        ·have r4:bG All H4 vs1 (st.drop n).reverse:=(rv2.same s3).fL (b4.use (s3 _ _ hsa2)) (iC (sV pst));exact r4.fL us (iC (sV pst))
       |err c as=>
        rw[hq] at hc;exact λH4 b4=>hc H4 (bs H4 b4)
       |bad=>
        rw[hq] at hc;exact hc.elim
    ·exact hc.elim
   ·exact hc.elim
 ·exact hc.elim
end
def aCx{st st' ws':List D}(h:MN hd mk rl m k kn st w=.ok (st',some (ws',kn'),k')):D.aJ ws'=true/\D.aJ (kn'.map (·.2))=true:=by
 unfold MN at h;split at h
 ·split at h
  ·cases h
  ·split at h
   ·split at h
    ·split at h
     ·split at h<;>cases h
     ·split at h
      ·rename_i hq;cases h;exact⟨aKt hq,aOw hq⟩
      ·cases h
      ·exact bx h
    ·exact bx h
   ·exact bx h
 ·exact bx h
end
structure Fr where
 ws:List D
 i:Nat
 kn:List (D×D)
def runN(hd mk rl:List (D×D))(m:Int):Nat->List Fr->List D->Cn->Res (List D×Cn)
 |0,_,_,_=>.bad
 |_+1,[],st,k=>.ok (st,k)
 |n+1,⟨_,0,_⟩::r,st,k=>runN hd mk rl m n r st k
 |n+1,⟨ws,i+1,kn⟩::r,st,k=>match ws[i]? with
  |none=>.bad
  |some w=>if decide (r.length<900000) then (match MN hd mk rl m k kn st w with
   |.ok (st',none,_)=>if D.aJ st' then runN hd mk rl m n (⟨ws,i,kn⟩::r) st' k else .bad
   |.ok (st',some (ws',kn'),k')=>if D.aJ st' then runN hd mk rl m n (⟨ws',ws'.length,kn'⟩::⟨ws,i,kn⟩::r) st' k' else .bad
   |.err c as=>.err c as
   |.bad=>.bad) else .bad
theorem o8:∀{n:Nat}{fs:List Fr}{st:List D}{k:Cn}{r:Res (List D×Cn)},runN hd mk rl m n fs st k=r->r≠.bad->∀j,runN hd mk rl m (n+j) fs st k=r
 |0,_,_,_,_,h,hr,_=>absurd h.symm hr
 |n+1,[],st,k,r,h,hr,j=>by
  rw[Nat.add_right_comm];exact h
 |n+1,⟨ws,0,kn⟩::fs,st,k,r,h,hr,j=>by
  rw[Nat.add_right_comm];exact o8 (fs:=fs) h hr j
 |n+1,⟨ws,i+1,kn⟩::fs,st,k,r,h,hr,j=>by
  rw[Nat.add_right_comm];unfold runN at h ⊢;split at h
  ·exact absurd h.symm hr
  ·split at h
   ·rename_i hb;rw[if_pos hb];split at h
    ·split at h
     ·rename_i hp;rw[if_pos hp];exact o8 h hr j
     ·exact absurd h.symm hr
    ·split at h
     ·rename_i hp;rw[if_pos hp];exact o8 h hr j
     ·exact absurd h.symm hr
    ·exact h
    ·exact absurd h.symm hr
   ·exact absurd h.symm hr
def aH4{st:List D}(h:runN hd mk rl m n fs st k=r)(hr:r≠.bad)(h':runN hd mk rl m n' fs st k=r')(hr':r'≠.bad):r=r':=by
 have e1:=o8 h hr n';have e2:=o8 h' hr' n;rw[Nat.add_comm] at e2;exact e1.symm.trans e2
noncomputable def aKu:Res (List D×Cn)->Res (D×Cn)
 |.ok (st,k)=>match st.getLast? with
  |some y=>.ok (y,k)
  |none=>.bad
 |.err c as=>.err c as
 |.bad=>.bad
open Classical in
def Z4(hd mk rl:List (D×D))(m:Int)(ws:List D):Res (D×Cn):=
 if h:∃r,r≠.bad/\∃n,runN hd mk rl m n [⟨ws,ws.length,[]⟩] [] ⟨0,0,0⟩=r then aKu h.choose else .bad
def MP(h:runN hd mk rl m n [⟨ws,ws.length,[]⟩] [] ⟨0,0,0⟩=r)(hr:r≠.bad):Z4 hd mk rl m ws=aKu r:=by
 have e:∃r,r≠.bad/\∃n,runN hd mk rl m n [⟨ws,ws.length,[]⟩] [] ⟨0,0,0⟩=r:=⟨r,hr,n,h⟩
 obtain⟨h1,n',h2⟩:=e.choose_spec;unfold Z4;rw[dif_pos e,aH4 h2 h1 h hr]
def Z5(h:Z4 hd mk rl m ws=q)(hq:q≠.bad):∃r n,r≠.bad/\runN hd mk rl m n [⟨ws,ws.length,[]⟩] [] ⟨0,0,0⟩=r/\aKu r=q:=by
 unfold Z4 at h;split at h
 ·rename_i e;obtain⟨h1,n',h2⟩:=e.choose_spec;exact⟨_,n',h1,h2,h⟩
 ·exact absurd h.symm hq
section
variable [KFrag]
noncomputable def loud:HO->Bool
 |.lst _=>true
 |.ins _ _ _=>true
 |_=>false
structure Lb(S:Addr->Prop)(H H':Hp):Prop where
 bs:aMk S H H'
 ld:∀b,S b->∃o,H b=some o/\loud o=true
def Lb.use(x:Lb S H H'):xU H H':=λb o e u=>x.bs b o e λz=>by
 obtain⟨o',e',hl⟩:=x.ld b z;rw[e] at e';cases e';cases o<;>first|(cases hl;done)|(cases u;done)
def Lb.same(s:bU H H'):Lb (λ_=>False) H H':=⟨λb o e _=>s b o e,λ_ z=>z.elim⟩
def Lb.but(b:l_ x H H')(hx:H x=some o)(hl:loud o=true):Lb (λc=>c=x) H H':=⟨λc oc e n=>b c oc e n,λc z=>by subst z;exact⟨o,hx,hl⟩⟩
def Lb.dct(x:Lb S H H')(r:Rep All H v (.dct kn))(p:D.aJ (kn.map (·.2))=true):Rep All H' v (.dct kn):=by
 cases r with
 |dK e _ r n=>exact .dK (x.bs _ _ e λz=>by obtain⟨o,e',hl⟩:=x.ld _ z;rw[e] at e';cases e';cases hl) trivial (r.fL x.use p) n
 |dT e _ r n=>exact .dT (x.bs _ _ e λz=>by obtain⟨o,e',hl⟩:=x.ld _ z;rw[e] at e';cases e';cases hl) trivial (r.fL x.use p) n
def Lb.fra(x:Lb S H H')(h:FrA CF H fr ws i kn)(p:D.aJ ws=true)(pk:D.aJ (kn.map (·.2))=true)(n:¬S fr):FrA CF H' fr ws i kn:=by
 obtain⟨dx,w1,w3,e,r1,r3⟩:=h;exact⟨dx,w1,w3,x.bs _ _ e n,r1.fL x.use (by rw[D.pure];exact p),x.dct r3 pk⟩
def VG(CF:Addr)(H0 H:Hp):List Addr->List Fr->Prop
 |[],[]=>True
 |x::as,f::fs=>FrA CF H x f.ws f.i f.kn/\D.aJ f.ws=true/\D.aJ (f.kn.map (·.2))=true/\H0 x=none/\x∉as/\VG CF H0 H as fs
 |_,_=>False
theorem Lb.frs(x:Lb S H H'):∀{as:List Addr}{fs:List Fr},VG CF H0 H as fs->(∀b∈as,¬S b)->VG CF H0 H' as fs
 |[],[],_,_=>trivial
 |a::as,f::fs,⟨h1,h2,h3,h4,h5,h6⟩,n=>⟨x.fra h1 h2 h3 (n a 0x2),h2,h3,h4,h5,Lb.frs x h6 λb hb=>n b (by simp[hb])⟩
 |[],_::_,h,_=>h.elim
 |_::_,[],h,_=>h.elim
theorem VG.ins:∀{as:List Addr}{fs:List Fr},VG CF H0 H as fs->∀b∈as,H0 b=none/\∃C dx fs,H b=some (.ins C dx fs)
 |[],[],_,b,hb=>by cases hb
 |a::as,f::fs,⟨⟨dx,w1,w3,e,_⟩,h2,h3,h4,h5,h6⟩,b,hb=>by
  rcases List.mem_cons.mp hb with rfl|hb
  ·exact⟨h4,_,_,_,e⟩
  ·exact VG.ins h6 b hb
 |[],_::_,h,_,_=>h.elim
 |_::_,[],h,_,_=>h.elim
theorem VG.len:∀{as:List Addr}{fs:List Fr},VG CF H0 H as fs->as.length=fs.length
 |[],[],_=>rfl
 |a::as,f::fs,⟨_,_,_,_,_,h6⟩=>by rw[List.length_cons,List.length_cons,VG.len h6]
 |[],_::_,h=>h.elim
 |_::_,[],h=>h.elim
structure VI(CF:Addr)(hd mk rl:List (D×D))(m:Int)(H0:Hp)(a af av:Addr)(fs:List Fr)(st:List D)(k:Cn)(H:Hp):Prop where
 sm:l_ a H0 H
 self:Rep All H (.ref a) (.ins "PlainRun" (prF hd mk rl m k))
 frs:∃as,H af=some (.lst (as.map V.ref).reverse)/\VG CF H0 H as fs
 val:∃vs,H av=some (.lst vs)/\bG All H vs st.reverse
 pv:D.aJ st=true
def aOx:FE:=b2 getD (aCk "Frame" "words" d7) (aCk "Frame" "left" d7)
noncomputable def frK(ws:List D)(i:Nat)(kn:List (D×D)):D:=.ins "Frame" [("words",.tup ws),("left",.int i),("known",.dct kn)]
def aH5(h:ws[j]?=some w):aOx [.uD,.uD,.uD,.uD,frK ws j kn]=.ok w:=by
 have hj:j<ws.length:=by
  rcases Nat.lt_or_ge j ws.length with z|z
  ·exact z
  ·rw[List.getElem?_eq_none z] at h;cases h
 show(Res.ofOpt ((ixD ws.length (j:Int)).bind λi=>ws[i]?))=.ok w;unfold ixD;rw[if_pos 0x1,if_pos 0x1];show Res.ofOpt (ws[(j:Int).toNat]?)=.ok w;rw[Int.toNat_natCast,h];rfl
def aOy(C CF CS:Addr)(E:XK):TS:=y_ (SX C "take_word" (aKs CF CS) [] E (gK 0) (dG (gK 2) (dG (gK 3) (dG (gE aOx false) vU))))
def aOz(K:PySem.W.Frag)(C CF CS:Addr)(E:XK):TS:=aI9 (tB (aMr (OJ K (gK 4) "left") (tC (.int 0)))) (y_ (aNo K 2))
  (xN (aIa K (gK 4) (aMp (OJ K (gK 4) "left") (tC (.int 1))) "left") (aOy C CF CS E))
def tWB(K:PySem.W.Frag)(C CF CS:Addr)(E:XK):TS:=xN (zB (tOp (aMa K) (gK 2) tm1) (fZ 4)) (aOz K C CF CS E)
def aP0(K:PySem.W.Frag)(C CF CS:Addr)(l:List (Str×Srx))(E:XK):TS:=
 xN (zB (aM9 (dG (tMk K "Frame" l 2 (dG (gK 1) (dG O7 vU))) vU)) (fZ 2))
  (xN (zB (aM9 vU) (fZ 3))
   (xN (VV (aOp K 2) (tWB K C CF CS E))
    (aIq (tOp (aMa K) (gK 3) (tC (.int 0))))))
def aQ5(CS a:Addr)(hd mk rl:List (D×D))(m:Int)(H:Hp)(Q:VK)(E:XK):Res (D×Cn)->Prop
 |.ok (y,k)=>∀v H',l_ a H H'->Rep All H' (.ref a) (.ins "PlainRun" (prF hd mk rl m k))->Rep All H' v y->y.pure=true->Q v H'
 |.err _ _=>∀H',l_ a H H'->E (.ref CS) none H'
 |.bad=>False
def Z6(CS:Addr):Sp:=λvs H Q E=>∃a vw hd mk rl m ws,vs=[.ref a,vw]/\okR hd mk rl/\D.aJ ws=true/\Rep All H (.ref a) (.ins "PlainRun" (prF hd mk rl m ⟨0,0,0⟩))/\Rep All H vw (.tup ws)/\aQ5 CS a hd mk rl m H Q E (Z4 hd mk rl m ws)
section
variable {K:PySem.W.Frag} {C CF CS:Addr}
def MT(hK:KFrag.K=K)(hC:nsIn K mainGlobals "PlainRun"=some (some (.ref C)))(x:Lb S H H')(o:okR hd mk rl)(n:¬S a)(r:Rep All H (.ref a) (.ins "PlainRun" (prF hd mk rl m k))):Rep All H' (.ref a) (.ins "PlainRun" (prF hd mk rl m k)):=by
 obtain⟨dx,h1,h2,h3,e,r1,r2,r3⟩:=lJ hK hC r;exact wU hK hC (x.bs _ _ e n) (x.dct r1 o.1) (x.dct r2 o.2.1) (x.dct r3 o.2.2)
def aCy(hK:KFrag.K=K)(hC:nsIn K mainGlobals "PlainRun"=some (some (.ref C)))(hCF:nsIn K mainGlobals "Frame"=some (some (.ref CF)))(clF:Cls K CF)(nl:cD K CF "left")(ok:okR hd mk rl)
 (hna:∃o,H0 a=some o)(nf:H0 af=none)(nv:H0 av=none)(ne:af≠av){fs:List Fr}{st:List D}{k:Cn}{n:Nat}(I:VI CF hd mk rl m H0 a af av (f::fs) st k H)(hr:runN hd mk rl m (n+1) (f::fs) st k=res)(hne:res≠.bad)
 (hE:∀c as,res=.err c as->∀H',l_ a H0 H'->E (.ref CS) none H')
 (hN:∀o4 H fs st k,VI CF hd mk rl m H0 a af av fs st k H->runN hd mk rl m n fs st k=res->D'.nx [some (.ref a),some vw,some (.ref af),some (.ref av),o4] H) :
  tWB K C CF CS E D' [some (.ref a),some vw,some (.ref af),some (.ref av),o4] H:=by
 obtain⟨sm,self,⟨as,hf,fr⟩,⟨vs,hv,rv⟩,pv⟩:=I;obtain⟨x,as,rfl⟩:∃x as',as=x::as':=by
  cases as with
  |nil=>exact fr.elim
  |cons x as=>exact⟨x,as,rfl⟩
 obtain⟨⟨dx,w1,w3,hx,r1,r3⟩,pw,pk,nx0,nxa,frr⟩:=fr;obtain⟨dxp,h1,h2,h3,hsa,e1,e2,e3⟩:=lJ hK hC self;obtain⟨o0,hna⟩:=hna;have a0:∀{b:Addr},H0 b=none->b≠a:=λh z=>by rw[z,hna] at h;cases h
 have ex:(List.map V.ref (x::as)).reverse=(List.map V.ref as).reverse++[.ref x]:=by simp
 rw[ex] at hf;have nxf:x≠af:=oH hx hf 0x7;have nxv:x≠av:=oH hx hv 0x7;refine⟨.ref af,rfl,1,rfl,af,_,-1,.ref x,rfl,rfl,.of hf,O5 _ _,?_⟩;show aOz K C CF CS E D' [some (.ref a),some vw,some (.ref af),some (.ref av),some (.ref x)] H;obtain⟨ws,i,kn⟩:=f;refine⟨.ref x,rfl,x,CF,dx,_,.int i,rfl,hx,clF,nl,rfl,i,0,rfl,rfl,_,rfl,?_⟩;have asi:=VG.ins frr;dsimp only;cases i with
 |zero=>
  rw[if_pos 0x3];have bf:Lb (λc=>c=af) H (upd H af (.lst (as.map V.ref).reverse)):=Lb.but l_.upd hf rfl;refine⟨.ref af,rfl,.inl ⟨rfl,_,.of hf⟩,af,_,.ref x,rfl,rfl,hf,by simp,?_⟩;rw[List.dropLast_concat];refine hN _ _ fs st k ⟨λb o e nb=>?_,MT hK hC bf ok (Ne.symm (a0 nf)) self,⟨as,aH,bf.frs frr λb hb z=>?_⟩,⟨vs,by rw[aR (Ne.symm ne)];exact hv,rv.fL bf.use (iC pv)⟩,pv⟩ hr
  ·rw[aR (bI e nf)];exact sm b o e nb
  ·obtain⟨_,C',dx',fs',e⟩:=asi b hb;rw[z,hf] at e;cases e
 |succ j=>
  rw[if_neg (λz=>by have:=of_decide_eq_true z;lia)];refine⟨.ref x,rfl,x,CF,dx,_,.int ((j+1:Nat):Int),rfl,hx,clF,nl,rfl,_,1,rfl,rfl,.ref x,rfl,x,CF,dx,_,rfl,hx,clF,nl,(by show 3<1000;decide),?_⟩;rw[aCm];have bx:Lb (λc=>c=x) H (upd H x (.ins CF dx [("words",w1),("left",.int j),("known",w3)])):=Lb.but l_.upd hx rfl;have hx2:upd H x (.ins CF dx [("words",w1),("left",.int j),("known",w3)]) x=some (.ins CF dx [("words",w1),("left",.int j),("known",w3)]):=aH;have hf2:=bx.bs _ _ hf (Ne.symm nxf);have hv2:=bx.bs _ _ hv (Ne.symm nxv);have self2:=MT hK hC bx ok (Ne.symm (a0 nx0)) self;have rv2:bG All (upd H x (.ins CF dx [("words",w1),("left",.int j),("known",w3)])) vs st.reverse:=rv.fL bx.use (iC pv);have r12:Rep All (upd H x (.ins CF dx [("words",w1),("left",.int j),("known",w3)])) w1 (.tup ws):=r1.fL bx.use (by rw[D.pure];exact pw);have r32:=bx.dct r3 pk;have sm2:l_ a H0 (upd H x (.ins CF dx [("words",w1),("left",.int j),("known",w3)])):=λb o e nb=>bx.bs _ _ (sm b o e nb) (bI e nx0)
  have frr2:=bx.frs frr λb hb z=>by rw[z] at hb;exact nxa hb
  show aOy C CF CS E D' [some (.ref a),some vw,some (.ref af),some (.ref av),some (.ref x)] (upd H x (.ins CF dx [("words",w1),("left",.int j),("known",w3)]));generalize upd H x (.ins CF dx [("words",w1),("left",.int j),("known",w3)])=H2 at hx2 hf2 hv2 self2 rv2 r12 r32 sm2 frr2;obtain⟨dxp2,g1,g2,g3,hsa2,_⟩:=lJ hK hC self2;unfold runN at hr;split at hr
  ·exact absurd hr.symm hne
  ·rename_i w hw;split at hr
   ·rename_i hlen;have hlen:=of_decide_eq_true hlen;refine⟨.ref a,rfl,a,dxp2,_,rfl,hsa2,rfl,.ref af,rfl,.ref av,rfl,[.uD,.uD,.uD,.uD,frK ws j kn],w,(EL.skip (.skip (.skip (.skip (.cons (.ins (by rw[hK];exact hCF) hx2 (.cons r12 (.cons (.int _) (.cons r32 .nil)))) .nil))))).er,aH5 hw,λvw3 H3 s3 rw3 _=>?_⟩;have hf3:=s3 _ _ hf2;have hv3:=s3 _ _ hv2;have hx3:=s3 _ _ hx2;have l3:=Lb.same s3;have frr3:=l3.frs frr2 λ_ _ z=>z
    have sm3:l_ a H0 H3:=λb o e nb=>s3 _ _ (sm2 b o e nb)
    have asi3:=VG.ins frr3;have hal:=frr.len;refine⟨a,af,av,vw3,hd,mk,rl,m,k,kn,st,w,_,x,ws,j,vs,rfl,ok,pk,pv,self2.same s3,hf3,by rw[List.length_append,List.length_reverse,List.length_map,hal];simp;lia,O5 _ _,⟨dx,w1,w3,hx3,r12.same s3,r32.same s3⟩,hv3,rv2.same s3,ne,rw3,?_⟩;split at hr
    ·rename_i st' k' ht;rw[ht];split at hr
     ·rename_i hps;intro H4 vs' b4 hv4 rv4;have l4:Lb (λc=>c=av) H3 H4:=Lb.but b4 hv3 rfl;refine hN _ _ (⟨ws,j,kn⟩::fs) st' k ⟨λb o e nb=>b4 _ _ (sm3 b o e nb) (bI e nv),MT hK hC l4 ok (Ne.symm (a0 nv)) (self2.same s3),⟨x::as,by rw[ex];exact b4 _ _ hf3 ne,l4.fra ⟨dx,w1,w3,hx3,r12.same s3,r32.same s3⟩ pw pk nxv,pw,pk,nx0,nxa,l4.frs frr3 λb hb z=>?_⟩,⟨vs',hv4,rv4⟩,hps⟩ hr;obtain⟨_,C',dx',fs',e⟩:=asi3 b hb;rw[z,hv3] at e;cases e
     ·exact absurd hr.symm hne
    ·rename_i st' ws' kn' k' ht;rw[ht];split at hr
     ·rename_i hps;intro H4 vs' y hy bs self4 hf4 fa hv4 rv4;obtain⟨dxp3,q1,q2,q3,hsa3,_⟩:=lJ hK hC (self2.same s3);have l4:Lb (λb=>b=a\/b=af\/b=av) H3 H4:=⟨bs,λb hb=>by
       rcases hb with rfl|rfl|rfl
       ·exact⟨_,hsa3,rfl⟩
       ·exact⟨_,hf3,rfl⟩
       ·exact⟨_,hv3,rfl⟩⟩
      have old:∀b,(H0 b=none/\∃C dx fs,H3 b=some (.ins C dx fs))->¬(b=a\/b=af\/b=av):=λb ⟨z0,C',dx',fs',e⟩ z=>by
       rcases z with rfl|rfl|rfl
       ·exact a0 z0 rfl
       ·rw[hf3] at e;cases e
       ·rw[hv3] at e;cases e
      have nyx:y∉x::as:=λhb=>by
       rcases List.mem_cons.mp hb with z|z
       ·rw[z,hx3] at hy;cases hy
       ·obtain⟨_,C',dx',fs',e⟩:=asi3 y z;rw[hy] at e;cases e
      have y0:H0 y=none:=by
       cases hq:H0 y with
       |none=>rfl
       |some oo=>
        exfalso;by_cases hya:y=a
        ·rw[hya,hsa3] at hy;cases hy
        ·rw[sm3 _ _ hq hya] at hy;cases hy
      have pk':D.aJ ws'=true/\D.aJ (kn'.map (·.2))=true:=aCx ht;refine hN _ _ (⟨ws',ws'.length,kn'⟩::⟨ws,j,kn⟩::fs) st' k' ⟨λb o e nb=>?_,self4,⟨y::x::as,?_,fa,pk'.1,pk'.2,y0,nyx,l4.fra ⟨dx,w1,w3,hx3,r12.same s3,r32.same s3⟩ pw pk (old x ⟨nx0,_,_,_,hx3⟩),pw,pk,nx0,nxa,l4.frs frr3 λb hb=>old b (asi3 b hb)⟩,⟨vs',hv4,rv4⟩,hps⟩ hr
      ·refine bs _ _ (sm3 b o e nb) λz=>?_
       rcases z with z|z|z
       ·exact nb z
       ·rw[z,nf] at e;cases e
       ·rw[z,nv] at e;cases e
      ·rw[hf4];simp
     ·exact absurd hr.symm hne
    ·rename_i c as' ht;rw[ht];intro H4 bs;refine hE c as' hr.symm H4 λb o e nb=>bs _ _ (sm3 b o e nb) λz=>?_
     rcases z with z|z|z
     ·exact nb z
     ·rw[z,nf] at e;cases e
     ·rw[z,nv] at e;cases e
    ·exact absurd hr.symm hne
   ·exact absurd hr.symm hne
end
end
def aIg(lP:List (Str×Srx))(vW:List D->Res D):List D->Res D
 |[pr,.tup ws,.int m]=>if D.aJ ws&&pr.pure then (match evS [.uD,pr,.int m] lP with
  |.ok fs=>(match (fs.map (λp=>p.2):List D) with
   |[.dct hd,.dct mk,.dct rl,.int m',.int 0,.int 0,.int 0]=>if D.aJ (hd.map (·.2))&&(D.aJ (mk.map (·.2))&&D.aJ (rl.map (·.2))) then (match Z4 hd mk rl m' ws with
    |.ok (y,k)=>(match vW [y] with
     |.ok d=>if d.pure then .ok (.tup [d,.int k.c,.int k.p,.int k.d]) else .bad
     |_=>.bad)
    |.err c as=>.err c as
    |.bad=>.bad) else .bad
   |_=>.bad)
  |_=>.bad) else .bad
 |_=>.bad
section
variable [KFrag]
def aCz(h:aB5 rl m k tk ps=.err c as):c="Spent"/\as=[.exc "Spent" []]:=by
 obtain⟨w0,xs,z0,more,r0,r1,own,ws',kn',k'',_,_,_,_,_,pw,hz,_,e⟩:=BJ h 0x7;split at e
 ·cases e;exact⟨rfl,rfl⟩
 ·cases e
def aD0{st:List D}(h:MN hd mk rl m k kn st w=.err c as):c="Spent"/\as=[.exc "Spent" []]:=by
 unfold MN at h;split at h
 ·split at h
  ·cases h
  ·split at h
   ·split at h
    ·split at h
     ·split at h<;>cases h
     ·split at h
      ·cases h
      ·rename_i hq;cases h;exact aCz hq
      ·cases h
    ·cases h
   ·cases h
 ·cases h
theorem vJ:∀{n:Nat}{fs:List Fr}{st:List D}{k:Cn},runN hd mk rl m n fs st k=.err c as->c="Spent"/\as=[.exc "Spent" []]
 |0,_,_,_,h=>by cases h
 |n+1,[],st,k,h=>by cases h
 |n+1,⟨ws,0,kn⟩::fs,st,k,h=>vJ (fs:=fs) h
 |n+1,⟨ws,i+1,kn⟩::fs,st,k,h=>by
  unfold runN at h;split at h
  ·cases h
  ·split at h
   ·split at h
    ·split at h
     ·exact vJ h
     ·cases h
    ·split at h
     ·exact vJ h
     ·cases h
    ·rename_i hq;cases h;exact aD0 hq
    ·cases h
   ·cases h
def aD1(h:Z4 hd mk rl m ws=.err c as):c="Spent"/\as=[.exc "Spent" []]:=by
 obtain⟨r,n,_,h1,h2⟩:=Z5 h 0x7;unfold aKu at h2;split at h2
 ·split at h2<;>cases h2
 ·cases h2;exact vJ h1
 ·cases h2
section
variable {K:PySem.W.Frag} {C CF CS:Addr} {l lP:List (Str×Srx)} {vW:List D->Res D}
def aD2(hN:N.length=5)(hK:KFrag.K=K)(hC:nsIn K mainGlobals "PlainRun"=some (some (.ref C)))(hCF:nsIn K mainGlobals "Frame"=some (some (.ref CF)))(clF:Cls K CF)(nl:cD K CF "left")
 (hl:∀ws kn,D.aJ ws=true->D.aJ (kn.map (·.2))=true->evS [.uD,.tup ws,.dct kn] l=.ok [("words",.tup ws),("left",.int ws.length),("known",.dct kn)])(h:Z6 CS vs H Q E):aP0 K C CF CS l E {nx:=λ_ H'=>Q .non H',rt:=Q} (L2.start N vs) H:=by
 obtain⟨a,vw,hd,mk,rl,m,ws,rfl,ok,pw,self,rw,hc⟩:=h;have hst:L2.start N [V.ref a,vw]=[some (.ref a),some vw,none,none,none]:=by
  unfold L2.start;rw[hN];rfl
 rw[hst];generalize hres:Z4 hd mk rl m ws=q at hc;have hq:q≠.bad:=λz=>by subst z;exact hc
 obtain⟨res,n0,hne,hr0,he⟩:=Z5 hres hq;obtain⟨dxp,g1,g2,g3,hsa,_⟩:=lJ hK hC self;refine⟨vw,rfl,λp hp=>?_⟩;have s1:bU H (upd H p (.dK [])):=bU.upd hp;refine⟨[.tup ws,.dct []],_,rfl,.cons (rw.same s1) (.cons (.dK aH trivial .nil 0x2) .nil),hl ws [] pw rfl,λCF' x dx H2 vf hn2 hx s2 hx2 rf2=>?_⟩;rw[hCF] at hn2;cases hn2;have rfa:=rf2 All (λ_ _=>trivial) (.cons (rw.same s1) (.cons (.dK aH trivial .nil 0x2) .nil));cases rfa with
 |cons q1 rfa=>
 cases rfa with
 |cons q2 rfa=>
 cases rfa with
 |cons q3 rfa=>
 cases rfa;cases q2.inv;refine⟨by show 1<=sizeLine;decide,λpf hpf=>?_⟩;show zB (aM9 vU) (fZ 3) _ [some (.ref a),some vw,some (.ref pf),none,none] (upd H2 pf (.lst [.ref x]));refine⟨Nat.zero_le _,λpv hpv=>?_⟩;have hnf:pf≠pv:=λz=>by
  subst z;rw[aH] at hpv;cases hpv
 have hpv2:H2 pv=none:=by rw[aR (Ne.symm hnf)] at hpv;exact hpv
 have s3:bU H2 (upd (upd H2 pf (.lst [.ref x])) pv (.lst [])):=(bU.upd hpf).trans (bU.upd hpv);have s03:bU H (upd (upd H2 pf (.lst [.ref x])) pv (.lst [])):=(s1.trans s2).trans s3;have none0:∀b,H2 b=none->H b=none:=λb hb=>(s1.trans s2).free hb
 have hx0:H x=none:=s1.free hx;have I0:VI CF hd mk rl m H a pf pv [⟨ws,ws.length,[]⟩] [] ⟨0,0,0⟩ (upd (upd H2 pf (.lst [.ref x])) pv (.lst [])):=
  ⟨λb o e _=>s03 b o e,self.same s03,⟨[x],by rw[aR hnf];exact aH,⟨dx,_,_,s3 _ _ hx2,q1.same s3,q3.same s3⟩,pw,rfl,hx0,by simp,trivial⟩,⟨[],aH,.nil⟩,rfl⟩
 show VV (aOp K 2) (tWB K C CF CS E) _ [some (.ref a),some vw,some (.ref pf),some (.ref pv),none] (upd (upd H2 pf (.lst [.ref x])) pv (.lst []));refine⟨λn σ H'=>∃o4 fs st k,σ=[some (.ref a),some vw,some (.ref pf),some (.ref pv),o4]/\VI CF hd mk rl m H a pf pv fs st k H'/\runN hd mk rl m n fs st k=res,⟨n0,_,_,_,_,rfl,I0,hr0⟩,?_⟩;rintro n σ H' ⟨o4,fs,st,k,rfl,I,hr⟩;cases n with
 |zero=>exact absurd hr.symm hne
 |succ n=>
 obtain⟨as,hf,fr⟩:=I.frs;refine⟨.ref pf,rfl,!((as.map V.ref).reverse).isEmpty,.inl ⟨_,.of hf,rfl⟩,?_⟩;cases fs with
 |nil=>
  cases as with
  |cons x as=>exact fr.elim
  |nil=>
  show(if false=true then _ else _);rw[if_neg Bool.false_ne_true];have hr:Res.ok (st,k)=res:=hr;subst hr;unfold aKu at he;dsimp only at he;split at he
  ·rename_i y hy;subst he;obtain⟨vs,hv,rv⟩:=I.val;obtain⟨st',rfl⟩:∃st',st=st'++[y]:=by
    have hn:st≠[]:=λz=>by rw[z] at hy;cases hy
    refine⟨st.dropLast,?_⟩;rw[List.getLast?_eq_some_getLast hn] at hy;cases hy;exact(List.dropLast_concat_getLast hn).symm
   rw[List.reverse_append,List.reverse_singleton] at rv;cases rv with
   |cons ry rr=>
   have py:y.pure=true:=bZ.mp I.pv y 0x2;exact⟨.ref pv,rfl,pv,_,0,_,rfl,rfl,.of hv,aFo rfl,hc _ _ I.sm I.self ry py⟩
  ·exact absurd he.symm hq
 |cons f fs=>
  cases as with
  |nil=>exact fr.elim
  |cons x as=>
  rw[if_pos 0x2];refine⟨λσ' H''=>∃n',n'<n+1/\∃o4 fs st k,σ'=[some (.ref a),some vw,some (.ref pf),some (.ref pv),o4]/\VI CF hd mk rl m H a pf pv fs st k H''/\runN hd mk rl m n' fs st k=res,λ_ _ z=>z,?_⟩;refine aCy hK hC hCF clF nl ok ⟨_,hsa⟩ (none0 _ hpf) (none0 _ hpv2) hnf I hr hne (λc as e H' b=>?_) λo4 H fs st k I hr=>⟨n,by lia,o4,fs,st,k,rfl,I,hr⟩
  subst e;subst he;exact hc H' b
def aKv(K:PySem.W.Frag)(vW:List D->Res D):TS:=aIq (aOi (dG (gE (aV (mD 1 vW) (aB d7 aQ)) true) (dG (OJ K (gK 3) "calls") (dG (OJ K (gK 3) "copies") (dG (OJ K (gK 3) "drops") vU)))))
def aP1(K:PySem.W.Frag)(C CS:Addr)(lP:List (Str×Srx))(vW:List D->Res D)(E:XK):TS:=
 xN (zB (tMk K "PlainRun" lP 2 (dG (gK 0) (dG (gK 2) vU))) (fZ 3))
  (xN (zB (SX C "value_of" (Z6 CS) [] E (gK 3) (dG (gK 1) vU)) (fZ 4)) (aKv K vW))
def aD3(hN:N.length=5)(hK:KFrag.K=K)(hC:nsIn K mainGlobals "PlainRun"=some (some (.ref C)))(hS:nsIn K mainGlobals "Spent"=some (some (.ref CS)))(cl:Cls K C)(nc:cD K C "calls")(np:cD K C "copies")(nd:cD K C "drops")
 (hnm:lP.map (·.1)=([Str.ofString "heads",Str.ofString "makers",Str.ofString "rules",Str.ofString "most",Str.ofString "calls",Str.ofString "copies",Str.ofString "drops"]:List Str))(h:spZ (aIg lP vW) 3 vs H Q E):aP1 K C CS lP vW E {nx:=λ_ H'=>Q .non H',rt:=Q} (L2.start N vs) H:=by
 obtain⟨ds,hd3,r,h⟩:=h;generalize hw:aIg lP vW ds=w at h;unfold aIg at hw;split at hw
 ·rename_i pr ws m;split at hw
  ·rename_i hb;rw[Bool.and_eq_true] at hb;split at hw
   ·rename_i fs hev;split at hw
    ·rename_i hd mk rl m' hfs;split at hw
     ·rename_i hpu;simp only[Bool.and_eq_true] at hpu;have hf:fs=prF hd mk rl m' ⟨0,0,0⟩:=by
       have h1:=(aEd hev).2;rw[hnm] at h1;have:fs=(fs.map (·.1)).zip (fs.map (·.2)):=by
        clear hev hfs h1;induction fs with
        |nil=>rfl
        |cons p fs ih=>rw[List.map_cons,List.map_cons,List.zip_cons_cons,<-ih]
       rw[this,h1,hfs];rfl
      subst hf;cases r with
      |cons rp r=>
      cases r with
      |cons rws r=>
      cases r with
      |cons rm r=>
      cases r;rename_i vp vws vm;have hst:L2.start N [vp,vws,vm]=[some vp,some vws,some vm,none,none]:=by
       unfold L2.start;rw[hN];rfl
      rw[hst];refine⟨vp,rfl,vm,rfl,[pr,.int m],_,rfl,.cons rp (.cons rm .nil),hev,λC' x dx H1 vf hn hx s1 hx1 rf=>?_⟩;rw[hC] at hn;cases hn;have rfa:=rf All (λ_ _=>trivial) (.cons rp (.cons rm .nil));have self1:Rep All H1 (.ref x) (.ins "PlainRun" (prF hd mk rl m' ⟨0,0,0⟩)):=.ins (by rw[hK];exact hC) hx1 rfa;have nx:∀{b:Addr}{o:HO},H b=some o->b≠x:=λe=>bI e hx
      show xN _ _ _ [some vp,some vws,some vm,some (.ref x),none] H1;refine⟨.ref x,rfl,x,dx,_,rfl,hx1,rfa.HR rfl,vws,rfl,x,vws,hd,mk,rl,m',ws,rfl,⟨hpu.1,hpu.2.1,hpu.2.2⟩,hb.1,self1,rws.same s1,?_⟩;cases hv:Z4 hd mk rl m' ws with
      |ok q=>
       obtain⟨y,k⟩:=q;rw[hv] at hw;dsimp only at hw;split at hw
       ·rename_i d hd';split at hw
        ·rename_i pd;subst hw;intro v H2 b2 self2 ry py;show aKv K vW {nx:=λ_ H'=>Q .non H',rt:=Q} [some vp,some vws,some vm,some (.ref x),some v] H2;refine⟨[.uD,.uD,.uD,.uD,y],d,(EL.skip (.skip (.skip (.skip (.cons ry .nil))))).er,?_,λvd H3 s3 rd _=>?_⟩
         ·have e4:cO 4 [.uD,.uD,.uD,.uD,y]=.ok y:=bV rfl (Z2 py);exact bO (aD e4 rfl) ((sJ rfl).trans hd')
         ·obtain⟨dx2,g1,g2,g3,hx2,_⟩:=lJ hK hC self2;have hx3:=s3 _ _ hx2;refine⟨.ref x,rfl,x,C,dx2,_,.int k.c,rfl,hx3,cl,nc,rfl,.ref x,rfl,x,C,dx2,_,.int k.p,rfl,hx3,cl,np,rfl,.ref x,rfl,x,C,dx2,_,.int k.d,rfl,hx3,cl,nd,rfl,by show 4<=sizeLine;decide,λp hp=>?_⟩;have rt:Rep All (upd H3 p (.tup [vd,.int k.c,.int k.p,.int k.d])) (.ref p) (.tup [d,.int k.c,.int k.p,.int k.d]):=.tup aH (.cons (rd.same (bU.upd hp)) (.cons (.int _) (.cons (.int _) (.cons (.int _) .nil))));refine h _ _ (λb o e=>bU.upd hp b o (s3 _ _ (b2 _ _ (s1 _ _ e) (nx e)))) rt λ_=>rt.bN ?_
          rw[D.pure];simp[D.aJ,D.pure,pd]
        ·subst hw;exact h.elim
       ·subst hw;exact h.elim
      |err c as=>
       rw[hv] at hw;subst hw;obtain⟨rfl,rfl⟩:=aD1 hv;obtain⟨fs',C',e1,e2,e3⟩:=h;cases e1;rw[hK,hS] at e2;cases e2;exact λH2 b2=>e3 H2 none (λb o e=>b2 _ _ (s1 _ _ e) (nx e)) rfl
      |bad=>
       rw[hv] at hw;subst hw;exact h.elim
     ·subst hw;exact h.elim
    ·subst hw;exact h.elim
   ·subst hw;exact h.elim
  ·subst hw;exact h.elim
 ·subst hw;exact h.elim
end
def aKw(h:aIf C vs H Q E):vs.length=3:=by
 obtain⟨_,_,_,_,_,_,_,_,_,e,_⟩:=h;rw[e];rfl
def aH6(h:Z1 CF CS vs H Q E):vs.length=3:=by
 obtain⟨_,_,_,_,_,_,_,_,_,_,e,_⟩:=h;rw[e];rfl
def aKx(h:aKs CF CS vs H Q E):vs.length=4:=by
 obtain⟨_,_,_,_,_,_,_,_,_,_,_,_,_,_,_,_,_,e,_⟩:=h;rw[e];rfl
def aH7(h:Z6 CS vs H Q E):vs.length=2:=by
 obtain⟨_,_,_,_,_,_,_,e,_⟩:=h;rw[e];rfl
def aH8(h:spZ f n vs H Q E):vs.length=n:=by
 obtain⟨_,e,r,_⟩:=h;rw[r.length,e]
section
variable {P:Program} {w:World} {K:PySem.W.Frag} {mg:Str->Option Value} {base:Heap} {x qual:Str} {st:Stmt} {f T:Addr} {its:Array Value} {fd:FuncData} {N ps:List Str} {k:Nat}
def aNu(F:aNg K x qual st f fd T its)(S:bY N ps (aL st))(len:∀vs H Q E,sp vs H Q E->vs.length=ps.length)
 (hbody:∀(cdv:Value) (A:Around) (outer:List Env) (s:Shared) (H:Hp) (vs:List V) (Q:VK) (E:XK),lX k (A.deeper (envOfC qual (aL st) s.heap.objs.size f cdv))->sp vs H Q E->
   ∃t,PSs (JW (CX2 P w) P w K mg base N qual (aL st) f cdv A outer s H E) (cR st) t/\t {nx:=λ_ H'=>Q .non H',rt:=Q} (start N vs) H):lR P w K mg base (CX2 P w) (k+1) f fd ps sp:=by
 obtain⟨oc,od,kV,doc,pm,an,cdv,ct,osl,rfl,lk,hcd⟩:=F.ex;exact aFi lk hcd S len λA outer s H vs Q E hr hsp=>hbody cdv A outer s H vs Q E hr hsp
def _root_.L2.lR.aQ6(F:lR P w K mg base (CX2 P w) k f fd ps (spZ v n)):lR P w K mg base CX0 k f fd ps (spD v n):=by
 have go:∀{vs H Q E},spD v n vs H Q E->spZ v n vs H Q (λ_ _ _=>False):=λ⟨ds,d,h1,r,h,q⟩=>⟨ds,h1,r,by rw[h];exact q⟩
 refine⟨λvs H Q E h=>F.len vs H Q _ (go h),λA outer s H args us vs Q E hr he hb hv h=>codeAny_mono (F.run A outer s H args us vs Q _ hr he hb hv (go h)) λr s' hq=>?_⟩;cases r with
 |ok fl=>cases fl<;>exact hq
 |error e=>
  obtain⟨_,_,_,_,_,_,_,_,_,_,_,_,z⟩:=hq;exact z.elim
end
end
noncomputable def UW(f:FS)(cs:List Str)(ic ie:Nat):FS:=λρ=>match f ρ with
 |.ok (.nx ρ')=>.ok (.nx ρ')
 |.err c [.exc c' fs]=>if c'==c&&cs.contains c&&decide (ie<ρ.length) then .ok (.nx (((ρ.set ie (.exc c fs)).set ic (.exc c fs)).set ie .uD)) else .bad
 |_=>.bad
def aB6(n:Nat)(v:List D->Res D)(dd:List D):List D->Res D:=λds=>mD n v (ds++dd)
variable [KFrag]
def PB(X:Cx)(body:List Stmt)(t:L2.St->Hp->(L2.St->Hp->Prop)->XK->Prop):Prop:=
 ∀(pins:List (Addr×Obj))(s:Shared)(σ:L2.St)(H:Hp)(Dn:L2.St->Hp->Prop)(De:XK),Inv X pins σ H s->t σ H Dn De->
  wpAny (model X.prog X.w) X.A (execs body X.env) (λf s'=>f=.next/\∃σ' H',Inv X pins σ' H' s'/\Dn σ' H') (λe s'=>∃H1 s1,Inv X pins σ H1 s1/\CX2 X.prog X.w X.stack H1 s1 De e s') s
def kB(own:Nat->Bool)(σ:L2.St)(H:Hp)(Dn:L2.St->Hp->Prop)(De:XK):Res Fl->Prop
 |.ok (.nx ρ')=>∀σ' H',KU own σ H σ' H'->ES own H' σ' ρ'->Dn σ' H'
 |.err c as=>∃fs C,as=[.exc c fs]/\nsIn KFrag.K mainGlobals c=some (some (.ref C))/\∀H' dx,bU H H'->XDs H' fs dx->De (.ref C) dx H'
 |_=>False
def tB3(own:Nat->Bool)(f:FS):L2.St->Hp->(L2.St->Hp->Prop)->XK->Prop:=λσ H Dn De=>∃ρ,ES own H σ ρ/\kB own σ H Dn De (f ρ)
def aNv(P:Program)(w:World)(K:PySem.W.Frag)(mg:Str->Option Value)(base:Heap)(k:Nat)(x:Str)(n:Nat)(v:List D->Res D)(dd:List D):Prop:=
 ∃(fad:Addr)(fd:FuncData)(ps:List Str)(ds:List Value)(dvs:List V),lR P w K mg base (CX2 P w) k fad fd ps (spZ v n)/\mg x=some (.ref fad)/\PySem.W.keepIn K (.ref fad)=true/\Binds K fd ps ds/\Vals dvs ds/\∀H,bG All H dvs dd
def aCj.g{K:PySem.W.Frag}(Z:aCj P w K mg base k x n v):aNv P w K mg base k x n v []:=by
 obtain⟨fad,fd,ps,F,hm,hk,hb⟩:=Z;exact⟨fad,fd,ps,[],[],F,hm,hk,hb,.nil,λ_=>.nil⟩
section
variable {X:Cx} {e c:Expr}
def kCl(X:Cx)(pins:List (Addr×Obj))(σ:L2.St)(H:Hp)(De:XK)(Q:Value->Shared->Prop):Res D->Prop
 |.ok d=>∀y u H' s',Inv X pins σ H' s'->RelV y u->bU H H'->Rep All H' y d->Rep (New H) H' y d->Q u s'
 |.err c as=>∃fs C,as=[.exc c fs]/\nsIn KFrag.K mainGlobals c=some (some (.ref C))/\∀H' dx,bU H H'->XDs H' fs dx->De (.ref C) dx H'
 |.bad=>False
def aKy(R:aNv X.prog X.w X.K X.mg X.base k f n v dd)(hr:lX k' X.A)(hkk:k<=k')(hg:Gl X f)(ha:PA X.nox (e::es) (gA fa ra))(hdb:(f==("__debug__" : Str))=false)(he:starEach (e::es) X.env=(false,eval e X.env)::starEach es X.env)(hpl:(backTo cpos (starEach es X.env)).any (·.1)=false)
 (I:Inv X pins σ H s)(E:ER H σ ρ)
 (q:kCl X pins σ H De Q (aV (aB6 n v dd) (noE fa) ρ)) :
  wpAny (model X.prog X.w) X.A (eval (.Call (.Name f p) (e::es) [] cpos) X.env) Q (λe s'=>∃H1 s1,Inv X pins σ H1 s1/\CX2 X.prog X.w X.stack H1 s1 De e s') s:=by
 obtain⟨fm,fd,ps,ds,dvs,F,hm,hk,hb,hv,hdd⟩:=R;rcases aKf with ⟨as,h1,h2⟩|h2
 ·have e1:aV (aB6 n v dd) (noE fa) ρ=mD n v (as++dd):=by unfold aV;rw[h2];rfl
  rw[e1] at q;by_cases hl:(as++dd).length=n
  ·have e2:mD n v (as++dd)=v (as++dd):=by unfold mD;rw[if_pos (decide_eq_true hl)]
   rw[e2] at q;refine wpAny_Call_Name_kw (p_ I hg hm ?_ hdb);refine callWith_K I.ok.mod.kin hk (wpAny_mono (ha cpos pins s σ H (λvs H1=>bU H H1/\bG All H1 vs as) (I.wish _) ⟨ρ,as,E,h1,λvs H' sm rs _=>⟨sm,rs⟩⟩) (λus s1 ⟨vs,H1,I1,r,sm,rs⟩=>⟨I1.kIn,?_⟩) λ_ _ z=>False.elim z) he hpl;have I1:Inv X pins σ H1 s1:=I1.nG;have hsp:spZ v n (vs++dvs) H1 (λy H2=>bU H H2/\match v (as++dd) with|.ok d=>Rep All H2 y d/\Rep (New H) H2 y d|_=>False) De:=by
    refine⟨as++dd,hl,rs.append (hdd H1),?_⟩;cases hv2:v (as++dd) with
    |ok d=>exact λy H2 s2 r2 n2=>⟨sm.trans s2,r2,(n2 rfl).mono λa ha=>sm.free ha⟩
    |err c as'=>
     rw[hv2] at q;obtain⟨fs,C,g1,g2,g3⟩:=q;exact⟨fs,C,g1,g2,λH2 dx s2 xd=>g3 H2 dx (sm.trans s2) xd⟩
    |bad=>rw[hv2] at q;exact q
   have r2:Vals (vs++dvs) (us++ds):=r.append hv;have hlen:(us++ds).length=ps.length:=by rw[<-r2.length];exact F.len _ _ _ _ hsp
   refine wpAny_call (codeAny_mono (F.run X.A X.stack s1 H1 ⟨us,[]⟩ (us++ds) (vs++dvs) _ De (hr.mono hkk) I1.env0 (hb s1 us I1.kIn hlen) r2 hsp) λr s' hq=>?_);cases r with
   |error e=>exact⟨H1,s1,I1,hq⟩
   |ok fl=>
    cases fl with
    |ret u=>
     obtain⟨y,H2,I2,ry,sm2,z⟩:=I1.after hq;cases hv2:v (as++dd) with
     |ok d=>
      rw[hv2] at q z;exact q y u H2 s' I2 ry sm2 z.1 z.2
     |err c as'=>rw[hv2] at z;exact z.elim
     |bad=>rw[hv2] at z;exact z.elim
    |next=>exact False.elim hq
    |brk=>exact False.elim hq
    |cont=>exact False.elim hq
  ·have e2:mD n v (as++dd)=.bad:=by unfold mD;rw[if_neg (by simpa using hl)]
   rw[e2] at q;exact q.elim
 ·have e1:aV (aB6 n v dd) (noE fa) ρ=.bad:=by unfold aV;rw[h2];rfl
  rw[e1] at q;exact q.elim
def aKz{o:Bool}(R:aNv X.prog X.w X.K X.mg X.base k f n v dd)(hr:lX k' X.A)(hkk:k<=k')(hg:Gl X f)(ha:PA X.nox (e::es) (gA fa ra))(ho:own i=false)(hN:X.N.Nodup)(hi:X.N[i]?=some x)(hx:Loc X.env.scope x)(hf:X.fn x=true\/X.env.scope.names.lookup x=some .local:=by first|exact .inl rfl|exact .inr rfl|assumption)
 (hdb:(f==("__debug__" : Str))=false:=by decide)(he:starEach (e::es) X.env=(false,eval e X.env)::starEach es X.env:=by rfl)(hpl:(backTo cpos (starEach es X.env)).any (·.1)=false:=by rfl)(hs:swapsWith (.Call (.Name f p) (e::es) [] cpos) (some (.Name x px)) xpos.line X.env=pure false:=by rfl) :
  PB X [.Assign [.Name x px] (.Call (.Name f p) (e::es) [] cpos) xpos] (tB3 own (bW false i (aV (aB6 n v dd) (noE fa)) true)):=by
 intro pins s σ H Dn De I ⟨ρ,es',q⟩;refine wpAny_execs_cons (wpAny_Assign_Name (aKy R hr hkk hg ha hdb he hpl I es'.er ?_) hs);cases hq:aV (aB6 n v dd) (noE fa) ρ with
 |ok d=>
  have e1:bW false i (aV (aB6 n v dd) (noE fa)) true ρ=.ok (.nx (ρ.set i d)):=by unfold bW;rw[hq];rfl
  rw[e1] at q;intro y u H' s' I' ry sm r1 r2;refine yX I' hN hi hx ry (λs2 I2=>wpAny_execs_nil ⟨rfl,_,H',I2,q _ H' (λb ob eb nb=>⟨sm b ob eb,λz=>nb ((jX ho b).mp z)⟩) ?_⟩) hf;refine(es'.same sm).set ho (r2.mono λb hb z=>?_);obtain⟨o',e',_⟩:=es'.live z;rw[show H b=none from hb] at e';cases e'
 |err c as=>
  have e1:bW false i (aV (aB6 n v dd) (noE fa)) true ρ=.err c as:=by unfold bW;rw[hq];rfl
  rw[e1] at q;exact q
 |bad=>
  have e1:bW false i (aV (aB6 n v dd) (noE fa)) true ρ=.bad:=by unfold bW;rw[hq];rfl
  rw[e1] at q;exact q.elim
end
def aNw(K:Frag)(cM:Value)(tb:L2.St->Hp->(L2.St->Hp->Prop)->XK->Prop)(ie:Nat)(ts:TS):TS:=λD σ H=>tb σ H (λσ' H'=>D.nx σ' H') λCv dd H2=>∃C,Cv=.ref C/\exmOne K (.ref C) cM=some true/\∀a,H2 a=none->ts {nx:=λσ' H'=>D.nx (σ'.set ie none) H',rt:=λ_ _=>False} (σ.set ie (some (.ref a))) (upd H2 a (.ext (XO a C dd)))
theorem aH9
  (hst:X.stack=X.env::X.outer) (hfr:X.env.frame=some X.env.locals) (hb:PB X body tb) (hgM:Gl X mx) (hmM:X.mg mx=some cM) (hN:X.N.Nodup) (hin:X.N[ie]?=some n) (hln:X.env.scope.names.lookup n=some .local)
  (hs:∀v,PSs (mrk X v).nox (b0::suite) ts) (hdM:(mx==("__debug__" : Str))=false:=by decide) :
  PS X (.Try body [.ExceptHandler (some (.Name mx mp)) (some n) (b0::suite) hpos] [] [] pos) (aNw X.K cM tb ie ts):=by
 intro pins s σ H D I h;refine wpAny_Try_except (wpAny_mono (hb pins s σ H _ _ I h) (λf s' ⟨e,σ',H',I',q⟩=>?_) λe s' ⟨H1,s1,I1,hq⟩=>?_)
 ·subst e;exact wpAny_execs_nil ⟨σ',H',I',q⟩
 ·obtain⟨a,C',dd,H2,B,rfl,os',bare',fly,clo,hn,hgone,C,eC,hx,hE⟩:=hq;cases eC;rw[hst] at fly;refine ZJ (by rw[I.ok.frames,hst]) hfr fly λh4 held4 sm4=>?_
  refine oZ held4 λh5 fly5 sm5=>?_
  have up5:s'.heap.UpToSlots h5:=Heap.UpToSlots.trans sm4 sm5;have I5:Inv X pins σ H2 {s' with heap:=h5}:=by
   obtain⟨un,hok⟩:=clo h5 fly5.1 up5;exact I1.call' os' un hok bare' (λb z=>absurd z 0x2)
  refine wpAny_handleBy_cons (codeAny_handlers_test ?_) (by intro q;cases q);refine p_ (YC I5 _) hgM hmM ?_ hdM;have LT:Looks (model X.prog X.w) h5 (typeOf (.ref a)) (.ref C'):=by
   obtain⟨ob,hob,hc,_⟩:=fly5.there;rw[<-hc];exact(Looks.ld hob).andThen .now
  refine(exm_one I5.kIn LT hx).here ?_;refine codeAny_handlers_suite_as ?_;refine oZ fly5 λh6 fly6 sm6=>?_
  obtain⟨un6,hok6⟩:=clo h6 fly6.1 (Heap.UpToSlots.trans up5 sm6);have I6:Inv X pins σ (upd H2 a (.ext (XO a C' dd))) {s' with heap:=h6}:=
   I1.call' os' (aJq un6 hgone hn) (aGk hok6 hn (aNj fly6.there)) bare' (λb z=>absurd z 0x2)
  refine DN (v:=.ref a) I6 hN hin (.inl hln) rfl (λs7 I7 _=>?_) (.inr hln);refine wpAny_mono (hs (.ref a) pins s7 _ _ _ ((YC I7 _).wish _) (hE a hn)) (λfl s8 q8=>?_) λ_ _ z=>False.elim z
  cases fl with
  |ret u=>obtain⟨_,_,_,_,_,z⟩:=q8;exact z.elim
  |brk=>obtain⟨_,_,_,z⟩:=q8;exact z.elim
  |cont=>obtain⟨_,_,_,z⟩:=q8;exact z.elim
  |next=>
   obtain⟨σ8,H8,I8,q⟩:=q8;have I8:Inv X pins σ8 H8 s8:=YD I.ok I8.nG;obtain⟨m,hm8,hl8⟩:=id I8.loc;refine wpAny_nameGoes_keeps hln hm8 (by rw[I.ok.kind];rfl) λh9 v hn9 sb9=>?_
   exact⟨_,H8,aC5 I8 hN hin hm8 hl8 hn9 sb9,q⟩
def aHa
  (hK:KFrag.K=X.K) (hst:X.stack=X.env::X.outer) (hfr:X.env.frame=some X.env.locals) (hb:PB X body (tB3 own f)) (hgM:Gl X mx) (hmM:X.mg mx=some cM)
  (hcs:∀c,cs.contains c=true->∃C,nsIn X.K mainGlobals c=some (some (.ref C))/\exmOne X.K (.ref C) cM=some true)
  (hN:X.N.Nodup) (hin:X.N[ie]?=some nm) (hln:X.env.scope.names.lookup nm=some .local) (hic:X.N[ic]?=some cn) (hlc:Loc X.env.scope cn) (hfc:X.fn cn=true\/X.env.scope.names.lookup cn=some .local) (oc:own ic=false) (oe:own ie=false) (hne:ie≠ic)
  (hdM:(mx==("__debug__" : Str))=false:=by decide) (hs2:swapsWith (.Name nm ep) (some (.Name cn tp)) ap.line X.env=pure false:=by rfl) (hd1:(nm==("__debug__" : Str))=false:=by decide) (hd2:(nm==("__classdict__" : Str))=false:=by decide) :
  PS X (.Try body [.ExceptHandler (some (.Name mx mp)) (some nm) [.Assign [.Name cn tp] (.Name nm ep) ap] hpos] [] [] pos) (tS own (UW f cs ic ie)):=by
 refine PS.imp (aH9 hst hfr hb hgM hmM hN hin hln (λv=>dY (N7 hN hic hlc (aW hin (.inl hln) hd1 hd2) hs2 hfc)) hdM) λD σ H ⟨ρ,fl,es,h,q⟩=>?_
 refine⟨ρ,es,?_⟩;unfold UW at h;split at h
 ·rename_i ρ' hf;cases h;rw[hf];exact λσ' H' ku E'=>q σ' H' ku E'
 ·rename_i c c' fs hf;split at h
  ·rename_i hc;rw[Bool.and_eq_true,Bool.and_eq_true] at hc;have ec:=beq_iff_eq.mp hc.1.1;subst ec;cases h;rw[hf];obtain⟨C,hn,hx⟩:=hcs _ hc.1.2;refine⟨fs,C,rfl,by rw[hK];exact hn,λH2 dd s2 xd=>⟨C,rfl,hx,λa ha=>?_⟩⟩;have hl2:ie<σ.length:=by
    rw[es.len];exact of_decide_eq_true hc.2
   have rp:∀P,Rep P (upd H2 a (.ext (XO a C dd))) (.ref a) (.exc c' fs):=λP=>.exc (by rw[hK];exact hn) aH (by
    cases dd with
    |none=>exact xd
    |some d=>
     have xd:H2 d=some (.ext (XD d fs)):=xd;show upd _ _ _ d=_;rw[aR (λz=>by rw[z,ha] at xd;cases xd)];exact xd)
   have sm3:bU H (upd H2 a (.ext (XO a C dd))):=s2.trans (aC6 ha);have es3:=(((es.same sm3).set oe (rp _)).set oc (rp _)).drop oe;refine⟨.ref a,by rw[List.getElem?_set_self hl2],?_⟩;exact q _ _ (λb o eb nb=>⟨sm3 b o eb,λz=>nb ((jX oe b).mp ((jX oc b).mp ((QZ oe b).mp z)))⟩) es3
  ·exact bx h
 ·exact bx h
end Mi
namespace Mi
open PySem L2 PySem.SeqAt PySem.Spec PyProof.Rows
noncomputable def Z7(f:FX):FS:=λρ=>do
 let p <- f ρ
 .ok (.rt (.tup (p.1::p.2)))
def xTu(f:FX):FX:=λρ=>do
 let p <- f ρ
 match p.1 with
 |.lst xs=>if D.aJ xs then .ok (.tup xs,p.2) else .bad
 |_=>.bad
def U0(i:Nat)(f:FX):FS:=λρ=>do
 let p <- f ρ
 match ρ.getD i .uD,p.2.getD i .uD,p.1 with
 |.lst _,.lst xs,.lst ys=>if decide (xs.length+ys.length<=lim)&&D.aJ ys then .ok (.nx (p.2.set i (.lst (xs++ys)))) else .bad
 |_,_,_=>.bad
noncomputable def aD4(tbl:List (Str×Bool))(i:Nat):FE:=λρ=>match ρ.getD i .uD with
 |.exc c _=>(match tbl.lookup c with|some b=>.ok (.bl b)|none=>.bad)
 |.non=>.ok (.bl false)
 |_=>.bad
variable [KFrag]
section
def aHb(he:PE X e (gX own f))(hx:own rtX=true:=by rfl):PS X (.Return (some e) pos) (tS own (Z7 f)):=PS.imp (oK he) λD σ H ⟨ρ,fl,E,h,q⟩=>by
 obtain⟨⟨d,ρ'⟩,h1,h2⟩:=aY h;cases h2;refine⟨ρ,d,ρ',E,h1,λv H' k E' ns r=>kRt.new q hx v σ H' k E' (r.mono λa ha=>⟨.inr ha,λi b xs hb z=>?_⟩)⟩;subst z;obtain⟨vs,hσ,e⟩:=iB E' hb;have hO:own i=true:=by
  cases ho:own i with
  |true=>rfl
  |false=>
   have:=ns i ho;rw[hb] at this;obtain⟨_,hs,e2⟩:=iB E this.symm;rw[show H a=none from ha] at e2;cases e2
 obtain⟨o,e2,_⟩:=E.live ⟨i,hO,hσ⟩;rw[show H a=none from ha] at e2;cases e2
def aNx(hg:Gl X "tuple")(hm:X.mg "tuple"=none)(he:PE X e (gX own f))(hs:starEach [e] X.env=(false,eval e X.env)::starEach [] X.env:=by rfl)(hpl:(backTo pos (starEach [] X.env)).any (·.1)=false:=by rfl):PE X (.Call (.Name "tuple" p) [e] [] pos) (gX own (xTu f)):=
 PE.imp (D_ fG hg hm d9 (bJ he dZ hs) 0x4 0x4 hs hpl) λσ H Q ⟨ρ,d,ρ',E,h,q⟩=>by
 obtain⟨⟨x,ρ1⟩,h1,h⟩:=aY h;cases x<;>try (exact bx h;done)
 rename_i xs;dsimp only at h;split at h
 ·rename_i hp;cases h;refine⟨ρ,.lst xs,_,E,h1,λv H' k E' ns r=>⟨[.lst xs],.tup xs,.cons r.all .nil,rfl,λu H2 sm rp _=>q u H2 (k.trans (.same sm)) (E'.same sm) ns (rp.bN (show D.aJ xs=true from hp))⟩⟩
 ·exact bx h
def aHc(ho:own i=true)(hN:X.N[i]?=some x)(hv:Vis X.env.scope x)(he:PE X e (gX own f))(hd:nDb x:=by decide)(hcd:nCd x:=by decide)
 (hbase:attributeBase (.Name x p1) "extend" X.env (eval (.Name x p1) X.env)=eval (.Name x p1) X.env:=by rfl)
 (hs1:starEach [e] X.env=(false,eval e X.env)::starEach [] X.env:=by rfl)
 (hfew:((backTo cpos (starEach [e] X.env)).all (λx=>!x.1)&&(backToKw cpos (keywordEach [] X.env)).all (λx=>x.1.isSome)
  &&decide (([e]:List Expr).length+([]:List Keyword).length+(if ([]:List Keyword).isEmpty then 0 else 1)<30))=true:=by rfl)
 (hline:(apos.endLine==cpos.line)=true:=by rfl)
 (hs:swapsWith (.Call (.Attribute (.Name x p1) "extend" apos) [e] [] cpos) none pos.line X.env=pure false:=by rfl) :
  PS X (.Expr (.Call (.Attribute (.Name x p1) "extend" apos) [e] [] cpos) pos) (tS own (U0 i f)):=
 PS.imp (kO (J9 PySem.F.plainAttrs_list PySem.F.slot_list_extend PySem.F.type_list_extend FN (aW hN hv hd hcd) (bJ he dZ hs1) hbase hfew hline hs1 rfl) hs) λD' σ H ⟨ρ,fl,E,h,q⟩=>by
 obtain⟨⟨d,ρ'⟩,h1,h2⟩:=aY h;dsimp only at h2;split at h2
 ·rename_i xs0 xs ys hx0 hx;split at h2
  ·rename_i hk;cases h2;rw[Bool.and_eq_true,decide_eq_true_eq] at hk;obtain⟨a,o,hσ,r,hin,ha,hm⟩:=E.ownAt ho (by rw[hx0];intro z;cases z);rw[hx0] at r;obtain⟨vs,hl,rr⟩:=yH r;refine⟨_,hσ,.inl ⟨rfl,vs,.of hl⟩,ρ,_,ρ',E,h1,λv H' k E' ns rv=>?_⟩;obtain⟨a2,o2,hσ2,r2,hin2,ha2,hm2⟩:=E'.ownAt ho (by rw[hx];intro z;cases z);rw[hσ] at hσ2;cases hσ2;rw[hx] at r2 hin2;obtain⟨vs2,hl2,rr2⟩:=yH r2;obtain⟨b,zs,rfl,hb,_,rz⟩:=rv.inv;refine⟨a,b,vs2,zs,rfl,rfl,hl2,hb,by rw[rr2.length,rz.length];exact Nat.le_trans hk.1 (by rw[sizeLine_eq];decide),?_⟩;have hp:D.aJ (xs++ys)=true:=by rw[jG,Bool.and_eq_true];exact⟨hin2,hk.2⟩
   obtain⟨E2,k2⟩:=E'.mut ho hσ rfl (.lst aH trivial ((rr2.append rz.all).upd hp hl2 rfl)) hp;exact q _ _ (k.trans k2) E2
  ·exact bx h2
 ·exact bx h2
end
section
open PySem.W
def aD5(hK:KFrag.K=X.K)(ht:∀c b,tbl.lookup c=some b->∃C,nsIn X.K mainGlobals c=some (some (.ref C))/\XC X.K C/\kitOne X.K (.ref C) u=some b)(hn:kitOne X.K (.type "NoneType") u=some false)(hu:∀u',RelV v u'->u'=u)(hg:Gl X "isinstance")(hm:X.mg "isinstance"=none)(hN:X.N[i]?=some y)(hv:Vis X.env.scope y)(ha:PE X ce (tC v))
 (hst:starEach [ce] X.env=(false,eval ce X.env)::starEach [] X.env)(hpl:(backTo pos (starEach [ce] X.env)).any (·.1)=false)
 (hd:(y==("__debug__" : Str))=false:=by decide)(hcd:(y==("__classdict__" : Str))=false:=by decide) :
  PE X (.Call (.Name "isinstance" p) [.Name y np,ce] [] pos) (gE (aD4 tbl i) true):=by
 have hc:nQ X (.builtin "isinstance") (λvs H Q=>∃x b,vs=[x,v]/\((x=.non/\b=false)\/∃a C dx,x=.ref a/\H a=some (.ext (XO a C dx))/\XC X.K C/\kitOne X.K (.ref C) u=some b)/\Q (.bl b) H):=by
  intro pins s σ H vs us Q I r ⟨x,b,e,hx,q⟩;subst e;cases r with
  |cons r1 r=>
   cases r with
   |cons r2 r=>
    cases r;have e2:=hu _ r2;subst e2;rcases hx with ⟨rfl,rfl⟩|⟨a,C,dx,rfl,ea,c,hk⟩
    ·cases r1;exact kia_one kitx_none I.kIn trivial hn 0x7 λtk=>⟨.bl false,H,I.tok tk,rfl,q⟩
    ·cases r1;obtain⟨px,_⟩:=I.hok a _ ea;exact kia_one (aC4 c) I.kIn px.exc hk 0x7 λtk=>⟨.bl b,H,I.tok tk,rfl,q⟩
 refine PE.imp (zF hc hg hm 0x6 (bJ (aW hN hv hd hcd) (bJ ha dZ hst)) (hpl:=hpl)) λσ H Q ⟨ρ,d,er,h,q⟩=>?_
 unfold aD4 at h;split at h
 ·rename_i c fs hρ;split at h
  ·rename_i b hb;cases h;obtain⟨a,C,dx,h1,n,e⟩:=aGt er hρ;obtain⟨C',n',xc,hk⟩:=ht c b hb;rw[hK,n'] at n;cases n;exact⟨.ref a,h1,.ref a,b,rfl,.inr ⟨a,C,dx,rfl,e,xc,hk⟩,q _ _ (λ_ _ z=>z) (.bl b) λ_=>.bl b⟩
  ·exact bx h
 ·rename_i hρ;cases h;obtain⟨w,h1,r1⟩:=er i (by rw[hρ];intro z;cases z);rw[hρ] at r1;cases r1.inv;exact⟨.non,h1,.non,false,rfl,.inl ⟨rfl,rfl⟩,q _ _ (λ_ _ z=>z) (.bl false) λ_=>.bl false⟩
 ·exact bx h
end
end Mi
section
local macro_rules | `(tactic| trivial) => `(tactic| first | exact Or.inl rfl | exact Or.inr rfl | exact Or.inr (Or.inl rfl) | exact Or.inr (Or.inr rfl))
namespace Lk55
open PySem L2 Mi PySem.W
noncomputable def top(i:Nat):Stmt:=PySem.Challenge.pw_hookmill_k55_whole_kinds_kept.main.body.getD i (.Pass ⟨0,0,0,0⟩)
abbrev sW:Stmt:=top 4
noncomputable def U3:Nat->Bool:=λi=>i==1
def U4:FS:=bB (bW true 1 (bC (.dct [])) true) (bB (VD (bK (b2 getD nJ cP) false) (tgN [2,3,4]) (W8 1 eY (fW (aB c7 (aB d7 aQ))))) (bB (VD (bK (b2 getD nJ iW) false) (tgN [2,3,5,6]) (W8 1 eY (fW (aB c7 (aB (b2 G6 (fW (aB mC aQ)) jR) aQ))))) (aJ6 1)))
def i_:List D->Res D:=fnS 1 7 U4
abbrev sX:Stmt:=top 7
noncomputable def U5:Nat->Bool:=λi=>i==1||i==2
def yQ:FS:=bB (bW true 1 (gM aQ) true) (bB (bW true 2 (gM (aB (bPu nJ) aQ)) true) (bB (aMh (bTr eY) (bB (G7 2 3) (bB (zL 1 (b2 getD c7 cG)) (aC9 2 (b1 aB3 (b2 getD c7 cP)))))) (nU (aV cX (aB fD aQ)) false)))
def jA:List D->Res D:=fnS 1 4 yQ
abbrev n6:Stmt:=rowOf (top 8) 0
def mX:List (Str×Srx):=[("words",.par 1),("left",.exp (aV lC (aB fD aQ))),("known",.par 2)]
abbrev eQ:Stmt:=rowOf (top 9) 0
def fM:List (Str×Srx):=[("heads",.exp (aV (mD 1 i_) (aB fD aQ))),("makers",.exp (b1 wO (cJ 3 (bK (b2 getD fD cP) false) jT dH (fW (aB (b2 getD c7 cG) (aB (bC (.bl true)) aQ))) false))),("rules",.exp (b1 A_ (cJ 3 (bK (b2 getD fD h_) false) jT dH (fW (aB (fW (aB (b2 getD c7 cG) (aB (b2 getD c7 cP) aQ))) (aB c7 aQ))) false))),("most",.par 2),("calls",.exp cG),("copies",.exp cG),("drops",.exp cG)]
abbrev fO:Stmt:=rowOf (top 9) 1
abbrev dN:Stmt:=rowOf (top 9) 2
abbrev lL:Stmt:=rowOf (top 9) 3
abbrev eF:Stmt:=rowOf (top 9) 4
abbrev sY:Stmt:=top 6
def eG:List D->Res D:=aIg fM jA
abbrev n8:Stmt:=top 11
noncomputable def M3:Nat->Bool:=λi=>i==0||i==1000000
def wV:FS:=bB (bW false 1 (b2 getD nJ cG) false) (bB (bW false 2 (b2 getD nJ cP) false) (bB (K_ 0 cP (b2 (aU .add) eY cP)) (bB (sIf (bTB (b2 (uN .lt) eY (aV lC (aB fD aQ)))) (KJ (b2 getD fD eY) false) mF) (bB (sIf (bTB (b2 (eX .eq) (aV lC (aB fD aQ)) cG)) (KJ (b2 (aU .add) (b2 xR (b2 xR eY eY) h_) eY) true) mF) (KJ (b2 (aU .add) (b2 (aU .fdiv) (b2 getD fD (b2 (aU .mod) eY (aV lC (aB fD aQ)))) iW) (b2 xR eY eY)) true)))))
def aN:List D->Res D:=fnX 1 1 3 wV
abbrev iD:Stmt:=top 12
noncomputable def HX:Nat->Bool:=λi=>i==0||i==9||i==1000000
def HY:FS:=bB (bW false 1 (bC (.str "abcdefghijklmnopqrstuvwxyz")) true) (bB (eV false 2 (bT aN 1 0 aQ)) (bB (bW false 3 (b2 getD (gM (aB cP (aB h_ (aB aFv (aB (bC (.int 7)) (aB aMe (aB (bC (.int 25)) aQ))))))) (b2 (aU .mod) (b2 (aU .fdiv) eY h_) KD)) false) (bB (bW false 4 (b2 (aU .mod) (b2 (aU .fdiv) eY W6) nD) true) (bB (eV false 5 (bT aN 1 0 aQ)) (bB (bW false 6 (b2 (aU .mod) mC aJ4) true) (bB (bW false 7 (bM joinM (bC (.str "")) (aB (cJ 14 (jW (aB jR aQ) iK) jT dH (b2 getD fD (b2 (aU .mod) (b2 (aU .add) (b2 (aU .fdiv) mC aJ4) (b2 xR fV (b2 (aU .add) d7 (b2 (aU .mod) (b2 (aU .fdiv) mC KH) aFv)))) nD)) false) aQ)) true) (bB (eV false 8 (x2L (aU .mod) (bT aN 1 0 aQ) (b2 (aU .add) jR cP))) (bB (sIf (bTB (b2 (eX .eq) (b2 (aU .mod) eY h_) iW)) (bW false 7 (nC jN fX (eZ KD)) true) mF) (bB (bW true 9 (gM aQ) true) (bB (VD (jW (aB nD aQ) iK) (tg1 10) (bB (bW false 11 (b2 (aU .mod) (b2 (aU .add) (b2 xR mL c7) d7) nD) true) (sIf (bTB (b2 (eX .eq) (b2 (aU .mod) eY h_) cP)) (zL 9 (b2 xR (b2 getD fD (b2 (aU .mod) (b2 (aU .add) d7 (b2 (aU .mod) eO DG)) nD)) (b2 (aU .add) cP (b2 (aU .fdiv) eO DG)))) (sIf (bTB (b2 (eX .eq) (b2 (aU .mod) eY h_) iW)) (bB (bW false 12 (b2 getD fD (b2 (aU .mod) (b2 (aU .add) d7 (b2 (aU .mod) eO KD)) nD)) false) (bB (bW false 13 (b2 getD fD (b2 (aU .mod) (b2 (aU .add) d7 (b2 (aU .fdiv) eO KD)) nD)) false) (zL 9 (b2 (aU .add) (b2 (aU .add) (b2 (aU .add) (nC jN fX (eZ lY)) k_) lA) (nC jN (eZ lY) fX))))) (zL 9 (b2 (aU .add) (b2 (aU .add) (nC jN fX (eZ lY)) (b2 getD fD eO)) (nC jN (eZ lY) fX))))))) (bB (sIf (bOr (bTB (b2 inX (bC (.str "copy")) kJ)) (bTB (b2 inX (bC (.str "drop")) kJ))) (bW true 9 (cJ 14 (bK kJ false) jT dH (b2 (aU .add) fV (bC (.str "e"))) true) true) mF) (nM 9))))))))))))
def fP:List D->Res D:=fnX 1 1 14 HY
abbrev gU:Stmt:=top 13
noncomputable def U6:Nat->Bool:=λi=>i==0||i==4||i==5||i==6||i==11||i==1000000
def sZ:FS:=bB (eV false 2 (bT aN 1 0 aQ)) (bB (bW false 3 (b2 (aU .add) cP (b2 (aU .mod) eY h_)) true) (bB (bW true 4 (nC fD fX (eZ c7)) true) (bB (bW true 5 (cJ 13 (jW (aB c7 aQ) iK) jT dH (fW (aB (b2 getD fD (b2 (aU .add) h_ lA)) (aB (b2 getD d7 lA) (aB (fW aQ) aQ)))) false) true) (bB (bW true 6 (b1 wO (cJ 13 (bK d7 false) jT dH (fW (aB lA (aB cP aQ))) false)) true) (bB (aGl (aEb (bTB (b2 (uN .gt) c7 cP)) (xTB (x2L (eX .eq) (x2L (aU .mod) (bT aN 1 0 aQ) h_) cP))) (bB (bW false 7 (aV cX (aB (nC d7 fX (eZ (b2 (aU .add) cP (b2 (aU .mod) (b2 (aU .fdiv) eY xP) (b2 (aU .sub) c7 cP))))) aQ)) false) (bB (K_ 5 (b1 O_ cP) (fW (aB (b2 getD fD (b2 (aU .add) iW c7)) (aB (b2 getD d7 (b1 O_ cP)) (aB jN aQ))))) (W8 6 (b2 getD d7 (b1 O_ cP)) (b2 (aU .add) cP (aV lC (aB jN aQ)))))) mF) (bB (VD (jW (aB (b2 (aU .mod) (b2 (aU .fdiv) eY h_) DG) aQ) iK) (tg1 8) (bB (eV false 9 (bT aN 1 0 aQ)) (bB (bW false 7 (cJ 13 (jW (aB (b2 (aU .mod) (b2 (aU .fdiv) kJ h_) DG) aQ) iK) jT dH (b2 getD d7 (b2 (aU .mod) (b2 (aU .fdiv) kJ (b2 getD (gM (aB xP (aB (bC (.int 36)) (aB (bC (.int 108)) aQ)))) lA)) c7)) false) true) (zL 5 (fW (aB (b2 getD fD (b2 (aU .add) (b2 (aU .add) h_ c7) lY)) (aB (b2 getD d7 (b2 (aU .mod) kJ c7)) (aB (aV cX (aB jN aQ)) aQ)))))))) (bB (bW false 10 (b2 (aU .mod) (b2 (aU .fdiv) eY xP) (aV lC (aB mC aQ))) true) (bB (bW true 11 (gM aQ) true) (bB (Y6 (aK6 (x2R (aU .add) cP (x2L (aU .mod) (bT aN 1 0 aQ) h_))) (tg1 8) (bB (eV false 9 (bT aN 1 0 aQ)) (bB (bW false 12 (cJ 13 (jW (aB (b2 (aU .mod) (b2 (aU .fdiv) kJ aMe) h_) aQ) iK) jT dH (b2 getD d7 (b2 (aU .mod) (b2 (aU .fdiv) kJ (b2 getD (gM (aB (bC (.int 27)) (aB (bC (.int 81)) aQ))) lA)) c7)) false) true) (zL 11 (fW (aB (b2 getD fD (b2 (aU .add) aFw lY)) (aB (b2 getD d7 (b2 (aU .mod) kJ c7)) (aB (b2 getD d7 (b2 (aU .mod) (b2 (aU .fdiv) kJ h_) c7)) (aB (aV cX (aB k_ aQ)) aQ))))))))) (G_ (aB (bOw 4) (aB (b2 (aU .add) (nC mC (eZ mL) fX) (nC mC fX (eZ mL))) (aB (bOw 11) (aB (bOw 6) aQ))))))))))))))
def jB:List D->Res D:=fnX 1 2 13 sZ
abbrev iG:Stmt:=top 14
noncomputable def H_:Nat->Bool:=λi=>i==0||i==5||i==6||i==1000000
def IK:FS:=bB (bW true 5 (gM aQ) true) (bB (bW true 6 (gM (aB (bPu eY) aQ)) true) (bB (bW false 7 (aV max2 (aB cG (aB (b2 (aU .sub) c7 (b2 getD d7 eY)) aQ))) false) (bB (aMh (bTB (b2 (eX .ne) jR (gM aQ))) (bB (G7 6 8) (bB (bW false 9 (b2 (aU .sub) (b2 (aU .add) jN (b2 getD d7 lY)) cP) true) (bB (bW false 10 (cJ 12 (bK fD false) jT (aBq (bTB (b2 (eX .eq) (b2 getD k_ cP) lY)) (bTB (b2 (uN .le) (aV zY (aB (cJ 13 (bK (b2 getD k_ iW) false) jT dH (b2 getD d7 lA) false) aQ)) kJ))) k_ false) true) (bB (eV false 11 (x2R getD mL (x2L (aU .mod) (bT aN 1 0 aQ) (aV lC (aB mL aQ))))) (bB (zL 5 (b2 getD eO cG)) (bB (bW false 7 (b2 (aU .sub) kJ (aV zY (aB (cJ 12 (bK (b2 getD eO iW) false) jT dH (b2 getD d7 k_) false) aQ))) true) (aC9 6 (b1 aB3 (b2 getD eO iW)))))))))) (nM 5))))
def cF:List D->Res D:=fnX 1 5 12 IK
abbrev fQ:Stmt:=top 15
noncomputable def IV:Nat->Bool:=λi=>i==0||i==6||i==1000000
def mY:FS:=bB (bW false 5 (b2 (aU .add) fD (cJ 14 (bK eY false) jT dH (fW (aB (b2 getD fV cG) (aB (b2 getD fV cP) (aB (b2 G6 (fW (aB (b2 getD fV iW) aQ)) (b2 getD fV h_)) aQ)))) false)) true) (bB (bW true 6 (gM aQ) true) (bB (uV 2 (tg1 7) (uV 1 (tg1 8) (sIf (bTB (b2 (eX .eq) (b2 getD lY cP) (b2 getD jN iW))) (bB (bW false 9 (b2 G6 (b2 getD lY iW) (b2 getD jN h_)) false) (bB (bW false 10 (b2 (aU .add) cP (b2 (aU .mod) (aV lC (aB jR aQ)) DG)) true) (bB (bW false 11 (cJ 14 (jW (aB (aV lC (aB kJ aQ)) aQ) iK) jT dH (b2 getD c7 (b2 (aU .add) (bC (.int 13)) (b2 (aU .mod) (b2 (aU .add) (aV lC (aB jR aQ)) (b2 xR fV mL)) aFv))) false) true) (bB (bW false 12 (cJ 14 (jW (aB (aV lC (aB kJ aQ)) aQ) iK) jT dH (fW (aB (b2 getD eO fV) (aB (b2 getD kJ fV) (aB (fW aQ) aQ)))) false) true) (bB (eV false 13 (bT cF 5 0 (aB (b2 (aU .add) k_ mC) (aB (bPu (b2 getD jN cP)) (aB (bPu KD) (aB d7 aQ)))))) (zL 6 (fW (aB (b2 getD jN cG) (aB (b2 getD lY cG) (aB (aV cX (aB eO aQ)) (aB (aV cX (aB lA aQ)) aQ))))))))))) mF))) (nM 6)))
def iH:List D->Res D:=fnX 1 5 14 mY
abbrev mZ:Stmt:=top 17
noncomputable def IW:Nat->Bool:=λi=>false
def jV:FS:=bB (bW false 3 (bC .non) true) (bB (bW false 4 (bC .non) true) (bB (UW (bW false 3 (aV (aB6 3 eG []) (noE (aB nJ (aB fD (aB eY aQ))))) true) ["Spent"] 4 5) (bB (sIf (bTr (aD4 [("Spent",true)] 4)) (nU (gM aQ) true) mF) (nU (gM (aB (bPu c7) aQ)) true))))
def bH:List D->Res D:=fnS 3 6 jV
abbrev lN:Stmt:=top 19
noncomputable def BP:Nat->Bool:=λi=>false
def BR:FS:=bB (sIf (bOr (VB (bTr (b1 (xQ .tuple) nJ))) (bTB (b2 (eX .ne) (aV lC (aB nJ aQ)) DG))) (nU (b1 O_ cP) true) mF) (bB (VD (bK (nC nJ (eZ cP) fX) true) (tg1 1) (sIf (bOr (VB (bTr (b1 (xQ .int) fD))) (bOr (bTr (b1 (xQ .bool) fD)) (bTB (b2 (uN .lt) fD cG)))) (nU (b1 O_ cP) true) mF)) (nU (b2 (aU .add) (b2 (aU .add) (b2 getD nJ cP) (b2 getD nJ iW)) (b2 getD nJ h_)) true))
def gF:List D->Res D:=fnS 1 2 BR
abbrev n_:Stmt:=top 16
noncomputable def M4:Nat->Bool:=λi=>i==0||i==7||i==1000000
def lO:FS:=bB (eV false 6 (x2R getD eY (x2L (aU .mod) (bT aN 1 0 aQ) (aV lC (aB eY aQ))))) (bB (sIf (bTB (b2 (eX .ne) c7 (bC (.str "")))) (Z7 (bT cF 5 0 (aB fD (aB c7 (aB d7 (aB mC aQ)))))) mF) (bB (bW true 7 (gM (aB (bPu (b2 getD jR cG)) aQ)) true) (bB (VD (bK (b2 G6 (fW (aB (b2 getD jR iW) aQ)) (b2 getD jR h_)) false) (tg1 8) (U0 7 (bT cF 5 0 (aB fD (aB lY (aB d7 (aB mC aQ))))))) (nM 7))))
def gW:List D->Res D:=fnX 1 6 9 lO
abbrev jL:Stmt:=top 18
noncomputable def wW:Nat->Bool:=λi=>i==3||i==5
def jM:FS:=bB (sIf (VB (bTr (b1 (xQ .tuple) nJ))) (nU (bC (.bl false)) true) mF) (bB (bW true 3 (bC (.dct [])) true) (bB (uV 2 (tg1 4) (W8 3 (b2 getD d7 cG) d7)) (bB (bW true 5 (gM (aB (bPu fD) aQ)) true) (bB (uV 0 (tg1 6) (bB (sIf (bOr (VB (bTr (b1 (xQ .str) jR))) (bOr (bTB (b2 (eX .notin) jR c7)) (bTB (b2 (eX .eq) mC (gM aQ))))) (nU (bC (.bl false)) true) mF) (bB (aGl (xTB (x2L (eX .ne) (T7 5) (b2 getD (b2 getD c7 jR) cP))) (nU (bC (.bl false)) true) mF) (aC9 5 (b1 aB3 (b2 getD (b2 getD c7 jR) iW)))))) (nU (b2 (eX .eq) mC (gM aQ)) true)))))
def dC:List D->Res D:=fnS 3 7 jM
abbrev wX:Stmt:=top 20
noncomputable def o_law:Nat->Bool:=λi=>i==1
def aHd:FS:=bB (bW true 1 (aMi (gM (aB (nC nJ fX (eZ O9)) (aB cG aQ)))) true) (bB (eV false 2 (bT aN 1 1 aQ)) (bB (eV false 3 (x2L (aU .mod) (bT aN 1 1 aQ) (bC (.int 61)))) (bB (sIf (bTB (b2 (eX .eq) (b2 (aU .mod) (b2 (aU .fdiv) eY W6) DG) cP)) (bW false 3 (b2 xR c7 KD) true) mF) (bB (eV false 4 (bT fP 1 1 aQ)) (bB (Y7 (bT jB 2 1 (aB d7 aQ)) [5,6,7,8]) (bB (bW false 9 (b2 (aU .add) jR (cJ 17 (bK jN false) jT dH (fW (aB (b2 getD oV cG) (aB (b2 getD oV cP) (aB (b2 G6 (fW (aB (b2 getD oV iW) aQ)) (b2 getD oV h_)) aQ)))) false)) true) (bB (bW false 10 (bC (.str "")) true) (bB (sIf (bTB (b2 (eX .eq) (b2 (aU .mod) eY iW) cP)) (bW false 10 (b2 getD mC (b2 (aU .mod) (b2 (aU .fdiv) eY KD) (aV lC (aB mC aQ)))) false) mF) (bB (eV false 11 (xTu (bT gW 6 1 (aB kJ (aB jN (aB mL (aB (bPu (b2 getD (gM (aB DG (aB xP (aB KH aQ)))) (b2 (aU .mod) (b2 (aU .fdiv) eY iW) h_))) (aB lY aQ)))))))) (bB (bW false 12 (b2 getD (cJ 17 (bK kJ false) jT (bTB (b2 (eX .eq) (b2 getD oV cG) (b2 getD eO cG))) (b2 getD oV cP) false) cG) false) (bB (eV false 13 (bT iH 5 1 (aB jR (aB jN (aB d7 (aB lY aQ)))))) (bB (bW false 14 (fW (aB (aV cX (aB mC aQ)) (aB (aV cX (aB jR aQ)) (aB (aV cX (aB jN aQ)) (aB (aV cX (aB lA aQ)) aQ))))) false) (bB (bW false 15 (aV (mD 3 bH) (aB fV (aB eO (aB c7 aQ)))) true) (bB (sIf (bTB (b2 (eX .eq) j4 (gM aQ))) (nU (b2 (eX .eq) (aV (mD 3 bH) (aB fV (aB eO (aB (b2 (aU .fdiv) c7 iW) aQ)))) (gM aQ)) true) mF) (bB (bW false 16 (aV (mD 1 gF) (aB (b2 getD j4 cG) aQ)) true) (bB (sIf (bOr (bTB (b2 (uN .lt) xO cG)) (bOr (bTB (b2 (uN .gt) xO c7)) (VB (bTr (aV (mD 3 dC) (aB (b2 getD (b2 getD j4 cG) cG) (aB k_ (aB jR aQ)))))))) (nU (bC (.bl false)) true) mF) (bB (sIf (bTB (b2 (eX .ne) (aV (mD 3 bH) (aB fV (aB eO (aB xO aQ)))) j4)) (nU (bC (.bl false)) true) mF) (bB (sIf (aBq (bTB (b2 (uN .gt) xO cG)) (bTB (b2 (eX .ne) (aV (mD 3 bH) (aB fV (aB eO (aB (b2 (aU .sub) xO cP) aQ)))) (gM aQ)))) (nU (bC (.bl false)) true) mF) (nU (aMf (b2 (uN .gt) (aV lC (aB (b2 getD (b2 getD j4 cG) cG) aQ)) W7) (b2 (eX .eq) (aV (mD 3 bH) (aB fV (aB (b2 getD (b2 getD j4 cG) cG) (aB cG aQ)))) (gM (aB (bPu (fW (aB (b2 getD (b2 getD j4 cG) cG) (aB cG (aB cG (aB cG aQ)))))) aQ)))) true)))))))))))))))))))
def U7:List D->Res D:=fnS 1 17 aHd
noncomputable abbrev yR:List Str:=["program","heads","name","kind","parts","taken","more"]
noncomputable abbrev yS:List Str:=["value","found","waiting","node"]
noncomputable abbrev Z8:List Str:=["program","words","most","plain","value"]
noncomputable abbrev wY:List Str:=["deck","cells","at"]
noncomputable abbrev fU:List Str:=["deck","letters","choice","turn","shift","cell","size","base","at","names","k","spot","ahead","behind"]
noncomputable abbrev dX:List Str:=["deck","names","cell","many","kinds","makers","least","behind","k","one","at","takers","more"]
noncomputable abbrev dD:List Str:=["deck","heads","wanted","most","least","words","due","left","kind","room","some","pick"]
noncomputable abbrev dF:List Str:=["deck","makers","takers","names","least","heads","rules","taker","maker","behind","step","own","known","words"]
noncomputable abbrev uP:List Str:=["program","words","bound","found","caught","e"]
noncomputable abbrev o9:List Str:=["found","count"]
noncomputable abbrev wZ:List Str:=["deck","heads","takers","wanted","most","least","row","words","kind"]
noncomputable abbrev m5:List Str:=["words","kind","makers","stand","row","due","word"]
noncomputable abbrev U8:List Str:=["script","deck","cell","bound","names","kinds","makers","takers","least","heads","wanted","words","kind","rules","program","found","total"]
def M5:bY yR ["program"] (aL sW):=by refine⟨rfl,rfl,rfl,?_,rfl,?_,?_⟩<;>decide +kernel
def I_[KFrag](hK:KFrag.K=K)(B:Bt mg)(F:Fun K "heads_of" "heads_of" sW fad fd)(hm:mg "heads_of"=some (.ref fad)):uW P w K mg base 1 "heads_of" 1 i_:=by
 have sc:=M5;have nd:=sc.nd;refine GR F hm (F.binds λ_ _ _ _ _ _ us hl=>match us,hl with|[_],_=>rfl) sc U3 0x4 0x4 λcdv A outer s H E hr=>?_
 have hu:=DK hr;exact aG (cT (P_)) (aG (yI PassesOwn.never rfl (eU (bA aA aF)) (X3 _ 0x4) (VR rfl (eN (a_ sc.nd rfl 0x0) (eN (a_ sc.nd rfl 0x0) (eN (a_ sc.nd rfl 0x0) (zA))))) (bD (QK hu rfl rfl 0x0 aA (d8 (aC aA (aC aA aP)))))) (aG (yI PassesOwn.never rfl (eU (bA aA aF)) (X3 _ 0x4) (VR rfl (eN (a_ sc.nd rfl 0x0) (eN (a_ sc.nd rfl 0x0) (eN (a_ sc.nd rfl 0x0) (eN (a_ sc.nd rfl 0x0) (zA)))))) (bD (QK hu rfl rfl 0x0 aA (d8 (aC aA (aC (aZ wJ (d8 (aC aA aP)) aA) aP)))))) (bD (aG8 rfl rfl 0x0))))
def M6:bY yS ["value"] (aL sX):=by refine⟨rfl,rfl,rfl,?_,rfl,?_,?_⟩<;>decide +kernel
def JB[KFrag](hK:KFrag.K=K)(B:Bt mg)(F:Fun K "words_of" "words_of" sX fad fd)(hm:mg "words_of"=some (.ref fad)):uW P w K mg base 1 "words_of" 1 jA:=by
 have sc:=M6;have nd:=sc.nd;refine GR F hm (F.binds λ_ _ _ _ _ _ us hl=>match us,hl with|[_],_=>rfl) sc U5 0x4 0x4 λcdv A outer s H E hr=>?_
 have hu:=DK hr;exact aG (cT (d_ aP)) (aG (cT (d_ (aC (T6 aA) aP))) (aG (aE7 PassesOwn.never (uL aA) (aG (YS rfl rfl 0x0 sc.nd rfl 0x0 rfl) (aG (uM rfl rfl 0x0 (bA aA aF)) (bD (YT rfl rfl 0x0 (MF 0x3 0x3 B.list 0x3 B.reversed (bA aA aF))))))) (bD (jF (dU fG 0x3 B.tuple d9 (aC aA aP))))))
def aD6:bY (["self","words","known"]:List Str) ["self","words","known"] (aL n6):=by refine⟨rfl,rfl,rfl,?_,rfl,?_,?_⟩<;>decide +kernel
def Z9[KFrag](hK:KFrag.K=K)(B:Bt mg)(cls:Cls K C)(na:∀f∈mX.map (·.1),cD K C f)(F:Fun K "__init__" "Frame.__init__" n6 fad fd):lR P w K mg base CX0 1 fad fd ["self","words","known"] (aCl C mX 2):=by
 have sc:=aD6;have nd:=sc.nd;refine aEf F sc rfl rfl cls 0x6 na 0x4 λcdv A outer s H E hr=>?_
 have hu:=DK hr;exact bR (jP (aW rfl 0x0) (aW rfl 0x0) rfl) (bR (jP (aW rfl 0x0) (cL (jE hK) 0x3 B.len jJ (aC aA aP)) rfl) (bR (jP (aW rfl 0x0) (aW rfl 0x0) rfl) (yZ)))
def M7:bY (["self","program","most"]:List Str) ["self","program","most"] (aL eQ):=by refine⟨rfl,rfl,rfl,?_,rfl,?_,?_⟩<;>decide +kernel
def JC[KFrag](hK:KFrag.K=K)(B:Bt mg)(rL:uW P w K mg base 1 "heads_of" 1 i_)(cls:Cls K C)(na:∀f∈fM.map (·.1),cD K C f)(F:Fun K "__init__" "PlainRun.__init__" eQ fad fd):lR P w K mg base CX0 2 fad fd ["self","program","most"] (aCl C fM 2):=by
 have sc:=M7;have nd:=sc.nd;refine aEf F sc rfl rfl cls 0x6 na 0x4 λcdv A outer s H E hr=>?_
 have hu:=DK hr;exact bR (jP (aW rfl 0x0) (iY rL hr 0x4 0x3 (aC aA aP)) rfl) (bR (jP (aW rfl 0x0) (HH 0x3 0x3 B.dict (g_ (show cH (["self","program","most"]:List Str) (aL eQ) _ (["maker"]:List Str) from by refine⟨rfl,?_,?_,?_,?_,?_,?_⟩<;>decide +kernel) rfl rfl rfl (eU (bA aA aF)) (eE 3) (λ_=>a_ (show((List.map (gJ (["maker"]:List Str)) (["self","program","most"]:List Str)++(["maker"]:List Str)):List Str).Nodup from by decide +kernel) rfl 0x0) (λ_=>d8 (aC (bA aA aF) (aC K1 aP))) (λ_=>rfl))) rfl) (bR (jP (aW rfl 0x0) (UL 0x3 hu 0x3 B.dict (g_ (show cH (["self","program","most"]:List Str) (aL eQ) _ (["rule"]:List Str) from by refine⟨rfl,?_,?_,?_,?_,?_,?_⟩<;>decide +kernel) rfl rfl rfl (eU (bA aA aF)) (eE 3) (λ_=>a_ (show((List.map (gJ (["rule"]:List Str)) (["self","program","most"]:List Str)++(["rule"]:List Str)):List Str).Nodup from by decide +kernel) rfl 0x0) (λ_=>d8 (aC (d8 (aC (bA aA aF) (aC (bA aA aF) aP))) (aC aA aP))) (λ_=>rfl))) rfl) (bR (jP (aW rfl 0x0) (aW rfl 0x0) rfl) (bR (jP (aW rfl 0x0) aF rfl) (bR (jP (aW rfl 0x0) aF rfl) (bR (jP (aW rfl 0x0) aF rfl) (yZ)))))))
def M8:bY (["self","words","frames","values","frame"]:List Str) ["self","words"] (aL fO):=by refine⟨rfl,rfl,rfl,?_,rfl,?_,?_⟩<;>decide +kernel
def JD:bY (["self","frames","values","word","known","parts"]:List Str) ["self","frames","values","word"] (aL dN):=by refine⟨rfl,rfl,rfl,?_,rfl,?_,?_⟩<;>decide +kernel
def Z_:bY (["self","taker","parts","taken","rule","known","name","value"]:List Str) ["self","taker","parts"] (aL lL):=by refine⟨rfl,rfl,rfl,?_,rfl,?_,?_⟩<;>decide +kernel
def BV:bY (["self","uses","size"]:List Str) ["self","uses","size"] (aL eF):=by refine⟨rfl,rfl,rfl,?_,rfl,?_,?_⟩<;>decide +kernel
def aNy(σ:L2.St)(H:Hp)(Q Q':List V->Hp->Prop)(h:∀vs H',Q vs H'->Q' vs H')(x:(dG (gK 1) (dG O7 vU)) σ H Q):(dG (gK 1) (dG O7 vU)) σ H Q':=by
 obtain⟨v,e,q⟩:=x;exact⟨v,e,λp hp=>h _ _ (q p hp)⟩
def aNz[KFrag](σ:L2.St)(H:Hp)(Q Q':List V->Hp->Prop)(h:∀vs H',Q vs H'->Q' vs H')(x:(dG (gE cf7 false) (dG (gK 5) vU)) σ H Q):(dG (gE cf7 false) (dG (gK 5) vU)) σ H Q':=by
 obtain⟨ρ,d,e,e2,q⟩:=x;exact⟨ρ,d,e,e2,λv H' s r n=>let ⟨u,z,q⟩:=q v H' s r n;⟨u,z,h _ _ q⟩⟩
def aO0(σ:L2.St)(H:Hp)(Q Q':List V->Hp->Prop)(h:∀vs H',Q vs H'->Q' vs H')(x:(dG (gK 0) (dG (gK 2) vU)) σ H Q):(dG (gK 0) (dG (gK 2) vU)) σ H Q':=by
 obtain⟨v,e,u,z,q⟩:=x;exact⟨v,e,u,z,h _ _ q⟩
def aL0[KFrag](ws:List D)(kn:List (D×D))(h:D.aJ ws=true)(hk:D.aJ (kn.map (·.2))=true):evS [.uD,.tup ws,.dct kn] mX=.ok [("words",.tup ws),("left",.int ws.length),("known",.dct kn)]:=by
 have h1:okF (.tup ws)=true:=by unfold okF;rw[D.pure,h];rfl
 have e3:evS [.uD,.tup ws,.dct kn] [("known",.par 2)]=.ok [("known",.dct kn)]:=by
  show(if okF (.dct kn)=true then Res.ok [(("known" : Str),D.dct kn)] else .bad)=_;rw[if_pos (BK hk)]
 have e2:evS [.uD,.tup ws,.dct kn] [("left",.exp (aV lC (aB fD aQ))),("known",.par 2)]=.ok [("left",.int ws.length),("known",.dct kn)]:=by
  show(do let ds <- evS [.uD,.tup ws,.dct kn] [("known",.par 2)];if okF (.int ws.length)=true then Res.ok ((("left" : Str),D.int ws.length)::ds) else .bad)=_;rw[e3];rfl
 show(do let ds <- evS [.uD,.tup ws,.dct kn] [("left",.exp (aV lC (aB fD aQ))),("known",.par 2)];if okF (.tup ws)=true then Res.ok ((("words" : Str),D.tup ws)::ds) else .bad)=_;rw[e2,Res.aO,if_pos h1]
def gG[KFrag](hK:KFrag.K=K)(B:Bt mg)(cl:Cls K C)(nq:cD K C "drops")(np:cD K C "copies")(F:Fun K "count_uses" "PlainRun.count_uses" eF fad fd):lR P w K mg base CX0 1 fad fd ["self","uses","size"] (aIf C):=by
 have sc:=BV;have nd:=sc.nd;refine F.ok sc (λvs H Q E h=>aKw h) λcdv A outer s H vs Q E hr h=>⟨tCU K,?_,aGy rfl cl nq np h⟩
 exact(dY (J6 (VM (aDs (aW rfl 0x0) oJ)) (dY (jP (aW rfl 0x0) (DP (jO (aW rfl 0x0) rfl) (aW rfl 0x0)) rfl)) (dY (jP (aW rfl 0x0) (DP (jO (aW rfl 0x0) rfl) (aIm (aDq (aW rfl 0x0) oJ) (aW rfl 0x0))) rfl))))
def m7[KFrag](hK:KFrag.K=K)(B:Bt mg)(q_Frame:aIe P w K mg base 1 "Frame" mX 2)(hC:nsIn K mainGlobals "PlainRun"=some (some (.ref C)))(hCF:nsIn K mainGlobals "Frame"=some (some (.ref CF)))(cl:Cls K C)(nc:cD K C "calls")(np:cD K C "copies")(nq:cD K C "drops")(nm:cD K C "most")(fr:JZ K "PlainRun" "rules")(mS:mg "Spent"=some (.ref CS))(xS:excIn K CS aNf "ValueError.__new__"=true)(M:Meth K C "count_uses" fm)(T:lR P w K mg base CX0 1 fm fdm psm (aIf C))(hb:Binds K fdm psm [])(F:Fun K "called" "PlainRun.called" lL fad fd):lR P w K mg base (CX2 P w) 3 fad fd ["self","taker","parts"] (Z1 CF CS):=by
 have sc:=Z_;have nd:=sc.nd;refine aNq F sc (λvs H Q E h=>aH6 h) λcdv A outer s H vs Q E hr h=>⟨aOr K C CS mX E,?_,aCu rfl hK hC hCF cl nc np nq nm aL0 h⟩
 have hu:=DK hr;exact(bR (nH (bA aA aF) (a_ sc.nd rfl 0x0)) (bR (nH (bA (HN hK fr aA) (d8 (aC aA (aC (bA aA aF) aP)))) (a_ sc.nd rfl 0x0)) (bR (nH (aCp 0x3 B.dict 0x3 B.zip (aC (bA aA aF) (aC (aZ b7 (dU (aG3 0x3) 0x3 B.list X4 (aC (bA aA aF) aP)) (lV hK aA (iR aF) iQ)) aP))) (a_ sc.nd rfl 0x0)) (bR (jP (aW rfl 0x0) (DP (jO (aW rfl 0x0) rfl) oJ) rfl) (bR (aKi (N_ PassesOwn.leaving rfl (aCs rfl 0x0) (VR rfl (eN (a_ sc.nd rfl 0x0) (eN (a_ sc.nd rfl 0x0) zA))) (dY (kO (zE (aW rfl 0x0) cl M T (hr.mono 0x4) hb .nil aBn (bJ (aJd PySem.F.plainAttrs_tuple PySem.F.slot_tuple_count PySem.F.type_tuple_count ZV (bA aA aF) (aC aA aP) (λ_ _ _ _ _ h r=>ZW h r)) (bJ (bA aA aF) dZ))))))) (bR (J6 (VM (aMs (DP (DP (jO (aW rfl 0x0) rfl) (jO (aW rfl 0x0) rfl)) (jO (aW rfl 0x0) rfl)) (jO (aW rfl 0x0) rfl))) (dY (PS.imp (aC2 rfl 0x3 mS xS (bJ aDp dZ)) λD σ H hE=>⟨by decide,λpins s h2 a us I hx=>ZM I hx hE⟩)) yZ) (dY (oK (aGu q_Frame hr 0x4 0x3 (bJ (bA aA aF) (bJ (aW rfl 0x0) dZ)) (hmono:=aNz))))))))))
def iI[KFrag](hK:KFrag.K=K)(B:Bt mg)(hC:nsIn K mainGlobals "PlainRun"=some (some (.ref C)))(clF:Cls K CF)(nk:cD K CF "known")(cl:Cls K C)(fh:JZ K "PlainRun" "heads")(fm_:JZ K "PlainRun" "makers")(M:Meth K C "called" fm)(T:lR P w K mg base (CX2 P w) 3 fm fdm psm (Z1 CF CS))(hb:Binds K fdm psm [])(F:Fun K "take_word" "PlainRun.take_word" dN fad fd):lR P w K mg base (CX2 P w) 4 fad fd ["self","frames","values","word"] (aKs CF CS):=by
 have sc:=JD;have nd:=sc.nd;refine aNq F sc (λvs H Q E h=>aKx h) λcdv A outer s H vs Q E hr h=>⟨tTk K C CF CS E,?_,aH3 rfl hK hC clF nk h⟩
 have hu:=DK hr;exact(bR (nH (jO (WK sE (aW rfl 0x0) (aFa V3 oJ) (λ_ _=>rfl)) rfl) (a_ sc.nd rfl 0x0)) (dY (J6 (cY (QL hu) aA aA 0x5) (dY (kO (J9 PySem.F.plainAttrs_list PySem.F.slot_list_append PySem.F.type_list_append mH (aW rfl 0x0) (by exact(bJ (bA aA aA) dZ))))) (bR (aCw (show cH (["self","frames","values","word","known","parts"]:List Str) (aL dN) _ (["kind"]:List Str) from by refine⟨rfl,?_,?_,?_,?_,?_,?_⟩<;>decide +kernel) rfl rfl rfl (eU (bA (bA (HN hK fh aA) aA) aF)) (λ_=>a_ (show((List.map (gJ (["kind"]:List Str)) (["self","frames","values","word","known","parts"]:List Str)++(["kind"]:List Str)):List Str).Nodup from by decide +kernel) rfl 0x0) (λ_=>aGv rfl rfl 0x0) (λ_=>rfl) sc.nd rfl 0x0 (Or.inl rfl) 0x5) (dY (J6 (cY (QL hu) aA (HN hK fm_ aA) 0x5) (dY (kO (J9 PySem.F.plainAttrs_list PySem.F.slot_list_append PySem.F.type_list_append mH (aW rfl 0x0) (by exact(bJ (d8 (aC aA (aC (dU fG 0x3 B.tuple d9 (aC aA aP)) (aC (aZ b7 aF (cL (YG 0x3) 0x3 B.sum YH (aC (g_ (show cH (["self","frames","values","word","known","parts"]:List Str) (aL dN) _ (["part"]:List Str) from by refine⟨rfl,?_,?_,?_,?_,?_,?_⟩<;>decide +kernel) rfl rfl rfl (eU aA) (eE 6) (λ_=>a_ (show((List.map (gJ (["part"]:List Str)) (["self","frames","values","word","known","parts"]:List Str)++(["part"]:List Str)):List Str).Nodup from by decide +kernel) rfl 0x0) (λ_=>(bA aA aF)) (λ_=>rfl)) aP))) aP)))) dZ))))) (dY (kO (J9 PySem.F.plainAttrs_list PySem.F.slot_list_append PySem.F.type_list_append mH (aW rfl 0x0) (by exact(bJ (zE (aW rfl 0x0) cl M T (hr.mono 0x4) hb .nil sU (bJ (aW rfl 0x0) (bJ (aW rfl 0x0) dZ))) dZ)))))))))))
def gY[KFrag]{fad:Addr}{fd:FuncData}(hK:KFrag.K=K)(B:Bt mg){C CF CS fm:Addr}{fdm:FuncData}{psm:List Str}(q_Frame:aIe P w K mg base 1 "Frame" mX 2)(hC:nsIn K mainGlobals "PlainRun"=some (some (.ref C)))(hCF:nsIn K mainGlobals "Frame"=some (some (.ref CF)))(clF:Cls K CF)(nl:cD K CF "left")(cl:Cls K C)(M:Meth K C "take_word" fm)(T:lR P w K mg base (CX2 P w) 4 fm fdm psm (aKs CF CS))(hb:Binds K fdm psm [])(fw:JZ K "Frame" "words")(fl:JZ K "Frame" "left")(F:Fun K "value_of" "PlainRun.value_of" fO fad fd):lR P w K mg base (CX2 P w) 5 fad fd ["self","words"] (Z6 CS):=by
 have sc:=M8;have nd:=sc.nd;refine aNq (N:=(["self","words","frames","values","frame"]:List Str)) F sc (λvs H Q E h=>aH7 h) λcdv A outer s H vs Q E hr h=>⟨aP0 K C CF CS mX E,?_,aD2 rfl hK hC hCF clF nl aL0 h⟩
 have hu:=DK hr;exact(bR (nH (O3 (bJ (aGu q_Frame hr 0x4 0x3 (bJ (aW rfl 0x0) (bJ O8 dZ)) (hmono:=aNy)) dZ)) (a_ sc.nd rfl 0x0)) (bR (nH (O3 dZ) (a_ sc.nd rfl 0x0)) (bR (N8 PassesOwn.leaving (OD (aW rfl 0x0) (λ_=>rfl)) (bR (nH (WK sE (aW rfl 0x0) (aFa V3 oJ) (λ_ _=>rfl)) (a_ sc.nd rfl 0x0)) (dY (J6 (VM (aDs (jO (aW rfl 0x0) rfl) oJ)) (dY (kO (FJ PySem.F.plainAttrs_list PySem.F.slot_list_pop PySem.F.type_list_pop O6 (aW rfl 0x0)))) (bR (jP (aW rfl 0x0) (aDq (jO (aW rfl 0x0) rfl) oJ) rfl) (dY (kO (zE (aW rfl 0x0) cl M T (hr.mono 0x4) hb .nil sU (bJ (aW rfl 0x0) (bJ (aW rfl 0x0) (bJ (bA (HN hK fw aA) (HN hK fl aA)) dZ))))))))))) (dY (oK (WK sE (aW rfl 0x0) oJ (λ_ _=>rfl)))))))
def aD7:bY Z8 ["program","words","most"] (aL sY):=by refine⟨rfl,rfl,rfl,?_,rfl,?_,?_⟩<;>decide +kernel
def Q9[KFrag]{fd:FuncData}(hK:KFrag.K=K)(B:Bt mg)(rM:uW P w K mg base 1 "words_of" 1 jA){C CS fm:Addr}{fdm:FuncData}{psm:List Str}(q_PlainRun:aIe P w K mg base 2 "PlainRun" fM 2)(hC:nsIn K mainGlobals "PlainRun"=some (some (.ref C)))(hS:nsIn K mainGlobals "Spent"=some (some (.ref CS)))(cl:Cls K C)(nc:cD K C "calls")(np:cD K C "copies")(nq:cD K C "drops")(M:Meth K C "value_of" fm)(T:lR P w K mg base (CX2 P w) 5 fm fdm psm (Z6 CS))(hb:Binds K fdm psm []){T':Addr}{its:Array Value}(F:aNg K "worth" "worth" sY fad fd T' its):lR P w K mg base (CX2 P w) 6 fad fd ["program","words","most"] (spZ eG 3):=by
 have sc:=aD7;have nd:=sc.nd;refine aNu (N:=Z8) F sc (λvs H Q E h=>aH8 h) λcdv A outer s H vs Q E hr h=>⟨aP1 K C CS fM jA E,?_,aD3 rfl hK hC hS cl nc np nq rfl h⟩
 have hu:=DK hr;exact(bR (nH (aGu q_PlainRun hr 0x4 0x3 (bJ (aW rfl 0x0) (bJ (aW rfl 0x0) dZ)) (hmono:=aO0)) (a_ sc.nd rfl 0x0)) (bR (nH (zE (aW rfl 0x0) cl M T (hr.mono 0x4) hb .nil sU (bJ (aW rfl 0x0) dZ)) (a_ sc.nd rfl 0x0)) (dY (oK (aDu (bJ (iY rM hr 0x4 0x3 (aC aA aP)) (bJ (jO (aW rfl 0x0) rfl) (bJ (jO (aW rfl 0x0) rfl) (bJ (jO (aW rfl 0x0) rfl) dZ)))))))))
def JF:bY wY ["deck"] (aL n8):=by refine⟨rfl,rfl,rfl,?_,rfl,?_,?_⟩<;>decide +kernel
def BW[KFrag]{mg:Str->Option Value}{base:Heap}{fad:Addr}{fd:FuncData}(hK:KFrag.K=K)(B:Bt mg)(F:Fun K "_law_next" "_law_next" n8 fad fd)(hm:mg "_law_next"=some (.ref fad)):z7 P w K mg base 1 "_law_next" 1 1 aN:=by
 have sc:=JF;have nd:=sc.nd;refine sS (ps:=["deck"]) 1 F hm (F.binds λ_ _ _ _ _ _ us hl=>match us,hl with|[_],_=>rfl) sc M3 0x4 0x4 λcdv A outer s H E hr=>?_
 have hu:=DK hr;exact aG (cT (bA aA aF)) (aG (cT (bA aA aF)) (aG (Y4 rfl rfl 0x0 aF (aZ b7 aA aF)) (aG (lF (cY aGe aA (cL (jE hK) 0x3 B.len jJ (aC aA aP)) (cU _)) (bD (LK (bA aA aA))) dJ) (aG (lF (cY (nW hu) (cL (jE hK) 0x3 B.len jJ (aC aA aP)) aF (cU _)) (bD (LK (aZ b7 (aZ mR (aZ mR aA aA) aF) aA))) dJ) (bD (LK (aZ b7 (aZ dI (bA aA (aZ b8 aA (cL (jE hK) 0x3 B.len jJ (aC aA aP)))) aF) (aZ mR aA aA))))))))
def BX:bY fU ["deck"] (aL iD):=by refine⟨rfl,rfl,rfl,?_,rfl,?_,?_⟩<;>decide +kernel
def xV[KFrag]{mg:Str->Option Value}{base:Heap}{fad:Addr}{fd:FuncData}(hK:KFrag.K=K)(B:Bt mg)(p6:z7 P w K mg base 1 "_law_next" 1 1 aN)(F:Fun K "_law_names" "_law_names" iD fad fd)(hm:mg "_law_names"=some (.ref fad)):z7 P w K mg base 2 "_law_names" 1 1 fP:=by
 have sc:=BX;have nd:=sc.nd;refine sS 1 F hm (F.binds λ_ _ _ _ _ _ us hl=>match us,hl with|[_],_=>rfl) sc HX 0x4 0x4 λcdv A outer s H E hr=>?_
 have hu:=DK hr;exact aG (cT wA) (aG (jU rfl sc.nd rfl 0x0 (cN p6 hr 0x4 0x3 rfl rfl 0x0 (gD))) (aG (cT (bA (d_ (aC aF (aC aF (aC aF (aC aF (aC aF (aC aF aP))))))) (aZ b8 (aZ dI aA aF) aF))) (aG (cT (aZ b8 (aZ dI aA aF) aF)) (aG (jU rfl sc.nd rfl 0x0 (cN p6 hr 0x4 0x3 rfl rfl 0x0 (gD))) (aG (cT (aZ b8 aA aF)) (aG (cT (aJd PySem.F.plainAttrs_str PySem.F.slot_str_join PySem.F.type_str_join aGf wA (aC (g_ (show cH fU (aL iD) _ (["k"]:List Str) from by refine⟨rfl,?_,?_,?_,?_,?_,?_⟩<;>decide +kernel) (m:=1) rfl rfl rfl (mQ 0x3 B.range (aC aA aP)) (eE 14) (λ_=>a_ (show((List.map (gJ (["k"]:List Str)) fU++(["k"]:List Str)):List Str).Nodup from by decide +kernel) rfl 0x0) (λ_=>bA aA (aZ b8 (aZ b7 (aZ dI aA aF) (aZ mR aA (aZ b7 aA (aZ b8 (aZ dI aA aF) aF)))) aF)) (λ_=>rfl)) aP) (λ_ _ _ _ _ h r=>aC0 h r))) (aG (jU rfl sc.nd rfl 0x0 (yK b8 (cN p6 hr 0x4 0x3 rfl rfl 0x0 (gD)) (aZ b7 aA aF))) (aG (lF (cY (nW hu) (aZ b8 aA aF) aF (cU _)) (bD (cT (lV hK aA (iQ) (iR aF)))) dJ) (aG (cT (d_ aP)) (aG (yI PassesOwn.never rfl (mQ 0x3 B.range (aC aF aP)) (lG rfl) (a_ sc.nd rfl 0x0) (aG (cT (aZ b8 (aZ b7 (aZ mR aA aA) aA) aF)) (bD (lF (cY (nW hu) (aZ b8 aA aF) aF (cU _)) (bD (uM rfl rfl 0x0 (aZ mR (bA aA (aZ b8 (aZ b7 aA (aZ b8 aA aF)) aF)) (aZ b7 aF (aZ dI aA aF))))) (bD (lF (cY (nW hu) (aZ b8 aA aF) aF (cU _)) (aG (cT (bA aA (aZ b8 (aZ b7 aA (aZ b8 aA aF)) aF))) (aG (cT (bA aA (aZ b8 (aZ b7 aA (aZ dI aA aF)) aF))) (bD (uM rfl rfl 0x0 (aZ b7 (aZ b7 (aZ b7 (lV hK aA (iQ) (iR aA)) aA) aA) (lV hK aA (iR aA) (iQ))))))) (bD (uM rfl rfl 0x0 (aZ b7 (aZ b7 (lV hK aA (iQ) (iR aA)) (bA aA aA)) (lV hK aA (iR aA) (iQ))))))))))) (aG (lF (PW.pt (GC (cY (QL hu) wA aA 0x5) (F_ (cY (QL hu) wA aA 0x5)))) (bD (oY (ownN:=(["name"]:List Str)) (show cH fU (aL iD) _ (["name"]:List Str) from by refine⟨rfl,?_,?_,?_,?_,?_,?_⟩<;>decide +kernel) (n:=14) (m:=1) rfl rfl rfl (eU aA) (eE 14) (λ_=>a_ (show((List.map (gJ (["name"]:List Str)) fU++(["name"]:List Str)):List Str).Nodup from by decide +kernel) rfl 0x0) (λ_=>aZ b7 aA wA) (λ_=>rfl) (iy:=9) (o:=true) rfl sc.nd rfl 0x0 (Or.inl rfl) 0x5)) dJ) (bD (vH rfl rfl 0x0)))))))))))))
def M9:bY dX ["deck","names"] (aL gU):=by refine⟨rfl,rfl,rfl,?_,rfl,?_,?_⟩<;>decide +kernel
def JG[KFrag]{mg:Str->Option Value}{base:Heap}{fad:Addr}{fd:FuncData}(hK:KFrag.K=K)(B:Bt mg)(p6:z7 P w K mg base 1 "_law_next" 1 1 aN)(F:Fun K "_law_sig" "_law_sig" gU fad fd)(hm:mg "_law_sig"=some (.ref fad)):z7 P w K mg base 2 "_law_sig" 2 1 jB:=by
 have sc:=M9;have nd:=sc.nd;refine sS 1 F hm (F.binds λ_ _ _ _ _ _ us hl=>match us,hl with|[_,_],_=>rfl) sc U6 0x4 0x4 λcdv A outer s H E hr=>?_
 have hu:=DK hr
 exact aG (jU rfl sc.nd rfl 0x0 (cN p6 hr 0x4 0x3 rfl rfl 0x0 (gD))) (aG (cT (aZ b7 aF (aZ b8 aA aF))) (aG (cT (lV hK aA (iQ) (iR aA))) (aG (oY (show cH dX (aL gU) _ (["k"]:List Str) from by refine⟨rfl,?_,?_,?_,?_,?_,?_⟩<;>decide +kernel) rfl rfl rfl (mQ 0x3 B.range (aC aA aP)) (eE 13) (λ_=>a_ (show((List.map (gJ (["k"]:List Str)) dX++(["k"]:List Str)):List Str).Nodup from by decide +kernel) rfl 0x0) (λ_=>d8 (aC (bA aA (aZ b7 aF aA)) (aC (bA aA aA) (aC (d8 aP) aP)))) (λ_=>rfl) rfl sc.nd rfl 0x0 (Or.inl rfl) 0x5) (aG (cT (HH 0x3 0x3 B.dict (g_ (show cH dX (aL gU) _ (["kind"]:List Str) from by refine⟨rfl,?_,?_,?_,?_,?_,?_⟩<;>decide +kernel) (m:=1) rfl rfl rfl (eU aA) (eE 13) (λ_=>a_ (show((List.map (gJ (["kind"]:List Str)) dX++(["kind"]:List Str)):List Str).Nodup from by decide +kernel) rfl 0x0) (λ_=>d8 (aC aA (aC aF aP))) (λ_=>rfl)))) (aG (aK0 (PW.pt (aK7 (cY aBz aA aF (cU _)) (aGr (YZ (nW hu) (yK b8 (cN p6 hr 0x4 0x3 rfl rfl 0x0 (gD)) aF) aF (cU _))))) (aG (cT (dU fG 0x3 B.tuple d9 (aC (lV hK aA (iQ) (iR (aZ b7 aF (aZ b8 (aZ dI aA aF) (aZ GD aA aF))))) aP))) (aG (Y4 rfl rfl 0x0 (XJ GF aF) (d8 (aC (bA aA (aZ b7 aF aA)) (aC (bA aA (XJ GF aF)) (aC aA aP))))) (bD (QK hu rfl rfl 0x0 (bA aA (XJ GF aF)) (aZ b7 aF (cL (jE hK) 0x3 B.len jJ (aC aA aP))))))) dJ) (aG (yI PassesOwn.never rfl (mQ 0x3 B.range (aC (aZ b8 (aZ dI aA aF) aF) aP)) (lG rfl) (a_ sc.nd rfl 0x0) (aG (jU rfl sc.nd rfl 0x0 (cN p6 hr 0x4 0x3 rfl rfl 0x0 (gD))) (aG (oY (ownN:=(["j"]:List Str)) (show cH dX (aL gU) _ (["j"]:List Str) from by refine⟨rfl,?_,?_,?_,?_,?_,?_⟩<;>decide +kernel) (n:=13) (m:=1) rfl rfl rfl (mQ 0x3 B.range (aC (aZ b8 (aZ dI aA aF) aF) aP)) (eE 13) (λ_=>a_ (show((List.map (gJ (["j"]:List Str)) dX++(["j"]:List Str)):List Str).Nodup from by decide +kernel) rfl 0x0) (λ_=>bA aA (aZ b8 (aZ dI aA (bA (d_ (aC aF (aC aF (aC aF aP)))) aA)) aA)) (λ_=>rfl) (iy:=7) (o:=false) rfl sc.nd rfl 0x0 (Or.inl rfl) 0x5) (bD (uM rfl rfl 0x0 (d8 (aC (bA aA (aZ b7 (aZ b7 aF aA) aA)) (aC (bA aA (aZ b8 aA aA)) (aC (dU fG 0x3 B.tuple d9 (aC aA aP)) aP))))))))) (aG (cT (aZ b8 (aZ dI aA aF) (cL (jE hK) 0x3 B.len jJ (aC aA aP)))) (aG (cT (d_ aP)) (aG (aK9 PassesOwn.never rfl (aK8 0x3 B.range (aJy b7 aF (yK b8 (cN p6 hr 0x4 0x3 rfl rfl 0x0 (gD)) aF))) (lG rfl) (a_ sc.nd rfl 0x0) (aG (jU rfl sc.nd rfl 0x0 (cN p6 hr 0x4 0x3 rfl rfl 0x0 (gD))) (aG (oY (ownN:=(["j"]:List Str)) (show cH dX (aL gU) _ (["j"]:List Str) from by refine⟨rfl,?_,?_,?_,?_,?_,?_⟩<;>decide +kernel) (n:=13) (m:=1) rfl rfl rfl (mQ 0x3 B.range (aC (aZ b8 (aZ dI aA aF) aF) aP)) (eE 13) (λ_=>a_ (show((List.map (gJ (["j"]:List Str)) dX++(["j"]:List Str)):List Str).Nodup from by decide +kernel) rfl 0x0) (λ_=>bA aA (aZ b8 (aZ dI aA (bA (d_ (aC aF (aC aF aP))) aA)) aA)) (λ_=>rfl) (iy:=12) (o:=false) rfl sc.nd rfl 0x0 (Or.inl rfl) 0x5) (bD (uM rfl rfl 0x0 (d8 (aC (bA aA (aZ b7 aF aA)) (aC (bA aA (aZ b8 aA aA)) (aC (bA aA (aZ b8 (aZ dI aA aF) aA)) (aC (dU fG 0x3 B.tuple d9 (aC aA aP)) aP)))))))))) (bD (aCd (Y8 rfl rfl 0x0 (aKc (aZ b7 (lV hK aA (iR aA) (iQ)) (lV hK aA (iQ) (iR aA))) (Y8 rfl rfl 0x0 (Y8 rfl rfl 0x0 (aKb))))))))))))))))
def BZ:bY dD ["deck","heads","wanted","most","least"] (aL iG):=by refine⟨rfl,rfl,rfl,?_,rfl,?_,?_⟩<;>decide +kernel
def xW[KFrag]{mg:Str->Option Value}{base:Heap}{fad:Addr}{fd:FuncData}(hK:KFrag.K=K)(B:Bt mg)(p6:z7 P w K mg base 1 "_law_next" 1 1 aN)(F:Fun K "_law_words" "_law_words" iG fad fd)(hm:mg "_law_words"=some (.ref fad)):z7 P w K mg base 2 "_law_words" 5 1 cF:=by
 have sc:=BZ;have nd:=sc.nd;refine sS 1 F hm (F.binds λ_ _ _ _ _ _ us hl=>match us,hl with|[_,_,_,_,_],_=>rfl) sc H_ 0x4 0x4 λcdv A outer s H E hr=>?_
 have hu:=DK hr;exact aG (cT (d_ aP)) (aG (cT (d_ (aC (T6 aA) aP))) (aG (cT (cL (aGc 0x3) 0x3 B.max aJi (aC aF (aC (aZ GD aA (bA aA aA)) aP)))) (aG (aE7 PassesOwn.never (cY (TF hu) aA (d_ aP) (cU _)) (aG (YS rfl rfl 0x0 sc.nd rfl 0x0 rfl) (aG (cT (aZ GD (aZ b7 aA (bA aA aA)) aF)) (aG (TV (show cH dD (aL iG) _ (["row"]:List Str) from by refine⟨rfl,?_,?_,?_,?_,?_,?_⟩<;>decide +kernel) rfl rfl rfl (eU aA) (eE 12) (λ_=>a_ (show((List.map (gJ (["row"]:List Str)) dD++(["row"]:List Str)):List Str).Nodup from by decide +kernel) rfl 0x0) (λ_=>PW.pt (aE1 (cY (nW hu) (bA aA aF) aA (cU _)) (XM (cY aNe (cL (YG 0x3) 0x3 B.sum YH (aC (g_ (ownN:=(["x"]:List Str)) (show cH (List.map (gJ (["row"]:List Str)) dD++(["row"]:List Str)) _ _ (["x"]:List Str) from ⟨rfl,by decide +kernel,by decide +kernel,of_decide_eq_true 0x3,by decide +kernel,by decide +kernel,by decide +kernel⟩) (n:=13) (m:=1) rfl rfl rfl (eU (bA aA aF)) (eE 13) (λ_=>a_ (show((List.map (gJ (["x"]:List Str)) (List.map (gJ (["row"]:List Str)) dD++(["row"]:List Str))++(["x"]:List Str)):List Str).Nodup from by decide +kernel) rfl 0x0) (λ_=>bA aA aA) (λ_=>rfl)) aP)) aA (cU _))))) (λ_=>aA) (λ_=>rfl) (iy:=10) (o:=false) rfl sc.nd rfl 0x0 (Or.inl rfl) 0x5) (aG (jU rfl sc.nd rfl 0x0 (aE9 (aG2 hK hu) rfl rfl 0x0 (yK b8 (cN p6 hr 0x4 0x3 rfl rfl 0x0 (gD)) (cL (jE hK) 0x3 B.len jJ (aC aA aP))) (λ_ _=>rfl))) (aG (uM rfl rfl 0x0 (bA aA aF)) (aG (cT (aZ GD aA (cL (YG 0x3) 0x3 B.sum YH (aC (g_ (ownN:=(["x"]:List Str)) (show cH dD (aL iG) _ (["x"]:List Str) from by refine⟨rfl,?_,?_,?_,?_,?_,?_⟩<;>decide +kernel) (n:=12) (m:=1) rfl rfl rfl (eU (bA aA aF)) (eE 12) (λ_=>a_ (show((List.map (gJ (["x"]:List Str)) dD++(["x"]:List Str)):List Str).Nodup from by decide +kernel) rfl 0x0) (λ_=>bA aA aA) (λ_=>rfl)) aP)))) (bD (YT rfl rfl 0x0 (MF 0x3 0x3 B.list 0x3 B.reversed (bA aA aF))))))))))) (bD (vH rfl rfl 0x0)))))
def B_:bY dF ["deck","makers","takers","names","least"] (aL fQ):=by refine⟨rfl,rfl,rfl,?_,rfl,?_,?_⟩<;>decide +kernel
def xX[KFrag]{mg:Str->Option Value}{base:Heap}{fad:Addr}{fd:FuncData}(hK:KFrag.K=K)(B:Bt mg)(pL:z7 P w K mg base 2 "_law_words" 5 1 cF)(F:Fun K "_law_rules" "_law_rules" fQ fad fd)(hm:mg "_law_rules"=some (.ref fad)):z7 P w K mg base 3 "_law_rules" 5 1 iH:=by
 have sc:=B_;have nd:=sc.nd;refine sS 1 F hm (F.binds λ_ _ _ _ _ _ us hl=>match us,hl with|[_,_,_,_,_],_=>rfl) sc IV 0x4 0x4 λcdv A outer s H E hr=>?_
 have hu:=DK hr;exact aG (cT (aZ b7 aA (g_ (show cH dF (aL fQ) _ (["row"]:List Str) from by refine⟨rfl,?_,?_,?_,?_,?_,?_⟩<;>decide +kernel) rfl rfl rfl (eU aA) (eE 14) (λ_=>a_ (show((List.map (gJ (["row"]:List Str)) dF++(["row"]:List Str)):List Str).Nodup from by decide +kernel) rfl 0x0) (λ_=>d8 (aC (bA aA aF) (aC (bA aA aF) (aC (aZ wJ (d8 (aC (bA aA aF) aP)) (bA aA aF)) aP)))) (λ_=>rfl)))) (aG (cT (d_ aP)) (aG (zW rfl PassesOwn.never rfl rfl 0x0 (lG rfl) (a_ sc.nd rfl 0x0) (bD (zW rfl PassesOwn.never rfl rfl 0x0 (lG rfl) (a_ sc.nd rfl 0x0) (bD (lF (cY (nW hu) (bA aA aF) (bA aA aF) (cU _)) (aG (cT (aZ wJ (bA aA aF) (bA aA aF))) (aG (cT (aZ b7 aF (aZ b8 (cL (jE hK) 0x3 B.len jJ (aC aA aP)) aF))) (aG (cT (g_ (show cH dF (aL fQ) _ (["j"]:List Str) from by refine⟨rfl,?_,?_,?_,?_,?_,?_⟩<;>decide +kernel) (n:=14) (m:=1) rfl rfl rfl (mQ 0x3 B.range (aC (cL (jE hK) 0x3 B.len jJ (aC aA aP)) aP)) (eE 14) (λ_=>a_ (show((List.map (gJ (["j"]:List Str)) dF++(["j"]:List Str)):List Str).Nodup from by decide +kernel) rfl 0x0) (λ_=>bA aA (aZ b7 aF (aZ b8 (aZ b7 (cL (jE hK) 0x3 B.len jJ (aC aA aP)) (aZ mR aA aA)) aF))) (λ_=>rfl))) (aG (oY (ownN:=(["j"]:List Str)) (show cH dF (aL fQ) _ (["j"]:List Str) from by refine⟨rfl,?_,?_,?_,?_,?_,?_⟩<;>decide +kernel) (n:=14) (m:=1) rfl rfl rfl (mQ 0x3 B.range (aC (cL (jE hK) 0x3 B.len jJ (aC aA aP)) aP)) (eE 14) (λ_=>a_ (show((List.map (gJ (["j"]:List Str)) dF++(["j"]:List Str)):List Str).Nodup from by decide +kernel) rfl 0x0) (λ_=>d8 (aC (bA aA aA) (aC (bA aA aA) (aC (d8 aP) aP)))) (λ_=>rfl) (iy:=12) (o:=false) rfl sc.nd rfl 0x0 (Or.inl rfl) 0x5) (aG (jU rfl sc.nd rfl 0x0 (cN pL hr 0x4 0x3 rfl rfl 0x0 (aK2 (aZ b7 aA aA) (aGp (bA aA aF) (aGp aF (gP rfl rfl 0x0 (gD))))))) (bD (uM rfl rfl 0x0 (d8 (aC (bA aA aF) (aC (bA aA aF) (aC (dU fG 0x3 B.tuple d9 (aC aA aP)) (aC (dU fG 0x3 B.tuple d9 (aC aA aP)) aP)))))))))))) dJ))))) (bD (vH rfl rfl 0x0))))
def CG:bY uP ["program","words","bound"] (aL mZ):=by refine⟨rfl,rfl,rfl,?_,rfl,?_,?_⟩<;>decide +kernel
def xY[KFrag]{base:Heap}{fad:Addr}{fd:FuncData}(hK:KFrag.K=K)(B:Bt mg)(qi:aCj P w K mg base 6 "worth" 3 eG){rA:Addr}(rN:mg "MillError"=some (.ref rA)){pM:Addr}(rO:mg "Spent"=some (.ref pM))(y1:aNm (λc=>∃C,nsIn K mainGlobals c=some (some (.ref C))/\exmOne K (.ref C) (.ref rA)=some true) ["Spent"])(y2:aNl (λc b=>∃C,nsIn K mainGlobals c=some (some (.ref C))/\XC K C/\kitOne K (.ref C) (.ref pM)=some b) [("Spent",true)]/\kitOne K (.type "NoneType") (.ref pM)=some false)(F:Fun K "_law_asked" "_law_asked" mZ fad fd)(hm:mg "_law_asked"=some (.ref fad)):uW P w K mg base 7 "_law_asked" 3 bH:=by
 have sc:=CG;have nd:=sc.nd;refine GR F hm (F.binds λ_ _ _ _ _ _ us hl=>match us,hl with|[_,_,_],_=>rfl) sc IW 0x4 0x4 λcdv A outer s H E hr=>?_
 have hu:=DK hr;exact aG (cT aDy) (aG (cT aDy) (aG (aHa (ic:=4) (ie:=5) hK rfl rfl (aKz (o:=true) qi.g hr 0x4 0x3 (aC aA (aC aA (aC aA aP))) rfl sc.nd rfl 0x0 (.inl rfl)) 0x3 rN (ZL y1) sc.nd rfl rfl rfl 0x0 (.inl rfl) rfl rfl 0x4) (aG (lF (uL (aD5 (v:=.ref pM) hK (ZK y2.1) y2.2 (λu r=>r) 0x3 B.isi rfl 0x0 (aF6 0x3 rO rfl) rfl rfl)) (bD (jF (d_ aP))) dJ) (bD (jF (d_ (aC (T6 aA) aP)))))))
def xZ:bY o9 ["found"] (aL lN):=by refine⟨rfl,rfl,rfl,?_,rfl,?_,?_⟩<;>decide +kernel
def xF[KFrag]{mg:Str->Option Value}{base:Heap}{fad:Addr}{fd:FuncData}(hK:KFrag.K=K)(B:Bt mg)(F:Fun K "_law_counts" "_law_counts" lN fad fd)(hm:mg "_law_counts"=some (.ref fad)):uW P w K mg base 1 "_law_counts" 1 gF:=by
 have sc:=xZ;have nd:=sc.nd;refine GR (ps:=["found"]) F hm (F.binds λ_ _ _ _ _ _ us hl=>match us,hl with|[_],_=>rfl) sc BP 0x4 0x4 λcdv A outer s H E hr=>?_
 have hu:=DK hr;exact aG (lF (PW.pt (GC (FZ (uL (GP .tuple aA 0x3 B.isi gC 0x3 B.tuple d9))) (F_ (cY (TF hu) (cL (jE hK) 0x3 B.len jJ (aC aA aP)) aF (cU _))))) (bD (jF (XJ GF aF))) dJ) (aG (yI PassesOwn.never rfl (eU (lV hK aA (iR aF) (iQ))) (lG rfl) (a_ sc.nd rfl 0x0) (bD (lF (PW.pt (GC (FZ (uL (GP .int aA 0x3 B.isi gC 0x3 B.int aJj))) (GC (uL (GP .bool aA 0x3 B.isi gC 0x3 B.bool aGb)) (F_ (cY aGe aA aF (cU _)))))) (bD (jF (XJ GF aF))) dJ))) (bD (jF (aZ b7 (aZ b7 (bA aA aF) (bA aA aF)) (bA aA aF)))))
def JH:bY wZ ["deck","heads","takers","wanted","most","least"] (aL n_):=by refine⟨rfl,rfl,rfl,?_,rfl,?_,?_⟩<;>decide +kernel
def CJ[KFrag]{mg:Str->Option Value}{base:Heap}{fad:Addr}{fd:FuncData}(hK:KFrag.K=K)(B:Bt mg)(p6:z7 P w K mg base 1 "_law_next" 1 1 aN)(pL:z7 P w K mg base 2 "_law_words" 5 1 cF)(F:Fun K "_law_term" "_law_term" n_ fad fd)(hm:mg "_law_term"=some (.ref fad)):z7 P w K mg base 3 "_law_term" 6 1 gW:=by
 have sc:=JH;have nd:=sc.nd;refine sS (ps:=["deck","heads","takers","wanted","most","least"]) 1 F hm (F.binds λ_ _ _ _ _ _ us hl=>match us,hl with|[_,_,_,_,_,_],_=>rfl) sc M4 0x4 0x4 λcdv A outer s H E hr=>?_
 have hu:=DK hr;exact aG (jU rfl sc.nd rfl 0x0 (aE9 (aG2 hK hu) rfl rfl 0x0 (yK b8 (cN p6 hr 0x4 0x3 rfl rfl 0x0 (gD)) (cL (jE hK) 0x3 B.len jJ (aC aA aP))) (λ_ _=>rfl))) (aG (lF (cY (TF hu) aA wA (cU _)) (bD (aHb (cN pL hr 0x4 0x3 rfl rfl 0x0 (gP rfl rfl 0x0 (gP rfl rfl 0x0 (gP rfl rfl 0x0 (gP rfl rfl 0x0 (gD)))))))) dJ) (aG (cT (d_ (aC (T6 (bA aA aF)) aP))) (aG (yI PassesOwn.never rfl (eU (aZ wJ (d8 (aC (bA aA aF) aP)) (bA aA aF))) (lG rfl) (a_ sc.nd rfl 0x0) (bD (aHc rfl rfl 0x0 (cN pL hr 0x4 0x3 rfl rfl 0x0 (gP rfl rfl 0x0 (gP rfl rfl 0x0 (gP rfl rfl 0x0 (gP rfl rfl 0x0 (gD))))))))) (bD (vH rfl rfl 0x0)))))
def uX:bY m5 ["words","kind","makers"] (aL jL):=by refine⟨rfl,rfl,rfl,?_,rfl,?_,?_⟩<;>decide +kernel
def t_[KFrag]{mg:Str->Option Value}{base:Heap}{fad:Addr}{fd:FuncData}(hK:KFrag.K=K)(B:Bt mg)(F:Fun K "_law_is_value" "_law_is_value" jL fad fd)(hm:mg "_law_is_value"=some (.ref fad)):uW P w K mg base 1 "_law_is_value" 3 dC:=by
 have sc:=uX;have nd:=sc.nd;refine GR (ps:=["words","kind","makers"]) F hm (F.binds λ_ _ _ _ _ _ us hl=>match us,hl with|[_,_,_],_=>rfl) sc wW 0x4 0x4 λcdv A outer s H E hr=>?_
 have hu:=DK hr;exact aG (lF (FZ (uL (GP .tuple aA 0x3 B.isi gC 0x3 B.tuple d9))) (bD (jF K1)) dJ) (aG (cT (P_)) (aG (zW rfl PassesOwn.never rfl rfl 0x0 (lG rfl) (a_ sc.nd rfl 0x0) (bD (QK hu rfl rfl 0x0 (bA aA aF) aA))) (aG (cT (d_ (aC (T6 aA) aP))) (aG (zW rfl PassesOwn.never rfl rfl 0x0 (lG rfl) (a_ sc.nd rfl 0x0) (aG (lF (PW.pt (GC (FZ (uL (GP .str aA 0x3 B.isi gC 0x3 B.str aJk))) (GC (cY (aBv hu) aA aA 0x5) (F_ (cY (nW hu) aA (d_ aP) (cU _)))))) (bD (jF K1)) dJ) (aG (aK0 (YZ (TF hu) (aGq rfl rfl 0x0) (bA (bA aA aA) aF) (cU _)) (bD (jF K1)) dJ) (bD (YT rfl rfl 0x0 (MF 0x3 0x3 B.list 0x3 B.reversed (bA (bA aA aA) aF))))))) (bD (jF (PX (nW hu) aA (d_ aP) (cU _))))))))
def aL1:bY U8 ["script"] (aL wX):=by refine⟨rfl,rfl,rfl,?_,rfl,?_,?_⟩<;>decide +kernel
def aL2[KFrag](hK:KFrag.K=K)(B:Bt mg)(p6:z7 P w K mg base 1 "_law_next" 1 1 aN)(rP:z7 P w K mg base 2 "_law_names" 1 1 fP)(rQ:z7 P w K mg base 2 "_law_sig" 2 1 jB)(rR:z7 P w K mg base 3 "_law_term" 6 1 gW)(rT:z7 P w K mg base 3 "_law_rules" 5 1 iH)(pz:uW P w K mg base 7 "_law_asked" 3 bH)(rV:uW P w K mg base 1 "_law_counts" 1 gF)(rW:uW P w K mg base 1 "_law_is_value" 3 dC)(F:Fun K "law" "law" wX fad fd):lR P w K mg base CX0 8 fad fd ["script"] (spD U7 1):=by
 have sc:=aL1;have nd:=sc.nd;refine aJh F sc o_law 0x4 0x4 λcdv A outer s H E hr=>?_
 have hu:=DK hr
 exact aG (cT (aK4 (d_ (aC (lV hK aA (iQ) (iR aF)) (aC aF aP))))) (aG (jU rfl sc.nd rfl 0x0 (cN p6 hr 0x4 0x3 rfl rfl 0x0 (gD))) (aG (jU rfl sc.nd rfl 0x0 (yK b8 (cN p6 hr 0x4 0x3 rfl rfl 0x0 (gD)) aF)) (aG (lF (cY (nW hu) (aZ b8 (aZ dI aA aF) aF) aF (cU _)) (bD (cT (aZ mR aA aF))) dJ) (aG (jU rfl sc.nd rfl 0x0 (cN rP hr 0x4 0x3 rfl rfl 0x0 (gD))) (aG (aKd 0x4 (cN rQ hr 0x4 0x3 rfl rfl 0x0 (gP rfl rfl 0x0 (gD))) (aGs rfl (eN (a_ sc.nd rfl 0x0) (eN (a_ sc.nd rfl 0x0) (eN (a_ sc.nd rfl 0x0) (eN (a_ sc.nd rfl 0x0) (zA))))))) (aG (cT (aZ b7 aA (g_ (show cH U8 (aL wX) _ (["row"]:List Str) from by refine⟨rfl,?_,?_,?_,?_,?_,?_⟩<;>decide +kernel) rfl rfl rfl (eU aA) (eE 17) (λ_=>a_ (show((List.map (gJ (["row"]:List Str)) U8++(["row"]:List Str)):List Str).Nodup from by decide +kernel) rfl 0x0) (λ_=>d8 (aC (bA aA aF) (aC (bA aA aF) (aC (aZ wJ (d8 (aC (bA aA aF) aP)) (bA aA aF)) aP)))) (λ_=>rfl)))) (aG (cT wA) (aG (lF (cY (nW hu) (aZ b8 aA aF) aF (cU _)) (bD (cT (bA aA (aZ b8 (aZ dI aA aF) (cL (jE hK) 0x3 B.len jJ (aC aA aP)))))) dJ) (aG (jU rfl sc.nd rfl 0x0 (aNx 0x3 B.tuple (cN rR hr 0x4 0x3 rfl rfl 0x0 (gP rfl rfl 0x0 (gP rfl rfl 0x0 (gP rfl rfl 0x0 (aGp (bA (d_ (aC aF (aC aF (aC aF aP)))) (aZ b8 (aZ dI aA aF) aF)) (gP rfl rfl 0x0 (gD))))))))) (aG (cT (bA (TQ (show cH U8 (aL wX) _ (["row"]:List Str) from by refine⟨rfl,?_,?_,?_,?_,?_,?_⟩<;>decide +kernel) rfl rfl rfl (eU aA) (eE 17) (λ_=>a_ (show((List.map (gJ (["row"]:List Str)) U8++(["row"]:List Str)):List Str).Nodup from by decide +kernel) rfl 0x0) (λ_=>cY (nW hu) (bA aA aF) (bA aA aF) (cU _)) (λ_=>bA aA aF) (λ_=>rfl)) aF)) (aG (jU rfl sc.nd rfl 0x0 (cN rT hr 0x4 0x3 rfl rfl 0x0 (gP rfl rfl 0x0 (gP rfl rfl 0x0 (gP rfl rfl 0x0 (gP rfl rfl 0x0 (gD))))))) (aG (cT (d8 (aC (dU fG 0x3 B.tuple d9 (aC aA aP)) (aC (dU fG 0x3 B.tuple d9 (aC aA aP)) (aC (dU fG 0x3 B.tuple d9 (aC aA aP)) (aC (dU fG 0x3 B.tuple d9 (aC aA aP)) aP)))))) (aG (cT (iY pz hr 0x4 0x3 (aC aA (aC aA (aC aA aP))))) (aG (lF (cY (nW hu) aA (d_ aP) (cU _)) (bD (jF (PX (nW hu) (iY pz hr 0x4 0x3 (aC aA (aC aA (aC (aZ dI aA aF) aP)))) (d_ aP) (cU _)))) dJ) (aG (cT (iY rV hr 0x4 0x3 (aC (bA aA aF) aP))) (aG (lF (PW.pt (GC (cY aGe aA aF (cU _)) (GC (cY aBz aA aA (cU _)) (F_ (FZ (uL (iY rW hr 0x4 0x3 (aC (bA (bA aA aF) aF) (aC aA (aC aA aP)))))))))) (bD (jF K1)) dJ) (aG (lF (cY (TF hu) (iY pz hr 0x4 0x3 (aC aA (aC aA (aC aA aP)))) aA (cU _)) (bD (jF K1)) dJ) (aG (lF (PW.pt (aE1 (cY aBz aA aF (cU _)) (XM (cY (TF hu) (iY pz hr 0x4 0x3 (aC aA (aC aA (aC (aZ GD aA aF) aP)))) (d_ aP) (cU _))))) (bD (jF K1)) dJ) (bD (jF (aN7 (PX aBz (cL (jE hK) 0x3 B.len jJ (aC (bA (bA aA aF) aF) aP)) aF (cU _)) (aJ7 (PX (nW hu) (iY pz hr 0x4 0x3 (aC aA (aC (bA (bA aA aF) aF) (aC aF aP)))) (d_ (aC (T6 (d8 (aC (bA (bA aA aF) aF) (aC aF (aC aF (aC aF aP)))))) aP)) (cU _))))))))))))))))))))))))
def AtN(K:Frag)(n:Str)(st:Stmt):Prop:=∃(f:Addr)(fd:FuncData),nsIn K mainGlobals n=some (some (.ref f))/\Fun K n n st f fd
def aO1{oc kV dc pm cd ct:Value}{od an:Option Addr}{sl:Array (Option Value)}(a:nsIn K mainGlobals n=some (some (.ref f)))(l:K.lookup f=some ⟨oc,od,.func (fnOf n n (fJ st) (cR st) (aL st) .none kV dc pm an cd ct),sl⟩)(c:codeIn K cd n=true)(k:keepIn K (.ref f)=true):AtN K n st:=⟨f,_,a,jC l c k⟩
def aL3{l:OpenLaw}{w:World}{K:Frag}{h:Heap}{mg:Str->Option Value}{fa:Addr}(X:K.In h)(G:h.Ns mainGlobals mg)(hfa:mg "law"=some (.ref fa))(a0:AtN K "heads_of" sW)(a1:AtN K "words_of" sX)
 {f2 T2:Addr}{oc2 kV2 dc2 pm2 cd2 ct2 tc2:Value}{od2 an2 td2:Option Addr}{sl2 tl2:Array (Option Value)}{tk2:Tok}{tn2:Nat}(a2:nsIn K mainGlobals "worth"=some (some (.ref f2)))(l2:K.lookup f2=some ⟨oc2,od2,.func (fnOf "worth" "worth" (fJ sY) (cR sY) (aL sY) (.ref T2) kV2 dc2 pm2 an2 cd2 ct2),sl2⟩)(c2:codeIn K cd2 "worth"=true)(k2:keepIn K (.ref f2)=true)(t2:K.lookup T2=some ⟨tc2,td2,.seq #[.int 400 tk2] tn2,tl2⟩)(a3:AtN K "_law_next" n8)(a4:AtN K "_law_names" iD)(a5:AtN K "_law_sig" gU)(a6:AtN K "_law_words" iG)(a7:AtN K "_law_rules" fQ)(a8:AtN K "_law_asked" mZ)(a9:AtN K "_law_counts" lN)(a10:AtN K "_law_term" n_)(a11:AtN K "_law_is_value" jL)
 {f12:Addr}{oc12 kV12 dc12 pm12 cd12 ct12:Value}{od12 an12:Option Addr}{sl12:Array (Option Value)}(a12:nsIn K mainGlobals "law"=some (some (.ref f12)))(l12:K.lookup f12=some ⟨oc12,od12,.func (fnOf "law" "law" (fJ wX) (cR wX) (aL wX) .none kV12 dc12 pm12 an12 cd12 ct12),sl12⟩)(c12:codeIn K cd12 "law"=true)(k12:keepIn K (.ref f12)=true)(qj:nsIn K mainGlobals "len"=some none)(qk:nsIn K mainGlobals "min"=some none)(ql:nsIn K mainGlobals "max"=some none)(qm:nsIn K mainGlobals "list"=some none)(qo:nsIn K mainGlobals "tuple"=some none)(qp:nsIn K mainGlobals "sorted"=some none)(qr:nsIn K mainGlobals "range"=some none)(qt:nsIn K mainGlobals "isinstance"=some none)(qu:nsIn K mainGlobals "int"=some none)(qw:nsIn K mainGlobals "bool"=some none)(qx:nsIn K mainGlobals "str"=some none)(qy:nsIn K mainGlobals "dict"=some none)(qz:nsIn K mainGlobals "all"=some none)(qA:nsIn K mainGlobals "enumerate"=some none)(qB:nsIn K mainGlobals "sum"=some none)(qC:nsIn K mainGlobals "zip"=some none)(qD:nsIn K mainGlobals "abs"=some none)(qE:nsIn K mainGlobals "reversed"=some none){rB:Addr}(qF:nsIn K mainGlobals "MillError"=some (some (.ref rB))){p9:Addr}(pc:nsIn K mainGlobals "Spent"=some (some (.ref p9)))(qG:exmOne K (.ref p9) (.ref rB)=some true)(qH:isClsIn K p9=true)(qI:findIn K (.ref p9) "__getattribute__"=some (some (.builtin "BaseException.__getattribute__")))(qJ:findIn K (.ref p9) "__getattr__"=some none)(qK:findIn K (.ref p9) "__class__"=some (some (.builtin "object.__class__")))(qL:specialIn K (.builtin "object.__class__") "__get__"=some (some (.builtin "getset_descriptor.__get__")))(qM:takesIn K (.builtin "object.__class__")=some true)(qN:mroIn K p9 (.type "object")=some true)(qO:mroIn K p9 (.type "BaseException")=some true)(qP:kitOne K (.ref p9) (.ref p9)=some true)(kn_Spent:kitOne K (.type "NoneType") (.ref p9)=some false){p8:Addr}(pb:nsIn K mainGlobals "Frame"=some (some (.ref p8))){pA:Addr}{rX rY rZ t9 rC tf:Value}{tj tm:Option Addr}{tq:Array (Option Value)}{p5:Addr}(p7:nsIn K mainGlobals "PlainRun"=some (some (.ref p5))){pB:Addr}{tu tw tD tE rD tF:Value}{tG tH:Option Addr}{tI:Array (Option Value)}{pN:Addr}{tJ tK tL tM rE tN:Value}{tO tP:Option Addr}{tQ:Array (Option Value)}{pO:Addr}{tR tT tU tV rF tW:Value}{tX tY:Option Addr}{tZ:Array (Option Value)}{pP:Addr}{u4 u5 u7 u8 rG u9:Value}{ua ub:Option Addr}{ud:Array (Option Value)}{pQ:Addr}{ue uf ug uh rH ui:Value}{uj ul:Option Addr}{um:Array (Option Value)}(pg_Frame:plainGet K p8 Str.empty=true)(qQ:hasDictIn K p8=true)(po_Frame:plainOver K p8=true)(qR:findIn K (.ref p8) "__setattr__"=some (some (.builtin "object.__setattr__")))(mk_Frame:makesIn K p8=true)(qS:keepIn K (.ref p8)=true)(qT:findIn K (.ref p8) "__init__"=some (some (.ref pA)))(pR:K.lookup pA=some ⟨rX,tj,.func (fnOf "__init__" "Frame.__init__" (fJ n6) (cR n6) (aL n6) .none rY rZ t9 tm rC tf),tq⟩)(pS:codeIn K rC "Frame.__init__"=true)(pT:keepIn K (.ref pA)=true)(qU:isFn K (.ref pA)=true)(pU:findIn K (.ref p8) "words"=some none)(pC:findIn K (.ref p8) "left"=some none)(pD:findIn K (.ref p8) "known"=some none)(pg_PlainRun:plainGet K p5 Str.empty=true)(qV:hasDictIn K p5=true)(po_PlainRun:plainOver K p5=true)(qW:findIn K (.ref p5) "__setattr__"=some (some (.builtin "object.__setattr__")))(mk_PlainRun:makesIn K p5=true)(qX:keepIn K (.ref p5)=true)(qY:findIn K (.ref p5) "__init__"=some (some (.ref pB)))(pV:K.lookup pB=some ⟨tu,tG,.func (fnOf "__init__" "PlainRun.__init__" (fJ eQ) (cR eQ) (aL eQ) .none tw tD tE tH rD tF),tI⟩)(pW:codeIn K rD "PlainRun.__init__"=true)(pX:keepIn K (.ref pB)=true)(qZ:isFn K (.ref pB)=true)(pY:findIn K (.ref p5) "heads"=some none)(pZ:findIn K (.ref p5) "makers"=some none)(qa:findIn K (.ref p5) "rules"=some none)(pE:findIn K (.ref p5) "most"=some none)(pj:findIn K (.ref p5) "calls"=some none)(ph:findIn K (.ref p5) "copies"=some none)(pi:findIn K (.ref p5) "drops"=some none)(rg:findIn K (.ref p5) "take_word"=some (some (.ref pN)))(qb:K.lookup pN=some ⟨tJ,tO,.func (fnOf "take_word" "PlainRun.take_word" (fJ dN) (cR dN) (aL dN) .none tK tL tM tP rE tN),tQ⟩)(qc:codeIn K rE "PlainRun.take_word"=true)(pF:keepIn K (.ref pN)=true)(iI:isFn K (.ref pN)=true)(qd:findIn K (.ref p5) "value_of"=some (some (.ref pO)))(pG:K.lookup pO=some ⟨tR,tX,.func (fnOf "value_of" "PlainRun.value_of" (fJ fO) (cR fO) (aL fO) .none tT tU tV tY rF tW),tZ⟩)(pH:codeIn K rF "PlainRun.value_of"=true)(pq:keepIn K (.ref pO)=true)(gY:isFn K (.ref pO)=true)(rh:findIn K (.ref p5) "called"=some (some (.ref pP)))(qe:K.lookup pP=some ⟨u4,ua,.func (fnOf "called" "PlainRun.called" (fJ lL) (cR lL) (aL lL) .none u5 u7 u8 ub rG u9),ud⟩)(qf:codeIn K rG "PlainRun.called"=true)(pI:keepIn K (.ref pP)=true)(m7:isFn K (.ref pP)=true)(rj:findIn K (.ref p5) "count_uses"=some (some (.ref pQ)))(qg:K.lookup pQ=some ⟨ue,uj,.func (fnOf "count_uses" "PlainRun.count_uses" (fJ eF) (cR eF) (aL eF) .none uf ug uh ul rH ui),um⟩)(qh:codeIn K rH "PlainRun.count_uses"=true)(pJ:keepIn K (.ref pQ)=true)(gG:isFn K (.ref pQ)=true)(rq:excIn K p9 aNf "ValueError.__new__"=true) :
  ∃fd:FuncData,(∀(s:Shared)(v:Value),BindsTo s fd ⟨[v],[]⟩ [("script",v)])/\∀base:Heap,K.In base->base.Ns mainGlobals mg->lR l.prog w K mg base CX0 8 fa fd ["script"] (@spD ⟨K⟩ U7 1):=by
 have e:=hfa.symm.trans (mg_of X G a12);cases e
 letI:KFrag:=⟨K⟩
 have Y:=λ{n:Str}{v:Value}=>mg_of (n:=n) (v:=v) X G
 have Z:=λ{n:Str}=>mg_none_of (n:=n) X G
 obtain⟨f0,_,a0,F0⟩:=a0;obtain⟨f1,_,a1,F1⟩:=a1;obtain⟨f3,_,a3,F3⟩:=a3;obtain⟨f4,_,a4,F4⟩:=a4;obtain⟨f5,_,a5,F5⟩:=a5;obtain⟨f6,_,a6,F6⟩:=a6;obtain⟨f7,_,a7,F7⟩:=a7;obtain⟨f8,_,a8,F8⟩:=a8;obtain⟨f9,_,a9,F9⟩:=a9;obtain⟨f10,_,a10,F10⟩:=a10;obtain⟨f11,_,a11,F11⟩:=a11;have B:Bt mg:=⟨Z qj,Z qk,Z ql,Z qm,Z qo,Z qp,Z qr,Z qt,Z qu,Z qw,Z qx,Z qy,Z qz,Z qA,Z qB,Z qC,Z qD,Z qE⟩
 refine⟨fnOf "law" "law" (fJ wX) (cR wX) (aL wX) .none kV12 dc12 pm12 an12 cd12 ct12,λs v=>.of_eq rfl,λbase _ _=>?_⟩;have uo:=I_ (P:=l.prog) (w:=w) (base:=base) rfl B  F0 (Y a0);have rJ:=JB (P:=l.prog) (w:=w) (base:=base) rfl B  F1 (Y a1);have cl_Frame:Cls K p8:=⟨pg_Frame,qQ,po_Frame,qR⟩
 have q_Frame:aIe l.prog w K mg base 1 "Frame" mX 2:=⟨p8,pA,_,_,pb,Y pb,⟨mk_Frame,qT,qU,qS⟩,Z9 rfl B  cl_Frame (List.forall_mem_cons.2 ⟨pU,(List.forall_mem_cons.2 ⟨pC,(List.forall_mem_cons.2 ⟨pD,(List.forall_mem_nil _)⟩)⟩)⟩) (jC (st:=n6) pR pS pT),((jC (st:=n6) pR pS pT).binds λ_ _ _ _ _ _ us hl=>match us,hl with|[_,_,_],_=>rfl)⟩
 have fl_Frame_words:JZ K "Frame" "words":=λC h=>by cases (pb.symm.trans h);exact⟨cl_Frame,pU⟩
 have fl_Frame_left:JZ K "Frame" "left":=λC h=>by cases (pb.symm.trans h);exact⟨cl_Frame,pC⟩
 have fl_Frame_known:JZ K "Frame" "known":=λC h=>by cases (pb.symm.trans h);exact⟨cl_Frame,pD⟩
 have cl_PlainRun:Cls K p5:=⟨pg_PlainRun,qV,po_PlainRun,qW⟩
 have q_PlainRun:aIe l.prog w K mg base 2 "PlainRun" fM 2:=⟨p5,pB,_,_,p7,Y p7,⟨mk_PlainRun,qY,qZ,qX⟩,JC rfl B uo cl_PlainRun (List.forall_mem_cons.2 ⟨pY,(List.forall_mem_cons.2 ⟨pZ,(List.forall_mem_cons.2 ⟨qa,(List.forall_mem_cons.2 ⟨pE,(List.forall_mem_cons.2 ⟨pj,(List.forall_mem_cons.2 ⟨ph,(List.forall_mem_cons.2 ⟨pi,(List.forall_mem_nil _)⟩)⟩)⟩)⟩)⟩)⟩)⟩) (jC (st:=eQ) pV pW pX),((jC (st:=eQ) pV pW pX).binds λ_ _ _ _ _ _ us hl=>match us,hl with|[_,_,_],_=>rfl)⟩
 have fl_PlainRun_heads:JZ K "PlainRun" "heads":=λC h=>by cases (p7.symm.trans h);exact⟨cl_PlainRun,pY⟩
 have fl_PlainRun_makers:JZ K "PlainRun" "makers":=λC h=>by cases (p7.symm.trans h);exact⟨cl_PlainRun,pZ⟩
 have fl_PlainRun_rules:JZ K "PlainRun" "rules":=λC h=>by cases (p7.symm.trans h);exact⟨cl_PlainRun,qa⟩
 have fl_PlainRun_most:JZ K "PlainRun" "most":=λC h=>by cases (p7.symm.trans h);exact⟨cl_PlainRun,pE⟩
 have fl_PlainRun_calls:JZ K "PlainRun" "calls":=λC h=>by cases (p7.symm.trans h);exact⟨cl_PlainRun,pj⟩
 have fl_PlainRun_copies:JZ K "PlainRun" "copies":=λC h=>by cases (p7.symm.trans h);exact⟨cl_PlainRun,ph⟩
 have fl_PlainRun_drops:JZ K "PlainRun" "drops":=λC h=>by cases (p7.symm.trans h);exact⟨cl_PlainRun,pi⟩
 have y_1:=Lk55.gG (P:=l.prog) (w:=w) (mg:=mg) (base:=base) rfl B cl_PlainRun pi ph (jC (st:=eF) qg qh pJ);have y_2:=Lk55.m7 (P:=l.prog) (w:=w) (base:=base) rfl B q_Frame p7 pb cl_PlainRun pj ph pi pE fl_PlainRun_rules (Y pc) rq ⟨rj,gG,pJ⟩ y_1 ((jC (st:=eF) qg qh pJ).binds λ_ _ _ _ _ _ us hl=>match us,hl with|[_,_,_],_=>rfl) (jC (st:=lL) qe qf pI);have y_3:=Lk55.iI (P:=l.prog) (w:=w) (base:=base) rfl B p7 cl_Frame pD cl_PlainRun fl_PlainRun_heads fl_PlainRun_makers ⟨rh,m7,pI⟩ y_2 ((jC (st:=lL) qe qf pI).binds λ_ _ _ _ _ _ us hl=>match us,hl with|[_,_,_],_=>rfl) (jC (st:=dN) qb qc pF);have y_4:=Lk55.gY (P:=l.prog) (w:=w) (base:=base) rfl B q_Frame p7 pb cl_Frame pC cl_PlainRun ⟨rg,iI,pF⟩ y_3 ((jC (st:=dN) qb qc pF).binds λ_ _ _ _ _ _ us hl=>match us,hl with|[_,_,_,_],_=>rfl) fl_Frame_words fl_Frame_left (jC (st:=fO) pG pH pq);have F2:aNg K "worth" "worth" sY f2 _ T2 #[.int 400 tk2]:=⟨⟨_,_,_,_,_,_,_,_,_,rfl,l2,c2⟩,k2,⟨_,_,_,_,t2⟩⟩
 have uB:aPw l.prog w K mg base 6 "worth" "most" 2 (.int 400) eG:=⟨⟨f2,_,["program","words","most"],.int 400 tk2,.int 400,(Q9 rfl B rJ q_PlainRun p7 pc cl_PlainRun pj ph pi ⟨qd,gY,pq⟩ y_4 ((jC (st:=fO) pG pH pq).binds λ_ _ _ _ _ _ us hl=>match us,hl with|[_,_],_=>rfl) F2).aQ6,Y a2,k2,(λs us X' hl=>match us,(show us.length=3 by simpa using hl) with|[_,_,_],_=>BindsTo.of_defaults rfl (X' _ _ t2) rfl rfl rfl),(λs us X' hl=>match us,(show us.length=2 by simpa using hl) with|[_,_],_=>BindsTo.of_defaults rfl (X' _ _ t2) rfl rfl rfl),⟨_,rfl⟩,λ_=>.int 400,λs us y X' hl=>match us,hl with|[_,_],_=>by first|exact .of_eq rfl|exact .of_eq 0x5|exact BindsTo.of_defaults rfl (X' _ _ t2) rfl rfl rfl|exact BindsTo.of_defaults rfl (X' _ _ t2) rfl 0x5 0x5⟩⟩
 have qi:aCj l.prog w K mg base 6 "worth" 3 eG:=⟨f2,_,["program","words","most"],Q9 rfl B rJ q_PlainRun p7 pc cl_PlainRun pj ph pi ⟨qd,gY,pq⟩ y_4 ((jC (st:=fO) pG pH pq).binds λ_ _ _ _ _ _ us hl=>match us,hl with|[_,_],_=>rfl) F2,Y a2,k2,λs us X' hl=>match us,(show us.length=3 by simpa using hl) with|[_,_,_],_=>BindsTo.of_defaults rfl (X' _ _ t2) rfl rfl rfl⟩
 have pK:=BW (P:=l.prog) (w:=w) (base:=base) rfl B  F3 (Y a3);have uq:=xV (P:=l.prog) (w:=w) (base:=base) rfl B pK F4 (Y a4);have ur:=JG (P:=l.prog) (w:=w) (base:=base) rfl B pK F5 (Y a5);have rK:=xW (P:=l.prog) (w:=w) (base:=base) rfl B pK F6 (Y a6);have ut:=xX (P:=l.prog) (w:=w) (base:=base) rfl B rK F7 (Y a7);have uv:=xY (P:=l.prog) (w:=w) (base:=base) rfl B  qi (Y qF) (Y pc) ⟨⟨_,pc,qG⟩,trivial⟩ ⟨⟨⟨_,pc,⟨qH,qI,qJ,qK,qL,qM,qN,qO⟩,qP⟩,trivial⟩,kn_Spent⟩ F8 (Y a8);have uy:=xF (P:=l.prog) (w:=w) (base:=base) rfl B  F9 (Y a9);have uz:=CJ (P:=l.prog) (w:=w) (base:=base) rfl B pK rK F10 (Y a10);have uA:=t_ (P:=l.prog) (w:=w) (base:=base) rfl B  F11 (Y a11);exact aL2 rfl B pK uq ur uz ut uv uy uA (jC (st:=wX) l12 c12 k12)
def walk{l:OpenLaw}{XP:(Str->Option Value)->Heap->Prop}{YP:World->Heap->Prop}{d:DefRec}{K:Params->Frag}(main:∀ns:List Int,ns.length<=63->U7 [.scr (ns.map D.int)]=.ok (.bl true))(hn:l.most=some 63)(hdf:d.params.defaults=[])
 (hY:∀(w:World) (h:Heap),YP w h->(K w.params).In h)
 (F:∀(w:World) (mg:Str->Option Value) (fa:Addr) (h:Heap),(K w.params).In h->h.Ns mainGlobals mg->mg d.name=some (.ref fa)->
   ∃fd:FuncData,(∀(s:Shared) (u:Value),BindsTo s fd ⟨[u],[]⟩ [("script",u)])/\∀base:Heap,(K w.params).In base->base.Ns mainGlobals mg->lR l.prog w (K w.params) mg base CX0 8 fa fd ["script"] (@spD ⟨K w.params⟩ U7 1)) :
  WalkO q loose XP YP l.row.toRowW d [] (λf vs=>PySem.call f vs):=
 L2.aFs hn 0x4 hdf ⟨rfl,by decide,by decide⟩ hY F (λw H a ns hl hO hS=>X5 main hl hO hS) λ_ _ _ _ _ z=>z
end Lk55
end
namespace Lk55
open PySem L2 Mi
def iJ(h1:fs ρ=.ok rest)(h2:G8 (ρ.getD i .uD)=some h)(h3:rest.length+1=n)(h4:ch1 f h rest=.ok (r,h'))(h5:D.aJ h'=true)(he:ρ.set i (aCa (ρ.getD i .uD) h')=ρ'):bT f n i fs ρ=.ok (r,ρ'):=by
 subst he;unfold bT;rw[h1,Res.aO,h2];dsimp only;rw[if_pos (decide_eq_true h3),h4,Res.aO];dsimp only;rw[if_pos h5]
def gH(h:f ρ=.ok (d,ρ'))(he:ρ'.set i d=ρ2):eV false i f ρ=.ok (.nx ρ2):=by
 subst he;unfold eV;rw[h];rfl
def JK(h:f ρ=.ok (.rt d)):bB f g ρ=.ok (.rt d):=by
 unfold bB;rw[h];rfl
def aA0(h1:fv ρ=.ok d)(h2:fk ρ=.ok (.int k))(h3:G8 (ρ.getD i .uD)=some xs)(hp:d.pure=true)(hj:ixD xs.length k=some j)(he:ρ.set i (aCa (ρ.getD i .uD) (xs.set j d))=ρ'):K_ i fk fv ρ=.ok (.nx ρ'):=by
 subst he;unfold K_;rw[h1,Res.aO,h2,Res.aO,h3];dsimp only;rw[if_pos hp,hj]
def M_(h:f ρ=.ok d)(hp:(k||d.pure)=true):KJ f k ρ=.ok (.rt (.tup (d::ρ))):=by
 unfold KJ;rw[h,Res.aO,if_pos hp]
def vK(h:cO i ρ=.ok d)(hp:d.PK=true):nM i ρ=.ok (.rt (.tup (d::ρ))):=by
 unfold nM;rw[h,Res.aO,if_pos hp]
def NB(h:f ρ=.ok d)(hp:d.pure=true):bPu f ρ=.ok d:=by
 unfold bPu;rw[h,Res.aO,if_pos hp]
def uQ(h1:fa ρ=.ok (x,ρ1))(hp:x.pure=true)(h2:fb ρ1=.ok y)(h3:f x y=.ok d)(hd:d.pure=true):x2L f fa fb ρ=.ok (d,ρ1):=by
 unfold x2L;rw[h1,Res.aO];dsimp only;rw[if_pos hp,h2,Res.aO,h3,Res.aO,if_pos hd]
def aA1(h1:fa ρ=.ok x)(h2:fb ρ=.ok (y,ρ1))(h3:f x y=.ok d)(hd:d.pure=true):x2R f fa fb ρ=.ok (d,ρ1):=by
 unfold x2R;rw[h1,Res.aO,h2,Res.aO];dsimp only;rw[h3,Res.aO,if_pos hd]
def aEk(h:f ρ=.ok (.bl b,ρ1)):xTB f ρ=.ok (b,ρ1):=by
 unfold xTB;rw[h];rfl
def Q_(h1:c ρ=.ok (k,ρ1))(h2:(if k then f ρ1 else g ρ1)=r):aGl c f g ρ=r:=by
 unfold aGl;rw[h1];exact h2
def uR(h:f (ds++List.replicate (m-n) .uD)=.ok (.rt (.tup (d::ρ)))):fnX k n m f ds=.ok (.tup (d::ρ.take k)):=by
 unfold fnX;rw[h];rfl
def oA(a b:Int)(h:iV b=true):xR (.int a) (.int b)=.ok (.int (a*b)):=by
 show aU .mul (.int a) (.int b)=_;exact aJp a b h
def JL(a:Int)(h1:-10000000000<=a)(h2:a<=10000000000):iV a=true:=by
 unfold iV;rw[Bool.and_eq_true,decide_eq_true_eq,decide_eq_true_eq];lia
def aL4(a b:Int):uN .le (.int a) (.int b)=.ok (.bl (decide (a<=b))):=rfl
def RB(a b:Int):uN .lt (.int a) (.int b)=.ok (.bl (decide (a<b))):=rfl
def cmp_gt(a b:Int):uN .gt (.int a) (.int b)=.ok (.bl (decide (b<a))):=rfl
def m8(a b:Int):eX .eq (.int a) (.int b)=.ok (.bl (a==b)):=rfl
def aA2(ns:List Int)(i:Int)(h0:0<=i)(h1:i<ns.length):∃n,getD (.scr (ns.map D.int)) (.int i)=.ok (.int n):=by
 have hl:i.toNat<ns.length:=by lia
 refine⟨ns[i.toNat],?_⟩;show Res.ofOpt ((ixD (ns.map D.int).length i).bind λj=>(ns.map D.int)[j]?)=_;unfold ixD;rw[if_pos h0,List.length_map,if_pos h1];simp[hl]
noncomputable def tx(cs:List Nat):Str:=⟨cs.toArray⟩
def uT(cs:List Nat):(tx cs).length=cs.length:=by
 show cs.toArray.size=_;simp
def aA3(a b:List Nat):tx a++tx b=tx (a++b):=by
 show(⟨a.toArray++b.toArray⟩:Str)=⟨(a++b).toArray⟩
 congr 1
 simp
def aEm(h:tx a=tx b):a=b:=by
 unfold tx at h;injection h with h
 have:=congrArg Array.toList h;simpa using this
noncomputable def abc:Str:= "abcdefghijklmnopqrstuvwxyz"
def aL5:∀i,i<26->abc.cps.toList[i]?=some (97+i):=by decide +kernel
def letter(i:Int)(h0:0<=i)(h1:i<26):getD (.str abc) (.int i)=.ok (.str (tx [97+i.toNat])):=by
 have hl:decide (abc.length<=lim)=true:=by decide +kernel
 have h26:abc.cps.toList.length=26:=by decide +kernel
 have hix:ixD abc.cps.toList.length i=some i.toNat:=by
  unfold ixD;rw[if_pos h0,h26,if_pos 0x1]
 show(if decide (abc.length<=lim) then Res.ofOpt (((ixD abc.cps.toList.length i).bind λj=>abc.cps.toList[j]?).map λc=>D.str ⟨#[c]⟩) else .bad)=_;rw[hl,if_pos rfl,hix];simp only[Option.bind_some];rw[aL5 _ 0x1];rfl
noncomputable def dk(cs:List Int)(n:Nat):List D:=[.scr (cs.map D.int),.int n]
def iZ(cs:List Int)(n:Nat):D.aJ (dk cs n)=true:=by
 show((D.scr (cs.map D.int)).pure&&_)=true;rw[D.pure,sO];rfl
def aHe(cs:List Int)(n:Nat)(hn:n<=100000):∃r:Int,∀b,aN [.cel b (dk cs n)]=.ok (.tup [.int r,.cel b (dk cs (n+1))]):=by
 have hl:lC [.scr (cs.map D.int)]=.ok (.int cs.length):=by
  show Res.ok (D.int ((cs.map D.int).length:Int))=_;rw[List.length_map]
 have pre:∀(b:Nat)(R:Res Fl)(g:FS),g [.cel b (dk cs (n+1)),.scr (cs.map D.int),.int n]=R->(bB (bW false 1 (b2 getD nJ cG) false) (bB (bW false 2 (b2 getD nJ cP) false) (bB (K_ 0 cP (b2 (aU .add) eY cP)) g))) [.cel b (dk cs n),.uD,.uD]=R:=λb R g hg=>by
  refine aM (jK (aK rfl rfl rfl) (sO cs)) ?_;refine aM (jK (aK rfl rfl rfl) rfl) ?_;exact aM (aA0 (xs:=dk cs n) (k:=1) (j:=1) (d:=.int ((n+1:Nat):Int)) (aK (x:=.int n) (y:=.int 1) rfl rfl rfl) rfl rfl rfl rfl rfl) hg
 have h0:∀(b:Nat)(d:D)(ρ:List D),wV [.cel b (dk cs n),.uD,.uD]=.ok (.rt (.tup (d::.cel b (dk cs (n+1))::ρ)))->aN [.cel b (dk cs n)]=.ok (.tup [d,.cel b (dk cs (n+1))]):=λb d ρ h=>uR (k:=1) (ρ:=.cel b (dk cs (n+1))::ρ) h
 by_cases h1:n<cs.length
 ·obtain⟨r,hr⟩:=aA2 cs n 0x1 0x1;refine⟨r,λb=>h0 b _ _ (pre b _ _ (JK (VF (e_ (aK rfl (bO (aD rfl rfl) hl) ((RB _ _).trans (by rw[decide_eq_true 0x1])))) (M_ (aK rfl rfl hr) rfl))))⟩
 ·have c1:∀b:Nat,(sIf (bTB (b2 (uN .lt) eY (aV lC (aB fD aQ)))) (KJ (b2 getD fD eY) false) mF) [.cel b (dk cs (n+1)),.scr (cs.map D.int),.int n]=.ok (.nx [.cel b (dk cs (n+1)),.scr (cs.map D.int),.int n]):=λb=>xT (e_ (aK rfl (bO (aD rfl rfl) hl) ((RB _ _).trans (by rw[decide_eq_false 0x1])))) rfl
  have hs:iV (n:Int)=true:=JL _ 0x1 0x1;by_cases h2:cs.length=0
  ·refine⟨(n:Int)*n*3+n,λb=>h0 b _ _ (pre b _ _ (aM (c1 b) (JK (VF (e_ (aK (bO (aD rfl rfl) hl) rfl ((m8 _ _).trans (by rw[h2];rfl)))) (M_ (aK (aK (aK rfl rfl (oA _ _ hs)) rfl (oA _ _ rfl)) rfl (dW _ _)) rfl)))))⟩
  ·have hp:(0:Int)<cs.length:=by lia
   obtain⟨r,hr⟩:=aA2 cs ((n:Int) % cs.length) (Int.emod_nonneg _ 0x1) (Int.emod_lt_of_pos _ hp);refine⟨r / 2+n*n,λb=>h0 b _ _ (pre b _ _ (aM (c1 b) (aM (ρ':=[.cel b (dk cs (n+1)),.scr (cs.map D.int),.int n]) (xT (e_ (aK (bO (aD rfl rfl) hl) rfl ((m8 _ _).trans ?_))) rfl) (M_ (aK (aK (aK rfl (aK rfl (bO (aD rfl rfl) hl) (b_ _ _ hp)) hr) rfl (dM _ _ 0x4 0x4)) (aK rfl rfl (oA _ _ hs)) (dW _ _)) rfl))))⟩;have:((cs.length:Int)==0)=false:=by simpa using h2
   rw[this]
def iT(cs:List Int)(n:Nat)(hn:n<=100000):∃r:Int,ch1 aN (dk cs n) []=.ok (.int r,dk cs (n+1)):=by
 obtain⟨r,h⟩:=aHe cs n hn;exact⟨r,wK h⟩
def uY(e:ch1 aN (dk cs n) []=.ok (.int r,dk cs (n+1)))(h2:G8 (ρ.getD i .uD)=some (dk cs n))(he:ρ.set i (aCa (ρ.getD i .uD) (dk cs (n+1)))=ρ'):bT aN 1 i aQ ρ=.ok (.int r,ρ'):=
 iJ (fs:=aQ) rfl h2 rfl e (iZ cs (n+1)) he
noncomputable def one(c:Nat):Str:=⟨#[c]⟩
theorem JM:∀(cs:List Nat)(a:Array Nat),((cs.map one).foldl (λacc p=>acc++("" : Str).cps++p.cps) a)=a++cs.toArray
 |[],a=>by simp
 |c::cs,a=>by
  rw[List.map_cons,List.foldl_cons,JM cs];apply Array.ext';simp[one,show(("" : Str).cps)=#[] from rfl]
def join_one(cs:List Nat):Txt.join ("" : Str) (cs.map one)=tx cs:=by
 unfold Txt.join Builtin.Str.glued tx;cases cs with
 |nil=>rfl
 |cons c cs=>
  rw[List.map_cons,List.drop_succ_cons,List.drop_zero,List.headD_cons,JM]
  congr 1
  apply Array.ext';simp[one]
theorem JN:∀cs:List Nat,wF (cs.map λc=>D.str (one c))=some (cs.map one)
 |[]=>rfl
 |c::cs=>by
  show(wF (cs.map λc=>D.str (one c))).map (one c::·)=_;rw[JN cs];rfl
def aHf(cs:List Nat)(h:cs.length<=100):joinM (.str "") [.lst (cs.map λc=>D.str (one c))]=.ok (.str (tx cs)):=by
 show(match wF (cs.map λc=>D.str (one c)) with|some ts=>if JoinOk "" ts then Res.ok (D.str (Txt.join "" ts)) else .bad|none=>.bad)=_;rw[JN];show(if JoinOk "" (cs.map one) then Res.ok (D.str (Txt.join "" (cs.map one))) else .bad)=_;have hok:JoinOk "" (cs.map one)=true:=by
  unfold JoinOk;rw[StrLaws.joinFits (λy hy=>by obtain⟨c,_,rfl⟩:=List.mem_map.mp hy;exact Nat.le_refl _) (by rw[List.length_map,show(("" : Str).length)=0 from rfl];lia)];rfl
 rw[if_pos hok,join_one]
def aQ7(h1:a ρ=.ok true):bOr a b ρ=.ok true:=by
 unfold bOr;rw[h1];rfl
def aEn(h1:a ρ=.ok false)(h2:b ρ=r):bOr a b ρ=r:=by
 unfold bOr;rw[h1];exact h2
def aO2(h1:a ρ=.ok x)(h2:b ρ=.ok y):bOr a b ρ=.ok (x||y):=by
 cases x with
 |true=>exact aQ7 h1
 |false=>exact aEn h1 h2
def nb:FS:=(bB (bW false 11 (b2 (aU .mod) (b2 (aU .add) (b2 xR mL c7) d7) nD) true) (sIf (bTB (b2 (eX .eq) (b2 (aU .mod) eY h_) cP)) (zL 9 (b2 xR (b2 getD fD (b2 (aU .mod) (b2 (aU .add) d7 (b2 (aU .mod) eO DG)) nD)) (b2 (aU .add) cP (b2 (aU .fdiv) eO DG)))) (sIf (bTB (b2 (eX .eq) (b2 (aU .mod) eY h_) iW)) (bB (bW false 12 (b2 getD fD (b2 (aU .mod) (b2 (aU .add) d7 (b2 (aU .mod) eO KD)) nD)) false) (bB (bW false 13 (b2 getD fD (b2 (aU .mod) (b2 (aU .add) d7 (b2 (aU .fdiv) eO KD)) nD)) false) (zL 9 (b2 (aU .add) (b2 (aU .add) (b2 (aU .add) (nC jN fX (eZ lY)) k_) lA) (nC jN (eZ lY) fX))))) (zL 9 (b2 (aU .add) (b2 (aU .add) (nC jN fX (eZ lY)) (b2 getD fD eO)) (nC jN (eZ lY) fX))))))
def oE(h:a ρ=.ok (.int i)):eZ a ρ=.ok (some i):=by
 unfold eZ;rw[h];rfl
def NK(h1:a ρ=.ok (.str x))(h2:lo ρ=.ok l)(h3:hi ρ=.ok h)(hx:x.length<=1000):nC a lo hi ρ=.ok (.str (Txt.slice x l h)):=by
 unfold nC;rw[h1,Res.aO,h2,Res.aO,h3,Res.aO];show(if decide (x.length<=lim) then Res.ok (D.str (Txt.slice x l h)) else .bad)=_;rw[if_pos (by rw[bF];exact decide_eq_true 0x1)]
def aEo(x:Str):tx x.cps.toList=x:=rfl
def aHg(c:Nat)(n:Nat)(h:1<=n):Txt.mul (tx [c]) (n:Int)=tx (List.replicate n c):=by
 unfold Txt.mul;rw[if_neg 0x1];split
 ·rename_i h1;have:n=1:=by
   simp[uT] at h1;lia
  subst this;rfl
 ·have:∀(m:Nat)(a:List Nat),(List.replicate m (tx [c]).cps).foldl (·++·) a.toArray=(a++List.replicate m c).toArray:=by
   intro m;induction m with
   |zero=>intro a;simp
   |succ m ih=>
    intro a;rw[List.replicate_succ,List.foldl_cons];have:a.toArray++(tx [c]).cps=(a++[c]).toArray:=by
     apply Array.ext';simp[tx]
    rw[this,ih,List.replicate_succ];simp
  have e:=this n [];rw[Int.toNat_natCast];show(⟨_⟩:Str)=⟨_⟩
  congr 1
def aD8(c:Nat)(n:Nat)(h:1<=n)(h2:n<=100):xR (.str (tx [c])) (.int n)=.ok (.str (tx (List.replicate n c))):=by
 show(if decide (0<=(n:Int))&&decide ((n:Int)<=100000)&&decide ((tx [c]).length*(n:Int).toNat<=lim) then Res.ok (D.str (Txt.mul (tx [c]) n)) else .bad)=_;have e3:decide ((tx [c]).length*(n:Int).toNat<=lim)=true:=by
  rw[uT,bF];simp;lia
 rw[e3,decide_eq_true 0x1,decide_eq_true 0x1,aHg c n h];rfl
abbrev ns(hD:D)(choice turn shift cell size:Int)(base:Str)(at_:Int)(NM:List D)(a b c d:D):List D:=[hD,.str abc,.int choice,.int turn,.int shift,.int cell,.int size,.str base,.int at_,.lst NM,a,b,c,d]
structure Nmf(nm:Nat->List Nat):Prop where
 inj:∀s t,s<26->t<26->nm s=nm t->s=t
 len:∀s,s<26->(nm s).length<=100
def aA4(x:Int):∃s:Nat,s<26/\x % 26=s:=⟨(x % 26).toNat,by lia,by lia⟩
def aA5{P Q A B:List Nat}(h:P++A++Q=P++B++Q):A=B:=by
 rw[List.append_assoc,List.append_assoc] at h;exact List.append_cancel_right (List.append_cancel_left h)
def aD9(hb:base.length<=10)(ht:iV turn=true)(hs0:0<=shift)(hs1:shift<26) :
  ∃nm:Nat->List Nat,Nmf nm/\∀(k:Int)(s:Nat),s<26->(k*turn+shift) % 26=s->∀(NM:List D)(b c d:D),NM.length<100->∃b' c' d',∀hD,nb (ns hD choice turn shift cell size base at_ NM (.int k) b c d)=.ok (.nx (ns hD choice turn shift cell size base at_ (NM++[.str (tx (nm s))]) (.int k) b' c' d')):=by
 have sp:∀(k:Int)(s:Nat)(hD:D)(NM:List D)(b c d:D),(k*turn+shift) % 26=s->bW false 11 (b2 (aU .mod) (b2 (aU .add) (b2 xR mL c7) d7) nD) true (ns hD choice turn shift cell size base at_ NM (.int k) b c d)=.ok (.nx (ns hD choice turn shift cell size base at_ NM (.int k) (.int s) c d)):=λk s hD NM b c d e=>by
  rw[<-e];exact cZ (aK (aK (aK rfl rfl (oA _ _ ht)) rfl (dW _ _)) rfl (b_ _ _ 0x4))
 have cm:∀(ρ:List D)(j:Int),cO 2 ρ=.ok (.int choice)->bTB (b2 (eX .eq) (b2 (aU .mod) eY h_) (bC (.int j))) ρ=.ok (choice % 3==j):=λρ j h=>e_ (aK (aK h rfl (b_ _ _ 0x4)) rfl (m8 _ _))
 have lt:∀(ρ:List D)(f:FE)(i:Int) ,cO 1 ρ=.ok (.str abc)->f ρ=.ok (.int i)->0<=i->i<26->b2 getD fD f ρ=.ok (.str (tx [97+i.toNat])):=λρ f i h1 h2 h3 h4=>aK h1 h2 (letter i h3 h4)
 obtain⟨P,hP,lP⟩:∃P,Txt.slice base none (some at_)=tx P/\P.length<=10:=⟨_,(aEo _).symm,Nat.le_trans (Txt.slice_le ..) hb⟩
 obtain⟨Q,hQ,lQ⟩:∃P,Txt.slice base (some at_) none=tx P/\P.length<=10:=⟨_,(aEo _).symm,Nat.le_trans (Txt.slice_le ..) hb⟩
 have ap:∀(a b:List Nat),a.length<=100->b.length<=100->aU .add (.str (tx a)) (.str (tx b))=.ok (.str (tx (a++b))):=λa b h1 h2=>by
  rw[X8 _ _ (by rw[uT,uT,bF];lia),aA3]
 have slP:∀ρ:List D,cO 7 ρ=.ok (.str base)->cO 8 ρ=.ok (.int at_)->nC jN fX (eZ lY) ρ=.ok (.str (tx P)):=λρ g1 g2=>by
  rw[<-hP];exact NK g1 rfl (oE g2) 0x1
 have slQ:∀ρ:List D,cO 7 ρ=.ok (.str base)->cO 8 ρ=.ok (.int at_)->nC jN (eZ lY) fX ρ=.ok (.str (tx Q)):=λρ g1 g2=>by
  rw[<-hQ];exact NK g1 (oE g2) rfl 0x1
 by_cases h1:choice % 3=1
 ·refine⟨λs=>List.replicate (1+s / 4) (97+((shift+((s:Int) % 4)) % 26).toNat),⟨λs t hs ht e=>?_,λs hs=>by rw[List.length_replicate];lia⟩,λk s hs hk NM b c d hN=>⟨.int s,c,d,λhD=>?_⟩⟩
  ·have e1:=congrArg List.length e;rw[List.length_replicate,List.length_replicate] at e1;have e2:=congrArg (λl=>l.head?) e;simp only[Nat.add_comm 1,List.replicate_succ,List.head?_cons,Option.some.injEq] at e2;lia
  ·refine aM (sp k s hD NM b c d hk) (VF ((cm _ _ rfl).trans (by rw[h1];rfl)) ?_);refine uO (aK (lt _ _ _ rfl (aK (aK rfl (aK rfl rfl (b_ _ _ 0x4)) (dW _ _)) rfl (b_ _ _ 0x4)) 0x1 0x1) (aK rfl (aK rfl rfl (dM _ _ 0x4 0x4)) ?_) (aD8 _ _ 0x1 0x1)) rfl (by rw[bF];lia) rfl;rw[dW]
   congr 2
 ·by_cases h2:choice % 3=2
  ·refine⟨λs=>P++[97+((shift+((s:Int) % 6)) % 26).toNat,97+((shift+((s:Int) / 6)) % 26).toNat]++Q,⟨λs t hs ht e=>?_,λs hs=>by simp only[List.length_append,List.length_cons,List.length_nil];lia⟩,λk s hs hk NM b c d hN=>⟨.int s,.str (tx [97+((shift+((s:Int) % 6)) % 26).toNat]),.str (tx [97+((shift+((s:Int) / 6)) % 26).toNat]),λhD=>?_⟩⟩
   ·have e1:=aA5 e;simp only[List.cons.injEq,and_true] at e1;lia
   ·refine aM (sp k s hD NM b c d hk) (xT ((cm _ _ rfl).trans (by rw[h2];rfl)) (VF ((cm _ _ rfl).trans (by rw[h2];rfl)) ?_));refine aM (jK (lt _ _ _ rfl (aK (aK rfl (aK rfl rfl (b_ _ _ 0x4)) (dW _ _)) rfl (b_ _ _ 0x4)) 0x1 0x1) rfl) ?_;refine aM (jK (lt _ _ _ rfl (aK (aK rfl (aK rfl rfl (dM _ _ 0x4 0x4)) (dW _ _)) rfl (b_ _ _ 0x4)) 0x1 0x1) rfl) ?_;refine(uO (aK (aK (aK (slP _ rfl rfl) rfl (ap _ _ 0x1 0x2)) rfl (ap _ _ (by simp only[List.length_append,List.length_singleton];lia) 0x2)) (slQ _ rfl rfl) (ap _ _ (by simp only[List.length_append,List.length_singleton];lia) 0x1)) rfl (by rw[bF];lia) rfl).trans ?_;simp only[List.append_assoc,List.cons_append,List.nil_append];rfl
  ·refine⟨λs=>P++[97+s]++Q,⟨λs t hs ht e=>?_,λs hs=>by simp only[List.length_append,List.length_cons,List.length_nil];lia⟩,λk s hs hk NM b c d hN=>⟨.int s,c,d,λhD=>?_⟩⟩
   ·have e1:=aA5 e;simp only[List.cons.injEq,and_true] at e1;lia
   ·refine aM (sp k s hD NM b c d hk) (xT ((cm _ _ rfl).trans (by rw[beq_eq_false_iff_ne.mpr h1])) (xT ((cm _ _ rfl).trans (by rw[beq_eq_false_iff_ne.mpr h2])) ?_));refine(uO (aK (aK (slP _ rfl rfl) (lt _ _ s rfl rfl 0x1 0x1) (ap _ _ 0x1 0x2)) (slQ _ rfl rfl) (ap _ _ (by simp only[List.length_append,List.length_singleton];lia) 0x1)) rfl (by rw[bF];lia) rfl).trans ?_;rw[Int.toNat_natCast];rfl
theorem yU{nm:Nat->List Nat}(G:∀(k:Int) (s:Nat),s<26->(k*turn+shift) % 26=s->∀(NM:List D) (b c d:D),NM.length<100->∃b' c' d',∀hD,nb (ns hD choice turn shift cell size base at_ NM (.int k) b c d)=.ok (.nx (ns hD choice turn shift cell size base at_ (NM++[.str (tx (nm s))]) (.int k) b' c' d'))):∀(m j:Nat)(NM:List D)(a b c d:D),NM.length+m<100->∃a' b' c' d',∀hD,vA (tg1 10) nb ((List.range' j m).map λ(k:Nat)=>D.int (0+(k:Int))) (ns hD choice turn shift cell size base at_ NM a b c d)=.ok (.nx (ns hD choice turn shift cell size base at_ (NM++(List.range' j m).map λ(k:Nat)=>D.str (tx (nm (((k:Int)*turn+shift) % 26).toNat))) a' b' c' d'))
 |0,j,NM,a,b,c,d,_=>⟨a,b,c,d,λhD=>by
  rw[List.range'_zero,List.map_nil,List.map_nil,List.append_nil];rfl⟩
 |m+1,j,NM,a,b,c,d,h=>by
  obtain⟨s,hs,es⟩:=aA4 ((j:Int)*turn+shift);obtain⟨b1,c1,d1,e1⟩:=G (0+(j:Int)) s hs (by rw[Int.zero_add];exact es) NM b c d 0x1;obtain⟨a2,b2,c2,d2,e2⟩:=yU G m (j+1) (NM++[.str (tx (nm s))]) (.int (0+(j:Int))) b1 c1 d1 (by rw[List.length_append,List.length_singleton];lia);refine⟨a2,b2,c2,d2,λhD=>?_⟩;rw[List.range'_succ,List.map_cons,List.map_cons,es,Int.toNat_natCast];refine dB rfl (e1 hD) ?_;rw[e2 hD,List.append_assoc];rfl
def aHh(i:Int)(h0:0<=i)(h1:i<6):∃t:Int,getD (.lst [.int 1,.int 3,.int 5,.int 7,.int 9,.int 25]) (.int i)=.ok (.int t)/\(t=1\/t=3\/t=5\/t=7\/t=9\/t=25):=by
 have:i=0\/i=1\/i=2\/i=3\/i=4\/i=5:=by lia
 rcases this with h|h|h|h|h|h<;>subst h
 ·exact⟨1,rfl,by decide⟩
 ·exact⟨3,rfl,by decide⟩
 ·exact⟨5,rfl,by decide⟩
 ·exact⟨7,rfl,by decide⟩
 ·exact⟨9,rfl,by decide⟩
 ·exact⟨25,rfl,by decide⟩
def aDa(ht:t=1\/t=3\/t=5\/t=7\/t=9\/t=25){j k:Nat}(hj:j<26)(hk:k<26)(h:((j:Int)*t+s) % 26=((k:Int)*t+s) % 26):j=k:=by
 rcases ht with e|e|e|e|e|e<;>subst e<;>lia
theorem JP(n:Nat):∀N:List Str,D.dR n (N.map D.str)=true
 |[]=>by rw[List.map_nil,D.dR]
 |x::N=>by
  rw[List.map_cons,D.dR,JP n N];rw[D.fC]<;>simp
def RC(x:Str):(D.str x).fC aX=true:=by
 unfold aX;rw[D.fC]<;>simp
theorem JQ:∀N:List Str,D.aJ (N.map D.str)=true
 |[]=>rfl
 |x::N=>by
  rw[List.map_cons,D.aJ,JQ N];rfl
theorem aA6(x:Str):∀N:List Str,(N.map D.str).any (λy=>eqD y (.str x))=decide (x∈N)
 |[]=>rfl
 |y::N=>by
  rw[List.map_cons,List.any_cons,aA6 x N];show((y==x)||_)=_;by_cases h:y=x
  ·simp[h]
  ·have h2:¬x=y:=λe=>h e.symm
   simp[h,h2]
def in_str(x:Str)(N:List Str):eX .isin (.str x) (.lst (N.map D.str))=.ok (.bl (decide (x∈N))):=by
 show(if (D.str x).fC aX&&D.dR aX (N.map D.str) then Res.ok (D.bl ((N.map D.str).any λy=>eqD y (.str x))) else .bad)=_;rw[RC,JP,aA6];rfl
def kI(h:a ρ=.ok (.lst xs)):bK a fr ρ=.ok (xs,fr):=by
 unfold bK;rw[h,Res.aO];show Res.ok (xs,fr||false)=_;rw[Bool.or_false]
def gZ(h:a ρ=.ok (.tup xs)):bK a fr ρ=.ok (xs,fr||D.aJ xs):=by
 unfold bK;rw[h,Res.aO];show Res.ok (xs,fr||(D.tup xs).pure)=_;rw[D.pure]
def fH(d y:α->D)(xs:List α)(hρ:ρ.length=n)(h1:it ρ=.ok (xs.map d,kk))(h2:xs.length<=100000)(h3:∀a∈xs,f (ρ++[d a])=.ok (y a)/\(k||(y a).pure)=true):cJ n it jT dH f k ρ=.ok (.lst (xs.map y)):=by
 refine K7 h1 (by rw[List.length_map,bF];lia) ?_;have:∀(xs:List α)(acc:List D),(∀a∈xs,f (ρ++[d a])=.ok (y a)/\(k||(y a).pure)=true)->nT (FQ n jT dH f k ρ) acc (xs.map d)=.ok (acc++xs.map y):=by
  intro xs;induction xs with
  |nil=>intro acc _;simp[nT]
  |cons x xs ih=>
   intro acc h;rw[List.map_cons,nT,wI hρ rfl λ_=>h x (List.mem_cons_self ..)];show nT _ (acc++[y x]) _=_;rw[ih _ λa ha=>h a (List.mem_cons_of_mem _ ha),List.append_assoc];rfl
 exact(this xs [] h3).trans (by rw[List.nil_append])
def aA7(d y:α->D)(p:α->Bool)(xs:List α)(hρ:ρ.length=n)(h1:it ρ=.ok (xs.map d,kk))(h2:xs.length<=100000)(hc:∀a∈xs,c (ρ++[d a])=.ok (p a))(h3:∀a∈xs,p a=true->f (ρ++[d a])=.ok (y a)/\(k||(y a).pure)=true):cJ n it jT c f k ρ=.ok (.lst ((xs.filter p).map y)):=by
 refine K7 h1 (by rw[List.length_map,bF];lia) ?_;have:∀(xs:List α)(acc:List D),(∀a∈xs,c (ρ++[d a])=.ok (p a))->(∀a∈xs,p a=true->f (ρ++[d a])=.ok (y a)/\(k||(y a).pure)=true)->nT (FQ n jT c f k ρ) acc (xs.map d)=.ok (acc++(xs.filter p).map y):=by
  intro xs;induction xs with
  |nil=>intro acc _ _;simp[nT]
  |cons x xs ih=>
   intro acc hc h;rw[List.map_cons,nT,wI hρ (hc x (List.mem_cons_self ..)) λe=>h x (List.mem_cons_self ..) e];show nT _ _ _=_;rw[ih _ (λa ha=>hc a (List.mem_cons_of_mem _ ha)) λa ha=>h a (List.mem_cons_of_mem _ ha)];by_cases hp:p x
   ·simp[hp]
   ·simp[hp]
 exact(this xs [] hc h3).trans (by rw[List.nil_append])
def aO3(h1:o ρ=.ok x)(h2:a ρ=.ok xs)(h3:f x xs=r):bM f o a ρ=r:=by
 unfold bM;rw[h1,Res.aO,h2,Res.aO,h3]
def aO4(a b:List Nat)(h:tx a++("e" : Str)=tx b++("e" : Str)):a=b:=by
 have e:("e" : Str)=tx [101]:=rfl;rw[e,aA3,aA3] at h;exact List.append_cancel_right (aEm h)
def aDb(cs:List Int)(n:Nat)(hn:n+3<=100000):∃N:List Str,N.length=26/\N.Nodup/\∀b,fP [.cel b (dk cs n)]=.ok (.tup [.lst (N.map D.str),.cel b (dk cs (n+3))]):=by
 obtain⟨choice,q1⟩:=iT cs n 0x1;obtain⟨cell,q2⟩:=iT cs (n+1) 0x1;obtain⟨raw,q3⟩:=iT cs (n+2) 0x1;obtain⟨turn,t1,t2⟩:=aHh (choice / 3 % 6) 0x1 0x1
 let shift:=choice / 18 % 26
 have hs0:0<=shift:=by show 0<=choice / 18 % 26;lia
 have hs1:shift<26:=by show choice / 18 % 26<26;lia
 let size:=cell % 8
 have hz0:0<=size:=by show 0<=cell % 8;lia
 have hz1:size<8:=by show cell % 8<8;lia
 let bcs:List Nat:=(List.range size.toNat).map λ(k:Nat)=>97+((cell / 8+(0+(k:Int))*(shift+cell / 40 % 5)) % 26).toNat
 have hbl:bcs.length<=10:=by show(List.map _ _).length<=10;rw[List.length_map,List.length_range];lia
 let at_:=raw % (size+1)
 let base:Str:=if choice % 3=2 then Txt.slice (tx bcs) none (some 6) else tx bcs
 have hbase:base.length<=10:=by
  show(if choice % 3=2 then Txt.slice (tx bcs) none (some 6) else tx bcs).length<=10;split
  ·exact Nat.le_trans (Txt.slice_le ..) (by rw[uT];exact hbl)
  ·rw[uT];exact hbl
 have hts:iV turn=true:=QS _ 0x1 0x1;obtain⟨nm,M,G⟩:=aD9 (choice:=choice) (turn:=turn) (shift:=shift) (cell:=cell) (size:=size) (at_:=at_) hbase hts hs0 hs1;obtain⟨a',b',c',d',L⟩:=yU G 26 0 [] .uD .uD .uD .uD 0x4
 let sp:Nat->Nat:=λk=>(((k:Int)*turn+shift) % 26).toNat
 have spl:∀k,sp k<26:=λk=>by show(((k:Int)*turn+shift) % 26).toNat<26;lia
 have spi:∀j k,j<26->k<26->sp j=sp k->j=k:=λj k hj hk e=>aDa (s:=shift) t2 hj hk (by
  have e':(((j:Int)*turn+shift) % 26).toNat=(((k:Int)*turn+shift) % 26).toNat:=e;lia)
 have nod:∀g:List Nat->Str,(∀a b,g a=g b->a=b)->((List.range' 0 26).map λk=>g (nm (sp k))).Nodup:=λg hg=>by
  rw[List.nodup_iff_pairwise_ne,List.pairwise_map];refine List.Pairwise.imp_of_mem ?_ (List.nodup_iff_pairwise_ne.mp (List.nodup_range' (s:=0) (n:=26) (step:=1) 0x4));intro j k hj hk hne e;rw[List.mem_range'_1] at hj hk;exact hne (spi j k 0x1 0x1 (M.inj _ _ (spl j) (spl k) (hg _ _ e)))
 have pre:∀(b:Nat)(R:Res Fl)(g:FS),g (ns (.cel b (dk cs (n+3))) choice turn shift cell size base at_ (((List.range' 0 26).map λk=>tx (nm (sp k))).map D.str) a' b' c' d')=R->(bB (bW false 1 (bC (.str "abcdefghijklmnopqrstuvwxyz")) true) (bB (eV false 2 (bT aN 1 0 aQ)) (bB (bW false 3 (b2 getD (gM (aB cP (aB h_ (aB aFv (aB (bC (.int 7)) (aB aMe (aB (bC (.int 25)) aQ))))))) (b2 (aU .mod) (b2 (aU .fdiv) eY h_) KD)) false) (bB (bW false 4 (b2 (aU .mod) (b2 (aU .fdiv) eY W6) nD) true) (bB (eV false 5 (bT aN 1 0 aQ)) (bB (bW false 6 (b2 (aU .mod) mC aJ4) true) (bB (bW false 7 (bM joinM (bC (.str "")) (aB (cJ 14 (jW (aB jR aQ) iK) jT dH (b2 getD fD (b2 (aU .mod) (b2 (aU .add) (b2 (aU .fdiv) mC aJ4) (b2 xR fV (b2 (aU .add) d7 (b2 (aU .mod) (b2 (aU .fdiv) mC KH) aFv)))) nD)) false) aQ)) true) (bB (eV false 8 (x2L (aU .mod) (bT aN 1 0 aQ) (b2 (aU .add) jR cP))) (bB (sIf (bTB (b2 (eX .eq) (b2 (aU .mod) eY h_) iW)) (bW false 7 (nC jN fX (eZ KD)) true) mF) (bB (bW true 9 (gM aQ) true) (bB (VD (jW (aB nD aQ) iK) (tg1 10) nb) g))))))))))) [.cel b (dk cs n),.uD,.uD,.uD,.uD,.uD,.uD,.uD,.uD,.uD,.uD,.uD,.uD,.uD]=R:=λb R g hg=>by
  refine aM (ρ':=[.cel b (dk cs n),.str abc,.uD,.uD,.uD,.uD,.uD,.uD,.uD,.uD,.uD,.uD,.uD,.uD]) (cZ (i:=1) rfl) ?_;refine aM (ρ':=[.cel b (dk cs (n+1)),.str abc,.int choice,.uD,.uD,.uD,.uD,.uD,.uD,.uD,.uD,.uD,.uD,.uD]) (gH (i:=2) (uY q1 rfl rfl) rfl) ?_;refine aM (ρ':=[.cel b (dk cs (n+1)),.str abc,.int choice,.int turn,.uD,.uD,.uD,.uD,.uD,.uD,.uD,.uD,.uD,.uD]) (jK (i:=3) (aK rfl (aK (aK rfl rfl (dM _ _ 0x4 0x4)) rfl (b_ _ _ 0x4)) t1) rfl) ?_;refine aM (ρ':=[.cel b (dk cs (n+1)),.str abc,.int choice,.int turn,.int shift,.uD,.uD,.uD,.uD,.uD,.uD,.uD,.uD,.uD]) (cZ (i:=4) (aK (aK rfl rfl (dM _ _ 0x4 0x4)) rfl (b_ _ _ 0x4))) ?_;refine aM (ρ':=[.cel b (dk cs (n+2)),.str abc,.int choice,.int turn,.int shift,.int cell,.uD,.uD,.uD,.uD,.uD,.uD,.uD,.uD]) (gH (i:=5) (uY q2 rfl rfl) rfl) ?_;refine aM (ρ':=[.cel b (dk cs (n+2)),.str abc,.int choice,.int turn,.int shift,.int cell,.int size,.uD,.uD,.uD,.uD,.uD,.uD,.uD]) (cZ (i:=6) (aK rfl rfl (b_ _ _ 0x4))) ?_;refine aM (ρ':=[.cel b (dk cs (n+2)),.str abc,.int choice,.int turn,.int shift,.int cell,.int size,.str (tx bcs),.uD,.uD,.uD,.uD,.uD,.uD]) (cZ (i:=7) ?_) ?_
  ·have hc:=fH (n:=14) (it:=jW (aB jR aQ) iK) (f:=b2 getD fD (b2 (aU .mod) (b2 (aU .add) (b2 (aU .fdiv) mC aJ4) (b2 xR fV (b2 (aU .add) d7 (b2 (aU .mod) (b2 (aU .fdiv) mC KH) aFv)))) nD)) (k:=false) (ρ:=[.cel b (dk cs (n+2)),.str abc,.int choice,.int turn,.int shift,.int cell,.int size,.uD,.uD,.uD,.uD,.uD,.uD,.uD]) (λk:Nat=>D.int (0+(k:Int))) (λk:Nat=>.str (one (97+((cell / 8+(0+(k:Int))*(shift+cell / 40 % 5)) % 26).toNat))) (List.range size.toNat) rfl (wH (n:=size) (aD rfl rfl) 0x1 0x1) (by rw[List.length_range];lia) (λk _=>⟨aK (x:=.str abc) rfl (aK (aK (aK (x:=.int cell) rfl rfl (dM _ _ 0x4 0x4)) (aK (x:=.int (0+(k:Int))) rfl (aK (x:=.int shift) rfl (aK (aK (x:=.int cell) rfl rfl (dM _ _ 0x4 0x4)) rfl (b_ _ _ 0x4)) (dW _ _)) (oA _ _ (QS _ 0x1 0x1))) (dW _ _)) rfl (b_ _ _ 0x4)) (letter _ 0x1 0x1),rfl⟩);have hj:=aHf bcs 0x1;rw[List.map_map] at hj;exact aO3 rfl (aD hc rfl) hj
  refine aM (ρ':=[.cel b (dk cs (n+3)),.str abc,.int choice,.int turn,.int shift,.int cell,.int size,.str (tx bcs),.int at_,.uD,.uD,.uD,.uD,.uD]) (gH (i:=8) (uQ (uY q3 rfl rfl) rfl (aK (x:=.int size) rfl rfl (dW _ _)) (b_ _ _ 0x1) rfl) rfl) ?_;refine aM (ρ':=[.cel b (dk cs (n+3)),.str abc,.int choice,.int turn,.int shift,.int cell,.int size,.str base,.int at_,.uD,.uD,.uD,.uD,.uD]) ?_ ?_
  ·by_cases h2:choice % 3=2
   ·have eb:base=Txt.slice (tx bcs) none (some 6):=if_pos h2;rw[eb];exact VF (e_ (aK (aK rfl rfl (b_ _ _ 0x4)) rfl ((m8 _ _).trans (by rw[h2];rfl)))) (cZ (i:=7) (NK (x:=tx bcs) rfl rfl (oE rfl) (by rw[uT];lia)))
   ·have eb:base=tx bcs:=if_neg h2;rw[eb];exact xT (e_ (aK (aK rfl rfl (b_ _ _ 0x4)) rfl ((m8 _ _).trans (by rw[beq_eq_false_iff_ne.mpr h2])))) rfl
  refine aM (ρ':=ns (.cel b (dk cs (n+3))) choice turn shift cell size base at_ [] .uD .uD .uD .uD) (fK (i:=9) rfl rfl) ?_;refine aM (yJ (wH (n:=26) (aD rfl rfl) 0x4 0x4) ?_) hg;have e:=L (.cel b (dk cs (n+3)));rw[List.nil_append] at e;rw[List.map_map];exact e
 generalize hN0:((List.range' 0 26).map λk=>tx (nm (sp k)))=N0 at pre;have l0:N0.length=26:=by rw[<-hN0,List.length_map];rfl
 have n0:N0.Nodup:=hN0▸nod tx λ_ _ e=>aEm e
 have tl:∀x∈N0,x.length<=100:=λx hx=>by
  rw[<-hN0,List.mem_map] at hx;obtain⟨k,_,rfl⟩:=hx;rw[uT];exact M.len _ (spl k)
 have cond:∀(hD:D),(bOr (bTB (b2 inX (bC (.str "copy")) kJ)) (bTB (b2 inX (bC (.str "drop")) kJ))) (ns hD choice turn shift cell size base at_ (N0.map D.str) a' b' c' d')=.ok (decide (("copy" : Str)∈N0)||decide (("drop" : Str)∈N0)):=λhD=>aO2 (e_ (aK rfl rfl (in_str _ _))) (e_ (aK rfl rfl (in_str _ _)))
 have fin:∀(b:Nat)(N:List Str),(nM 9) (ns (.cel b (dk cs (n+3))) choice turn shift cell size base at_ (N.map D.str) a' b' c' d')=.ok (.rt (.tup (.lst (N.map D.str)::ns (.cel b (dk cs (n+3))) choice turn shift cell size base at_ (N.map D.str) a' b' c' d'))):=λb N=>vK rfl rfl
 by_cases hc:(decide (("copy" : Str)∈N0)||decide (("drop" : Str)∈N0))=true
 ·refine⟨N0.map λx=>x++("e" : Str),by rw[List.length_map,l0],?_,λb=>?_⟩
  ·rw[<-hN0,List.map_map];exact nod (λa=>tx a++("e" : Str)) aO4
  ·refine uR (k:=1) (ρ:=ns (.cel b (dk cs (n+3))) choice turn shift cell size base at_ ((N0.map λx=>x++("e" : Str)).map D.str) a' b' c' d') (pre b _ _ (aM (VF ((cond _).trans (by rw[hc])) (fK (i:=9) (d:=.lst ((N0.map λx=>x++("e" : Str)).map D.str)) ?_ (JQ _))) (fin b _)));rw[List.map_map];exact fH (n:=14) D.str (λx=>D.str (x++("e" : Str))) N0 rfl (kI rfl) 0x1 (λx hx=>⟨aK rfl rfl (X8 _ _ (by have:=tl x hx;rw[bF];show x.length+1<=_;lia)),rfl⟩)
 ·refine⟨N0,l0,n0,λb=>?_⟩;exact uR (k:=1) (ρ:=ns (.cel b (dk cs (n+3))) choice turn shift cell size base at_ (N0.map D.str) a' b' c' d') (pre b _ _ (aM (xT ((cond _).trans (by rw[Bool.eq_false_iff.mpr hc])) rfl) (fin b _)))
def aDc(cs:List Int)(n:Nat)(hn:n+3<=100000):∃N:List Str,N.length=26/\N.Nodup/\ch1 fP (dk cs n) []=.ok (.lst (N.map D.str),dk cs (n+3)):=by
 obtain⟨N,h1,h2,h3⟩:=aDb cs n hn;exact⟨N,h1,h2,wK h3⟩
def aA8(n d a:Nat):aB2 n d (some (a:Int))=min a n:=by
 show(if (a:Int)<0 then (max ((a:Int)+(n:Int)) 0).toNat else (min (a:Int) (n:Int)).toNat)=_;rw[if_neg 0x1];lia
def RD(n d:Nat):aB2 n d none=d:=rfl
def aEp(xs:List α)(a:Nat):cutD xs none (some (a:Int))=xs.take a:=by
 unfold cutD;rw[aA8,RD,List.drop_zero,Nat.sub_zero];by_cases h:a<=xs.length
 ·rw[Nat.min_eq_left h]
 ·rw[Nat.min_eq_right 0x1,List.take_of_length_le (Nat.le_refl _),List.take_of_length_le 0x1]
def aDd(xs:List α)(a:Nat):cutD xs (some (a:Int)) none=xs.drop a:=by
 unfold cutD;rw[aA8,RD];by_cases h:a<=xs.length
 ·rw[Nat.min_eq_left h,List.take_of_length_le (by rw[List.length_drop];exact Nat.le_refl _)]
 ·rw[Nat.min_eq_right 0x1,List.drop_eq_nil_of_le (Nat.le_refl _),List.drop_eq_nil_of_le 0x1,List.take_nil]
noncomputable def sy(N:List Str)(i:Nat):D:=.str (N.getD i "")
def aL6(N:List Str)(h:N.length=26):N.map D.str=(List.range 26).map (sy N):=by
 apply List.ext_getElem
 ·simp[h]
 ·intro i h1 h2;rw[List.getElem_map,List.getElem_map,List.getElem_range];have h1':i<N.length:=by rw[List.length_map] at h1;exact h1
  show D.str (N[i]'h1')=D.str (N.getD i "");rw[List.getD_eq_getElem?_getD,List.getElem?_eq_getElem h1'];rfl
def xG(h:N.length=26)(hN:N.Nodup)(hi:i<26)(hj:j<26):eqD (sy N i) (sy N j)=decide (i=j):=by
 show((N.getD i "")==(N.getD j ""))=_;have hi':i<N.length:=by lia
 have hj':j<N.length:=by lia
 rw[List.getD_eq_getElem?_getD,List.getD_eq_getElem?_getD,List.getElem?_eq_getElem hi',List.getElem?_eq_getElem hj'];show(N[i]==N[j])=_;by_cases e:i=j
 ·subst e;simp
 ·have:¬N[i]=N[j]:=λg=>e ((List.getElem_inj hN).mp g)
  simp[e,this]
theorem bL(N:List Str):∀l:List Nat,D.aJ (l.map (sy N))=true
 |[]=>rfl
 |i::l=>by
  rw[List.map_cons,D.aJ,bL N l];rfl
theorem vL(N:List Str)(n:Nat):∀l:List Nat,D.dR n (l.map (sy N))=true
 |[]=>by rw[List.map_nil,D.dR]
 |x::l=>by
  rw[List.map_cons,D.dR,vL N n l];unfold sy;rw[D.fC]<;>simp
def CK(N:List Str)(i:Nat):(sy N i).fC aX=true:=RC _
def mG{l:List α}{i:Nat}{a:α}{x:Int}(hx:x=i)(h:l[i]?=some a):getD (.lst (l.map f)) (.int x)=.ok (f a):=by
 subst hx;obtain⟨hi,e⟩:=List.getElem?_eq_some_iff.mp h;show Res.ofOpt ((ixD (l.map f).length (i:Int)).bind λj=>(l.map f)[j]?)=_;unfold ixD;rw[if_pos 0x1,List.length_map,if_pos 0x1];simp[h]
def RG{α:Type}{f:α->D}{l:List α}{i:Nat}{a:α}{x:Int}(hx:x=i)(h:l[i]?=some a):getD (.tup (l.map f)) (.int x)=.ok (f a):=mG hx h
def iU{n i:Nat}{x:Int}(hx:x=i)(hi:i<n):getD (.lst ((List.range n).map f)) (.int x)=.ok (f i):=mG hx (by rw[List.getElem?_range hi])
noncomputable abbrev Rw:=Nat×Nat×List Nat
noncomputable abbrev Tk:=Nat×Nat×Nat×List Nat
def rwD(N:List Str)(r:Rw):D:=.tup [sy N r.1,sy N r.2.1,.tup (r.2.2.map (sy N))]
def tkD(N:List Str)(r:Tk):D:=.tup [sy N r.1,sy N r.2.1,sy N r.2.2.1,.tup (r.2.2.2.map (sy N))]
def dO(N:List Str)(r:Rw):(rwD N r).pure=true:=by
 show((sy N r.1).pure&&((sy N r.2.1).pure&&((D.tup (r.2.2.map (sy N))).pure&&true)))=true;rw[D.pure,bL];rfl
def uC(N:List Str)(r:Tk):(tkD N r).pure=true:=by
 show((sy N r.1).pure&&((sy N r.2.1).pure&&((sy N r.2.2.1).pure&&((D.tup (r.2.2.2.map (sy N))).pure&&true))))=true;rw[D.pure,bL];rfl
theorem bQ{f:α->D}(h:∀a,(f a).pure=true):∀l:List α,D.aJ (l.map f)=true
 |[]=>rfl
 |x::l=>by
  rw[List.map_cons,D.aJ,h,bQ h l];rfl
def CN(h1:a ρ=.ok (.lst xs))(h2:lo ρ=.ok l)(h3:hi ρ=.ok h)(hx:D.aJ xs=true):nC a lo hi ρ=.ok (.lst (cutD xs l h)):=by
 unfold nC;rw[h1,Res.aO,h2,Res.aO,h3,Res.aO];show(if D.aJ xs then Res.ok (D.lst (cutD xs l h)) else .bad)=_;rw[if_pos hx]
def lsD(N:List Str)(m:Nat)(l:Nat->Nat):List (D×D):=(List.range m).map λk=>(sy N k,.int (l k))
def aEq(h:f ρ=.ok (.int i)):b1 O_ f ρ=.ok (.int (-i)):=by
 unfold b1;rw[h];rfl
def xH(h:f ρ=.ok x)(h2:g x=.ok y):b1 g f ρ=.ok y:=by
 unfold b1;rw[h];exact h2
def aL7(h1:a ρ=.ok true)(h2:b ρ=r):aEb a b ρ=r:=by
 unfold aEb;rw[h1,Res.aO,if_pos rfl,h2]
def aL8(h1:a ρ=.ok false):aEb a b ρ=.ok (false,ρ):=by
 unfold aEb;rw[h1,Res.aO,if_neg 0x2]
structure Base(m:Nat)(q:Nat->List Nat)(l:Nat->Nat):Prop where
 l1:∀k,k<m->1<=l k/\l k<=4
 q1:∀k,k<m->∀j∈q k,j<m
 q2:∀k,k<m->(q k).length<=3
 le:∀k,k<m->1+((q k).map l).sum<=l k
def base0(m:Nat):Base m (λ_=>[]) (λ_=>1):=⟨λ_ _=>⟨by decide,by decide⟩,λ_ _ j hj=>by simp at hj,λ_ _=>by simp,λ_ _=>by simp⟩
def aO5(m p:Nat)(hp:p<m)(hm:m<=3):Base m (λk=>if k=m-1 then List.range p else []) (λk=>if k=m-1 then 1+p else 1):=by
 have:(m=1/\p=0)\/(m=2/\p=0)\/(m=2/\p=1)\/(m=3/\p=0)\/(m=3/\p=1)\/(m=3/\p=2):=by lia
 rcases this with ⟨rfl,rfl⟩|⟨rfl,rfl⟩|⟨rfl,rfl⟩|⟨rfl,rfl⟩|⟨rfl,rfl⟩|⟨rfl,rfl⟩<;>refine⟨?_,?_,?_,?_⟩<;>decide
abbrev ss(hD:D)(N:List Str)(cell:Int)(m:Nat)(M:List Rw)(l:Nat->Nat)(a b c d e f:D):List D:=[hD,.lst ((List.range 26).map (sy N)),.int cell,.int m,.lst ((List.range m).map (sy N)),.lst (M.map (rwD N)),.dct (lsD N m l),a,b,c,d,e,f]
noncomputable def mk0(m:Nat)(q:Nat->List Nat):List Rw:=(List.range m).map λk=>(3+k,k,q k)
def mkb:FS:=(bB (eV false 9 (bT aN 1 0 aQ)) (bB (bW false 7 (cJ 13 (jW (aB (b2 (aU .mod) (b2 (aU .fdiv) kJ h_) DG) aQ) iK) jT dH (b2 getD d7 (b2 (aU .mod) (b2 (aU .fdiv) kJ (b2 getD (gM (aB xP (aB (bC (.int 36)) (aB (bC (.int 108)) aQ)))) lA)) c7)) false) true) (zL 5 (fW (aB (b2 getD fD (b2 (aU .add) (b2 (aU .add) h_ c7) lY)) (aB (b2 getD d7 (b2 (aU .mod) kJ c7)) (aB (aV cX (aB jN aQ)) aQ)))))))
def tkb:FS:=(bB (eV false 9 (bT aN 1 0 aQ)) (bB (bW false 12 (cJ 13 (jW (aB (b2 (aU .mod) (b2 (aU .fdiv) kJ aMe) h_) aQ) iK) jT dH (b2 getD d7 (b2 (aU .mod) (b2 (aU .fdiv) kJ (b2 getD (gM (aB (bC (.int 27)) (aB (bC (.int 81)) aQ))) lA)) c7)) false) true) (zL 11 (fW (aB (b2 getD fD (b2 (aU .add) aFw lY)) (aB (b2 getD d7 (b2 (aU .mod) kJ c7)) (aB (b2 getD d7 (b2 (aU .mod) (b2 (aU .fdiv) kJ h_) c7)) (aB (aV cX (aB k_ aQ)) aQ))))))))
def sg0:FS:=(eV false 2 (bT aN 1 0 aQ))
def sg1:FS:=(bW false 3 (b2 (aU .add) cP (b2 (aU .mod) eY h_)) true)
def sg2:FS:=(bW true 4 (nC fD fX (eZ c7)) true)
def sg3:FS:=(bW true 5 (cJ 13 (jW (aB c7 aQ) iK) jT dH (fW (aB (b2 getD fD (b2 (aU .add) h_ lA)) (aB (b2 getD d7 lA) (aB (fW aQ) aQ)))) false) true)
def sg4:FS:=(bW true 6 (b1 wO (cJ 13 (bK d7 false) jT dH (fW (aB lA (aB cP aQ))) false)) true)
def sg5:FS:=(aGl (aEb (bTB (b2 (uN .gt) c7 cP)) (xTB (x2L (eX .eq) (x2L (aU .mod) (bT aN 1 0 aQ) h_) cP))) (bB (bW false 7 (aV cX (aB (nC d7 fX (eZ (b2 (aU .add) cP (b2 (aU .mod) (b2 (aU .fdiv) eY xP) (b2 (aU .sub) c7 cP))))) aQ)) false) (bB (K_ 5 (b1 O_ cP) (fW (aB (b2 getD fD (b2 (aU .add) iW c7)) (aB (b2 getD d7 (b1 O_ cP)) (aB jN aQ))))) (W8 6 (b2 getD d7 (b1 O_ cP)) (b2 (aU .add) cP (aV lC (aB jN aQ)))))) mF)
def sg6:FS:=(VD (jW (aB (b2 (aU .mod) (b2 (aU .fdiv) eY h_) DG) aQ) iK) (tg1 8) mkb)
def sg7:FS:=(bW false 10 (b2 (aU .mod) (b2 (aU .fdiv) eY xP) (aV lC (aB mC aQ))) true)
def sg8:FS:=(bW true 11 (gM aQ) true)
def sg9:FS:=(Y6 (aK6 (x2R (aU .add) cP (x2L (aU .mod) (bT aN 1 0 aQ) h_))) (tg1 8) tkb)
def aQ8:FS:=(G_ (aB (bOw 4) (aB (b2 (aU .add) (nC mC (eZ mL) fX) (nC mC fX (eZ mL))) (aB (bOw 11) (aB (bOw 6) aQ)))))
def aHi:sZ=bB sg0 (bB sg1 (bB sg2 (bB sg3 (bB sg4 (bB sg5 (bB sg6 (bB sg7 (bB sg8 (bB sg9 aQ8))))))))):=rfl
section
variable {cs:List Int} {N:List Str} (hN:N.length=26) (hd:N.Nodup)
def aA9(f:Nat->D)(n a:Nat)(h:a<=n):cutD ((List.range n).map f) none (some (a:Int))=(List.range a).map f:=by
 rw[aEp,<-List.map_take,List.take_range,Nat.min_eq_left h]
def aL9{m:Nat}(hm:m<=26)(a b c d e f g h i:D):sg2 [hD,.lst ((List.range 26).map (sy N)),.int cell,.int m,a,b,c,d,e,f,g,h,i]=.ok (.nx [hD,.lst ((List.range 26).map (sy N)),.int cell,.int m,.lst ((List.range m).map (sy N)),b,c,d,e,f,g,h,i]):=
 fK (i:=4) (d:=.lst ((List.range m).map (sy N))) (by rw[<-aA9 (sy N) 26 m hm];exact CN rfl rfl (oE rfl) (bL ..)) (bL ..)
def aLa{cell:Int}{m:Nat}(hm:m<=3)(b c d e f g h i:D):sg3 [hD,.lst ((List.range 26).map (sy N)),.int cell,.int m,.lst ((List.range m).map (sy N)),b,c,d,e,f,g,h,i]=.ok (.nx [hD,.lst ((List.range 26).map (sy N)),.int cell,.int m,.lst ((List.range m).map (sy N)),.lst ((mk0 m λ_=>[]).map (rwD N)),c,d,e,f,g,h,i]):=by
 refine fK (i:=5) (d:=.lst ((mk0 m λ_=>[]).map (rwD N))) ?_ (bQ (dO N) _);unfold mk0;rw[List.map_map];refine fH (n:=13) (λk:Nat=>D.int (0+(k:Int))) _ (List.range m) rfl (wH (n:=(m:Int)) (aD rfl rfl) 0x1 0x1) (by rw[List.length_range];lia) λk hk=>?_
 rw[List.mem_range] at hk;exact⟨fB (aD (aK rfl (aK rfl rfl (dW _ _)) (iU (i:=3+k) 0x1 0x1)) (aD (aK rfl rfl (iU (i:=k) 0x1 hk)) (aD (fB (xs:=[]) rfl (by rw[bF];simp)) rfl))) (by rw[bF];simp),rfl⟩
include hN hd in
theorem aDe(h1:1<=m)(h3:m<=3):wO (.lst ((List.range m).map λk=>.tup [sy N k,.int 1]))=.ok (.dct (lsD N m λ_=>1)):=by
 have e:∀i j,i<3->j<3->¬i=j->eqD (sy N i) (sy N j)=false:=λi j hi hj g=>by rw[xG hN hd 0x1 0x1];exact decide_eq_false g
 have e01:=e 0 1 0x4 0x4 0x4;have e02:=e 0 2 0x4 0x4 0x4;have e12:=e 1 2 0x4 0x4 0x4;have:m=1\/m=2\/m=3:=by lia
 rcases this with g|g|g<;>subst g
 ·rfl
 ·show Res.ok (D.dct (putD (putD [] (sy N 0) (.int 1)) (sy N 1) (.int 1)))=_;simp only[putD,e01,Bool.false_eq_true,if_false];rfl
 ·show Res.ok (D.dct (putD (putD (putD [] (sy N 0) (.int 1)) (sy N 1) (.int 1)) (sy N 2) (.int 1)))=_;simp only[putD,e01,e02,e12,Bool.false_eq_true,if_false];rfl
def aHj(m:Nat)(l:Nat->Nat):inner (.dct (lsD N m l))=true:=by
 show D.aJ ((lsD N m l).map (·.2))=true;unfold lsD;rw[List.map_map];exact bQ (λ_=>rfl) _
include hN hd in
theorem aLb{m:Nat}(h1:1<=m)(hm:m<=3)(c d e f g h i:D):sg4 [hD,.lst ((List.range 26).map (sy N)),.int cell,.int m,.lst ((List.range m).map (sy N)),M,c,d,e,f,g,h,i]=.ok (.nx [hD,.lst ((List.range 26).map (sy N)),.int cell,.int m,.lst ((List.range m).map (sy N)),M,.dct (lsD N m λ_=>1),d,e,f,g,h,i]):=by
 refine fK (i:=6) (d:=.dct (lsD N m λ_=>1)) (xH ?_ (aDe hN hd h1 hm)) (aHj m _);exact fH (n:=13) (sy N) (λk=>.tup [sy N k,.int 1]) (List.range m) rfl (kI rfl) (by rw[List.length_range];lia) λk hk=>⟨fB (aD rfl (aD rfl rfl)) (by rw[bF];simp),rfl⟩
include hN hd in
theorem aLc(hn:n<=1000)(h1:1<=m)(hm:m<=3):∃(q:Nat->List Nat)(l:Nat->Nat)(n':Nat)(x:D),Base m q l/\n'<=n+1/\∀b,sg5 (ss (.cel b (dk cs n)) N cell m (mk0 m λ_=>[]) (λ_=>1) .uD .uD .uD .uD .uD .uD)=.ok (.nx (ss (.cel b (dk cs n')) N cell m (mk0 m q) l x .uD .uD .uD .uD .uD)):=by
 by_cases h2:1<m
 ·obtain⟨v,qv⟩:=iT cs n 0x1;have hx:∀b,(aEb (bTB (b2 (uN .gt) c7 cP)) (xTB (x2L (eX .eq) (x2L (aU .mod) (bT aN 1 0 aQ) h_) cP))) (ss (.cel b (dk cs n)) N cell m (mk0 m λ_=>[]) (λ_=>1) .uD .uD .uD .uD .uD .uD)=.ok (v % 3==1,ss (.cel b (dk cs (n+1))) N cell m (mk0 m λ_=>[]) (λ_=>1) .uD .uD .uD .uD .uD .uD):=λb=>
   aL7 (e_ (aK (x:=.int m) rfl rfl ((cmp_gt _ _).trans (by rw[decide_eq_true 0x1])))) (aEk (uQ (uQ (uY qv rfl rfl) rfl rfl (b_ _ _ 0x4) rfl) rfl rfl (m8 _ _) rfl))
  by_cases h3:v % 3=1
  ·let p:Nat:=(1+cell / 12 % ((m:Int)-1)).toNat
   have p0:0<=cell / 12 % ((m:Int)-1):=Int.emod_nonneg _ 0x1;have p1:cell / 12 % ((m:Int)-1)<(m:Int)-1:=Int.emod_lt_of_pos _ 0x1;have hp:(p:Int)=1+cell / 12 % ((m:Int)-1):=by
    show(((1+cell / 12 % ((m:Int)-1)).toNat:Nat):Int)=_;lia
   refine⟨_,_,n+1,.tup ((List.range p).map (sy N)),aO5 m p 0x1 hm,Nat.le_refl _,λb=>Q_ (hx b) ?_⟩;rw[show(v % 3==1)=true from by rw[h3];rfl,if_pos rfl];refine aM (ρ':=ss (.cel b (dk cs (n+1))) N cell m (mk0 m λ_=>[]) (λ_=>1) (.tup ((List.range p).map (sy N))) .uD .uD .uD .uD .uD) (jK (i:=7) (d:=.tup ((List.range p).map (sy N))) (bO (aD (x:=.lst ((List.range p).map (sy N))) ?_ rfl) rfl) (bL ..)) ?_
   ·rw[<-aA9 (sy N) m p 0x1,hp];exact CN rfl rfl (oE (aK rfl (aK (aK (x:=.int cell) rfl rfl (dM _ _ 0x4 0x4)) (aK (x:=.int m) rfl rfl (GZ _ _)) (b_ _ _ 0x1)) (dW _ _))) (bL ..)
   have gk:∀(ρ:List D),cO 4 ρ=.ok (.lst ((List.range m).map (sy N)))->b2 getD d7 (b1 O_ cP) ρ=.ok (sy N (m-1)):=λρ hρ=>aK hρ (aEq rfl) (by
    show Res.ofOpt ((ixD ((List.range m).map (sy N)).length (-1:Int)).bind λj=>((List.range m).map (sy N))[j]?)=_;unfold ixD;rw[if_neg 0x4,List.length_map,List.length_range,if_pos 0x1,show(((-1:Int)+(m:Int)).toNat)=m-1 from by lia];simp only[Option.bind_some];rw[List.getElem?_map,List.getElem?_range 0x1];rfl)
   have hrow:∀ρ:List D,cO 1 ρ=.ok (.lst ((List.range 26).map (sy N)))->cO 3 ρ=.ok (.int m)->cO 4 ρ=.ok (.lst ((List.range m).map (sy N)))->cO 7 ρ=.ok (.tup ((List.range p).map (sy N)))->fW (aB (b2 getD fD (b2 (aU .add) iW c7)) (aB (b2 getD d7 (b1 O_ cP)) (aB jN aQ))) ρ=.ok (rwD N (2+m,m-1,List.range p)):=λρ g1 g3 g4 g7=>fB (aD (aK g1 (aK rfl g3 (dW _ _)) (iU (i:=2+m) 0x1 0x1)) (aD (gk _ g4) (aD g7 rfl))) (by rw[bF];simp)
   refine aM (ρ':=ss (.cel b (dk cs (n+1))) N cell m (mk0 m λk=>if k=m-1 then List.range p else []) (λ_=>1) (.tup ((List.range p).map (sy N))) .uD .uD .uD .uD .uD) (aA0 (i:=5) (j:=m-1) (k:=-1) (xs:=(mk0 m λ_=>[]).map (rwD N)) (d:=rwD N (2+m,m-1,List.range p)) (hrow _ rfl rfl rfl rfl) (aEq rfl) rfl (dO ..) ?_ ?_) ?_
   ·unfold ixD mk0;rw[if_neg 0x4,List.length_map,List.length_map,List.length_range,if_pos 0x1]
    congr 1
    lia
   ·have:m=2\/m=3:=by lia
    rcases this with g|g<;>subst g<;>rfl
   refine(QR (f:=b2 getD d7 (b1 O_ cP)) (g:=b2 (aU .add) cP (aV lC (aB jN aQ))) (ρ:=ss (.cel b (dk cs (n+1))) N cell m (mk0 m λk=>if k=m-1 then List.range p else []) (λ_=>1) (.tup ((List.range p).map (sy N))) .uD .uD .uD .uD .uD) (i:=6) (kvs:=lsD N m λ_=>1) (k:=sy N (m-1)) (d:=.int ((1+p:Nat):Int)) (aK (x:=.int 1) (y:=.int p) rfl (bO (aD rfl rfl) ?_) ?_) (gk _ rfl) rfl ?_ ?_ rfl).trans ?_
   ·show Res.ok (D.int (((List.range p).map (sy N)).length:Int))=_;rw[List.length_map,List.length_range]
   ·rw[dW]
    congr 2
   ·unfold lsD;rw[List.length_map,List.length_range,bF];lia
   ·show(true&&(lsD N m λ_=>1).all λp=>isTup p.1==false)=true;rw[Bool.true_and,List.all_eq_true];intro y hy;unfold lsD at hy;obtain⟨k,_,rfl⟩:=List.mem_map.mp hy;rfl
   ·have e:∀i j,i<3->j<3->eqD (sy N i) (sy N j)=decide (i=j):=λi j hi hj=>xG hN hd 0x1 0x1
    have e01:=e 0 1 0x4 0x4;have e02:=e 0 2 0x4 0x4;have e12:=e 1 2 0x4 0x4;have e11:=e 1 1 0x4 0x4;have e22:=e 2 2 0x4 0x4;have:m=2\/m=3:=by lia
    rcases this with g|g<;>subst g
    ·have:putD (lsD N 2 λ_=>1) (sy N 1) (.int ((1+p:Nat):Int))=lsD N 2 λk=>if k=2-1 then 1+p else 1:=by
      show putD [(sy N 0,.int 1),(sy N 1,.int 1)] (sy N 1) _=_;simp only[putD,e01,e11];rfl
     rw[this];rfl
    ·have:putD (lsD N 3 λ_=>1) (sy N 2) (.int ((1+p:Nat):Int))=lsD N 3 λk=>if k=3-1 then 1+p else 1:=by
      show putD [(sy N 0,.int 1),(sy N 1,.int 1),(sy N 2,.int 1)] (sy N 2) _=_;simp only[putD,e02,e12,e22];rfl
     rw[this];rfl
  ·refine⟨_,_,n+1,.uD,base0 m,Nat.le_refl _,λb=>Q_ (hx b) ?_⟩;rw[show(v % 3==1)=false from beq_eq_false_iff_ne.mpr h3,if_neg 0x2];rfl
 ·refine⟨_,_,n,.uD,base0 m,Nat.le_succ _,λb=>Q_ (k:=false) (aL8 (e_ (aK (x:=.int m) rfl rfl ((cmp_gt _ _).trans (by rw[decide_eq_false 0x1]))))) ?_⟩;rw[if_neg 0x2];rfl
end
def Gr(m:Nat)(r:Rw):Prop:=r.2.1<m/\(∀i∈r.2.2,i<m)/\r.2.2.length<=3
def Gt(m:Nat)(t:Tk):Prop:=t.2.1<m/\t.2.2.1<m/\(∀i∈t.2.2.2,i<m)/\t.2.2.2.length<=2
noncomputable def w3:Nat->Int
 |0=>12
 |1=>36
 |_=>108
noncomputable def w2:Nat->Int
 |0=>27
 |_=>81
def aLd{j:Nat}(h:j<3):getD (.lst [.int 12,.int 36,.int 108]) (.int (0+(j:Int)))=.ok (.int (w3 j)):=by
 have:j=0\/j=1\/j=2:=by lia
 rcases this with e|e|e<;>subst e<;>rfl
def aEr(j:Nat):0<w3 j/\w3 j<1073741824:=by
 unfold w3;split<;>decide
def aLe{j:Nat}(h:j<2):getD (.lst [.int 27,.int 81]) (.int (0+(j:Int)))=.ok (.int (w2 j)):=by
 have:j=0\/j=1:=by lia
 rcases this with e|e<;>subst e<;>rfl
def aEs(j:Nat):0<w2 j/\w2 j<1073741824:=by
 unfold w2;split<;>decide
section
variable {cs:List Int} {N:List Str}
def kix(h1:1<=m)(v:Int):∃i:Nat,i<m/\v % (m:Int)=i:=by
 have a:0<=v % (m:Int):=Int.emod_nonneg _ 0x1;have b:v % (m:Int)<m:=Int.emod_lt_of_pos _ 0x1;exact⟨(v % (m:Int)).toNat,by lia,by lia⟩
def aLf(hn:n<=1000)(h1:1<=m)(hm:m<=3)(hj:j<3)(hM:M.length<100)(x o d e f:D) :
  ∃(r:Rw)(x' o':D),Gr m r/\r.1=3+m+j/\∀b,mkb (ss (.cel b (dk cs n)) N cell m M l x (.int (0+(j:Int))) o d e f)=.ok (.nx (ss (.cel b (dk cs (n+1))) N cell m (M++[r]) l x' (.int (0+(j:Int))) o' d e f)):=by
 obtain⟨v,qv⟩:=iT cs n 0x1;obtain⟨k,k1,k2⟩:=kix h1 v
 let ix:Nat->Nat:=λj=>((v / w3 j) % (m:Int)).toNat
 have ixm:∀j,ix j<m/\(v / w3 j) % (m:Int)=ix j:=λj=>by
  obtain⟨i,i1,i2⟩:=kix h1 (v / w3 j);have:ix j=i:=by show((v / w3 j) % (m:Int)).toNat=i;lia
  exact⟨by lia,by lia⟩
 let c:Nat:=(v / 3 % 4).toNat
 have hc:(c:Int)=v / 3 % 4:=by show(((v / 3 % 4).toNat:Nat):Int)=_;lia
 have c4:c<=3:=by lia
 let B:List Nat:=(List.range c).map ix
 have lB:B.length<=3:=by show((List.range c).map ix).length<=3;rw[List.length_map,List.length_range];exact c4
 have mB:∀i∈B,i<m:=λi hi=>by obtain⟨a,_,rfl⟩:=List.mem_map.mp hi;exact(ixm a).1
 refine⟨(3+m+j,k,B),.lst (B.map (sy N)),.int v,⟨k1,mB,lB⟩,rfl,λb=>?_⟩;refine aM (ρ':=ss (.cel b (dk cs (n+1))) N cell m M l x (.int (0+(j:Int))) (.int v) d e f) (gH (i:=9) (uY qv rfl rfl) rfl) ?_;refine aM (ρ':=ss (.cel b (dk cs (n+1))) N cell m M l (.lst (B.map (sy N))) (.int (0+(j:Int))) (.int v) d e f) (cZ (i:=7) ?_) ?_
 ·show _=Res.ok (D.lst (((List.range c).map ix).map (sy N)));rw[List.map_map];refine fH (n:=13) (λk:Nat=>D.int (0+(k:Int))) (λj=>sy N (ix j)) (List.range c) rfl (wH (n:=(c:Int)) (aD (aK (aK (x:=.int v) rfl rfl (dM _ _ 0x4 0x4)) rfl ((b_ _ _ 0x4).trans (by rw[hc]))) rfl) 0x1 0x1) (by rw[List.length_range];lia) λa ha=>?_
  rw[List.mem_range] at ha;exact⟨aK (x:=.lst ((List.range m).map (sy N))) rfl (aK (aK (x:=.int v) rfl (aK rfl rfl (aLd 0x1)) (dM _ _ (aEr a).1 (aEr a).2)) (y:=.int m) rfl (b_ _ _ 0x1)) (iU (ixm a).2 (ixm a).1),rfl⟩
 have hrow:∀ρ:List D,cO 1 ρ=.ok (.lst ((List.range 26).map (sy N)))->cO 3 ρ=.ok (.int m)->cO 4 ρ=.ok (.lst ((List.range m).map (sy N)))->cO 7 ρ=.ok (.lst (B.map (sy N)))->cO 8 ρ=.ok (.int (0+(j:Int)))->cO 9 ρ=.ok (.int v)->fW (aB (b2 getD fD (b2 (aU .add) (b2 (aU .add) h_ c7) lY)) (aB (b2 getD d7 (b2 (aU .mod) kJ c7)) (aB (aV cX (aB jN aQ)) aQ))) ρ=.ok (rwD N (3+m+j,k,B)):=λρ g1 g3 g4 g7 g8 g9=>fB (aD (aK g1 (aK (aK rfl g3 (dW _ _)) g8 (dW _ _)) (iU (i:=3+m+j) 0x1 0x1)) (aD (aK g4 (aK g9 g3 (b_ _ _ 0x1)) (iU k2 k1)) (aD (bO (aD g7 rfl) rfl) rfl))) (by rw[bF];simp)
 have ha:=uO (i:=5) (ρ:=ss (.cel b (dk cs (n+1))) N cell m M l (.lst (B.map (sy N))) (.int (0+(j:Int))) (.int v) d e f) (xs:=M.map (rwD N)) (hrow _ rfl rfl rfl rfl rfl rfl) rfl (by rw[List.length_map,bF];lia) (dO ..);refine ha.trans ?_;unfold ss;rw[List.map_append];rfl
theorem aAa(h1:1<=m)(hm:m<=3):∀(c j n:Nat)(M:List Rw)(x k o d e f:D),n+c<=1000->j+c<=3->M.length+c<100->
  ∃(E:List Rw)(x' k' o':D),(∀r∈E,Gr m r)/\E.map (·.1)=(List.range' (3+m+j) c)/\∀b,vA (tg1 8) mkb ((List.range' j c).map λ(k:Nat)=>D.int (0+(k:Int))) (ss (.cel b (dk cs n)) N cell m M l x k o d e f)=.ok (.nx (ss (.cel b (dk cs (n+c))) N cell m (M++E) l x' k' o' d e f))
 |0,j,n,M,x,k,o,d,e,f,_,_,_=>⟨[],x,k,o,λ_ h=>by simp at h,rfl,λb=>by rw[List.append_nil];rfl⟩
 |c+1,j,n,M,x,k,o,d,e,f,g1,g2,g3=>by
  obtain⟨r,x1,o1,r1,r2,r3⟩:=aLf (cs:=cs) (N:=N) (cell:=cell) (m:=m) (n:=n) (j:=j) (M:=M) (l:=l) 0x1 h1 hm 0x1 0x1 x o d e f;obtain⟨E,x2,k2,o2,e1,e2,e3⟩:=aAa h1 hm c (j+1) (n+1) (M++[r]) x1 (.int (0+(j:Int))) o1 d e f 0x1 0x1 (by rw[List.length_append,List.length_singleton];lia);refine⟨r::E,x2,k2,o2,λy hy=>?_,?_,λb=>?_⟩
  ·rcases List.mem_cons.mp hy with h|h
   ·exact h▸r1
   ·exact e1 y h
  ·rw[List.map_cons,List.range'_succ,r2,e2];rfl
  ·rw[List.range'_succ,List.map_cons];refine dB (ρ1:=ss (.cel b (dk cs n)) N cell m M l x (.int (0+(j:Int))) o d e f) rfl (r3 b) ?_;rw[e3 b,List.append_assoc,show n+1+c=n+(c+1) from by lia];rfl
def aLg(hn:n<=1000)(h1:1<=m)(hm:m<=3)(hj:j<3)(hT:T.length<100)(x o d f:D) :
  ∃(r:Tk)(o' f':D),Gt m r/\r.1=10+j/\∀b,tkb (ss (.cel b (dk cs n)) N cell m M l x (.int (0+(j:Int))) o d (.lst (T.map (tkD N))) f)=.ok (.nx (ss (.cel b (dk cs (n+1))) N cell m M l x (.int (0+(j:Int))) o' d (.lst ((T++[r]).map (tkD N))) f')):=by
 obtain⟨v,qv⟩:=iT cs n 0x1;obtain⟨k,k1,k2⟩:=kix h1 v;obtain⟨p,p1,p2⟩:=kix h1 (v / 3)
 let ix:Nat->Nat:=λj=>((v / w2 j) % (m:Int)).toNat
 have ixm:∀j,ix j<m/\(v / w2 j) % (m:Int)=ix j:=λj=>by
  obtain⟨i,i1,i2⟩:=kix h1 (v / w2 j);have:ix j=i:=by show((v / w2 j) % (m:Int)).toNat=i;lia
  exact⟨by lia,by lia⟩
 let c:Nat:=(v / 9 % 3).toNat
 have hc:(c:Int)=v / 9 % 3:=by show(((v / 9 % 3).toNat:Nat):Int)=_;lia
 have c4:c<=2:=by lia
 let B:List Nat:=(List.range c).map ix
 have lB:B.length<=2:=by show((List.range c).map ix).length<=2;rw[List.length_map,List.length_range];exact c4
 have mB:∀i∈B,i<m:=λi hi=>by obtain⟨a,_,rfl⟩:=List.mem_map.mp hi;exact(ixm a).1
 refine⟨(10+j,k,p,B),.int v,.lst (B.map (sy N)),⟨k1,p1,mB,lB⟩,rfl,λb=>?_⟩;refine aM (ρ':=ss (.cel b (dk cs (n+1))) N cell m M l x (.int (0+(j:Int))) (.int v) d (.lst (T.map (tkD N))) f) (gH (i:=9) (uY qv rfl rfl) rfl) ?_;refine aM (ρ':=ss (.cel b (dk cs (n+1))) N cell m M l x (.int (0+(j:Int))) (.int v) d (.lst (T.map (tkD N))) (.lst (B.map (sy N)))) (cZ (i:=12) ?_) ?_
 ·show _=Res.ok (D.lst (((List.range c).map ix).map (sy N)));rw[List.map_map];refine fH (n:=13) (λk:Nat=>D.int (0+(k:Int))) (λj=>sy N (ix j)) (List.range c) rfl (wH (n:=(c:Int)) (aD (aK (aK (x:=.int v) rfl rfl (dM _ _ 0x4 0x4)) rfl ((b_ _ _ 0x4).trans (by rw[hc]))) rfl) 0x1 0x1) (by rw[List.length_range];lia) λa ha=>?_
  rw[List.mem_range] at ha;exact⟨aK (x:=.lst ((List.range m).map (sy N))) rfl (aK (aK (x:=.int v) rfl (aK rfl rfl (aLe 0x1)) (dM _ _ (aEs a).1 (aEs a).2)) (y:=.int m) rfl (b_ _ _ 0x1)) (iU (ixm a).2 (ixm a).1),rfl⟩
 have hrow:∀ρ:List D,cO 1 ρ=.ok (.lst ((List.range 26).map (sy N)))->cO 3 ρ=.ok (.int m)->cO 4 ρ=.ok (.lst ((List.range m).map (sy N)))->cO 12 ρ=.ok (.lst (B.map (sy N)))->cO 8 ρ=.ok (.int (0+(j:Int)))->cO 9 ρ=.ok (.int v)->fW (aB (b2 getD fD (b2 (aU .add) aFw lY)) (aB (b2 getD d7 (b2 (aU .mod) kJ c7)) (aB (b2 getD d7 (b2 (aU .mod) (b2 (aU .fdiv) kJ h_) c7)) (aB (aV cX (aB k_ aQ)) aQ)))) ρ=.ok (tkD N (10+j,k,p,B)):=λρ g1 g3 g4 g7 g8 g9=>fB (aD (aK g1 (aK rfl g8 (dW _ _)) (iU (i:=10+j) 0x1 0x1)) (aD (aK g4 (aK g9 g3 (b_ _ _ 0x1)) (iU k2 k1)) (aD (aK g4 (aK (aK g9 rfl (dM _ _ 0x4 0x4)) g3 (b_ _ _ 0x1)) (iU p2 p1)) (aD (bO (aD g7 rfl) rfl) rfl)))) (by rw[bF];simp)
 have ha:=uO (i:=11) (ρ:=ss (.cel b (dk cs (n+1))) N cell m M l x (.int (0+(j:Int))) (.int v) d (.lst (T.map (tkD N))) (.lst (B.map (sy N)))) (xs:=T.map (tkD N)) (hrow _ rfl rfl rfl rfl rfl rfl) rfl (by rw[List.length_map,bF];lia) (uC ..);refine ha.trans ?_;unfold ss;rw[List.map_append];rfl
theorem aAb(h1:1<=m)(hm:m<=3):∀(c j n:Nat)(T:List Tk)(x k o d f:D),n+c<=1000->j+c<=3->T.length+c<100->
  ∃(E:List Tk)(k' o' f':D),(∀r∈E,Gt m r)/\E.map (·.1)=(List.range' (10+j) c)/\∀b,vA (tg1 8) tkb ((List.range' j c).map λ(k:Nat)=>D.int (0+(k:Int))) (ss (.cel b (dk cs n)) N cell m M l x k o d (.lst (T.map (tkD N))) f)=.ok (.nx (ss (.cel b (dk cs (n+c))) N cell m M l x k' o' d (.lst ((T++E).map (tkD N))) f'))
 |0,j,n,T,x,k,o,d,f,_,_,_=>⟨[],k,o,f,λ_ h=>by simp at h,rfl,λb=>by rw[List.append_nil];rfl⟩
 |c+1,j,n,T,x,k,o,d,f,g1,g2,g3=>by
  obtain⟨r,o1,f1,r1,r2,r3⟩:=aLg (cell:=cell) (m:=m) (n:=n) (j:=j) (M:=M) (l:=l) (T:=T) 0x1 h1 hm 0x1 0x1 x o d f;obtain⟨E,k2,o2,f2,e1,e2,e3⟩:=aAb (M:=M) h1 hm c (j+1) (n+1) (T++[r]) x (.int (0+(j:Int))) o1 d f1 0x1 0x1 (by rw[List.length_append,List.length_singleton];lia);refine⟨r::E,k2,o2,f2,λy hy=>?_,?_,λb=>?_⟩
  ·rcases List.mem_cons.mp hy with h|h
   ·exact h▸r1
   ·exact e1 y h
  ·rw[List.map_cons,List.range'_succ,r2,e2];rfl
  ·rw[List.range'_succ,List.map_cons];refine dB (ρ1:=ss (.cel b (dk cs n)) N cell m M l x (.int (0+(j:Int))) o d (.lst (T.map (tkD N))) f) rfl (r3 b) ?_;rw[e3 b,List.append_assoc,show n+1+c=n+(c+1) from by lia];rfl
end
structure Sig(m:Nat)(M:List Rw)(T:List Tk)(l:Nat->Nat):Prop where
 m1:1<=m
 m3:m<=3
 mg:∀r∈M,Gr m r
 tg:∀t∈T,Gt m t
 mn:(M.map (·.1)).Nodup
 mi:∀r∈M,3<=r.1/\r.1<10
 tn:(T.map (·.1)).Nodup
 ti:∀t∈T,10<=t.1/\t.1<13
 tl:T.length<=3
 ml:M.length<=6
 lb:∀k,k<m->1<=l k/\l k<=4
 ba:∀k,k<m->∃r∈M,r.1=3+k/\r.2.1=k/\1+(r.2.2.map l).sum<=l k
 t1:1<=T.length
def aHk(h:f ρ=.ok (.int n,ρ'))(h1:0<=n)(h2:n<=1000000):aK6 f ρ=.ok ((List.range n.toNat).map λ(k:Nat)=>D.int (0+(k:Int)),ρ'):=by
 unfold aK6;rw[h,Res.aO];have:nR n=true:=by
  simp only[nR,Bool.and_eq_true,decide_eq_true_eq];lia
 simp only[iK,this,if_true];rfl
def aHl(h1:it ρ=.ok (xs,ρ'))(h2:vA t body xs ρ'=r):Y6 it t body ρ=r:=by
 unfold Y6;rw[h1,Res.aO];exact h2
def aHm(h:cO i ρ=.ok d)(h2:d.PK=true):bOw i ρ=.ok d:=by
 unfold bOw;rw[h,Res.aO,if_pos h2]
def aDf(h:f ρ=.ok ds)(hl:ds.length<=100):G_ f ρ=.ok (.rt (.tup (.lst ds::ρ))):=by
 unfold G_;rw[h,Res.aO,if_pos (by rw[bF];exact decide_eq_true 0x1)]
section
variable {N:List Str} (hN:N.length=26) (hd:N.Nodup)
include hN hd
theorem aLh(cs:List Int)(n:Nat)(hn:n<=900):∃(m:Nat)(M:List Rw)(T:List Tk)(l:Nat->Nat)(n':Nat),Sig m M T l/\n'<=n+9/\∀b,jB [.cel b (dk cs n),.lst ((List.range 26).map (sy N))]=.ok (.tup [.lst [.lst ((List.range m).map (sy N)),.lst (M.map (rwD N)),.lst (T.map (tkD N)),.dct (lsD N m l)],.cel b (dk cs n')]):=by
 obtain⟨cell,q1⟩:=iT cs n 0x1
 let m:Nat:=(1+cell % 3).toNat
 have hm:(m:Int)=1+cell % 3:=by show(((1+cell % 3).toNat:Nat):Int)=_;lia
 have m1:1<=m:=by lia
 have m3:m<=3:=by lia
 obtain⟨q,l,n1,x1,B,hn1,s5⟩:=aLc (cs:=cs) hN hd (cell:=cell) (m:=m) (n:=n+1) 0x1 m1 m3
 let c:Nat:=(cell / 3 % 4).toNat
 have hc:(c:Int)=cell / 3 % 4:=by show(((cell / 3 % 4).toNat:Nat):Int)=_;lia
 have lm:(mk0 m q).length=m:=by unfold mk0;rw[List.length_map,List.length_range]
 obtain⟨E,x2,k2,o2,E1,E2,s6⟩:=aAa (cs:=cs) (N:=N) (cell:=cell) (m:=m) (l:=l) m1 m3 c 0 n1 (mk0 m q) x1 .uD .uD .uD .uD .uD 0x1 0x1 0x1;have lE:E.length=c:=by
  have:=congrArg List.length E2;rw[List.length_map,List.length_range'] at this;exact this
 generalize hM0:mk0 m q++E=M0 at s6;have lM:M0.length=m+c:=by rw[<-hM0,List.length_append,lm,lE]
 obtain⟨a,a1,a2⟩:=kix (m:=M0.length) 0x1 (cell / 12);obtain⟨v,qv⟩:=iT cs (n1+c) 0x1
 let t:Nat:=(1+v % 3).toNat
 have ht:(t:Int)=1+v % 3:=by show(((1+v % 3).toNat:Nat):Int)=_;lia
 obtain⟨T,k3,o3,f3,T1,T2,s9⟩:=aAb (cs:=cs) (N:=N) (cell:=cell) (m:=m) (l:=l) (M:=M0) m1 m3 t 0 (n1+c+1) [] x2 k2 o2 (.int a) .uD 0x1 0x1 (by simp;lia);rw[List.nil_append] at s9;have lT:T.length=t:=by
  have:=congrArg List.length T2;rw[List.length_map,List.length_range'] at this;exact this
 have pm:(M0.drop a++M0.take a).Perm M0:=by
  have:=List.perm_append_comm (l₁:=M0.drop a) (l₂:=M0.take a);rwa [List.take_append_drop] at this
 have mem0:∀r,r∈M0->(∃k,k<m/\r=(3+k,k,q k))\/r∈E:=λr hr=>by
  rw[<-hM0,List.mem_append] at hr;rcases hr with h|h
  ·unfold mk0 at h;obtain⟨k,hk,rfl⟩:=List.mem_map.mp h;exact .inl ⟨k,List.mem_range.mp hk,rfl⟩
  ·exact .inr h
 have hE:∀r∈E,3+m<=r.1/\r.1<3+m+c:=λr hr=>by
  have:=List.mem_map_of_mem (f:=(·.1)) hr;rw[E2,List.mem_range'_1] at this;exact this
 have nm:M0.map (·.1)=List.range' 3 (m+c):=by
  rw[<-hM0,List.map_append,E2];unfold mk0;rw[List.map_map,Nat.add_zero,List.range'_append_1.symm]
  congr 1
  rw[List.range'_eq_map_range];rfl
 refine⟨m,M0.drop a++M0.take a,T,l,n1+c+1+t,⟨m1,m3,λr hr=>?_,T1,?_,λr hr=>?_,?_,λr hr=>?_,by lia,?_,B.l1,λk hk=>?_,by lia⟩,by lia,λb=>?_⟩
 ·rcases mem0 r (pm.mem_iff.mp hr) with ⟨k,hk,rfl⟩|h
  ·exact⟨hk,B.q1 k hk,B.q2 k hk⟩
  ·exact E1 r h
 ·rw[(pm.map _).nodup_iff,nm];exact List.nodup_range'
 ·rcases mem0 r (pm.mem_iff.mp hr) with ⟨k,hk,rfl⟩|h
  ·exact⟨by show 3<=3+k;lia,by show 3+k<10;lia⟩
  ·have:=hE r h;lia
 ·rw[T2];exact List.nodup_range'
 ·have:=List.mem_map_of_mem (f:=(·.1)) hr;rw[T2,List.mem_range'_1] at this;lia
 ·rw[pm.length_eq];lia
 ·refine⟨(3+k,k,q k),pm.mem_iff.mpr ?_,rfl,rfl,B.le k hk⟩;rw[<-hM0,List.mem_append]
  left
  unfold mk0;exact List.mem_map.mpr ⟨k,List.mem_range.mpr hk,rfl⟩
 ·refine uR (k:=1) (ρ:=ss (.cel b (dk cs (n1+c+1+t))) N cell m M0 l x2 k3 o3 (.int a) (.lst (T.map (tkD N))) f3) ?_;show sZ [.cel b (dk cs n),.lst ((List.range 26).map (sy N)),.uD,.uD,.uD,.uD,.uD,.uD,.uD,.uD,.uD,.uD,.uD]=_;rw[aHi];refine aM (ρ':=[.cel b (dk cs (n+1)),.lst ((List.range 26).map (sy N)),.int cell,.uD,.uD,.uD,.uD,.uD,.uD,.uD,.uD,.uD,.uD]) (gH (i:=2) (uY q1 rfl rfl) rfl) ?_;refine aM (ρ':=[.cel b (dk cs (n+1)),.lst ((List.range 26).map (sy N)),.int cell,.int m,.uD,.uD,.uD,.uD,.uD,.uD,.uD,.uD,.uD]) (cZ (i:=3) (aK (x:=.int 1) rfl (aK (x:=.int cell) rfl rfl (b_ _ _ 0x4)) (by rw[dW,hm]))) ?_;refine aM (aL9 0x1 ..) (aM (aLa m3 ..) (aM (aLb hN hd m1 m3 ..) (aM (s5 b) ?_)));refine aM (yJ (wH (n:=(c:Int)) (aD (aK (aK (x:=.int cell) rfl rfl (dM _ _ 0x4 0x4)) rfl ((b_ _ _ 0x4).trans (by rw[hc]))) rfl) 0x1 0x1) (by rw[Int.toNat_natCast,List.range_eq_range'];exact s6 b)) ?_;refine aM (ρ':=ss (.cel b (dk cs (n1+c))) N cell m M0 l x2 k2 o2 (.int a) .uD .uD) (cZ (i:=10) (aK (aK (x:=.int cell) rfl rfl (dM _ _ 0x4 0x4)) (y:=.int M0.length) (bO (aD rfl rfl) ?_) ((b_ _ _ 0x1).trans (by rw[a2])))) ?_
  ·show Res.ok (D.int ((M0.map (rwD N)).length:Int))=_;rw[List.length_map]
  refine aM (ρ':=ss (.cel b (dk cs (n1+c))) N cell m M0 l x2 k2 o2 (.int a) (.lst []) .uD) (fK (i:=11) rfl rfl) ?_;refine aM (aHl (aHk (n:=(t:Int)) (ρ':=ss (.cel b (dk cs (n1+c+1))) N cell m M0 l x2 k2 o2 (.int a) (.lst []) .uD) (aA1 rfl (uQ (uY qv rfl rfl) rfl rfl (b_ _ _ 0x4) rfl) ((dW _ _).trans (by rw[ht])) rfl) 0x1 0x1) (by rw[Int.toNat_natCast,List.range_eq_range'];exact s9 b)) ?_;refine aDf (aD (aHm rfl rfl) (aD ?_ (aD (aHm rfl rfl) (aD (aHm rfl rfl) rfl)))) 0x2;rw[List.map_append];refine aK (x:=.lst ((M0.drop a).map (rwD N))) (y:=.lst ((M0.take a).map (rwD N))) ?_ ?_ (K8 _ _ ?_ (bQ (dO N) _) (bQ (dO N) _))
  ·rw[List.map_drop,<-aDd];exact CN rfl (oE rfl) rfl (bQ (dO N) _)
  ·rw[List.map_take,<-aEp];exact CN rfl rfl (oE rfl) (bQ (dO N) _)
  ·rw[List.length_map,List.length_map,List.length_drop,List.length_take,bF];lia
theorem aLi(cs:List Int)(n:Nat)(hn:n<=900):∃(m:Nat)(M:List Rw)(T:List Tk)(l:Nat->Nat)(n':Nat),Sig m M T l/\n'<=n+9/\ch1 jB (dk cs n) [.lst ((List.range 26).map (sy N))]=.ok (.lst [.lst ((List.range m).map (sy N)),.lst (M.map (rwD N)),.lst (T.map (tkD N)),.dct (lsD N m l)],dk cs n'):=by
 obtain⟨m,M,T,l,n',h1,h2,h3⟩:=aLh hN hd cs n hn;exact⟨m,M,T,l,n',h1,h2,wK h3⟩
end
def RJ(h1:c ρ=.ok true)(h2:body ρ=.ok (.nx ρ'))(h3:TX c body n ρ'=r):TX c body (n+1) ρ=r:=by
 rw[TX,h1,Res.aO,if_pos rfl,h2];exact h3
def aAc(h1:c ρ=.ok false):TX c body (n+1) ρ=.ok (.nx ρ):=by
 rw[TX,h1];rfl
def yV:∀ns:List Int,intsOf (ns.map D.int)=some ns
 |[]=>rfl
 |n::ns=>by
  show(intsOf (ns.map D.int)).map (n::·)=_;rw[yV ns];rfl
def wc:FT:=(bTB (b2 (eX .ne) jR (gM aQ)))
def wb0:FS:=(G7 6 8)
def wb1:FS:=(bW false 9 (b2 (aU .sub) (b2 (aU .add) jN (b2 getD d7 lY)) cP) true)
def wb2:FS:=(bW false 10 (cJ 12 (bK fD false) jT (aBq (bTB (b2 (eX .eq) (b2 getD k_ cP) lY)) (bTB (b2 (uN .le) (aV zY (aB (cJ 13 (bK (b2 getD k_ iW) false) jT dH (b2 getD d7 lA) false) aQ)) kJ))) k_ false) true)
def wb5:FS:=(eV false 11 (x2R getD mL (x2L (aU .mod) (bT aN 1 0 aQ) (aV lC (aB mL aQ)))))
def wb6:FS:=(zL 5 (b2 getD eO cG))
def wb7:FS:=(bW false 7 (b2 (aU .sub) kJ (aV zY (aB (cJ 12 (bK (b2 getD eO iW) false) jT dH (b2 getD d7 k_) false) aQ))) true)
def wb8:FS:=(aC9 6 (b1 aB3 (b2 getD eO iW)))
def wb:FS:=(bB wb0 (bB wb1 (bB wb2 (bB wb5 (bB wb6 (bB wb7 wb8))))))
inductive Run(H:List Rw):List Nat->List Nat->Prop
 |nil:Run H [] []
 |step {r:Rw} {rest W:List Nat}:r∈H->Run H (r.2.2++rest) W->Run H (r.2.1::rest) (r.1::W)
def aAd(h:ρ.getD i .uD=.lst (xs++[x]))(he:(ρ.set i (.lst xs)).set j x=ρ'):G7 i j ρ=.ok (.nx ρ'):=by
 subst he;unfold G7;rw[h];dsimp only;rw[List.length_append,List.length_singleton,Nat.add_sub_cancel,List.getElem?_append_right (Nat.le_refl _),Nat.sub_self,List.dropLast_concat];rfl
def aAe(h1:f ρ=.ok (.lst ys))(h2:ρ.getD i .uD=.lst xs)(hl:xs.length+ys.length<=10000)(hp:D.aJ ys=true):aC9 i f ρ=.ok (.nx (ρ.set i (.lst (xs++ys)))):=by
 unfold aC9;rw[h1,Res.aO,h2];dsimp only;rw[if_pos (by rw[hp,bF,decide_eq_true 0x1];rfl)]
theorem uE(hN:N.length=26)(hd:N.Nodup)(nm:α->Nat)(g:α->D):∀(L:List α),(L.map nm).Nodup->(∀a∈L,nm a<26)->∀a∈L,cA (L.map λa=>(sy N (nm a),g a)) (sy N (nm a))=some (g a)
 |[],_,_,a,ha=>by simp at ha
 |b::L,h1,h2,a,ha=>by
  rw[List.map_cons,cA,xG hN hd (h2 b (List.mem_cons_self ..)) (h2 a ha)];rw[List.map_cons,List.nodup_cons] at h1;rcases List.mem_cons.mp ha with e|e
  ·subst e;rw[decide_eq_true rfl,if_pos rfl]
  ·have:¬nm b=nm a:=λg=>h1.1 (g▸List.mem_map_of_mem (f:=nm) e)
   rw[decide_eq_false this,if_neg 0x2];exact uE hN hd nm g L h1.2 (λc hc=>h2 c (List.mem_cons_of_mem _ hc)) a e
section
variable {N:List Str} (hN:N.length=26) (hd:N.Nodup)
include hN hd
theorem xJ(hm:m<=3)(hk:k<m):getD (.dct (lsD N m l)) (sy N k)=.ok (.int (l k)):=by
 show(if true then Res.ofOpt (cA (lsD N m l) (sy N k)) else .bad)=_;rw[if_pos rfl];have:=uE hN hd (λk:Nat=>k) (λk=>D.int (l k)) (List.range m) (by rw[List.map_id'];exact List.nodup_range) (λa ha=>by have:=List.mem_range.mp ha;lia) k (List.mem_range.mpr hk);unfold lsD;rw[this];rfl
omit hN hd in
theorem RK(l:Nat->Nat):∀ps:List Nat,(ps.map λk=>((l k:Nat):Int)).sum=(((ps.map l).sum:Nat):Int)
 |[]=>rfl
 |p::ps=>by
  rw[List.map_cons,List.map_cons,List.sum_cons,List.sum_cons,RK l ps];lia
theorem aEt(hm:m<=3)(hl:∀k,k<m->1<=l k/\l k<=4){n:Nat}{ps:List Nat}(hρ:ρ.length=n)(hf:f ρ=.ok (.tup (ps.map (sy N))))(hp:∀i∈ps,i<m)(hpl:ps.length<=100)(h5:∀k,cO 4 (ρ++[sy N k])=.ok (.dct (lsD N m l)))(hn:∀k,cO n (ρ++[sy N k])=.ok (sy N k)) :
  aV zY (aB (cJ n (bK f false) jT dH (b2 getD d7 (cO n)) false) aQ) ρ=.ok (.int ((ps.map l).sum:Nat)):=by
 refine bO (aD (fH (sy N) (λk=>D.int (l k)) ps hρ (gZ hf) 0x1 λk hk=>⟨aK (h5 k) (hn k) (xJ hN hd hm (hp k hk)),rfl⟩) rfl) ?_;show(match intsOf (ps.map λk=>D.int (l k)) with|some ns=>if ns.all (λi=>decide (-9000<=i)&&decide (i<=9000))&&decide (ns.length<=100000) then Res.ok (D.int ns.sum) else .bad|none=>.bad)=_;have e:(ps.map λk=>D.int (l k))=(ps.map λk=>((l k:Nat):Int)).map D.int:=by rw[List.map_map];rfl
 rw[e,yV];dsimp only;rw[RK,if_pos];rw[Bool.and_eq_true,List.all_eq_true,decide_eq_true_eq,List.length_map];refine⟨λi hi=>?_,by lia⟩;obtain⟨k,hk,rfl⟩:=List.mem_map.mp hi;have:=hl k (hp k hk);rw[Bool.and_eq_true,decide_eq_true_eq,decide_eq_true_eq];lia
omit hN hd in
theorem jY(h:cO i ρ=.ok (rwD N r)):b2 getD (cO i) cG ρ=.ok (sy N r.1)/\b2 getD (cO i) cP ρ=.ok (sy N r.2.1)/\b2 getD (cO i) iW ρ=.ok (.tup (r.2.2.map (sy N))):=⟨aK h rfl rfl,aK h rfl rfl,aK h rfl rfl⟩
theorem aAf(hi:i<26)(hj:j<26):eX .eq (sy N i) (sy N j)=.ok (.bl (decide (i=j))):=by
 show(if (sy N i).fC aX&&(sy N j).fC aX then Res.ok (D.bl (eqD (sy N i) (sy N j))) else .bad)=_;rw[CK,CK,xG hN hd hi hj];rfl
theorem aHn(hi:i<26)(hj:j<26):eX .ne (sy N i) (sy N j)=.ok (.bl (!decide (i=j))):=by
 show(if (sy N i).fC aX&&(sy N j).fC aX then Res.ok (D.bl (!eqD (sy N i) (sy N j))) else .bad)=_;rw[CK,CK,xG hN hd hi hj];rfl
omit hN hd in
omit hN hd in
theorem aLj(l:List Nat):eX .ne (.lst (l.map (sy N))) (.lst [])=.ok (.bl (!l.isEmpty)):=by
 show(if D.dR 11 (l.map (sy N))&&D.dR 11 [] then Res.ok (D.bl (!yF (l.map (sy N)) [])) else .bad)=_;rw[vL,D.dR];cases l<;>rfl
omit hN hd in
theorem aEu(l:List Nat):eX .eq (.lst (l.map (sy N))) (.lst [])=.ok (.bl l.isEmpty):=by
 show(if D.dR 11 (l.map (sy N))&&D.dR 11 [] then Res.ok (D.bl (yF (l.map (sy N)) [])) else .bad)=_;rw[vL,D.dR];cases l<;>rfl
omit hN hd in
theorem aQ9(v:Int):max2 [.int 0,.int v]=.ok (.int (if 0<v then v else 0)):=rfl
end
structure aMl(m:Nat)(H:List Rw)(l:Nat->Nat):Prop where
 m3:m<=3
 lb:∀k,k<m->1<=l k/\l k<=4
 hl:H.length<=100
 hg:∀r∈H,Gr m r
 ba:∀k,k<m->∃r∈H,r.2.1=k/\1+(r.2.2.map l).sum<=l k
abbrev wst(hD:D)(N:List Str)(H:List Rw)(w most:D)(m:Nat)(l:Nat->Nat)(W st:List Nat)(left:Nat)(a b c e:D):List D:=[hD,.lst (H.map (rwD N)),w,most,.dct (lsD N m l),.lst (W.map (sy N)),.lst (st.reverse.map (sy N)),.int left,a,b,c,e]
def aHo{a b e:D}{S:List Rw}{v:Int}{i:Nat}{r:Rw}{z:Nat}(qv:ch1 aN (dk cs n) []=.ok (.int v,dk cs (n+1)))(lS:0<S.length)(i2:v % (S.length:Int)=i)(hi:S[i]?=some r):wb5 (wst (.cel z (dk cs n)) N H w most m l W rest left a b (.lst (S.map (rwD N))) e)=.ok (.nx (wst (.cel z (dk cs (n+1))) N H w most m l W rest left a b (.lst (S.map (rwD N))) (rwD N r))):=by
 have hl:∀ρ:List D,cO 10 ρ=.ok (.lst (S.map (rwD N)))->(aV lC (aB mL aQ)) ρ=.ok (.int S.length):=λρ h=>bO (aD h rfl) (by
  show Res.ok (D.int ((S.map (rwD N)).length:Int))=_;rw[List.length_map])
 exact gH (i:=11) (aA1 rfl (uQ (uY qv rfl rfl) rfl (hl _ rfl) (b_ _ _ 0x1) rfl) (mG i2 hi) (dO ..)) rfl
section
variable {N:List Str} (hN:N.length=26) (hd:N.Nodup)
include hN hd
theorem turn(P:aMl m H l)(hk:k<m)(hn:n<=10000)(hW:W.length<=10000)(hr:rest.length<=5000)(a b c e:D) :
  ∃r∈H,r.2.1=k/\∃(left':Nat)(a' b' c' e':D),left'+(r.2.2.map l).sum+1=left+l k/\∀z,wb (wst (.cel z (dk cs n)) N H w most m l W (k::rest) left a b c e)=.ok (.nx (wst (.cel z (dk cs (n+1))) N H w most m l (W++[r.1]) (r.2.2++rest) left' a' b' c' e')):=by
 have hk1:=P.lb k hk;have m3:=P.m3;obtain⟨v,qv⟩:=iT cs n 0x1
 let room:Nat:=left+l k-1
 have hroom:(left:Int)+(l k:Nat)-1=(room:Int):=by show _=((left+l k-1:Nat):Int);lia
 let p1:Rw->Bool:=λr=>decide (r.2.1=k)&&decide ((((r.2.2.map l).sum:Nat):Int)<=(room:Int))
 let S1:=H.filter p1
 have sub1:∀r∈S1,r∈H/\r.2.1=k/\(r.2.2.map l).sum<=room:=λr hr=>by
  have:=List.mem_filter.mp hr;have h2:(decide (r.2.1=k)&&decide ((((r.2.2.map l).sum:Nat):Int)<=(room:Int)))=true:=this.2;rw[Bool.and_eq_true,decide_eq_true_eq,decide_eq_true_eq] at h2;exact⟨this.1,h2.1,by lia⟩
 have ne1:S1≠[]:=by
  obtain⟨r,hr,e1,e2⟩:=P.ba k hk;have:r∈S1:=List.mem_filter.mpr ⟨hr,by
   show(decide (r.2.1=k)&&decide ((((r.2.2.map l).sum:Nat):Int)<=(room:Int)))=true;rw[Bool.and_eq_true,decide_eq_true_eq,decide_eq_true_eq];exact⟨e1,by lia⟩⟩
  exact List.ne_nil_of_mem this
 have lS:0<S1.length:=List.length_pos_iff.mpr ne1;obtain⟨i,i1,i2⟩:=kix (m:=S1.length) 0x1 v;have hi:S1[i]?=some S1[i]:=List.getElem?_eq_getElem i1;obtain⟨g1,g2,g3⟩:=sub1 _ (List.getElem_mem i1);generalize hr0:S1[i]=r at g1 g2 g3 hi;obtain⟨u1,u2,u3⟩:=P.hg r g1;refine⟨r,g1,g2,room-(r.2.2.map l).sum,sy N k,.int room,.lst (S1.map (rwD N)),rwD N r,by lia,λz=>?_⟩;have t0:wb0 (wst (.cel z (dk cs n)) N H w most m l W (k::rest) left a b c e)=.ok (.nx (wst (.cel z (dk cs n)) N H w most m l W rest left (sy N k) b c e)):=aAd (i:=6) (j:=8) (xs:=rest.reverse.map (sy N)) (x:=sy N k) (by
  show D.lst ((k::rest).reverse.map (sy N))=_;rw[List.reverse_cons,List.map_append];rfl) rfl
 have t1:wb1 (wst (.cel z (dk cs n)) N H w most m l W rest left (sy N k) b c e)=.ok (.nx (wst (.cel z (dk cs n)) N H w most m l W rest left (sy N k) (.int room) c e)):=by
  rw[<-hroom];exact cZ (i:=9) (aK (aK (x:=.int left) rfl (aK rfl rfl (xJ hN hd m3 hk)) (dW _ _)) rfl (GZ _ _))
 have t2:wb2 (wst (.cel z (dk cs n)) N H w most m l W rest left (sy N k) (.int room) c e)=.ok (.nx (wst (.cel z (dk cs n)) N H w most m l W rest left (sy N k) (.int room) (.lst (S1.map (rwD N))) e)):=by
  refine cZ (i:=10) (aA7 (n:=12) (rwD N) (rwD N) p1 H rfl (kI rfl) (by have:=P.hl;lia) (λr hr=>?_) λr hr _=>⟨rfl,dO ..⟩);obtain⟨v1,v2,v3⟩:=P.hg r hr;have c1:∀ρ:List D,cO 12 ρ=.ok (rwD N r)->cO 8 ρ=.ok (sy N k)->(bTB (b2 (eX .eq) (b2 getD k_ cP) lY)) ρ=.ok (decide (r.2.1=k)):=λρ e1 e2=>e_ (aK (jY e1).2.1 e2 (aAf hN hd 0x1 0x1))
  by_cases hrk:r.2.1=k
  ·refine(aJn ((c1 _ rfl rfl).trans (by rw[decide_eq_true hrk])) (e_ (aK (aEt hN hd m3 P.lb (n:=13) rfl (aK rfl rfl rfl) v2 0x1 (λ_=>rfl) (λ_=>rfl)) rfl (aL4 _ _)))).trans ?_;show _=Res.ok (decide (r.2.1=k)&&decide ((((r.2.2.map l).sum:Nat):Int)<=(room:Int)));rw[decide_eq_true hrk,Bool.true_and]
  ·refine(aJo ((c1 _ rfl rfl).trans (by rw[decide_eq_false hrk]))).trans ?_;show _=Res.ok (decide (r.2.1=k)&&decide ((((r.2.2.map l).sum:Nat):Int)<=(room:Int)));rw[decide_eq_false hrk,Bool.false_and]
 have t5:=aHo (N:=N) (H:=H) (w:=w) (most:=most) (m:=m) (l:=l) (W:=W) (rest:=rest) (left:=left) (a:=sy N k) (b:=.int room) (e:=e) (z:=z) qv lS i2 hi;have t6:wb6 (wst (.cel z (dk cs (n+1))) N H w most m l W rest left (sy N k) (.int room) (.lst (S1.map (rwD N))) (rwD N r))=.ok (.nx (wst (.cel z (dk cs (n+1))) N H w most m l (W++[r.1]) rest left (sy N k) (.int room) (.lst (S1.map (rwD N))) (rwD N r))):=by
  have ha:=uO (i:=5) (ρ:=wst (.cel z (dk cs (n+1))) N H w most m l W rest left (sy N k) (.int room) (.lst (S1.map (rwD N))) (rwD N r)) (xs:=W.map (sy N)) (jY (i:=11) (r:=r) rfl).1 rfl (by rw[List.length_map,bF];lia) rfl;refine ha.trans ?_;unfold wst;rw[List.map_append];rfl
 have t7:wb7 (wst (.cel z (dk cs (n+1))) N H w most m l (W++[r.1]) rest left (sy N k) (.int room) (.lst (S1.map (rwD N))) (rwD N r))=.ok (.nx (wst (.cel z (dk cs (n+1))) N H w most m l (W++[r.1]) rest (room-(r.2.2.map l).sum) (sy N k) (.int room) (.lst (S1.map (rwD N))) (rwD N r))):=by
  have e:((room-(r.2.2.map l).sum:Nat):Int)=(room:Int)-((r.2.2.map l).sum:Nat):=by lia
  unfold wst;rw[e];exact cZ (i:=7) (aK (x:=.int room) rfl (aEt hN hd m3 P.lb (n:=12) rfl (aK rfl rfl rfl) u2 0x1 (λ_=>rfl) (λ_=>rfl)) (GZ _ _))
 have t8:wb8 (wst (.cel z (dk cs (n+1))) N H w most m l (W++[r.1]) rest (room-(r.2.2.map l).sum) (sy N k) (.int room) (.lst (S1.map (rwD N))) (rwD N r))=.ok (.nx (wst (.cel z (dk cs (n+1))) N H w most m l (W++[r.1]) (r.2.2++rest) (room-(r.2.2.map l).sum) (sy N k) (.int room) (.lst (S1.map (rwD N))) (rwD N r))):=by
  have hx:=aAe (i:=6) (ρ:=wst (.cel z (dk cs (n+1))) N H w most m l (W++[r.1]) rest (room-(r.2.2.map l).sum) (sy N k) (.int room) (.lst (S1.map (rwD N))) (rwD N r)) (f:=b1 aB3 (b2 getD eO iW)) (xs:=rest.reverse.map (sy N)) (ys:=r.2.2.reverse.map (sy N)) (xH (jY (i:=11) (r:=r) rfl).2.2 (by
   show(if D.aJ (r.2.2.map (sy N))&&decide ((r.2.2.map (sy N)).length<=lim) then Res.ok (D.lst (r.2.2.map (sy N)).reverse) else .bad)=_;rw[bL,List.length_map,bF,decide_eq_true 0x1,<-List.map_reverse];rfl)) rfl (by rw[List.length_map,List.length_reverse,List.length_map,List.length_reverse];lia) (bL ..)
  refine hx.trans ?_;have e7:((r.2.2++rest).reverse.map (sy N))=rest.reverse.map (sy N)++r.2.2.reverse.map (sy N):=by rw[List.reverse_append,List.map_append]
  unfold wst;rw[e7];rfl
 exact aM t0 (aM t1 (aM t2 (aM t5 (aM t6 (aM t7 t8)))))
theorem aLk(P:aMl m H l):∀(μ n fuel:Nat)(W st:List Nat)(left:Nat)(a b c e:D),left+(st.map l).sum=μ->μ<fuel->n+μ<=5000->W.length+μ<=5000->(∀k∈st,k<m)->
  ∃(V:List Nat)(n':Nat)(left':Nat)(a' b' c' e':D),Run H st V/\V.length<=μ/\n'<=n+μ/\∀z,TX wc wb fuel (wst (.cel z (dk cs n)) N H w most m l W st left a b c e)=.ok (.nx (wst (.cel z (dk cs n')) N H w most m l (W++V) [] left' a' b' c' e'))
 |μ,n,0,W,st,left,a,b,c,e,h1,h2,_,_,_=>absurd h2 (Nat.not_lt_zero _)
 |μ,n,fuel+1,W,[],left,a,b,c,e,h1,h2,_,_,_=>⟨[],n,left,a,b,c,e,.nil,Nat.zero_le _,by lia,λz=>by
   rw[List.append_nil];exact aAc (e_ (aK rfl rfl (aLj [])))⟩
 |0,n,fuel+1,W,k::rest,left,a,b,c,e,h1,h2,_,_,h5=>by
   have:=P.lb k (h5 k (List.mem_cons_self ..));rw[List.map_cons,List.sum_cons] at h1;lia
 |μ+1,n,fuel+1,W,k::rest,left,a,b,c,e,h1,h2,h3,h4,h5=>by
   have hk:=h5 k (List.mem_cons_self ..);have lbs:∀st:List Nat,(∀k∈st,k<m)->st.length<=(st.map l).sum:=by
    intro st;induction st with
    |nil=>intro _;simp
    |cons x xs ih=>
     intro h;have:=ih λk hk=>h k (List.mem_cons_of_mem _ hk)
     have:=P.lb x (h x (List.mem_cons_self ..));rw[List.map_cons,List.sum_cons,List.length_cons];lia
   have hrest:∀k∈rest,k<m:=λj hj=>h5 j (List.mem_cons_of_mem _ hj)
   have hlr:=lbs rest hrest;rw[List.map_cons,List.sum_cons] at h1;obtain⟨r,r1,r2,left',a',b',c',e',r3,r4⟩:=turn hN hd (n:=n) (w:=w) (most:=most) P (W:=W) (rest:=rest) (k:=k) (left:=left) hk 0x1 0x1 0x1 a b c e;have hp:=(P.hg r r1).2.1;obtain⟨V,n',left2,a2,b2,c2,e2,q1,q2,q3,q4⟩:=aLk P μ (n+1) fuel (W++[r.1]) (r.2.2++rest) left' a' b' c' e' (by rw[List.map_append,List.sum_append];lia) 0x1 0x1 (by rw[List.length_append,List.length_singleton];lia) (λj hj=>by
    rcases List.mem_append.mp hj with h|h
    ·exact hp j h
    ·exact hrest j h)
   refine⟨r.1::V,n',left2,a2,b2,c2,e2,r2▸.step r1 q1,by rw[List.length_cons];lia,by lia,λz=>?_⟩;refine RJ (e_ (aK rfl rfl ((aLj (N:=N) (k::rest).reverse).trans ?_))) (r4 z) ?_
   ·rw[List.reverse_cons];cases rest.reverse<;>rfl
   ·rw[q4 z,List.append_assoc];rfl
theorem CP(cs:List Int)(P:aMl m H l)(hk:k<m)(hm:most<=390)(hn:n<=3000) :
  ∃(V:List Nat)(n':Nat),Run H [k] V/\V.length<=max most 4/\n'<=n+max most 4/\ch1 cF (dk cs n) [.lst (H.map (rwD N)),sy N k,.int most,.dct (lsD N m l)]=.ok (.lst (V.map (sy N)),dk cs n'):=by
 have hk1:=P.lb k hk
 let left:Nat:=most-l k
 have hle:left+l k<=max most 4:=by show most-l k+l k<=_;lia
 have hle2:max most 4<=390:=by lia
 obtain⟨V,n',left',a',b',c',e',h1,h2,h3,h4⟩:=aLk hN hd P (left+l k) n 9000 [] [k] left .uD .uD .uD .uD 0x2 0x1 0x1 (by show 0+_<=_;lia) (λj hj=>by rw[List.mem_singleton] at hj;lia);refine⟨V,n',h1,by lia,by lia,wK λz=>uR (ρ:=wst (.cel z (dk cs n')) N H (sy N k) (.int most) m l V [] left' a' b' c' e') ?_⟩;refine aM (ρ':=[.cel z (dk cs n),.lst (H.map (rwD N)),sy N k,.int most,.dct (lsD N m l),.lst [],.uD,.uD,.uD,.uD,.uD,.uD]) (fK (i:=5) rfl rfl) ?_;refine aM (ρ':=[.cel z (dk cs n),.lst (H.map (rwD N)),sy N k,.int most,.dct (lsD N m l),.lst [],.lst [sy N k],.uD,.uD,.uD,.uD,.uD]) (fK (i:=6) rfl rfl) ?_;refine aM (ρ':=wst (.cel z (dk cs n)) N H (sy N k) (.int most) m l [] [k] left .uD .uD .uD .uD) (jK (i:=7) (d:=.int left) (bO (aD rfl (aD (aK (x:=.int most) rfl (aK rfl rfl (xJ hN hd P.m3 hk)) (GZ _ _)) rfl)) ((aQ9 _).trans ?_)) rfl) ?_
 ·congr 2
  show _=((most-l k:Nat):Int);split<;>lia
 refine aM (h4 z) ?_;exact vK rfl rfl
end
def call_v(h:f (ds++List.replicate (m-n) D.uD)=.ok (.rt d)):fnS n m f ds=.ok d:=by
 unfold fnS;rw[h];rfl
def JR(h:a ρ=.ok b):VB a ρ=.ok (!b):=by
 unfold VB;rw[h,Res.aO];rfl
def JS(h:a ρ=.ok (.bl b)):bTr a ρ=.ok b:=by
 unfold bTr;rw[h,Res.aO];rfl
def hdV(N:List Str)(r:Rw):D:=.tup [sy N r.2.1,.tup (r.2.2.map (sy N))]
def hdD(N:List Str)(F:List Rw):List (D×D):=F.map λr=>(sy N r.1,hdV N r)
noncomputable def tr(t:Tk):Rw:=(t.1,t.2.1,t.2.2.1::t.2.2.2)
def CQ(N:List Str)(r:Rw):(hdV N r).pure=true:=by
 show((sy N r.2.1).pure&&((D.tup (r.2.2.map (sy N))).pure&&true))=true;rw[D.pure,bL];rfl
theorem o_:∀{ps:List D},(∀p∈ps,p.pure=true)->D.aJ ps=true
 |[],_=>rfl
 |p::ps,h=>by rw[D.aJ,h p 0x2,o_ λq hq=>h q (by simp[hq])];rfl
def mkD(N:List Str)(M:List Rw):List (D×D):=M.map λr=>(sy N r.1,.bl true)
structure Hds(F:List Rw):Prop where
 nd:(F.map (·.1)).Nodup
 lt:∀r∈F,r.1<26/\r.2.1<26/\(∀i∈r.2.2,i<26)/\r.2.2.length<=10
 ln:F.length<=100
section
variable {N:List Str} (hN:N.length=26) (hd:N.Nodup)
include hN hd
theorem uF(nm:α->Nat)(g:α->D)(hi:i<26)(v:D):∀(L:List α),(∀a∈L,nm a<26)->i∉L.map nm->putD (L.map λa=>(sy N (nm a),g a)) (sy N i) v=(L.map λa=>(sy N (nm a),g a))++[(sy N i,v)]
 |[],_,_=>rfl
 |a::L,h1,h2=>by
  rw[List.map_cons,List.mem_cons,not_or] at h2;rw[List.map_cons,putD,xG hN hd (h1 a (List.mem_cons_self ..)) hi,decide_eq_false (λg=>h2.1 g.symm),if_neg 0x2,uF nm g hi v L (λb hb=>h1 b (List.mem_cons_of_mem _ hb)) h2.2];rfl
omit hN hd in
theorem nP(nm:α->Nat)(g:α->D)(L:List α)(i:Nat):uK (L.map λa=>(sy N (nm a),g a)) (sy N i)=true:=by
 show(true&&(L.map λa=>(sy N (nm a),g a)).all λp=>isTup p.1==false)=true;rw[Bool.true_and,List.all_eq_true];intro y hy;obtain⟨k,_,rfl⟩:=List.mem_map.mp hy;rfl
theorem RL{pr e f g h:D}(e5:D):∀(M L:List Rw),((L++M).map (·.1)).Nodup->(∀r∈L++M,r.1<26)->L.length+M.length<=1000->∀(a b c:D),∃a' b' c',vA (tgN [2,3,4]) (W8 1 eY (fW (aB c7 (aB d7 aQ)))) (M.map (rwD N)) [pr,.dct (hdD N L),a,b,c,e5,f]=.ok (.nx [pr,.dct (hdD N (L++M)),a',b',c',e5,f])
 |[],L,_,_,_,a,b,c=>⟨a,b,c,by rw[List.append_nil];rfl⟩
 |r::M,L,h1,h2,h3,a,b,c=>by
  have hr:r.1<26:=h2 r 0x2;have hn:r.1∉L.map (·.1):=λhm=>by
   rw[List.map_append,List.map_cons,List.nodup_append] at h1;exact h1.2.2 _ hm _ (List.mem_cons_self ..) rfl
  have e1:hdD N (L++[r])=putD (hdD N L) (sy N r.1) (hdV N r):=by
   unfold hdD;rw[uF hN hd (λr:Rw=>r.1) (hdV N) hr _ L (λx hx=>h2 x (by simp[hx])) hn,List.map_append];rfl
  rw[List.length_cons] at h3;obtain⟨a',b',c',q⟩:=RL (e:=e) (f:=f) (g:=g) (h:=h) e5 M (L++[r]) (by rw[List.append_assoc];exact h1) (by rw[List.append_assoc];exact h2) (by rw[List.length_append,List.length_singleton];lia) (sy N r.1) (sy N r.2.1) (.tup (r.2.2.map (sy N)));refine⟨a',b',c',?_⟩;rw[List.map_cons];rw[List.append_assoc] at q;refine dB (ρ1:=[pr,.dct (hdD N L),sy N r.1,sy N r.2.1,.tup (r.2.2.map (sy N)),e5,f]) rfl (QR (i:=1) (kvs:=hdD N L) (k:=sy N r.1) (d:=hdV N r) (fB (aD rfl (aD rfl rfl)) (by rw[bF];simp)) rfl rfl (by unfold hdD;rw[List.length_map,bF];lia) (nP ..) (CQ ..)) ?_;rw[<-e1];exact q
theorem RM:∀(T:List Tk)(L:List Rw),((L++T.map tr).map (·.1)).Nodup->(∀r∈L++T.map tr,r.1<26)->L.length+T.length<=1000->(∀t∈T,t.2.2.2.length<=10)->∀(a b c d e:D),∃a' b' c' d' e',vA (tgN [2,3,5,6]) (W8 1 eY (fW (aB c7 (aB (b2 G6 (fW (aB mC aQ)) jR) aQ)))) (T.map (tkD N)) [pr,.dct (hdD N L),a,b,c,d,e]=.ok (.nx [pr,.dct (hdD N (L++T.map tr)),a',b',c',d',e'])
 |[],L,_,_,_,_,a,b,c,d,e=>⟨a,b,c,d,e,by rw[show L++List.map tr []=L from List.append_nil L];rfl⟩
 |t::T,L,h1,h2,h3,h4,a,b,c,d,e=>by
  have hr:(tr t).1<26:=h2 (tr t) 0x2;have hn:(tr t).1∉L.map (·.1):=λhm=>by
   rw[List.map_cons,List.map_append,List.map_cons,List.nodup_append] at h1;exact h1.2.2 _ hm _ (List.mem_cons_self ..) rfl
  have e1:hdD N (L++[tr t])=putD (hdD N L) (sy N (tr t).1) (hdV N (tr t)):=by
   unfold hdD;rw[uF hN hd (λr:Rw=>r.1) (hdV N) hr _ L (λx hx=>h2 x (List.mem_append_left _ hx)) hn,List.map_append];rfl
  rw[List.length_cons] at h3;obtain⟨a',b',c',d',e',q⟩:=RM T (L++[tr t]) (by rw[List.append_assoc];exact h1) (by rw[List.append_assoc];exact h2) (by rw[List.length_append,List.length_singleton];lia) (λx hx=>h4 x (List.mem_cons_of_mem _ hx)) (sy N t.1) (sy N t.2.1) c (sy N t.2.2.1) (.tup (t.2.2.2.map (sy N)));refine⟨a',b',c',d',e',?_⟩;rw[List.map_cons];rw[List.append_assoc] at q;have hl:=h4 t (List.mem_cons_self ..);have had:G6 (.tup [sy N t.2.2.1]) (.tup (t.2.2.2.map (sy N)))=.ok (.tup ((tr t).2.2.map (sy N))):=by
   show(if decide ([sy N t.2.2.1].length+(t.2.2.2.map (sy N)).length<=lim) then Res.ok (D.tup ([sy N t.2.2.1]++t.2.2.2.map (sy N))) else .bad)=_;rw[List.length_map,bF,decide_eq_true (by simp;lia)];rfl
  refine dB rfl (QR (k:=sy N (tr t).1) (d:=hdV N (tr t)) (fB (aD rfl (aD (aK (fB (aD rfl rfl) (by rw[bF];simp)) rfl had) rfl)) (by rw[bF];simp)) rfl rfl (by unfold hdD;rw[List.length_map,bF];lia) (nP ..) (CQ ..)) ?_;rw[<-e1];exact q
theorem aDg{T:List Tk}(F:Hds (M++T.map tr)):i_ [.tup [P0,.tup (M.map (rwD N)),.tup (T.map (tkD N)),P3]]=.ok (.dct (hdD N (M++T.map tr))):=by
 have hl:=F.ln;rw[List.length_append,List.length_map] at hl;obtain⟨a,b,c,q1⟩:=RL hN hd (pr:=.tup [P0,.tup (M.map (rwD N)),.tup (T.map (tkD N)),P3]) (e:=.uD) (f:=.uD) (g:=.uD) (h:=.uD) .uD M [] (by have:=F.nd;rw[List.map_append,List.nodup_append] at this;exact this.1) (λr hr=>(F.lt r (List.mem_append_left _ hr)).1) (by simp;lia) .uD .uD .uD;obtain⟨a2,b2',c2,d2,e2,q2⟩:=RM hN hd (pr:=.tup [P0,.tup (M.map (rwD N)),.tup (T.map (tkD N)),P3]) T M F.nd (λr hr=>(F.lt r hr).1) 0x1 (λt ht=>by have:=(F.lt (tr t) (List.mem_append_right _ (List.mem_map_of_mem ht))).2.2.2;have e:(tr t).2.2.length=t.2.2.2.length+1:=rfl;lia) a b c .uD .uD;refine call_v ?_;refine aM (ρ':=[.tup [P0,.tup (M.map (rwD N)),.tup (T.map (tkD N)),P3],.dct [],.uD,.uD,.uD,.uD,.uD]) (fK (i:=1) rfl rfl) ?_;refine aM (yJ ((gZ (aK rfl rfl rfl)).trans (by rw[bQ (dO N)];rfl)) q1) ?_;exact aM (yJ ((gZ (aK rfl rfl rfl)).trans (by rw[bQ (uC N)];rfl)) q2) rfl
theorem aEv(hF:Hds F)(hr:r∈F):getD (.dct (hdD N F)) (sy N r.1)=.ok (hdV N r):=by
 show(if true then Res.ofOpt (cA (hdD N F) (sy N r.1)) else .bad)=_;unfold hdD;rw[if_pos rfl,uE hN hd (λr:Rw=>r.1) (hdV N) F hF.nd (λa ha=>(hF.lt a ha).1) r hr];rfl
end
def mkE:FE:=(b1 wO (cJ 3 (bK (b2 getD fD cP) false) jT dH (fW (aB (b2 getD c7 cG) (aB (bC (.bl true)) aQ))) false))
def ruE:FE:=(b1 A_ (cJ 3 (bK (b2 getD fD h_) false) jT dH (fW (aB (fW (aB (b2 getD c7 cG) (aB (b2 getD c7 cP) aQ))) (aB c7 aQ))) false))
def aO6:fM=([("heads",.exp (aV (mD 1 i_) (aB fD aQ))),("makers",.exp mkE),("rules",.exp ruE),("most",.par 2),("calls",.exp cG),("copies",.exp cG),("drops",.exp cG)]:List (Str×Srx)):=rfl
theorem RN:∀M:List Rw,wN (M.map λr=>D.tup [sy N r.1,.bl true])=some (mkD N M)
 |[]=>rfl
 |r::M=>by
  show(if gR (sy N r.1)&&(D.bl true).pure then (wN (M.map λr=>D.tup [sy N r.1,.bl true])).map ((sy N r.1,D.bl true)::·) else none)=_;rw[RN M];rfl
section
variable {N:List Str} (hN:N.length=26) (hd:N.Nodup)
include hN hd
theorem RQ:∀(M L:List Rw),((L++M).map (·.1)).Nodup->(∀r∈L++M,r.1<26)->kE (mkD N L) (mkD N M)=mkD N (L++M)
 |[],L,_,_=>by rw[List.append_nil];rfl
 |r::M,L,h1,h2=>by
  show kE (putD (mkD N L) (sy N r.1) (.bl true)) (mkD N M)=_;have hnot:r.1∉L.map (·.1):=λz=>by
   rw[List.map_append,List.nodup_append] at h1;exact h1.2.2 r.1 z r.1 0x2 rfl
  have e:=uF hN hd (λa:Rw=>a.1) (λ_=>D.bl true) (h2 r 0x2) (.bl true) L (λa ha=>h2 a (by simp[ha])) hnot;have e':putD (mkD N L) (sy N r.1) (.bl true)=mkD N (L++[r]):=by
   show putD (L.map λa=>(sy N a.1,D.bl true)) (sy N r.1) (.bl true)=_;rw[e];unfold mkD;rw[List.map_append];rfl
  rw[e',RQ M (L++[r]) (by simpa using h1) (by simpa using h2)];simp
theorem aLl(hM:Hds M):mkE [.uD,.tup [P0,.tup (M.map (rwD N)),P2,P3],mo]=.ok (.dct (mkD N M)):=by
 have hl:=hM.ln;refine xH (fH (rwD N) (λr:Rw=>D.tup [sy N r.1,.bl true]) M rfl (gZ (aK rfl rfl rfl)) 0x1 λr hr=>⟨fB (aD (jY rfl).1 (aD rfl rfl)) (by rw[bF];simp),rfl⟩) ?_;show(match wN (M.map λr:Rw=>D.tup [sy N r.1,.bl true]) with|some ps=>if decide ((M.map λr:Rw=>D.tup [sy N r.1,.bl true]).length<=1000) then Res.ok (D.dct (kE [] ps)) else .bad|none=>.bad)=_;rw[RN];dsimp only;rw[if_pos (by rw[List.length_map];exact decide_eq_true 0x1)];have:=RQ hN hd M [] hM.nd λr hr=>(hM.lt r hr).1
 rw[List.nil_append] at this;exact congrArg (λz=>Res.ok (D.dct z)) this
end
noncomputable abbrev Ru:=Nat×Nat×List Nat×List Nat
def ruD(N:List Str)(r:Ru):D:=.tup [sy N r.1,sy N r.2.1,.tup (r.2.2.1.map (sy N)),.tup (r.2.2.2.map (sy N))]
def rlD(N:List Str)(R:List Ru):List (D×D):=R.map λr=>(.tup [sy N r.1,sy N r.2.1],ruD N r)
def oF(N:List Str)(r:Ru):(ruD N r).pure=true:=by
 show((sy N r.1).pure&&((sy N r.2.1).pure&&((D.tup (r.2.2.1.map (sy N))).pure&&((D.tup (r.2.2.2.map (sy N))).pure&&true))))=true;rw[D.pure,D.pure,bL,bL];rfl
structure Rls(R:List Ru):Prop where
 nd:(R.map λr=>(r.1,r.2.1)).Nodup
 lt:∀r∈R,r.1<26/\r.2.1<26
 ln:R.length<=100
theorem RT:∀R:List Ru,wR (R.map λr=>D.tup [.tup [sy N r.1,sy N r.2.1],ruD N r])=some (rlD N R)
 |[]=>rfl
 |r::R=>by
  show(if [sy N r.1,sy N r.2.1].all gR&&(ruD N r).pure then (wR (R.map λr=>D.tup [.tup [sy N r.1,sy N r.2.1],ruD N r])).map ((D.tup [sy N r.1,sy N r.2.1],ruD N r)::·) else none)=_;rw[RT R,oF];rfl
section
variable {N:List Str} (hN:N.length=26) (hd:N.Nodup)
include hN hd
theorem aAg(ha:a<26)(hb:b<26)(hc:c<26)(he:d<26):eqD (.tup [sy N a,sy N b]) (.tup [sy N c,sy N d])=decide ((a,b)=(c,d)):=by
 show(eqD (sy N a) (sy N c)&&(eqD (sy N b) (sy N d)&&true))=_;rw[xG hN hd ha hc,xG hN hd hb he,Bool.and_true];by_cases h:a=c<;>by_cases h2:b=d<;>simp[h,h2]
theorem aEw(hi:i<26)(hj:j<26)(v:D):∀(L:List Ru),(∀r∈L,r.1<26/\r.2.1<26)->(i,j)∉(L.map λr=>(r.1,r.2.1))->putD (rlD N L) (.tup [sy N i,sy N j]) v=rlD N L++[(.tup [sy N i,sy N j],v)]
 |[],_,_=>rfl
 |a::L,h1,h2=>by
  rw[List.map_cons,List.mem_cons,not_or] at h2;have ha:=h1 a (List.mem_cons_self ..);show(if eqD (.tup [sy N a.1,sy N a.2.1]) (.tup [sy N i,sy N j]) then _ else (D.tup [sy N a.1,sy N a.2.1],ruD N a)::putD (rlD N L) (.tup [sy N i,sy N j]) v)=_;rw[aAg hN hd ha.1 ha.2 hi hj,decide_eq_false (λg=>h2.1 g.symm),if_neg 0x2,aEw hi hj v L (λb hb=>h1 b (List.mem_cons_of_mem _ hb)) h2.2];rfl
theorem RV:∀(R L:List Ru),((L++R).map λr=>(r.1,r.2.1)).Nodup->(∀r∈L++R,r.1<26/\r.2.1<26)->kE (rlD N L) (rlD N R)=rlD N (L++R)
 |[],L,_,_=>by rw[List.append_nil];rfl
 |r::R,L,h1,h2=>by
  show kE (putD (rlD N L) (.tup [sy N r.1,sy N r.2.1]) (ruD N r)) (rlD N R)=_;have hnot:(r.1,r.2.1)∉(L.map λr=>(r.1,r.2.1)):=λz=>by
   rw[List.map_append,List.nodup_append] at h1;exact h1.2.2 (r.1,r.2.1) z (r.1,r.2.1) 0x2 rfl
  have hr:=h2 r 0x2;have e':putD (rlD N L) (.tup [sy N r.1,sy N r.2.1]) (ruD N r)=rlD N (L++[r]):=by
   rw[aEw hN hd hr.1 hr.2 _ L (λb hb=>h2 b (by simp[hb])) hnot];unfold rlD;rw[List.map_append];rfl
  rw[e',RV R (L++[r]) (by simpa using h1) (by simpa using h2)];simp
theorem aAh:∀(R:List Ru),(R.map λr=>(r.1,r.2.1)).Nodup->(∀r∈R,r.1<26/\r.2.1<26)->∀r∈R,cA (rlD N R) (.tup [sy N r.1,sy N r.2.1])=some (ruD N r)
 |[],_,_,r,hr=>by simp at hr
 |b::L,h1,h2,a,ha=>by
  have hb:=h2 b (List.mem_cons_self ..);have hA:=h2 a ha;show(if eqD (.tup [sy N b.1,sy N b.2.1]) (.tup [sy N a.1,sy N a.2.1]) then some (ruD N b) else cA (rlD N L) (.tup [sy N a.1,sy N a.2.1]))=_;rw[aAg hN hd hb.1 hb.2 hA.1 hA.2];rw[List.map_cons,List.nodup_cons] at h1;rcases List.mem_cons.mp ha with e|e
  ·subst e;rw[decide_eq_true rfl,if_pos rfl]
  ·have:¬(b.1,b.2.1)=(a.1,a.2.1):=λg=>h1.1 (g▸List.mem_map_of_mem e)
   rw[decide_eq_false this,if_neg 0x2,aAh L h1.2 (λr hr=>h2 r (List.mem_cons_of_mem _ hr)) a e]
theorem aLm(hR:Rls R)(hr:r∈R):getD (.dct (rlD N R)) (.tup [sy N r.1,sy N r.2.1])=.ok (ruD N r):=by
 show(if keyOk (.tup [sy N r.1,sy N r.2.1])=true then Res.ofOpt (cA (rlD N R) (.tup [sy N r.1,sy N r.2.1])) else .bad)=_;rw[if_pos 0x3,aAh hN hd R hR.nd hR.lt r hr];rfl
theorem aLn(hR:Rls R):ruE [.uD,.tup [P0,P1,P2,.tup (R.map (ruD N))],mo]=.ok (.dct (rlD N R)):=by
 have hl:=hR.ln;refine xH (fH (ruD N) (λr:Ru=>D.tup [.tup [sy N r.1,sy N r.2.1],ruD N r]) R rfl (gZ (aK rfl rfl rfl)) 0x1 λr hr=>⟨fB (aD (fB (aD (aK rfl rfl rfl) (aD (aK rfl rfl rfl) rfl)) (by rw[bF];simp)) (aD rfl rfl)) (by rw[bF];simp),?_⟩) ?_
 ·show(false||((D.tup [sy N r.1,sy N r.2.1]).pure&&((ruD N r).pure&&true)))=true;rw[oF];rfl
 ·show(match wR (R.map λr:Ru=>D.tup [.tup [sy N r.1,sy N r.2.1],ruD N r]) with|some ps=>if decide ((R.map λr:Ru=>D.tup [.tup [sy N r.1,sy N r.2.1],ruD N r]).length<=1000) then Res.ok (D.dct (kE [] ps)) else .bad|none=>.bad)=_;rw[RT];dsimp only;rw[if_pos (by rw[List.length_map];exact decide_eq_true 0x1)];have:=RV hN hd R [] hR.nd hR.lt;rw[List.nil_append] at this;exact congrArg (λz=>Res.ok (D.dct z)) this
theorem CT(F:List Rw):D.aJ ((hdD N F).map (·.2))=true:=o_ λp hp=>by
 unfold hdD at hp;rw[List.map_map] at hp;obtain⟨r,_,rfl⟩:=List.mem_map.mp hp;exact CQ N r
theorem CV(M:List Rw):D.aJ ((mkD N M).map (·.2))=true:=o_ λp hp=>by
 unfold mkD at hp;rw[List.map_map] at hp;obtain⟨r,_,rfl⟩:=List.mem_map.mp hp;rfl
theorem CW(R:List Ru):D.aJ ((rlD N R).map (·.2))=true:=o_ λp hp=>by
 unfold rlD at hp;rw[List.map_map] at hp;obtain⟨r,_,rfl⟩:=List.mem_map.mp hp;exact oF N r
def jZ(N:List Str)(ks:List Nat)(M:List Rw)(T:List Tk)(R:List Ru):D:=.tup [.tup (ks.map (sy N)),.tup (M.map (rwD N)),.tup (T.map (tkD N)),.tup (R.map (ruD N))]
theorem aAi(hF:Hds (M++T.map tr))(hM:Hds M)(hR:Rls R):evS [.uD,jZ N ks M T R,.int b] fM=.ok (prF (hdD N (M++T.map tr)) (mkD N M) (rlD N R) b ⟨0,0,0⟩):=by
 have h3:=aLn hN hd hR (P0:=.tup (ks.map (sy N))) (P1:=.tup (M.map (rwD N))) (P2:=.tup (T.map (tkD N))) (mo:=.int b);have h1:aV (mD 1 i_) (aB fD aQ) [.uD,jZ N ks M T R,.int b]=.ok (.dct (hdD N (M++T.map tr))):=bO (aD rfl rfl) ((sJ rfl).trans (aDg hN hd hF));have h2:=aLl hN hd hM (P0:=.tup (ks.map (sy N))) (P2:=.tup (T.map (tkD N))) (P3:=.tup (R.map (ruD N))) (mo:=.int b);have k:∀kn:List (D×D),D.aJ (kn.map (·.2))=true->okF (.dct kn)=true:=λkn h=>by
  show(false||D.aJ (kn.map (·.2)))=true;rw[h];rfl
 rw[aO6];have step:∀{ρ:List D}{f:Str}{s:Srx}{r:List (Str×Srx)}{d:D}{ds:List (Str×D)},s.ev ρ=.ok d->okF d=true->evS ρ r=.ok ds->evS ρ ((f,s)::r)=.ok ((f,d)::ds):=by
  intro ρ f s r d ds g1 g2 g3;show(do let d <- s.ev ρ;let ds <- evS ρ r;if okF d then Res.ok ((f,d)::ds) else .bad)=_;rw[g1,Res.aO,g3,Res.aO,if_pos g2]
 exact step h1 (k _ (CT hN hd _)) (step h2 (k _ (CV hN hd _)) (step h3 (k _ (CW hN hd _)) (step rfl rfl (step rfl rfl (step rfl rfl (step rfl rfl rfl))))))
theorem RW(hF:Hds (M++T.map tr))(hM:Hds M)(hR:Rls R){W:List Nat}{y d:D}{k:Cn}(hv:Z4 (hdD N (M++T.map tr)) (mkD N M) (rlD N R) b (W.map (sy N))=.ok (y,k))(hw:jA [y]=.ok d)(pd:d.pure=true):eG [jZ N ks M T R,.tup (W.map (sy N)),.int b]=.ok (.tup [d,.int k.c,.int k.p,.int k.d]):=by
 have pp:(jZ N ks M T R).pure=true:=by
  show((D.tup (ks.map (sy N))).pure&&((D.tup (M.map (rwD N))).pure&&((D.tup (T.map (tkD N))).pure&&((D.tup (R.map (ruD N))).pure&&true))))=true;rw[D.pure,D.pure,D.pure,D.pure,bL,bQ (dO N),bQ (uC N),bQ (oF N)];rfl
 unfold eG aIg;dsimp only;rw[if_pos (by rw[bL,pp];rfl),aAi hN hd hF hM hR];show(if (D.aJ ((hdD N (M++T.map tr)).map (·.2))&&(D.aJ ((mkD N M).map (·.2))&&D.aJ ((rlD N R).map (·.2))))=true then _ else _)=_;rw[if_pos (by rw[CT hN hd,CV hN hd,CW hN hd];rfl),hv];dsimp only;rw[hw];dsimp only;rw[if_pos pd]
theorem aAj(hF:Hds (M++T.map tr))(hM:Hds M)(hR:Rls R){W:List Nat}{c:Str}{as:List D}(hv:Z4 (hdD N (M++T.map tr)) (mkD N M) (rlD N R) b (W.map (sy N))=.err c as):eG [jZ N ks M T R,.tup (W.map (sy N)),.int b]=.err c as:=by
 have pp:(jZ N ks M T R).pure=true:=by
  show((D.tup (ks.map (sy N))).pure&&((D.tup (M.map (rwD N))).pure&&((D.tup (T.map (tkD N))).pure&&((D.tup (R.map (ruD N))).pure&&true))))=true;rw[D.pure,D.pure,D.pure,D.pure,bL,bQ (dO N),bQ (uC N),bQ (oF N)];rfl
 unfold eG aIg;dsimp only;rw[if_pos (by rw[bL,pp];rfl),aAi hN hd hF hM hR];show(if (D.aJ ((hdD N (M++T.map tr)).map (·.2))&&(D.aJ ((mkD N M).map (·.2))&&D.aJ ((rlD N R).map (·.2))))=true then _ else _)=_;rw[if_pos (by rw[CT hN hd,CV hN hd,CW hN hd];rfl),hv]
end
theorem vM:∀a b:List D,D.aJ (a++b)=(D.aJ a&&D.aJ b)
 |[],b=>rfl
 |x::a,b=>by
  show(x.pure&&D.aJ (a++b))=((x.pure&&D.aJ a)&&D.aJ b);rw[vM a b,Bool.and_assoc]
noncomputable def szD:D->Int
 |.tup [_,_,.int z]=>z
 |_=>0
def szs:List D->Int
 |[]=>0
 |d::r=>szD d+szs r
theorem aAk:∀a b:List D,szs (a++b)=szs a+szs b
 |[],b=>by show szs b=0+szs b;lia
 |d::a,b=>by show szD d+szs (a++b)=szD d+szs a+szs b;rw[aAk a b];lia
inductive Rd(N:List Str)(M:List Rw):List Nat->List Nat->List D->Prop
 |nil:Rd N M [] [] []
 |step {r:Rw} {ks W:List Nat} {ps vs:List D}:r∈M->ps.length=r.2.2.length->Rd N M (r.2.2++ks) W (ps++vs)->Rd N M (r.2.1::ks) (r.1::W) (.tup [sy N r.1,.tup ps,.int (1+szs ps)]::vs)
section
variable {N:List Str} {M:List Rw} {ks W:List Nat} {vs:List D}
def Rd.len(h:Rd N M ks W vs):vs.length=ks.length:=by
 induction h with
 |nil=>rfl
 |step hr hp h ih=>rw[List.length_append,List.length_append] at ih;rw[List.length_cons,List.length_cons];lia
def Rd.sz(h:Rd N M ks W vs):szs vs=W.length:=by
 induction h with
 |nil=>rfl
 |@step r ks W ps vs hr hp h ih=>
  rw[aAk] at ih;show 1+szs ps+szs vs=((W.length+1:Nat):Int);lia
def Rd.run(h:Rd N M ks W vs):Run M ks W:=by
 induction h with
 |nil=>exact .nil
 |step hr hp h ih=>exact .step hr ih
def Rd.pure(h:Rd N M ks W vs):D.aJ vs=true:=by
 induction h with
 |nil=>rfl
 |@step r ks W ps vs hr hp h ih=>
  rw[vM,Bool.and_eq_true] at ih;show((D.tup [sy N r.1,.tup ps,.int (1+szs ps)]).pure&&D.aJ vs)=true;rw[ih.2,Bool.and_true];show((sy N r.1).pure&&((D.tup ps).pure&&true))=true;rw[D.pure,ih.1];rfl
def aBk(h:Run M ks W):∃vs,Rd N M ks W vs:=by
 induction h with
 |nil=>exact⟨[],.nil⟩
 |@step r rest W hr h ih=>
  obtain⟨us,hu⟩:=ih;have hl:=hu.len;rw[List.length_append] at hl;refine⟨_,.step (ps:=us.take r.2.2.length) hr (by rw[List.length_take];lia) (by rw[List.take_append_drop];exact hu)⟩
def Rd.app(h:Rd N M ks W vs)(h2:Rd N M b W2 v2):Rd N M (ks++b) (W++W2) (vs++v2):=by
 induction h with
 |nil=>exact h2
 |@step r ks W ps vs hr hp h ih=>
  rw[List.append_assoc,List.append_assoc] at ih;exact .step hr hp ih
theorem Rd.split:∀(n:Nat){a b W:List Nat}{vs:List D},W.length<=n->Rd N M (a++b) W vs->∃W1 W2 v1 v2,W=W1++W2/\vs=v1++v2/\Rd N M a W1 v1/\Rd N M b W2 v2
 |_,[],b,W,vs,_,h=>⟨[],W,[],vs,rfl,rfl,.nil,h⟩
 |n,k::a,b,W,vs,hn,h=>by
  cases h with
  |@step r _ W' ps vs' hr hp h=>
   rw[List.length_cons] at hn;cases n with
   |zero=>lia
   |succ n=>
    have h:Rd N M (r.2.2++(a++b)) W' (ps++vs'):=h;rw[<-List.append_assoc] at h;obtain⟨W1,W2,u1,v2,rfl,e,h1,h2⟩:=Rd.split n 0x1 h;have l1:=h1.len;rw[List.length_append] at l1;have hle:ps.length<=u1.length:=by lia
    have e1:ps=u1.take ps.length:=by
     have:=congrArg (List.take ps.length) e;rw[List.take_left,List.take_append_of_le_length hle] at this;exact this
    have e2:vs'=u1.drop ps.length++v2:=by
     have:=congrArg (List.drop ps.length) e;rw[List.drop_left,List.drop_append_of_le_length hle] at this;exact this
    refine⟨r.1::W1,W2,_::u1.drop ps.length,v2,rfl,by rw[e2];rfl,.step hr hp ?_,h2⟩;have e3:ps++u1.drop ps.length=u1:=by
     conv=>lhs;arg 1;rw[e1]
     exact List.take_append_drop ..
    rw[e3];exact h1
def Rd.one(h:Rd N M [k] W [v]):∃r ps W',r∈M/\r.2.1=k/\W=r.1::W'/\v=.tup [sy N r.1,.tup ps,.int (1+szs ps)]/\Rd N M r.2.2 W' ps:=by
 cases h with
 |@step r _ W' ps _ hr hp h=>
  rw[List.append_nil,List.append_nil] at h;exact⟨r,ps,W',hr,rfl,rfl,rfl,h⟩
theorem Rd.sum:∀(n:Nat){ks W:List Nat}{vs:List D},W.length<=n->Rd N M ks W vs->W.length<=9000->∀ps us,vs=ps++us->aEi ps=some (szs ps)
 |_,_,_,_,_,h,hl,[],us,e=>rfl
 |n,_,_,_,hn,h,hl,p::ps,us,e=>by
  cases h with
  |nil=>cases e
  |@step r ks W qs vs hr hq h=>
   rw[List.length_cons] at hl hn;cases n with
   |zero=>lia
   |succ n=>
   obtain⟨e1,e2⟩:=List.cons.inj e;subst e1;obtain⟨W1,W2,v1,v2,ew,ev,g1,g2⟩:=Rd.split W.length (Nat.le_refl _) h;have l1:v1.length=qs.length:=by rw[g1.len,hq]
   obtain⟨ea,eb⟩:=List.append_inj ev (by rw[l1]);subst ea eb;have lw:W.length=W1.length+W2.length:=by rw[ew,List.length_append]
   have ih:=Rd.sum n 0x1 g2 0x1 ps us e2;have z1:=g1.sz;show(if (decide (-aCv<=1+szs qs)&&decide (1+szs qs<=aCv))=true then (aEi ps).map (1+szs qs+·) else none)=some (1+szs qs+szs ps);have hb:aCv=9000:=rfl;rw[if_pos (by rw[Bool.and_eq_true,decide_eq_true_eq,decide_eq_true_eq,hb];lia),ih];rfl
end
noncomputable abbrev spn:Res (List D×Cn):=.err "Spent" [.exc "Spent" []]
noncomputable abbrev tot(k:Cn):Int:=k.c+k.p+k.d
noncomputable abbrev Kn:=Nat×Nat×List Nat×D
def knD(N:List Str)(L:List Kn):List (D×D):=L.map λp=>(sy N p.1,p.2.2.2)
noncomputable def kr(L:List Kn):List Rw:=L.map λp=>(p.1,p.2.1,[])
structure aLo(N:List Str)(M:List Rw)(L:List Kn):Prop where
 nd:(L.map (·.1)).Nodup
 lt:∀p∈L,13<=p.1/\p.1<26
 rd:∀p∈L,Rd N M [p.2.1] p.2.2.1 [p.2.2.2]
 ln:L.length<=10
noncomputable def uG(ws:List Nat):List Kn->Cn->Cn
 |[],k=>k
 |p::L,k=>uG ws L (k.use (ws.count p.1) (p.2.2.1.length:Int))
structure Tab(M:List Rw)(T:List Tk)(R:List Ru):Prop where
 hF:Hds (M++T.map tr)
 hM:Hds M
 hR:Rls R
 mi:∀r∈M,r.1<10/\r.2.2.length<=3
 ti:∀t∈T,10<=t.1/\t.1<13/\t.2.2.2.length<=2
 ru:∀t∈T,∀r∈M,r.2.1=t.2.2.1->∃own ws,(t.1,r.1,own,ws)∈R/\own.length=r.2.2.length+t.2.2.2.length/\own.Nodup/\(∀i∈own,13<=i/\i<26)/\ws.length<=6/\(∀j∈ws,j<26)/\Run ((own.zip (r.2.2++t.2.2.2)).map (λp=>(p.1,p.2,[]))++(M++T.map tr)) [t.2.1] ws
section
variable {N:List Str} (hN:N.length=26) (hd:N.Nodup)
include hN hd
theorem aEx(hi:i<26):∀L:List Nat,(∀j∈L,j<26)->ZQ (N.getD i "") (L.map (sy N))=some (L.count i)
 |[],_=>rfl
 |j::L,h=>by
  show(ZQ (N.getD i "") (L.map (sy N))).map (λn=>if (N.getD j "")==(N.getD i "") then n+1 else n)=_;have e:((N.getD j "")==(N.getD i ""))=decide (j=i):=xG hN hd (h j 0x2) hi;rw[aEx hi L λk hk=>h k (by simp[hk]),e,List.count_cons];by_cases hji:j=i
  ·rw[decide_eq_true hji,if_pos (by simpa using hji)];rfl
  ·rw[decide_eq_false hji,if_neg (by simpa using hji)];rfl
theorem aAl(hws:∀j∈ws,j<26)(hl:ws.length<=1000):∀(L:List Kn),(∀p∈L,p.1<26)->(∀p∈L,Rd N M [p.2.1] p.2.2.1 [p.2.2.2])->∀k:Cn,nZ (ws.map (sy N)) (knD N L) k=some (uG ws L k)
 |[],_,_,k=>rfl
 |p::L,h,hr,k=>by
  have hp:=hr p 0x2;have hz:=hp.sz;obtain⟨r,ps,W',_,_,_,e,_⟩:=hp.one;have hc:=List.count_le_length (a:=p.1) (l:=ws);show nZ (ws.map (sy N)) ((sy N p.1,p.2.2.2)::knD N L) k=some (uG ws L (k.use (ws.count p.1) (p.2.2.1.length:Int)));rw[<-hz,e];show(match ZQ (N.getD p.1 "") (ws.map (sy N)) with|some n'=>if decide (n'<1000000) then nZ (ws.map (sy N)) (knD N L) (Cn.use k n' (1+szs ps)) else none|none=>none)=some (uG ws L (k.use (ws.count p.1) (1+szs ps+0)));rw[aEx hN hd (h p 0x2) ws hws];dsimp only;rw[if_pos (decide_eq_true 0x1),aAl hws hl L (λp hp=>h p (by simp[hp])) (λp hp=>hr p (by simp[hp])),Int.add_zero]
theorem aHp(nd:(L.map (·.1)).Nodup)(lt:∀p∈L,p.1<26)(hp:p∈L):cA (knD N L) (sy N p.1)=some p.2.2.2:=uE hN hd (λp:Kn=>p.1) (λp=>p.2.2.2) L nd lt p hp
theorem NP(hi:i<26):∀(L:List Kn),(∀p∈L,p.1<26)->(∀p∈L,p.1≠i)->cA (knD N L) (sy N i)=none
 |[],_,_=>rfl
 |p::L,h,hne=>by
  show(if eqD (sy N p.1) (sy N i) then _ else cA (knD N L) (sy N i))=_;rw[xG hN hd (h p 0x2) hi,decide_eq_false (hne p 0x2),if_neg 0x2,NP hi L (λp hp=>h p (by simp[hp])) λp hp=>hne p (by simp[hp])]
theorem aAm:∀(L A:List Kn),((A++L).map (·.1)).Nodup->(∀p∈A++L,p.1<26)->mV (L.map λp=>sy N p.1) (L.map λp=>p.2.2.2) (knD N A)=knD N (A++L)
 |[],A,_,_=>by rw[List.append_nil];rfl
 |q::L,A,h1,h2=>by
  have hp:=uF hN hd (λp:Kn=>p.1) (λp=>p.2.2.2) (h2 q 0x2) q.2.2.2 A (λp hp=>h2 p (by simp[hp])) (by
   rw[List.map_append,List.map_cons,List.nodup_append] at h1;intro hz;exact h1.2.2 q.1 hz q.1 0x2 rfl)
  show mV (L.map λp=>sy N p.1) (L.map λp=>p.2.2.2) (putD (knD N A) (sy N q.1) q.2.2.2)=_;rw[show putD (knD N A) (sy N q.1) q.2.2.2=knD N (A++[q]) from by rw[show knD N (A++[q])=knD N A++[(sy N q.1,q.2.2.2)] from by simp[knD]];exact hp];rw[aAm L (A++[q]) (by rw[List.append_assoc];exact h1) (by rw[List.append_assoc];exact h2),List.append_assoc];rfl
variable {M:List Rw} {T:List Tk} {R:List Ru} (B:Tab M T R) {m:Int} {st:List D} {L:List Kn} (KL:aLo N M L)
include B KL
theorem aLp(hp:p∈L)(hl:st.length<=100000):MN (hdD N (M++T.map tr)) (mkD N M) (rlD N R) m k (knD N L) st (sy N p.1)=.ok (p.2.2.2::st,none,k):=by
 have fm:uK (mkD N M) (sy N p.1)=true:=nP (λr:Rw=>r.1) (λ_=>D.bl true) M p.1;have fk:uK (knD N L) (sy N p.1)=true:=nP (λp:Kn=>p.1) (λp=>p.2.2.2) L p.1;unfold MN;rw[if_pos (by rw[fk,fm,decide_eq_true hl];rfl),aHp hN hd KL.nd (λp hp=>(KL.lt p hp).2) hp]
theorem aHq(hrM:r∈M)(hp:ps.length=r.2.2.length)(hz:aEi ps=some z)(hl:(ps++st).length<=100000):MN (hdD N (M++T.map tr)) (mkD N M) (rlD N R) m k (knD N L) (ps++st) (sy N r.1)=.ok (.tup [sy N r.1,.tup ps,.int (1+z)]::st,none,k):=by
 have hlt:=B.hM.lt r hrM;have h10:=(B.mi r hrM).1;have hg:=aEv hN hd B.hF (List.mem_append_left _ hrM);have hn:tkN (hdD N (M++T.map tr)) (sy N r.1)=some r.2.2.length:=by
  unfold tkN;rw[hg];show(if (D.aJ (r.2.2.map (sy N))&&decide ((r.2.2.map (sy N)).length<=1000))=true then some (r.2.2.map (sy N)).length else none)=_;have:=hlt.2.2.2;rw[bL,List.length_map,if_pos (by rw[decide_eq_true 0x1];rfl)]
 have fm:uK (mkD N M) (sy N r.1)=true:=nP (λr:Rw=>r.1) (λ_=>D.bl true) M r.1;have fk:uK (knD N L) (sy N r.1)=true:=nP (λp:Kn=>p.1) (λp=>p.2.2.2) L r.1;have hk:=NP hN hd hlt.1 L (λp hp=>(KL.lt p hp).2) λp hp=>by have:=KL.lt p hp;lia
 have hm:(cA (mkD N M) (sy N r.1)).isSome=true:=by
  have:=uE hN hd (λr:Rw=>r.1) (λ_=>D.bl true) M B.hM.nd (λr hr=>(B.hM.lt r hr).1) r hrM;show(cA (M.map λr:Rw=>(sy N r.1,D.bl true)) (sy N r.1)).isSome=true;rw[this];rfl
 unfold MN;rw[if_pos (by rw[fk,fm,decide_eq_true hl];rfl),hk];dsimp only;rw[hn];dsimp only;rw[if_pos (by rw[List.length_append];lia),if_pos hm,<-hp,List.take_left,List.drop_left,hz]
omit KL in
theorem aO7(hi:i<26)(h10:10<=i):cA (mkD N M) (sy N i)=none:=by
 have go:∀L:List Rw,(∀r∈L,r.1<10)->cA (mkD N L) (sy N i)=none:=by
  intro L;induction L with
  |nil=>intro _;rfl
  |cons r L ih=>
   intro h;have hr:=h r 0x2;show(if eqD (sy N r.1) (sy N i) then _ else cA (mkD N L) (sy N i))=_;rw[xG hN hd 0x1 hi,decide_eq_false 0x1,if_neg 0x2,ih λq hq=>h q (by simp[hq])]
 exact go _ λr hr=>(B.mi r hr).1
theorem aHr(ht:t∈T)(KA:aLo N M A)(hr:(t.1,mk,A.map (·.1),ws)∈R)(hv:xs++more=A.map λp=>p.2.2.2)(hml:more.length=t.2.2.2.length)(hws:∀j∈ws,j<26)(hwl:ws.length<=1000)(hpv:D.aJ (xs++more)=true)(hl:(more++st).length<=90000) :
  MN (hdD N (M++T.map tr)) (mkD N M) (rlD N R) m k (knD N L) (.tup [sy N mk,.tup xs,z]::(more++st)) (sy N t.1)=if tot (uG ws A k.call) > m then .err "Spent" [.exc "Spent" []] else .ok (st,some (ws.map (sy N),knD N A),uG ws A k.call):=by
 obtain⟨h4,h13,h2⟩:=B.ti t ht;have h26:t.1<26:=by lia
 have hg:=aEv hN hd B.hF (List.mem_append_right _ (List.mem_map.mpr ⟨t,ht,rfl⟩));have hn:tkN (hdD N (M++T.map tr)) (sy N t.1)=some (t.2.2.2.length+1):=by
  unfold tkN;rw[show getD (.dct (hdD N (M++T.map tr))) (sy N t.1)=_ from hg];show(if (D.aJ ((t.2.2.1::t.2.2.2).map (sy N))&&decide (((t.2.2.1::t.2.2.2).map (sy N)).length<=1000))=true then some ((t.2.2.1::t.2.2.2).map (sy N)).length else none)=_;rw[bL,List.length_map,List.length_cons,if_pos (by rw[decide_eq_true 0x1];rfl)]
 have fm:uK (mkD N M) (sy N t.1)=true:=nP (λr:Rw=>r.1) (λ_=>D.bl true) M t.1;have fk:uK (knD N L) (sy N t.1)=true:=nP (λp:Kn=>p.1) (λp=>p.2.2.2) L t.1;have hk:=NP hN hd h26 L (λp hp=>(KL.lt p hp).2) λp hp=>by have:=KL.lt p hp;lia
 have hru:=aLm hN hd B.hR hr;have hlen:xs.length+more.length=A.length:=by rw[<-List.length_append,hv,List.length_map]
 have hAl:=KA.ln;have px:D.aJ xs=true/\D.aJ more=true:=by
  rw[vM,Bool.and_eq_true] at hpv;exact hpv
 have hz:lH [.tup ((A.map (·.1)).map (sy N)),.lst (xs++more)]=.ok (.dct (knD N A)):=by
  have fl:((A.map (·.1)).map (sy N)).all gR=true:=by
   rw[List.all_eq_true];intro d hd';obtain⟨j,_,rfl⟩:=List.mem_map.mp hd';rfl
  show(if (decide (((A.map (·.1)).map (sy N)).length<=1000)&&decide ((xs++more).length=((A.map (·.1)).map (sy N)).length)&&((A.map (·.1)).map (sy N)).all gR&&D.aJ (xs++more))=true then Res.ok (D.dct (mV ((A.map (·.1)).map (sy N)) (xs++more) [])) else .bad)=_;rw[hpv,fl,if_pos (by rw[List.length_map,List.length_map,List.length_append,hlen,decide_eq_true (show A.length<=1000 by lia),decide_eq_true (show A.length=A.length from rfl)];rfl),hv,List.map_map];have:=aAm hN hd A [] KA.nd λp hp=>(KA.lt p hp).2
  exact congrArg (λz=>Res.ok (D.dct z)) this
 have hc:aB5 (rlD N R) m k (sy N t.1) (.tup [sy N mk,.tup xs,z]::more)=if tot (uG ws A k.call) > m then .err "Spent" [.exc "Spent" []] else .ok (ws.map (sy N),knD N A,uG ws A k.call):=by
  show(match getD (.dct (rlD N R)) (.tup [sy N t.1,sy N mk]) with|.ok (.tup [r0,r1,.tup own,.tup ws])=>_|_=>_)=_;rw[hru];show(if (decide (xs.length+more.length<=1000)&&(D.aJ xs&&(D.aJ more&&D.aJ (ws.map (sy N)))))=true then (match lH [.tup ((A.map (·.1)).map (sy N)),.lst (xs++more)] with|.ok (.dct kn)=>(match nZ (ws.map (sy N)) kn k.call with|some k'=>if k'.c+k'.p+k'.d > m then ZX else .ok (ws.map (sy N),kn,k')|none=>.bad)|_=>.bad) else .bad)=_;rw[px.1,px.2,bL,if_pos (by rw[decide_eq_true 0x1];rfl),hz];dsimp only;rw[aAl hN hd hws hwl A (λp hp=>(KA.lt p hp).2) KA.rd];rfl
 unfold MN;rw[if_pos (by rw[fk,fm,decide_eq_true (by rw[List.length_cons];lia)];rfl),hk];dsimp only;rw[hn];dsimp only;rw[if_pos (by rw[List.length_cons,List.length_append];lia),aO7 hN hd B h26 h4,if_neg 0x2,List.take_succ_cons,List.drop_succ_cons,<-hml,List.take_left,List.drop_left,hc];by_cases hgt:tot (uG ws A k.call) > m
 ·rw[if_pos hgt,if_pos hgt]
 ·rw[if_neg hgt,if_neg hgt]
end
noncomputable def wt1(L:List Kn)(x:Nat):Nat:=match L.find? (λp=>p.1==x) with
 |some p=>p.2.2.1.length
 |none=>1
def wgt(L:List Kn):List Nat->Nat
 |[]=>0
 |x::ws=>wt1 L x+wgt L ws
theorem aAn(L:List Kn):∀a b:List Nat,wgt L (a++b)=wgt L a+wgt L b
 |[],b=>by show wgt L b=0+wgt L b;lia
 |x::a,b=>by show wt1 L x+wgt L (a++b)=wt1 L x+wgt L a+wgt L b;rw[aAn L a b];lia
noncomputable def sl:List Kn->Nat
 |[]=>0
 |p::L=>p.2.2.1.length+sl L
noncomputable def cs'(ws:List Nat):List Kn->Nat
 |[]=>0
 |p::L=>ws.count p.1*p.2.2.1.length+cs' ws L
noncomputable def ux(ws:List Nat):List Kn->Nat
 |[]=>0
 |p::L=>(if ws.count p.1=0 then p.2.2.1.length else (ws.count p.1-1)*p.2.2.1.length)+ux ws L
theorem aAo(x:Nat)(ws:List Nat):∀L:List Kn,cs' ws L<=cs' (x::ws) L
 |[]=>Nat.le_refl _
 |p::L=>by
  have:=aAo x ws L;have h1:ws.count p.1<=(x::ws).count p.1:=by rw[List.count_cons];lia
  have:=Nat.mul_le_mul_right p.2.2.1.length h1;show ws.count p.1*p.2.2.1.length+cs' ws L<=(x::ws).count p.1*p.2.2.1.length+cs' (x::ws) L;lia
theorem aAp(x:Nat)(ws:List Nat):∀L:List Kn,wt1 L x+cs' ws L<=1+cs' (x::ws) L
 |[]=>Nat.le_refl _
 |p::L=>by
  unfold wt1;rw[List.find?_cons];show _+(ws.count p.1*p.2.2.1.length+cs' ws L)<=1+((x::ws).count p.1*p.2.2.1.length+cs' (x::ws) L);by_cases h:p.1=x
  ·rw[show(p.1==x)=true from beq_iff_eq.mpr h];have:=aAo x ws L;have e:(x::ws).count p.1=ws.count p.1+1:=by rw[List.count_cons,if_pos (beq_iff_eq.mpr h.symm)]
   rw[e,Nat.add_mul,Nat.one_mul];show p.2.2.1.length+_<=_;lia
  ·rw[show(p.1==x)=false from beq_eq_false_iff_ne.mpr h];have:=aAp x ws L;unfold wt1 at this;dsimp only;have h1:ws.count p.1<=(x::ws).count p.1:=by rw[List.count_cons];lia
   have:=Nat.mul_le_mul_right p.2.2.1.length h1;lia
theorem aEy(L:List Kn):∀ws:List Nat,wgt L ws<=ws.length+cs' ws L
 |[]=>Nat.zero_le _
 |x::ws=>by
  have:=aEy L ws;have:=aAp x ws L;show wt1 L x+wgt L ws<=(ws.length+1)+cs' (x::ws) L;lia
theorem aLq(ws:List Nat):∀L:List Kn,cs' ws L<=sl L+ux ws L
 |[]=>Nat.zero_le _
 |p::L=>by
  have:=aLq ws L;show ws.count p.1*p.2.2.1.length+cs' ws L<=p.2.2.1.length+sl L+((if ws.count p.1=0 then p.2.2.1.length else (ws.count p.1-1)*p.2.2.1.length)+ux ws L);by_cases h:ws.count p.1=0
  ·rw[if_pos h,h,Nat.zero_mul];lia
  ·rw[if_neg h];have e:ws.count p.1*p.2.2.1.length=(ws.count p.1-1)*p.2.2.1.length+p.2.2.1.length:=by
    conv=>lhs;rw[show ws.count p.1=(ws.count p.1-1)+1 by lia]
    rw[Nat.add_mul,Nat.one_mul]
   lia
structure NN(q:Cn):Prop where
 c:0<=q.c
 p:0<=q.p
 d:0<=q.d
theorem RX(ws:List Nat):∀(L:List Kn)(c:Cn),NN c->NN (uG ws L c)/\tot (uG ws L c)=tot c+(ux ws L:Nat)
 |[],c,h=>⟨h,by show tot c=tot c+((0:Nat):Int);lia⟩
 |p::L,c,h=>by
  have key:NN (c.use (ws.count p.1) (p.2.2.1.length:Int))/\tot (c.use (ws.count p.1) (p.2.2.1.length:Int))=tot c+((if ws.count p.1=0 then p.2.2.1.length else (ws.count p.1-1)*p.2.2.1.length:Nat):Int):=by
   unfold Cn.use;by_cases hz:ws.count p.1=0
   ·rw[if_pos (by rw[hz];rfl),if_pos hz];refine⟨⟨h.c,h.p,?_⟩,?_⟩
    ·show 0<=c.d+(p.2.2.1.length:Int);have:=h.d;lia
    ·show c.c+c.p+(c.d+(p.2.2.1.length:Int))=c.c+c.p+c.d+(p.2.2.1.length:Int);lia
   ·rw[if_neg 0x1,if_neg hz];have e:((ws.count p.1:Int)-1)*(p.2.2.1.length:Int)=(((ws.count p.1-1)*p.2.2.1.length:Nat):Int):=by
     rw[Int.natCast_mul,Int.natCast_sub 0x1];rfl
    rw[e];generalize (ws.count p.1-1)*p.2.2.1.length=q;refine⟨⟨h.c,?_,h.d⟩,?_⟩
    ·show 0<=c.p+(q:Int);have:=h.p;lia
    ·show c.c+(c.p+(q:Int))+c.d=c.c+c.p+c.d+(q:Int);lia
  obtain⟨g1,g2⟩:=RX ws L _ key.1;refine⟨g1,?_⟩;show tot (uG ws L (c.use (ws.count p.1) (p.2.2.1.length:Int)))=tot c+(((if ws.count p.1=0 then p.2.2.1.length else (ws.count p.1-1)*p.2.2.1.length)+ux ws L:Nat):Int);rw[g2,key.2];lia
inductive Ef(H:List Rw):List Nat->List Nat->List Nat->Prop
 |nil {S:List Nat}:Ef H [] S S
 |step {r:Rw} {ws S S':List Nat}:r∈H->Ef H ws (r.2.1::S) S'->Ef H (r.1::ws) (r.2.2++S) S'
def Ef.trans(h:Ef H a S S1)(h2:Ef H b S1 S2):Ef H (a++b) S S2:=by
 induction h with
 |nil=>exact h2
 |step hr h ih=>exact .step hr (ih h2)
def aEz(h:Run H ks w)(S:List Nat):Ef H w.reverse S (ks++S):=by
 induction h with
 |nil=>exact .nil
 |@step r rest W hr h ih=>
  rw[List.reverse_cons];rw[List.append_assoc] at ih;exact ih.trans (.step hr .nil)
theorem aAq:∀{ks W:List Nat}{vs:List D},Rd N M ks W vs->∃Q:List (Nat×List Nat×D),Q.map (·.1)=ks/\Q.map (·.2.2)=vs/\(∀q∈Q,Rd N M [q.1] q.2.1 [q.2.2])/\(Q.map (·.2.1.length)).sum=W.length
 |[],W,vs,h=>by
  cases h;exact⟨[],rfl,rfl,λq hq=>(by cases hq),rfl⟩
 |k::ks,W,vs,h=>by
  obtain⟨W1,W2,v1,v2,rfl,rfl,g1,g2⟩:=Rd.split W.length (a:=[k]) (Nat.le_refl _) h;obtain⟨Q,q1,q2,q3,q4⟩:=aAq g2;have l1:=g1.len
  match v1,l1 with
  |[v],_=>
   refine⟨(k,W1,v)::Q,by rw[List.map_cons,q1],by rw[List.map_cons,q2];rfl,λq hq=>?_,by rw[List.map_cons,List.sum_cons,q4,List.length_append]⟩;rcases List.mem_cons.mp hq with rfl|hq
   ·exact g1
   ·exact q3 q hq
theorem aF0:∀(own:List Nat)(Q:List (Nat×List Nat×D)),own.length=Q.length->sl (own.zip Q)=(Q.map (·.2.1.length)).sum
 |[],[],_=>rfl
 |[],_::_,h=>by simp at h
 |_::_,[],h=>by simp at h
 |o::own,q::Q,h=>by
  rw[List.length_cons,List.length_cons] at h;show q.2.1.length+sl (own.zip Q)=_;rw[aF0 own Q 0x1,List.map_cons,List.sum_cons]
theorem aF1:∀(own:List Nat)(Q:List (Nat×List Nat×D)),kr (own.zip Q)=(own.zip (Q.map (·.1))).map λp=>(p.1,p.2,[])
 |[],_=>rfl
 |_::_,[]=>rfl
 |o::own,q::Q=>by
  show(o,q.1,[])::kr (own.zip Q)=_;rw[aF1 own Q];rfl
inductive Cf(N:List Str)(M:List Rw)(T:List Tk)(k0:Nat):List Fr->List Nat->Nat->Nat->Prop
 |nil:Cf N M T k0 [] [k0] 0 0
 |cons {w:List Nat} {i:Nat} {L:List Kn} {S S1:List Nat} {r:List Fr} {ρ μ:Nat}:i<=w.length->aLo N M L->Ef (kr L++(M++T.map tr)) (w.take i).reverse S S1->Cf N M T k0 r S1 ρ μ->Cf N M T k0 (⟨w.map (sy N),i,knD N L⟩::r) S (wgt L (w.take i)+ρ) (i+1+μ)
def Cf.fr(h:Cf N M T k0 fs S ρ μ):fs.length<=μ:=by
 induction h with
 |nil=>exact Nat.le_refl _
 |cons _ _ _ _ ih=>rw[List.length_cons];lia
def cut(m:Int):Res (List D×Cn)->Res (List D×Cn)
 |.ok (st,c)=>if tot c<=m then .ok (st,c) else spn
 |r=>r
def Good(N:List Str)(M:List Rw)(k0:Nat)(m:Int)(c:Cn)(r:Res (List D×Cn)):Prop:=r=spn\/∃v W c',r=.ok ([v],c')/\Rd N M [k0] W [v]/\W.length<=3000/\NN c'/\tot c<=tot c'/\tot c'<=m
def Good.mono(h:tot c<=tot c1)(g:Good N M k0 m c1 r):Good N M k0 m c r:=by
 rcases g with g|⟨v,W,c',g1,g2,g3,g4,g5,g6⟩
 ·exact .inl g
 ·exact .inr ⟨v,W,c',g1,g2,g3,g4,by lia,g6⟩
def aDh{w:List Nat}(h:w[i]?=some x):(w.take (i+1)).reverse=x::(w.take i).reverse:=by
 rw[List.take_add_one,h];simp
def aDi{w:List Nat}(h:w[i]?=some x):wgt L (w.take (i+1))=wgt L (w.take i)+wt1 L x:=by
 rw[List.take_add_one,h,aAn];rfl
def aO8(nd:(L.map (·.1)).Nodup)(hp:p∈L):wt1 L p.1=p.2.2.1.length:=by
 unfold wt1;have:L.find? (λq=>q.1==p.1)=some p:=by
  induction L with
  |nil=>cases hp
  |cons q L ih=>
   rw[List.map_cons,List.nodup_cons] at nd;rw[List.find?_cons];rcases List.mem_cons.mp hp with rfl|hp
   ·rw[beq_self_eq_true]
   ·have:q.1≠p.1:=λz=>nd.1 (z▸List.mem_map_of_mem hp)
    rw[show(q.1==p.1)=false from beq_eq_false_iff_ne.mpr this];exact ih nd.2 hp
 rw[this]
def aLr(h:∀p∈L,p.1≠x):wt1 L x=1:=by
 unfold wt1;have:L.find? (λq=>q.1==x)=none:=by
  rw[List.find?_eq_none];intro q hq;rw[beq_eq_false_iff_ne.mpr (h q hq)];simp
 rw[this]
section
variable {N:List Str} (hN:N.length=26) (hd:N.Nodup) {M:List Rw} {T:List Tk} {R:List Ru} (B:Tab M T R) {m:Int} (hm:m<=400) {k0:Nat}
omit hN hd in
def JT{w:List Nat}{kn:List (D×D)}{r:List Fr}{st st':List D}{c:Cn}{x:Nat}(hx:w[i]?=some x)(hr:r.length<900000)(h:MN hdd mk rl m c kn st (sy N x)=.ok (st',none,c))(hp:D.aJ st'=true):Mi.runN hdd mk rl m (n+1) (⟨w.map (sy N),i+1,kn⟩::r) st c=Mi.runN hdd mk rl m n (⟨w.map (sy N),i,kn⟩::r) st' c:=by
 have hw:(w.map (sy N))[i]?=some (sy N x):=by rw[List.getElem?_map,hx];rfl
 rw[Mi.runN,hw];dsimp only;rw[if_pos (decide_eq_true hr),h];dsimp only;rw[if_pos hp]
omit hN hd in
def aDj{w ws:List Nat}{kn kn':List (D×D)}{r:List Fr}{st st':List D}{c c':Cn}{x:Nat}(hx:w[i]?=some x)(hr:r.length<900000)(h:MN hdd mk rl m c kn st (sy N x)=if tot c' > m then .err "Spent" [.exc "Spent" []] else .ok (st',some (ws.map (sy N),kn'),c'))(hp:D.aJ st'=true):Mi.runN hdd mk rl m (n+1) (⟨w.map (sy N),i+1,kn⟩::r) st c=if tot c' > m then spn else Mi.runN hdd mk rl m n (⟨ws.map (sy N),ws.length,kn'⟩::⟨w.map (sy N),i,kn⟩::r) st' c':=by
 have hw:(w.map (sy N))[i]?=some (sy N x):=by rw[List.getElem?_map,hx];rfl
 rw[Mi.runN,hw];dsimp only;rw[if_pos (decide_eq_true hr),h];by_cases hg:tot c' > m
 ·rw[if_pos hg,if_pos hg]
 ·rw[if_neg hg,if_neg hg];dsimp only;rw[if_pos hp,List.length_map]
include hN hd B hm
theorem oG:∀(n:Nat){m':Int}{fs:List Fr}{S:List Nat}{ρ μ:Nat}{W:List Nat}{st:List D}{c:Cn},m'<=m->Cf N M T k0 fs S ρ μ->Rd N M S W st->NN c->tot c<=m'->((W.length+ρ:Nat):Int)<=400+6*tot c->8*(m-tot c)+(μ:Int)<=n->n<=100000->
  ∃r,Good N M k0 m c r/\Mi.runN (hdD N (M++T.map tr)) (mkD N M) (rlD N R) m (n+1) fs st c=r/\Mi.runN (hdD N (M++T.map tr)) (mkD N M) (rlD N R) m' (n+1) fs st c=cut m' r
 |n,m',_,_,_,_,W,st,c,hmm,.nil,hW,hc,ht,hb,hn,hn2=>by
  have l:=hW.len
  match st,l with
  |[v],_=>
   refine⟨.ok ([v],c),.inr ⟨v,W,c,rfl,hW,by lia,hc,Int.le_refl _,by lia⟩,rfl,?_⟩;show _=if tot c<=m' then _ else _
   rw[if_pos ht];rfl
 |0,m',_,_,_,_,W,st,c,hmm,.cons _ _ _ _,hW,hc,ht,hb,hn,hn2=>by lia
 |n+1,m',_,_,_,_,W,st,c,hmm,.cons (w:=w) (i:=0) (L:=L) (S1:=S1) (r:=fr) (ρ:=ρ) (μ:=μ) hi KL ef cf,hW,hc,ht,hb,hn,hn2=>by
  cases ef;have hw0:wgt L (w.take 0)=0:=rfl;obtain⟨r,g1,g2,g3⟩:=oG n hmm cf hW hc ht 0x1 0x1 0x1;exact⟨r,g1,g2,g3⟩
 |n+1,m',_,S,_,_,W,st,c,hmm,.cons (w:=w) (i:=i+1) (L:=L) (S1:=S1) (r:=fr) (ρ:=ρ) (μ:=μ) hi KL ef cf,hW,hc,ht,hb,hn,hn2=>by
  have hx:w[i]?=some w[i]:=List.getElem?_eq_getElem 0x1;generalize w[i]=x at hx;rw[aDh hx] at ef;rw[aDi hx] at hb;have hfr:=cf.fr;have hfl:fr.length<900000:=by lia
  have hbw:W.length<=9000:=by lia
  have hsl:st.length<=W.length:=by
   have h1:=hW.len;have h2:∀{ks w:List Nat},Run M ks w->ks.length<=w.length:=λh=>by
    induction h with
    |nil=>exact Nat.le_refl _
    |step hr _ ih=>rw[List.length_append] at ih;rw[List.length_cons,List.length_cons];lia
   have:=h2 hW.run;lia
  generalize hR:(w.take i).reverse=rest at ef;cases ef with
  |@step r0 _ S' _ hr0 ef=>
   rcases List.mem_append.mp hr0 with hk|hk
   ·-- a name
    obtain⟨p,hp,rfl⟩:=List.mem_map.mp hk;have hrd:=KL.rd p hp;have hW2:Rd N M (p.2.1::S') (p.2.2.1++W) (p.2.2.2::st):=hrd.app (show Rd N M S' W st from hW);have hwt:wt1 L ((p.1,p.2.1,[]):Rw).1=p.2.2.1.length:=aO8 KL.nd hp;rw[hwt] at hb;have hlen:(p.2.2.1++W).length=p.2.2.1.length+W.length:=List.length_append ..;obtain⟨r,g1,g2,g3⟩:=oG n hmm (.cons (w:=w) (i:=i) 0x1 KL (by rw[hR];exact ef) cf) hW2 hc ht 0x1 0x1 0x1;have pp:=hW2.pure;refine⟨r,g1,?_,?_⟩
    ·exact(JT (N:=N) hx hfl (aLp hN hd B KL hp 0x1) pp).trans g2
    ·exact(JT (N:=N) hx hfl (aLp hN hd B KL hp 0x1) pp).trans g3
   ·rcases List.mem_append.mp hk with hk|hk
    ·-- a maker
     have hx10:=(B.mi r0 hk).1;have l:=hW.len;rw[List.length_append] at l;have hpl:(st.take r0.2.2.length).length=r0.2.2.length:=by rw[List.length_take];lia
     have est:st=st.take r0.2.2.length++st.drop r0.2.2.length:=(List.take_append_drop ..).symm;generalize st.take r0.2.2.length=ps at hpl est;generalize st.drop r0.2.2.length=st2 at est;subst est;have hz:=Rd.sum W.length (Nat.le_refl _) hW hbw ps st2 rfl;have hW2:Rd N M (r0.2.1::S') (r0.1::W) (.tup [sy N r0.1,.tup ps,.int (1+szs ps)]::st2):=.step hk hpl hW;have hwt:wt1 L r0.1=1:=aLr λp hp=>by have:=KL.lt p hp;lia
     have hlen:(r0.1::W).length=W.length+1:=rfl;obtain⟨r,g1,g2,g3⟩:=oG n hmm (.cons (w:=w) (i:=i) 0x1 KL (by rw[hR];exact ef) cf) hW2 hc ht 0x1 0x1 0x1;have pp:=hW2.pure;refine⟨r,g1,?_,?_⟩
     ·exact(JT (N:=N) hx hfl (aHq hN hd B KL hk hpl hz 0x1) pp).trans g2
     ·exact(JT (N:=N) hx hfl (aHq hN hd B KL hk hpl hz 0x1) pp).trans g3
    ·-- a call
     obtain⟨t,htT,rfl⟩:=List.mem_map.mp hk;obtain⟨ht10,ht13,_⟩:=B.ti t htT;have hW':Rd N M ([t.2.2.1]++(t.2.2.2++S')) W st:=hW;obtain⟨W0,W3,v0,st3,eW,eS,r1,r3⟩:=Rd.split W.length (Nat.le_refl _) hW';obtain⟨W1,W2,more,st2,eW3,eS3,r2,rS⟩:=Rd.split W3.length (Nat.le_refl _) r3;subst eS eS3 eW eW3;have l1:=r1.len
     match v0,l1,r1 with
     |[v],_,r1=>
      obtain⟨r0,xs,W0',hr0,hk0,eW0,ev,rx⟩:=r1.one;subst eW0 ev;obtain⟨own,ws,hru,hol,hon,hoi,hwl,hw26,hrun⟩:=B.ru t htT r0 hr0 hk0;obtain⟨Q,q1,q2,q3,q4⟩:=aAq (rx.app r2);have hQl:own.length=Q.length:=by
       have:=congrArg List.length q1;rw[List.length_map,List.length_append] at this;lia
      have eA1:(own.zip Q).map (·.1)=own:=by rw[List.map_fst_zip 0x1]
      have eA2:(own.zip Q).map (·.2)=Q:=by rw[List.map_snd_zip 0x1]
      have KA:aLo N M (own.zip Q):=by
       refine⟨by rw[eA1];exact hon,λp hp=>hoi p.1 (by rw[<-eA1];exact List.mem_map_of_mem (f:=(·.1)) hp),λp hp=>q3 p.2 (by rw[<-eA2];exact List.mem_map_of_mem (f:=(·.2)) hp),?_⟩;have:=(B.mi r0 hr0).2;rw[List.length_zip];have:=(B.ti t htT).2.2;lia
      have hv:xs++more=(own.zip Q).map λp=>p.2.2.2:=by
       rw[<-q2]
       conv=>lhs;rw[<-eA2]
       rw[List.map_map];rfl
      have hml:more.length=t.2.2.2.length:=r2.len;have hpv:D.aJ (xs++more)=true:=(rx.app r2).pure;have hslA:=aF0 own Q hQl;rw[q4,List.length_append] at hslA;have hkr:=aF1 own Q;rw[q1] at hkr;rw[<-hkr] at hrun;have hef:=aEz hrun S';have hNc:NN c.call:=⟨by show 0<=c.c+1;have:=hc.c;lia,hc.p,hc.d⟩
      have htc:tot c.call=tot c+1:=by show c.c+1+c.p+c.d=c.c+c.p+c.d+1;lia
      obtain⟨u1,u2⟩:=RX ws (own.zip Q) c.call hNc;generalize hcc:uG ws (own.zip Q) c.call=c' at u1 u2;have hwg:=aEy (own.zip Q) ws;have hcu:=aLq ws (own.zip Q);have hwt:wt1 L t.1=1:=aLr λp hp=>by have:=KL.lt p hp;lia
      have hcf:Cf N M T k0 (⟨ws.map (sy N),ws.length,knD N (own.zip Q)⟩::⟨w.map (sy N),i,knD N L⟩::fr) S' (wgt (own.zip Q) (ws.take ws.length)+(wgt L (w.take i)+ρ)) (ws.length+1+(i+1+μ)):=
       .cons (Nat.le_refl _) KA (by rw[List.take_of_length_le (Nat.le_refl _)];exact hef) (.cons 0x1 KL (by rw[hR];exact ef) cf)
      rw[List.take_of_length_le (Nat.le_refl _)] at hcf;have hLw:((r0.1::W0')++(W1++W2)).length=W0'.length+1+(W1.length+W2.length):=by rw[List.length_append,List.length_append,List.length_cons]
      rw[hLw] at hb hbw hsl;have hsl':(more++st2).length<=90000:=by rw[List.length_append] at hsl ⊢;rw[List.length_append] at hsl;lia
      have hwt':wt1 L (tr t).1=1:=hwt;rw[hwt'] at hb;have step:∀mm:Int,Mi.runN (hdD N (M++T.map tr)) (mkD N M) (rlD N R) mm (n+1+1) (⟨w.map (sy N),i+1,knD N L⟩::fr) ([.tup [sy N r0.1,.tup xs,.int (1+szs xs)]]++(more++st2)) c=if tot c' > mm then spn else Mi.runN (hdD N (M++T.map tr)) (mkD N M) (rlD N R) mm (n+1) (⟨ws.map (sy N),ws.length,knD N (own.zip Q)⟩::⟨w.map (sy N),i,knD N L⟩::fr) st2 c':=λmm=>by
       have tkc:=aHr hN hd B KL (m:=mm) (st:=st2) (k:=c) (xs:=xs) (more:=more) (z:=.int (1+szs xs)) (ws:=ws) (mk:=r0.1) htT KA (by rw[eA1];exact hru) hv hml hw26 0x1 hpv hsl';rw[hcc] at tkc;exact aDj (N:=N) hx hfl tkc rS.pure
      by_cases h1:tot c' > m
      ·refine⟨spn,.inl rfl,?_,?_⟩
       ·rw[step,if_pos h1]
       ·rw[step,if_pos 0x1];rfl
      ·by_cases h2:tot c' > m'
       ·obtain⟨r,g1,g2,_⟩:=oG n (Int.le_refl m) hcf rS u1 0x1 0x1 0x1 0x1;refine⟨r,g1.mono 0x1,?_,?_⟩
        ·rw[step,if_neg h1];exact g2
        ·rw[step,if_pos h2];rcases g1 with g1|⟨v,W,c2,g1,_,_,_,g5,_⟩
         ·rw[g1];rfl
         ·rw[g1];show spn=if tot c2<=m' then _ else spn
          rw[if_neg 0x1]
       ·obtain⟨r,g1,g2,g3⟩:=oG n hmm hcf rS u1 0x1 0x1 0x1 0x1;refine⟨r,g1.mono 0x1,?_,?_⟩
        ·rw[step,if_neg h1];exact g2
        ·rw[step,if_neg h2];exact g3
end
def oc:FT:=(bTr eY)
def ob:FS:=bB (G7 2 3) (bB (zL 1 (b2 getD c7 cG)) (aC9 2 (b1 aB3 (b2 getD c7 cP))))
def aO9:yQ=bB (bW true 1 (gM aQ) true) (bB (bW true 2 (gM (aB (bPu nJ) aQ)) true) (bB (aMh oc ob) (nU (aV cX (aB fD aQ)) false))):=rfl
def aLs(l:List D):oc [a,b,.lst l,x]=.ok (!l.isEmpty):=rfl
def aAr(h:Run M ks w):ks.length<=w.length:=by
 induction h with
 |nil=>exact Nat.le_refl _
 |step hr _ ih=>rw[List.length_append] at ih;rw[List.length_cons,List.length_cons];lia
def aHs(h:Rd N M ks W vs):∀(pre:List D)(fuel:Nat)(x:D),W.length<fuel->pre.length+W.length<=9000->∃x',TX oc ob fuel [y,.lst pre,.lst vs.reverse,x]=.ok (.nx [y,.lst (pre++W.map (sy N)),.lst [],x']):=by
 induction h with
 |nil=>
  intro pre fuel x hf _;obtain⟨n,rfl⟩:∃n,fuel=n+1:=⟨fuel-1,by simp at hf;lia⟩
  refine⟨x,?_⟩;rw[List.map_nil,List.append_nil];exact aAc (aLs [])
 |@step r ks W ps vs hr hl h ih=>
  intro pre fuel x hf hp;rw[List.length_cons] at hf hp;obtain⟨n,rfl⟩:∃n,fuel=n+1:=⟨fuel-1,by lia⟩
  generalize hv:D.tup [sy N r.1,.tup ps,.int (1+szs ps)]=v;obtain⟨x',hx⟩:=ih (pre++[sy N r.1]) n v 0x1 (by rw[List.length_append,List.length_singleton];lia);have h1:=h.len;have h2:=aAr h.run;rw[List.length_append] at h1;have hps:D.aJ ps=true:=by
   have:=h.pure;rw[vM,Bool.and_eq_true] at this;exact this.1
  have hpr:D.aJ ps.reverse=true:=by
   refine o_ λp hp=>?_
   replace hp:=List.mem_reverse.mp hp;clear hx hv ih h1 h2 h hl;induction ps with
   |nil=>cases hp
   |cons q ps ih=>
    rw[D.aJ,Bool.and_eq_true] at hps;rcases List.mem_cons.mp hp with rfl|hp
    ·exact hps.1
    ·exact ih hps.2 hp
  refine⟨x',?_⟩;refine RJ (ρ':=[y,.lst (pre++[sy N r.1]),.lst (vs.reverse++ps.reverse),v]) ((aLs _).trans 0x2) ?_ ?_
  ·subst hv;refine aM (aAd (xs:=vs.reverse) (x:=.tup [sy N r.1,.tup ps,.int (1+szs ps)]) (by rw[List.reverse_cons];rfl) rfl) ?_;refine aM (ρ':=[y,.lst (pre++[sy N r.1]),.lst vs.reverse,.tup [sy N r.1,.tup ps,.int (1+szs ps)]]) (uO (d:=sy N r.1) (aK rfl rfl rfl) rfl (by rw[bF];lia) rfl) ?_;refine aAe (ys:=ps.reverse) (xH (x:=.tup ps) (aK rfl rfl rfl) ?_) rfl (by rw[List.length_reverse,List.length_reverse];lia) hpr;show(if D.aJ ps&&decide (ps.length<=lim) then Res.ok (D.lst ps.reverse) else .bad)=_;rw[if_pos (by rw[hps,Bool.true_and];exact decide_eq_true (by rw[bF];lia))]
  ·rw[<-List.reverse_append,hx,List.append_assoc];rfl
def xK(h:Rd N M [k] W [v])(hw:W.length<=8900):jA [v]=.ok (.tup (W.map (sy N))):=by
 have hv:v.pure=true:=by
  have:=h.pure;rw[D.aJ,Bool.and_eq_true] at this;exact this.1
 obtain⟨x',hx⟩:=aHs (y:=v) h [] 9000 .uD 0x1 (by simp;lia);obtain⟨r,ps,W',_,_,_,ev,_⟩:=h.one;refine call_v (m:=4) (n:=1) (d:=.tup (W.map (sy N))) ?_;rw[aO9];refine aM (ρ':=[v,.lst [],.uD,.uD]) rfl ?_;refine aM (ρ':=[v,.lst [],.lst [v],.uD]) (fK (i:=2) ?_ ?_) ?_
 ·subst ev;have e1:bPu nJ [D.tup [sy N r.1,.tup ps,.int (1+szs ps)],.lst [],.uD,.uD]=.ok (D.tup [sy N r.1,.tup ps,.int (1+szs ps)]):=NB rfl hv;unfold gM;rw[aD (xs:=[]) (b:=aQ) e1 rfl,Res.aO,if_pos (by rw[bF];rfl)];rfl
 ·show(v.pure&&true)=true;rw[hv];rfl
 refine aM hx ?_;exact wG (d:=.tup (W.map (sy N))) (bO (aD rfl rfl) rfl) (by rw[D.pure,bL];rfl)
section
variable {N:List Str} (hN:N.length=26) (hd:N.Nodup) {M:List Rw} {T:List Tk} {R:List Ru} (B:Tab M T R) {m:Int} (hm:m<=400) {k0:Nat} {ks:List Nat}
noncomputable abbrev aMm:Res D:=.err "Spent" [.exc "Spent" []]
def wD(N:List Str)(W:List Nat)(c:Cn):D:=.tup [.tup (W.map (sy N)),.int c.c,.int c.p,.int c.d]
include hN hd B hm
theorem aAs(hr:Run (M++T.map tr) [k0] W0)(hl:W0.length<=400)(h0:0<=m):∃r,Good N M k0 m ⟨0,0,0⟩ r/\∀m',0<=m'->m'<=m->∃n,Mi.runN (hdD N (M++T.map tr)) (mkD N M) (rlD N R) m' n [⟨W0.map (sy N),(W0.map (sy N)).length,[]⟩] [] ⟨0,0,0⟩=cut m' r:=by
 have ef:=aEz hr [];rw[List.append_nil] at ef;have hw:∀ws:List Nat,wgt [] ws=ws.length:=by
  intro ws;induction ws with
  |nil=>rfl
  |cons x ws ih=>show 1+wgt [] ws=ws.length+1;lia
 have cf:Cf N M T k0 [⟨W0.map (sy N),W0.length,knD N []⟩] [] (wgt [] (W0.take W0.length)+0) (W0.length+1+0):=
  .cons (Nat.le_refl _) ⟨List.nodup_nil,λp hp=>(by cases hp),λp hp=>(by cases hp),by decide⟩ (by rw[List.take_of_length_le (Nat.le_refl _)];exact ef) .nil
 rw[List.take_of_length_le (Nat.le_refl _),hw] at cf;have nn:NN ⟨0,0,0⟩:=⟨Int.le_refl _,Int.le_refl _,Int.le_refl _⟩
 have t0:tot ⟨0,0,0⟩=0:=rfl;obtain⟨r,g1,g2,g3⟩:=oG hN hd B hm 10000 (Int.le_refl m) cf .nil nn 0x1 (by rw[List.length_nil];lia) 0x1 0x4;refine⟨r,g1,λm' hm0 hmm=>?_⟩;obtain⟨r',g1',g2',g3'⟩:=oG hN hd B hm 10000 hmm cf .nil nn 0x1 (by rw[List.length_nil];lia) 0x1 0x4;rw[g2] at g2';subst g2';exact⟨10000+1,by rw[List.length_map];exact g3'⟩
theorem aAt(hr:Run (M++T.map tr) [k0] W0)(hl:W0.length<=400)(h0:0<=m):(∀m',0<=m'->m'<=m->eG [jZ N ks M T R,.tup (W0.map (sy N)),.int m']=aMm)\/
  ∃W c,Run M [k0] W/\W.length<=3000/\NN c/\tot c<=m/\∀m',0<=m'->m'<=m->eG [jZ N ks M T R,.tup (W0.map (sy N)),.int m']=if tot c<=m' then .ok (wD N W c) else aMm:=by
 obtain⟨r,g,h⟩:=aAs hN hd B hm hr hl h0;have er:∀m',0<=m'->m'<=m->cut m' r=spn->eG [jZ N ks M T R,.tup (W0.map (sy N)),.int m']=aMm:=λm' hm0 hmm e=>by
  obtain⟨n,hn⟩:=h m' hm0 hmm;rw[e] at hn;have:=MP hn 0x7;exact aAj hN hd B.hF B.hM B.hR this
 rcases g with rfl|⟨v,W,c,rfl,g2,g3,g4,g5,g6⟩
 ·exact .inl λm' hm0 hmm=>er m' hm0 hmm rfl
 ·refine .inr ⟨W,c,g2.run,g3,g4,g6,λm' hm0 hmm=>?_⟩;by_cases hz:tot c<=m'
  ·rw[if_pos hz];obtain⟨n,hn⟩:=h m' hm0 hmm;rw[show cut m' (.ok ([v],c))=.ok ([v],c) from if_pos hz] at hn;have:=MP hn 0x7;exact RW hN hd B.hF B.hM B.hR this (xK g2 0x1) (by rw[D.pure,bL])
  ·rw[if_neg hz];exact er m' hm0 hmm (if_neg hz)
end
section
variable {N:List Str} (hN:N.length=26) (hd:N.Nodup) {M:List Rw} {T:List Tk} {R:List Ru} (B:Tab M T R) {m:Int} {k0:Nat} {ks:List Nat}
include hN hd B
theorem aLt(h:Rd N M ks U vs):U.length<=3000->∀(P:List Nat)(n:Nat),Mi.runN (hdD N (M++T.map tr)) (mkD N M) (rlD N R) m (n+U.length) [⟨(P++U).map (sy N),(P++U).length,knD N []⟩] [] c=Mi.runN (hdD N (M++T.map tr)) (mkD N M) (rlD N R) m n [⟨(P++U).map (sy N),P.length,knD N []⟩] vs c:=by
 have KL:aLo N M []:=⟨List.nodup_nil,λp hp=>(by cases hp),λp hp=>(by cases hp),by decide⟩
 induction h with
 |nil=>intro _ P n;rw[List.append_nil];rfl
 |@step r ks U ps vs hr hp h ih=>
  intro hl P n;rw[List.length_cons] at hl;have e:=ih 0x1 (P++[r.1]) (n+1);rw[List.append_assoc,List.singleton_append] at e;rw[List.length_cons,show n+(U.length+1)=n+1+U.length by lia,e,List.length_append,List.length_singleton];have hl2:=h.len;have hl3:=aAr h.run;exact JT (by rw[List.getElem?_append_right (Nat.le_refl _),Nat.sub_self];rfl) 0x4 (aHq hN hd B KL hr hp (Rd.sum U.length (Nat.le_refl _) h 0x1 ps vs rfl) 0x1) (Rd.step hr hp h).pure
theorem U9(hr:Run M [k0] W)(hl:W.length<=3000):eG [jZ N ks M T R,.tup (W.map (sy N)),.int m]=.ok (wD N W ⟨0,0,0⟩):=by
 obtain⟨vs,h⟩:=aBk (N:=N) hr;have l:=h.len
 match vs,l with
 |[v],_=>
  have e:=aLt hN hd B (m:=m) (c:=⟨0,0,0⟩) h hl [] 2;have e2:Mi.runN (hdD N (M++T.map tr)) (mkD N M) (rlD N R) m (2+W.length) [⟨W.map (sy N),(W.map (sy N)).length,[]⟩] [] ⟨0,0,0⟩=.ok ([v],⟨0,0,0⟩):=by
   rw[List.length_map];exact e
  have:=MP e2 0x7;exact RW hN hd B.hF B.hM B.hR this (xK h 0x1) (by rw[D.pure,bL])
end
def stD(N:List Str)(F:List Rw):List (D×D):=F.map λr=>(sy N r.1,rwD N r)
def iv1:FS:=(W8 3 (b2 getD d7 cG) d7)
def iv2:FS:=(bB (sIf (bOr (VB (bTr (b1 (xQ .str) jR))) (bOr (bTB (b2 (eX .notin) jR c7)) (bTB (b2 (eX .eq) mC (gM aQ))))) (nU (bC (.bl false)) true) mF) (bB (aGl (xTB (x2L (eX .ne) (T7 5) (b2 getD (b2 getD c7 jR) cP))) (nU (bC (.bl false)) true) mF) (aC9 5 (b1 aB3 (b2 getD (b2 getD c7 jR) iW)))))
def aOa:jM=bB (sIf (VB (bTr (b1 (xQ .tuple) nJ))) (nU (bC (.bl false)) true) mF) (bB (bW true 3 (bC (.dct [])) true) (bB (uV 2 (tg1 4) iv1) (bB (bW true 5 (gM (aB (bPu fD) aQ)) true) (bB (uV 0 (tg1 6) iv2) (nU (b2 (eX .eq) mC (gM aQ)) true))))):=rfl
def aLu(h:ρ.getD i .uD=.lst (xs++[x]))(he:ρ.set i (.lst xs)=ρ'):T7 i ρ=.ok (x,ρ'):=by
 subst he;unfold T7;rw[h];dsimp only;rw[List.length_append,List.length_singleton,Nat.add_sub_cancel,List.getElem?_append_right (Nat.le_refl _),Nat.sub_self,List.dropLast_concat];rfl
section
variable {N:List Str} (hN:N.length=26) (hd:N.Nodup)
include hN hd
theorem aAu(hF:Hds F)(hr:r∈F):cA (stD N F) (sy N r.1)=some (rwD N r):=uE hN hd (λr:Rw=>r.1) (rwD N) F hF.nd (λr hr=>(hF.lt r hr).1) r hr
theorem aF2(hF:Hds F)(hr:r∈F):getD (.dct (stD N F)) (sy N r.1)=.ok (rwD N r):=by
 show(if true then Res.ofOpt (cA (stD N F) (sy N r.1)) else .bad)=_;rw[aAu hN hd hF hr];rfl
theorem aAv:∀(M L:List Rw),((L++M).map (·.1)).Nodup->(∀r∈L++M,r.1<26)->L.length+M.length<=1000->∀d:D,∃d',vA (tg1 4) iv1 (M.map (rwD N)) [a,b,c,.dct (stD N L),d,e,f]=.ok (.nx [a,b,c,.dct (stD N (L++M)),d',e,f])
 |[],L,_,_,_,d=>⟨d,by rw[List.append_nil];rfl⟩
 |r::M,L,h1,h2,h3,d=>by
  have hr:r.1<26:=h2 r 0x2;have hn:r.1∉L.map (·.1):=λhm=>by
   rw[List.map_append,List.map_cons,List.nodup_append] at h1;exact h1.2.2 _ hm _ (List.mem_cons_self ..) rfl
  have e1:stD N (L++[r])=putD (stD N L) (sy N r.1) (rwD N r):=by
   unfold stD;rw[uF hN hd (λr:Rw=>r.1) (rwD N) hr _ L (λx hx=>h2 x (by simp[hx])) hn,List.map_append];rfl
  rw[List.length_cons] at h3;obtain⟨d',q⟩:=aAv M (L++[r]) (by rw[List.append_assoc];exact h1) (by rw[List.append_assoc];exact h2) (by rw[List.length_append,List.length_singleton];lia) (rwD N r);refine⟨d',?_⟩;rw[List.map_cons];rw[List.append_assoc] at q;refine dB rfl (QR (d:=rwD N r) rfl (jY (i:=4) (r:=r) rfl).1 rfl (by unfold stD;rw[List.length_map,bF];lia) (nP ..) (dO ..)) ?_;rw[<-e1];exact q
theorem aLv(hF:Hds F)(R:Run F st w):w.length<=5000->∀x:D,∃x',vA (tg1 6) iv2 (w.map (sy N)) [a,b,c,.dct (stD N F),d,.lst (st.reverse.map (sy N)),x]=.ok (.nx [a,b,c,.dct (stD N F),d,.lst [],x']):=by
 induction R with
 |nil=>exact λ_ x=>⟨x,rfl⟩
 |@step r rest W hr R ih=>
  intro hl x;rw[List.length_cons] at hl;obtain⟨x',q⟩:=ih 0x1 (sy N r.1);have hrl:=aAr R;rw[List.length_append] at hrl;obtain⟨l1,l2,l3,l4⟩:=hF.lt r hr;refine⟨x',?_⟩;rw[List.map_cons];have e:(r.2.1::rest).reverse.map (sy N)=rest.reverse.map (sy N)++[sy N r.2.1]:=by
   rw[List.reverse_cons,List.map_append];rfl
  refine dB rfl (aM (ρ':=[a,b,c,.dct (stD N F),d,.lst ((r.2.1::rest).reverse.map (sy N)),sy N r.1]) ?_ (aM (ρ':=[a,b,c,.dct (stD N F),d,.lst (rest.reverse.map (sy N)),sy N r.1]) ?_ ?_)) q
  ·refine xT (aEn (JR (b:=true) (JS (xH rfl rfl))) (aEn (e_ (aK rfl rfl ?_)) (e_ (aK rfl rfl ((aEu (N:=N) _).trans ?_))))) rfl
   ·show(if uK (stD N F) (sy N r.1) then Res.ok (D.bl (!(cA (stD N F) (sy N r.1)).isSome)) else .bad)=_;rw[aAu hN hd hF hr];unfold stD;rw[nP];rfl
   ·rw[List.reverse_cons];cases rest.reverse<;>rfl
  ·refine Q_ (k:=false) (aEk (uQ (aLu (xs:=rest.reverse.map (sy N)) (x:=sy N r.2.1) (by rw[e];rfl) rfl) rfl (aK (aK rfl rfl (aF2 hN hd hF hr)) rfl (z:=sy N r.2.1) rfl) ((aHn hN hd l2 l2).trans (by rw[decide_eq_true rfl];rfl)) rfl)) ?_;rw[if_neg 0x2];rfl
  ·have hx:=aAe (i:=5) (ρ:=[a,b,c,.dct (stD N F),d,.lst (rest.reverse.map (sy N)),sy N r.1]) (f:=b1 aB3 (b2 getD (b2 getD c7 jR) iW)) (xs:=rest.reverse.map (sy N)) (ys:=r.2.2.reverse.map (sy N)) (xH (aK (aK rfl rfl (aF2 hN hd hF hr)) rfl (z:=.tup (r.2.2.map (sy N))) rfl) (by
    show(if D.aJ (r.2.2.map (sy N))&&decide ((r.2.2.map (sy N)).length<=lim) then Res.ok (D.lst (r.2.2.map (sy N)).reverse) else .bad)=_;rw[bL,List.length_map,bF,decide_eq_true 0x1,<-List.map_reverse];rfl)) rfl (by rw[List.length_map,List.length_reverse,List.length_map,List.length_reverse];lia) (bL ..)
   refine hx.trans ?_;have e7:((r.2.2++rest).reverse.map (sy N))=rest.reverse.map (sy N)++r.2.2.reverse.map (sy N):=by rw[List.reverse_append,List.map_append]
   rw[e7];rfl
theorem NQ(hM:Hds M)(R:Run M [k] W)(hl:W.length<=5000):dC [.tup (W.map (sy N)),sy N k,.lst (M.map (rwD N))]=.ok (.bl true):=by
 refine call_v ?_;show jM [.tup (W.map (sy N)),sy N k,.lst (M.map (rwD N)),.uD,.uD,.uD,.uD]=_;rw[aOa];obtain⟨d',q1⟩:=aAv hN hd M [] (by rw[List.nil_append];exact hM.nd) (λr hr=>(hM.lt r (by simpa using hr)).1) (by have:=hM.ln;simp;lia) .uD;rw[List.nil_append] at q1;obtain⟨x',q2⟩:=aLv hN hd hM R hl .uD;refine aM (xT (JR (b:=true) (JS (xH rfl rfl))) rfl) ?_;refine aM (ρ':=[.tup (W.map (sy N)),sy N k,.lst (M.map (rwD N)),.dct (stD N []),.uD,.uD,.uD]) (fK (i:=3) rfl rfl) ?_;refine aM (zX (d:=.lst (M.map (rwD N))) (xs:=M.map (rwD N)) rfl rfl q1) ?_;refine aM (ρ':=[.tup (W.map (sy N)),sy N k,.lst (M.map (rwD N)),.dct (stD N M),d',.lst [sy N k],.uD]) (fK (i:=5) rfl rfl) ?_;refine aM (zX (d:=.tup (W.map (sy N))) (xs:=W.map (sy N)) rfl rfl q2) ?_;exact wG (aK rfl rfl (aEu (N:=N) [])) rfl
end
def NT(N:List Str)(W:List Nat)(c:Cn):(wD N W c).pure=true:=by
 show((D.tup (W.map (sy N))).pure&&_)=true;rw[D.pure,bL];rfl
def aDk(N:List Str)(ks:List Nat)(M:List Rw)(T:List Tk)(R:List Ru):(jZ N ks M T R).pure=true:=by
 show((D.tup (ks.map (sy N))).pure&&((D.tup (M.map (rwD N))).pure&&((D.tup (T.map (tkD N))).pure&&((D.tup (R.map (ruD N))).pure&&true))))=true;rw[D.pure,D.pure,D.pure,D.pure,bL,bQ (dO N),bQ (uC N),bQ (oF N)];rfl
def asE:FE:=aV (aB6 3 eG []) (noE (aB nJ (aB fD (aB eY aQ))))
def aLw:jV=bB (bW false 3 (bC .non) true) (bB (bW false 4 (bC .non) true) (bB (UW (bW false 3 asE true) ["Spent"] 4 5) (bB (sIf (bTr (aD4 [("Spent",true)] 4)) (nU (gM aQ) true) mF) (nU (gM (aB (bPu c7) aQ)) true)))):=rfl
def aLx(hv:cO 0 [p,w,.int m,.non,.non,.uD]=.ok p)(hw:cO 1 [p,w,.int m,.non,.non,.uD]=.ok w)(h:eG [p,w,.int m]=x):asE [p,w,.int m,.non,.non,.uD]=x:=by
 have e:aB nJ (aB fD (aB eY aQ)) [p,w,.int m,.non,.non,.uD]=.ok [p,w,.int m]:=aD hv (aD hw (aD rfl rfl));unfold asE aV;rw[aKe e,Res.aO];exact h
def CZ{ks W0:List Nat}{M:List Rw}{T:List Tk}{R:List Ru}{m:Int}{W:List Nat}{c:Cn}(h:eG [jZ N ks M T R,.tup (W0.map (sy N)),.int m]=.ok (wD N W c)):mD 3 bH [jZ N ks M T R,.tup (W0.map (sy N)),.int m]=.ok (.lst [wD N W c]):=by
 refine(sJ rfl).trans (call_v ?_);show jV [jZ N ks M T R,.tup (W0.map (sy N)),.int m,.uD,.uD,.uD]=_;rw[aLw];refine aM (cZ (i:=3) rfl) ?_;refine aM (ρ':=[jZ N ks M T R,.tup (W0.map (sy N)),.int m,.non,.non,.uD]) (cZ (i:=4) rfl) ?_;refine aM (ρ':=[jZ N ks M T R,.tup (W0.map (sy N)),.int m,wD N W c,.non,.uD]) ?_ ?_
 ·unfold UW;rw[show bW false 3 asE true [jZ N ks M T R,.tup (W0.map (sy N)),.int m,.non,.non,.uD]=.ok (.nx [jZ N ks M T R,.tup (W0.map (sy N)),.int m,wD N W c,.non,.uD]) from cZ (i:=3) (aLx rfl rfl h)]
 refine aM (xT (JS (b:=false) rfl) rfl) ?_;refine wG ?_ rfl;unfold gM;rw[aD (xs:=[]) (b:=aQ) (NB (f:=cO 3) (ρ:=[jZ N ks M T R,.tup (W0.map (sy N)),.int m,wD N W c,.non,.uD]) (d:=wD N W c) rfl (NT N W c)) rfl,Res.aO,if_pos (by rw[bF];rfl)];rfl
def C_{ks W0:List Nat}{M:List Rw}{T:List Tk}{R:List Ru}{m:Int}(h:eG [jZ N ks M T R,.tup (W0.map (sy N)),.int m]=aMm):mD 3 bH [jZ N ks M T R,.tup (W0.map (sy N)),.int m]=.ok (.lst []):=by
 refine(sJ rfl).trans (call_v ?_);show jV [jZ N ks M T R,.tup (W0.map (sy N)),.int m,.uD,.uD,.uD]=_;rw[aLw];refine aM (cZ rfl) ?_;refine aM (ρ':=[jZ N ks M T R,.tup (W0.map (sy N)),.int m,.non,.non,.uD]) (cZ (i:=4) rfl) ?_;refine aM (ρ':=[jZ N ks M T R,.tup (W0.map (sy N)),.int m,.non,.exc "Spent" [],.uD]) ?_ ?_
 ·unfold UW;have e:bW false 3 asE true [jZ N ks M T R,.tup (W0.map (sy N)),.int m,.non,.non,.uD]=.err "Spent" [.exc "Spent" []]:=by
   unfold bW;rw[aLx rfl rfl h];rfl
  rw[e];rfl
 exact JK (VF (JS (b:=true) rfl) (wG (d:=.lst []) rfl rfl))
def cb:FS:=(sIf (bOr (VB (bTr (b1 (xQ .int) fD))) (bOr (bTr (b1 (xQ .bool) fD)) (bTB (b2 (uN .lt) fD cG)))) (nU (b1 O_ cP) true) mF)
def aHt(h:0<=z):cb [a,.int z]=.ok (.nx [a,.int z]):=xT (aEn (JR (b:=true) (JS (xH rfl rfl))) (aEn (JS (xH rfl rfl)) (e_ (aK rfl rfl ((RB z 0).trans (by rw[decide_eq_false 0x1])))))) rfl
def aAw(h:NN c):mD 1 gF [wD N W c]=.ok (.int (tot c)):=by
 refine(sJ rfl).trans (call_v ?_);have hs:bK (nC nJ (eZ cP) fX) true [wD N W c,.uD]=.ok ([.int c.c,.int c.p,.int c.d],true):=by
  have e:aIc (wD N W c) (some 1) none=.ok (.tup [.int c.c,.int c.p,.int c.d]):=by
   show(if !D.aJ [.tup (W.map (sy N)),.int c.c,.int c.p,.int c.d]||decide (aB2 4 0 (some 1)=0/\aB2 4 4 none=4) then Res.bad else Res.ok (D.tup (cutD [.tup (W.map (sy N)),.int c.c,.int c.p,.int c.d] (some 1) none)))=_;have hp:D.aJ [.tup (W.map (sy N)),.int c.c,.int c.p,.int c.d]=true:=NT N W c;rw[hp];rfl
  have e2:nC nJ (eZ cP) fX [wD N W c,.uD]=.ok (.tup [.int c.c,.int c.p,.int c.d]):=by
   exact e
  exact(gZ e2).trans (by rw[Bool.true_or])
 refine aM (xT (aEn (JR (b:=true) (JS (xH rfl rfl))) (e_ (aK rfl rfl rfl))) rfl) ?_;refine aM (ρ':=[wD N W c,.int c.d]) (yJ hs (dB (ρ1:=[wD N W c,.int c.c]) rfl (aHt h.c) (dB (ρ1:=[wD N W c,.int c.p]) rfl (aHt h.p) (dB (ρ1:=[wD N W c,.int c.d]) rfl (aHt h.d) rfl)))) ?_;exact wG (aK (aK (aK rfl rfl rfl) (aK rfl rfl rfl) (dW _ _)) (aK rfl rfl rfl) (dW _ _)) rfl
def NZ(a b:List D)(h:a.length+b.length<=1000):G6 (.tup a) (.tup b)=.ok (.tup (a++b)):=by
 show(if decide (a.length+b.length<=lim) then Res.ok (D.tup (a++b)) else .bad)=_;rw[if_pos (decide_eq_true (by rw[bF];lia))]
def xM(h:cO i ρ=.ok (tkD N t)):b2 getD (cO i) cG ρ=.ok (sy N t.1)/\b2 getD (cO i) cP ρ=.ok (sy N t.2.1)/\b2 getD (cO i) iW ρ=.ok (sy N t.2.2.1)/\b2 getD (cO i) h_ ρ=.ok (.tup (t.2.2.2.map (sy N))):=⟨aK h rfl rfl,aK h rfl rfl,aK h rfl rfl,aK h rfl rfl⟩
noncomputable def aHu(q n:Nat):List Nat:=(List.range n).map λj=>13+(q+j*(1+q % 4)) % 5
def aDl(q:Nat)(hj:j<5)(hk:k<5)(h:(q+j*(1+q % 4)) % 5=(q+k*(1+q % 4)) % 5):j=k:=by
 have:q % 4=0\/q % 4=1\/q % 4=2\/q % 4=3:=by lia
 rcases this with e|e|e|e<;>rw[e] at h<;>lia
def aHv(q n:Nat)(h:n<=5):(aHu q n).Nodup:=by
 unfold aHu;refine List.pairwise_map.mpr (List.Pairwise.imp_of_mem ?_ (List.nodup_range));intro a b ha hb hne z;rw[List.mem_range] at ha hb;exact hne (aDl q 0x1 0x1 0x1)
def aHw(q n:Nat):∀i∈aHu q n,13<=i/\i<18:=λi hi=>by
 unfold aHu at hi;obtain⟨j,_,rfl⟩:=List.mem_map.mp hi;lia
def aOb(M:List Rw)(T:List Tk)(t:Tk)(r:Rw)(u:Ru):Prop:=∃own ws,u=(t.1,r.1,own,ws)/\own.length=r.2.2.length+t.2.2.2.length/\own.Nodup/\(∀i∈own,13<=i/\i<26)/\ws.length<=6/\(∀j∈ws,j<26)/\Run ((own.zip (r.2.2++t.2.2.2)).map (λp=>(p.1,p.2,[]))++(M++T.map tr)) [t.2.1] ws
def aAx(h:Run H ks w):∀x∈w,∃r∈H,r.1=x:=by
 induction h with
 |nil=>intro x hx;cases hx
 |step hr _ ih=>
  intro x hx;rcases List.mem_cons.mp hx with rfl|hx
  ·exact⟨_,hr,rfl⟩
  ·exact ih x hx
def ru0:FS:=(bW false 9 (b2 G6 (b2 getD lY iW) (b2 getD jN h_)) false)
def ru1:FS:=(bW false 10 (b2 (aU .add) cP (b2 (aU .mod) (aV lC (aB jR aQ)) DG)) true)
def ru2:FS:=(bW false 11 (cJ 14 (jW (aB (aV lC (aB kJ aQ)) aQ) iK) jT dH (b2 getD c7 (b2 (aU .add) (bC (.int 13)) (b2 (aU .mod) (b2 (aU .add) (aV lC (aB jR aQ)) (b2 xR fV mL)) aFv))) false) true)
def ru3:FS:=(bW false 12 (cJ 14 (jW (aB (aV lC (aB kJ aQ)) aQ) iK) jT dH (fW (aB (b2 getD eO fV) (aB (b2 getD kJ fV) (aB (fW aQ) aQ)))) false) true)
def ru4:FS:=(eV false 13 (bT cF 5 0 (aB (b2 (aU .add) k_ mC) (aB (bPu (b2 getD jN cP)) (aB (bPu KD) (aB d7 aQ))))))
def ru5:FS:=(zL 6 (fW (aB (b2 getD jN cG) (aB (b2 getD lY cG) (aB (aV cX (aB eO aQ)) (aB (aV cX (aB lA aQ)) aQ))))))
def rub:FS:=(sIf (bTB (b2 (eX .eq) (b2 getD lY cP) (b2 getD jN iW))) (bB ru0 (bB ru1 (bB ru2 (bB ru3 (bB ru4 ru5))))) mF)
def aDm:mY=bB (bW false 5 (b2 (aU .add) fD (cJ 14 (bK eY false) jT dH (fW (aB (b2 getD fV cG) (aB (b2 getD fV cP) (aB (b2 G6 (fW (aB (b2 getD fV iW) aQ)) (b2 getD fV h_)) aQ)))) false)) true) (bB (bW true 6 (gM aQ) true) (bB (uV 2 (tg1 7) (uV 1 (tg1 8) rub)) (nM 6))):=rfl
abbrev rst(cs:List Int)(N:List Str)(M:List Rw)(T:List Tk)(m:Nat)(l:Nat->Nat)(z n:Nat)(R:List Ru)(a b c d e f g:D):List D:=[.cel z (dk cs n),.lst (M.map (rwD N)),.lst (T.map (tkD N)),.lst ((List.range 26).map (sy N)),.dct (lsD N m l),.lst ((M++T.map tr).map (rwD N)),.lst (R.map (ruD N)),a,b,c,d,e,f,g]
def aLy{b c d e g:D}{K:List Rw}{V:List Nat}(v4:ch1 cF (dk cs n) [.lst ((K++(M++T.map tr)).map (rwD N)),sy N t.2.1,.int 6,.dct (lsD N m l)]=.ok (.lst (V.map (sy N)),dk cs n'))(hl:K.length+(M++T.map tr).length<=1000):ru4 (rst cs N M T m l z n R (tkD N t) b c d e (.lst (K.map (rwD N))) g)=.ok (.nx (rst cs N M T m l z n' R (tkD N t) b c d e (.lst (K.map (rwD N))) (.lst (V.map (sy N))))):=by
 have ha:aB (b2 (aU .add) k_ mC) (aB (bPu (b2 getD jN cP)) (aB (bPu KD) (aB d7 aQ))) (rst cs N M T m l z n R (tkD N t) b c d e (.lst (K.map (rwD N))) g)=.ok [.lst ((K++(M++T.map tr)).map (rwD N)),sy N t.2.1,.int 6,.dct (lsD N m l)]:=by
  refine aD (aK rfl rfl ?_) (aD (NB (xM rfl).2.1 rfl) (aD (NB rfl rfl) (aD rfl rfl)));rw[List.map_append];exact K8 _ _ (by rw[List.length_map,List.length_map,bF];lia) (bQ (dO N) _) (bQ (dO N) _)
 exact gH (iJ ha rfl rfl v4 (iZ cs n') rfl) rfl
def aLz{r:Rw}{c d f:D}{own V:List Nat}(hR:R.length<=100):ru5 (rst cs N M T m l z n R (tkD N t) (rwD N r) c d (.lst (own.map (sy N))) f (.lst (V.map (sy N))))=.ok (.nx (rst cs N M T m l z n (R++[(t.1,r.1,own,V)]) (tkD N t) (rwD N r) c d (.lst (own.map (sy N))) f (.lst (V.map (sy N))))):=by
 have hT:fW (aB (b2 getD jN cG) (aB (b2 getD lY cG) (aB (aV cX (aB eO aQ)) (aB (aV cX (aB lA aQ)) aQ)))) (rst cs N M T m l z n R (tkD N t) (rwD N r) c d (.lst (own.map (sy N))) f (.lst (V.map (sy N))))=.ok (ruD N (t.1,r.1,own,V)):=
  fB (aD (xM rfl).1 (aD (jY rfl).1 (aD (bO (aD rfl rfl) rfl) (aD (bO (xs:=[.lst (V.map (sy N))]) (aD rfl rfl) rfl) rfl)))) (by rw[bF];show 4<=1000000;decide)
 refine(uO (i:=6) (ρ:=rst cs N M T m l z n R (tkD N t) (rwD N r) c d (.lst (own.map (sy N))) f (.lst (V.map (sy N)))) (xs:=R.map (ruD N)) (d:=ruD N (t.1,r.1,own,V)) hT rfl (by rw[List.length_map,bF];lia) (oF ..)).trans ?_;unfold rst;rw[List.map_append (l₁:=R)];rfl
section
variable {cs:List Int} {N:List Str} (hN:N.length=26) (hd:N.Nodup) {m:Nat} {M:List Rw} {T:List Tk} {l:Nat->Nat} (G:Sig m M T l)
omit hN hd in
def uH(G:Sig m M T l)(K:List Rw)(hK:∀r∈K,Gr m r)(hl:K.length<=10):aMl m (K++(M++T.map tr)) l:=by
 refine⟨G.m3,G.lb,?_,λr hr=>?_,λk hk=>?_⟩
 ·have:=G.ml;have:=G.tl;rw[List.length_append,List.length_append,List.length_map];lia
 ·rcases List.mem_append.mp hr with hr|hr
  ·exact hK r hr
  ·rcases List.mem_append.mp hr with hr|hr
   ·exact G.mg r hr
   ·obtain⟨t,ht,rfl⟩:=List.mem_map.mp hr;obtain⟨g1,g2,g3,g4⟩:=G.tg t ht;refine⟨g1,λi hi=>?_,by show t.2.2.2.length+1<=3;lia⟩;rcases List.mem_cons.mp hi with rfl|hi
    ·exact g2
    ·exact g3 i hi
 ·obtain⟨r,hr,_,h2,h3⟩:=G.ba k hk;exact⟨r,List.mem_append_right _ (List.mem_append_left _ hr),h2,h3⟩
include hN hd G
theorem aDn(ht:t∈T)(hr:r∈M)(hn:n<=2500)(hR:R.length<=100)(c d e f g:D):∃(R':List Ru)(n':Nat)(c' d' e' f' g':D),R'.map (λu=>(u.1,u.2.1))=(if r.2.1=t.2.2.1 then [(t.1,r.1)] else [])/\(r.2.1=t.2.2.1->∃u∈R',aOb M T t r u)/\n'<=n+6/\∀z,rub (rst cs N M T m l z n R (tkD N t) (rwD N r) c d e f g)=.ok (.nx (rst cs N M T m l z n' (R++R') (tkD N t) (rwD N r) c' d' e' f' g')):=by
 obtain⟨gr1,gr2,gr3⟩:=G.mg r hr;obtain⟨gt1,gt2,gt3,gt4⟩:=G.tg t ht;have m3:=G.m3;have hc:∀z,bTB (b2 (eX .eq) (b2 getD lY cP) (b2 getD jN iW)) (rst cs N M T m l z n R (tkD N t) (rwD N r) c d e f g)=.ok (decide (r.2.1=t.2.2.1)):=λz=>e_ (aK (jY (i:=8) (r:=r) rfl).2.1 (xM (i:=7) (t:=t) rfl).2.2.1 (aAf hN hd 0x1 0x1))
 by_cases hk:r.2.1=t.2.2.1
 ·rw[if_pos hk];rw[decide_eq_true hk] at hc
  -- kinds of the names
  generalize hbh:r.2.2++t.2.2.2=bh;have hbl:bh.length=r.2.2.length+t.2.2.2.length:=by rw[<-hbh,List.length_append]
  have hbm:∀i∈bh,i<m:=λi hi=>by
   rw[<-hbh] at hi;rcases List.mem_append.mp hi with hi|hi
   ·exact gr2 i hi
   ·exact gt3 i hi
  generalize hown:aHu R.length bh.length=own;have hol:own.length=bh.length:=by rw[<-hown];unfold aHu;rw[List.length_map,List.length_range]
  have ond:own.Nodup:=by rw[<-hown];exact aHv _ _ 0x1
  have olt:∀i∈own,13<=i/\i<18:=by rw[<-hown];exact aHw _ _
  generalize hkn:(own.zip bh).map (λp=>((p.1,p.2,[]):Rw))=K;have hKl:K.length=bh.length:=by rw[<-hkn,List.length_map,List.length_zip,hol,Nat.min_self]
  have hKg:∀q∈K,Gr m q:=λq hq=>by
   rw[<-hkn] at hq;obtain⟨p,hp,rfl⟩:=List.mem_map.mp hq;exact⟨hbm p.2 (List.of_mem_zip hp).2,λi hi=>(by cases hi),by show 0<=3;decide⟩
  have PL:=uH G K hKg 0x1;obtain⟨V,n',v1,v2,v3,v4⟩:=CP hN hd cs (n:=n) PL (k:=t.2.1) (most:=6) gt1 0x4 0x1;have hV26:∀x∈V,x<26:=λx hx=>by
   obtain⟨q,hq,rfl⟩:=aAx v1 x hx;rcases List.mem_append.mp hq with hq|hq
   ·rw[<-hkn] at hq;obtain⟨p,hp,rfl⟩:=List.mem_map.mp hq;have:=olt p.1 (List.of_mem_zip hp).1;show p.1<26;lia
   ·rcases List.mem_append.mp hq with hq|hq
    ·have:=G.mi q hq;lia
    ·obtain⟨t',ht',rfl⟩:=List.mem_map.mp hq;have:=G.ti t' ht';show t'.1<26;lia
  refine⟨[(t.1,r.1,own,V)],n',.tup (bh.map (sy N)),.int (1+(R.length:Int) % 4),.lst (own.map (sy N)),.lst (K.map (rwD N)),.lst (V.map (sy N)),rfl,λ_=>⟨_,List.mem_singleton.mpr rfl,own,V,rfl,by lia,ond,λi hi=>by have:=olt i hi;lia,by lia,hV26,by rw[hbh,hkn];exact v1⟩,by lia,λz=>VF (hc z) ?_⟩;have t0:ru0 (rst cs N M T m l z n R (tkD N t) (rwD N r) c d e f g)=.ok (.nx (rst cs N M T m l z n R (tkD N t) (rwD N r) (.tup (bh.map (sy N))) d e f g)):=by
   refine jK (i:=9) (aK (jY (i:=8) (r:=r) rfl).2.2 (xM (i:=7) (t:=t) rfl).2.2.2 ((NZ _ _ (by rw[List.length_map,List.length_map];lia)).trans ?_)) (by rw[D.pure,bL]);rw[<-List.map_append,hbh]
  have hlen:∀z c d e f g,aV lC (aB jR aQ) (rst cs N M T m l z n R (tkD N t) (rwD N r) c d e f g)=.ok (.int (R.length:Int)):=λz c d e f g=>bO (aD rfl rfl) (by show Res.ok (D.int ((R.map (ruD N)).length:Int))=_;rw[List.length_map])
  have t1:ru1 (rst cs N M T m l z n R (tkD N t) (rwD N r) (.tup (bh.map (sy N))) d e f g)=.ok (.nx (rst cs N M T m l z n R (tkD N t) (rwD N r) (.tup (bh.map (sy N))) (.int (1+(R.length:Int) % 4)) e f g)):=cZ (i:=10) (aK (x:=.int 1) rfl (aK (hlen ..) rfl (b_ _ _ 0x4)) (dW _ _));have hbt:∀e f g,jW (aB (aV lC (aB kJ aQ)) aQ) iK (rst cs N M T m l z n R (tkD N t) (rwD N r) (.tup (bh.map (sy N))) (.int (1+(R.length:Int) % 4)) e f g)=.ok ((List.range bh.length).map λ(k:Nat)=>D.int (0+(k:Int)),true):=λe f g=>by
   have:=wH (ρ:=rst cs N M T m l z n R (tkD N t) (rwD N r) (.tup (bh.map (sy N))) (.int (1+(R.length:Int) % 4)) e f g) (f:=aB (aV lC (aB kJ aQ)) aQ) (n:=(bh.length:Int)) (aD (bO (aD rfl rfl) (by show Res.ok (D.int ((bh.map (sy N)).length:Int))=_;rw[List.length_map])) rfl) 0x1 0x1;rw[Int.toNat_natCast] at this;exact this
  have t2:ru2 (rst cs N M T m l z n R (tkD N t) (rwD N r) (.tup (bh.map (sy N))) (.int (1+(R.length:Int) % 4)) e f g)=.ok (.nx (rst cs N M T m l z n R (tkD N t) (rwD N r) (.tup (bh.map (sy N))) (.int (1+(R.length:Int) % 4)) (.lst (own.map (sy N))) f g)):=by
   have eo:(own.map (sy N))=(List.range bh.length).map λj=>sy N (13+(R.length+j*(1+R.length % 4)) % 5):=by rw[<-hown];unfold aHu;rw[List.map_map];rfl
   rw[eo];refine cZ (i:=11) (fH (n:=14) (λ(k:Nat)=>D.int (0+(k:Int))) (λj=>sy N (13+(R.length+j*(1+R.length % 4)) % 5)) (List.range bh.length) rfl (hbt ..) (by rw[List.length_range];lia) λj hj=>?_);rw[List.mem_range] at hj;refine⟨aK rfl (aK (x:=.int 13) rfl (aK (aK (bO (aD rfl rfl) (by show Res.ok (D.int ((R.map (ruD N)).length:Int))=_;rw[List.length_map])) (aK rfl rfl (oA _ _ (JL _ 0x1 0x1))) (dW _ _)) rfl (b_ _ _ 0x4)) (dW _ _)) (iU (i:=13+(R.length+j*(1+R.length % 4)) % 5) ?_ 0x1),rfl⟩;have e1:(0+(j:Int))*(1+(R.length:Int) % 4)=((j*(1+R.length % 4):Nat):Int):=by
    rw[Int.zero_add,Int.natCast_mul];rfl
   rw[e1];lia
  have t3:ru3 (rst cs N M T m l z n R (tkD N t) (rwD N r) (.tup (bh.map (sy N))) (.int (1+(R.length:Int) % 4)) (.lst (own.map (sy N))) f g)=.ok (.nx (rst cs N M T m l z n R (tkD N t) (rwD N r) (.tup (bh.map (sy N))) (.int (1+(R.length:Int) % 4)) (.lst (own.map (sy N))) (.lst (K.map (rwD N))) g)):=by
   have eK:K.map (rwD N)=(List.range bh.length).map λj=>D.tup [sy N (own.getD j 0),sy N (bh.getD j 0),.tup []]:=by
    rw[<-hkn,List.map_map];refine List.ext_getElem (by rw[List.length_map,List.length_zip,hol,List.length_map,List.length_range,Nat.min_self]) λi h1 h2=>?_
    rw[List.length_map,List.length_range] at h2;rw[List.getElem_map,List.getElem_map,List.getElem_range,List.getElem_zip,List.getD_eq_getElem?_getD,List.getElem?_eq_getElem 0x1,List.getD_eq_getElem?_getD,List.getElem?_eq_getElem 0x1];rfl
   rw[eK];refine cZ (i:=12) (fH (n:=14) (λ(k:Nat)=>D.int (0+(k:Int))) (λj=>D.tup [sy N (own.getD j 0),sy N (bh.getD j 0),.tup []]) (List.range bh.length) rfl (hbt ..) (by rw[List.length_range];lia) λj hj=>?_);rw[List.mem_range] at hj;refine⟨fB (aD (aK rfl rfl (mG (f:=sy N) (l:=own) (i:=j) 0x1 (by rw[List.getElem?_eq_getElem 0x1,List.getD_eq_getElem?_getD,List.getElem?_eq_getElem 0x1];rfl))) (aD (aK rfl rfl (RG (f:=sy N) (l:=bh) (i:=j) 0x1 (by rw[List.getElem?_eq_getElem 0x1,List.getD_eq_getElem?_getD,List.getElem?_eq_getElem 0x1];rfl))) (aD rfl rfl))) (by rw[bF];show 3<=1000000;decide),rfl⟩
  have hk2:(M++T.map tr).length<=100:=by have:=G.ml;have:=G.tl;rw[List.length_append,List.length_map];lia
  have t4:=aLy (cs:=cs) (N:=N) (M:=M) (T:=T) (m:=m) (l:=l) (z:=z) (n:=n) (n':=n') (R:=R) (t:=t) (b:=rwD N r) (c:=.tup (bh.map (sy N))) (d:=.int (1+(R.length:Int) % 4)) (e:=.lst (own.map (sy N))) (g:=g) (K:=K) (V:=V) v4 0x1;have t5:=aLz (cs:=cs) (N:=N) (M:=M) (T:=T) (m:=m) (l:=l) (z:=z) (n:=n') (R:=R) (t:=t) (r:=r) (c:=.tup (bh.map (sy N))) (d:=.int (1+(R.length:Int) % 4)) (f:=.lst (K.map (rwD N))) (own:=own) (V:=V) hR;exact aM t0 (aM t1 (aM t2 (aM t3 (aM t4 t5))))
 ·rw[if_neg hk];rw[decide_eq_false hk] at hc;exact⟨[],n,c,d,e,f,g,rfl,λz=>absurd z hk,by lia,λz=>xT (hc z) (by rw[List.append_nil];rfl)⟩
end
noncomputable abbrev ky(u:Ru):Nat×Nat:=(u.1,u.2.1)
noncomputable def uZ(M:List Rw)(t:Tk)(L:List Rw):List (Nat×Nat):=(L.filter λr=>decide (r.2.1=t.2.2.1)).map λr=>(t.1,r.1)
section
variable {cs:List Int} {N:List Str} (hN:N.length=26) (hd:N.Nodup) {m:Nat} {M:List Rw} {T:List Tk} {l:Nat->Nat} (G:Sig m M T l)
include hN hd G
theorem aAy(ht:t∈T):∀(L:List Rw),(∀r∈L,r∈M)->∀(R:List Ru)(n:Nat)(b c d e f g:D),n+6*L.length<=2500->R.length+L.length<=100->∃(R':List Ru)(n':Nat)(b' c' d' e' f' g':D),R'.map ky=uZ M t L/\(∀r∈L,r.2.1=t.2.2.1->∃u∈R',aOb M T t r u)/\n'<=n+6*L.length/\∀z,vA (tg1 8) rub (L.map (rwD N)) (rst cs N M T m l z n R (tkD N t) b c d e f g)=.ok (.nx (rst cs N M T m l z n' (R++R') (tkD N t) b' c' d' e' f' g'))
 |[],_,R,n,b,c,d,e,f,g,_,_=>⟨[],n,b,c,d,e,f,g,rfl,λr hr=>(by cases hr),by lia,λz=>by rw[List.append_nil];rfl⟩
 |r::L,hL,R,n,b,c,d,e,f,g,hn,hR=>by
  rw[List.length_cons] at hn hR;obtain⟨R1,n1,c1,d1,e1,f1,g1,k1,k2,k3,k4⟩:=aDn (cs:=cs) hN hd G ht (hL r 0x2) (R:=R) (n:=n) 0x1 0x1 c d e f g;have l1:R1.length<=1:=by
   have:=congrArg List.length k1;rw[List.length_map] at this;rw[this];split<;>simp
  obtain⟨R2,n2,b2,c2,d2,e2,f2,g2,q1,q2,q3,q4⟩:=aAy ht L (λx hx=>hL x (by simp[hx])) (R++R1) n1 (rwD N r) c1 d1 e1 f1 g1 0x1 (by rw[List.length_append];lia);refine⟨R1++R2,n2,b2,c2,d2,e2,f2,g2,?_,λx hx hk=>?_,by rw[List.length_cons];lia,λz=>?_⟩
  ·rw[List.map_append,q1];have k1':R1.map ky=if r.2.1=t.2.2.1 then [(t.1,r.1)] else []:=k1
   rw[k1'];unfold uZ;rw[List.filter_cons];by_cases h:r.2.1=t.2.2.1
   ·rw[if_pos h,if_pos (decide_eq_true h)];rfl
   ·rw[if_neg h,if_neg (by rw[decide_eq_false h];simp)];rfl
  ·rcases List.mem_cons.mp hx with rfl|hx
   ·obtain⟨u,hu,o⟩:=k2 hk;exact⟨u,List.mem_append_left _ hu,o⟩
   ·obtain⟨u,hu,o⟩:=q2 x hx hk;exact⟨u,List.mem_append_right _ hu,o⟩
  ·rw[List.map_cons];refine dB (ρ1:=rst cs N M T m l z n R (tkD N t) (rwD N r) c d e f g) rfl (k4 z) ((q4 z).trans ?_);rw[List.append_assoc]
theorem RZ:∀(TL:List Tk),(∀t∈TL,t∈T)->∀(R:List Ru)(n:Nat)(a b c d e f g:D),n+36*TL.length<=2500->R.length+6*TL.length<=100->∃(R':List Ru)(n':Nat)(a' b' c' d' e' f' g':D),R'.map ky=(TL.map λt=>uZ M t M).flatten/\(∀t∈TL,∀r∈M,r.2.1=t.2.2.1->∃u∈R',aOb M T t r u)/\n'<=n+36*TL.length/\∀z,vA (tg1 7) (uV 1 (tg1 8) rub) (TL.map (tkD N)) (rst cs N M T m l z n R a b c d e f g)=.ok (.nx (rst cs N M T m l z n' (R++R') a' b' c' d' e' f' g'))
 |[],_,R,n,a,b,c,d,e,f,g,_,_=>⟨[],n,a,b,c,d,e,f,g,rfl,λt ht=>(by cases ht),by lia,λz=>by rw[List.append_nil];rfl⟩
 |t::TL,hT,R,n,a,b,c,d,e,f,g,hn,hR=>by
  rw[List.length_cons] at hn hR;have hml:=G.ml;obtain⟨R1,n1,b1,c1,d1,e1,f1,g1,k1,k2,k3,k4⟩:=aAy hN hd G (hT t 0x2) M (λr hr=>hr) R n b c d e f g 0x1 0x1;have l1:R1.length<=6:=by
   have:=congrArg List.length k1;unfold uZ at this;rw[List.length_map,List.length_map] at this;have:=List.length_filter_le (λr:Rw=>decide (r.2.1=t.2.2.1)) M;lia
  obtain⟨R2,n2,a2,b2,c2,d2,e2,f2,g2,q1,q2,q3,q4⟩:=RZ TL (λx hx=>hT x (by simp[hx])) (R++R1) n1 (tkD N t) b1 c1 d1 e1 f1 g1 0x1 (by rw[List.length_append];lia);refine⟨R1++R2,n2,a2,b2,c2,d2,e2,f2,g2,?_,λx hx r hr hk=>?_,by rw[List.length_cons];lia,λz=>?_⟩
  ·rw[List.map_append,q1,k1,List.map_cons,List.flatten_cons]
  ·rcases List.mem_cons.mp hx with rfl|hx
   ·obtain⟨u,hu,o⟩:=k2 r hr hk;exact⟨u,List.mem_append_left _ hu,o⟩
   ·obtain⟨u,hu,o⟩:=q2 x hx r hr hk;exact⟨u,List.mem_append_right _ hu,o⟩
  ·rw[List.map_cons];refine dB rfl (zX rfl rfl (k4 z)) ((q4 z).trans ?_);rw[List.append_assoc]
omit hN hd in
theorem aAz:∀TL:List Tk,(TL.map (·.1)).Nodup->((TL.map λt=>uZ M t M).flatten).Nodup/\∀p∈(TL.map λt=>uZ M t M).flatten,p.1∈TL.map (·.1)/\p.2∈M.map (·.1)
 |[],_=>⟨List.nodup_nil,λp hp=>by cases hp⟩
 |t::TL,h=>by
  rw[List.map_cons,List.nodup_cons] at h;obtain⟨i1,i2⟩:=aAz TL h.2;have hmem:∀p∈uZ M t M,p.1=t.1/\p.2∈M.map (·.1):=λp hp=>by
   unfold uZ at hp;obtain⟨r,hr,rfl⟩:=List.mem_map.mp hp;exact⟨rfl,List.mem_map_of_mem (List.mem_filter.mp hr).1⟩
  rw[List.map_cons,List.flatten_cons];refine⟨List.nodup_append.mpr ⟨?_,i1,λa ha b hb z=>?_⟩,λp hp=>?_⟩
  ·unfold uZ;have hs:((M.filter λr=>decide (r.2.1=t.2.2.1)).map (·.1)).Nodup:=G.mn.sublist ((List.filter_sublist).map _);have e:(M.filter λr=>decide (r.2.1=t.2.2.1)).map (λr=>(t.1,r.1))=((M.filter λr=>decide (r.2.1=t.2.2.1)).map (·.1)).map λx=>(t.1,x):=by rw[List.map_map];rfl
   rw[e];exact List.pairwise_map.mpr (hs.imp λh z=>h (by cases z;rfl))
  ·subst z;have:=(hmem a ha).1;exact h.1 (this▸(i2 a hb).1)
  ·rcases List.mem_append.mp hp with hp|hp
   ·have:=hmem p hp;exact⟨by rw[this.1,List.map_cons];exact List.mem_cons_self ..,this.2⟩
   ·have:=i2 p hp;exact⟨by rw[List.map_cons];exact List.mem_cons_of_mem _ this.1,this.2⟩
theorem R0(hρ:ρ.length=n)(hi:cO i ρ=.ok (.lst (M.map (rwD N))))(hj:cO j ρ=.ok (.lst (T.map (tkD N))))(hn:∀t:Tk,cO n (ρ++[tkD N t])=.ok (tkD N t)):b2 (aU .add) (cO i) (cJ n (bK (cO j) false) jT dH (fW (aB (b2 getD (cO n) cG) (aB (b2 getD (cO n) cP) (aB (b2 G6 (fW (aB (b2 getD (cO n) iW) aQ)) (b2 getD (cO n) h_)) aQ)))) false) ρ=.ok (.lst ((M++T.map tr).map (rwD N))):=by
 have hc:cJ n (bK (cO j) false) jT dH (fW (aB (b2 getD (cO n) cG) (aB (b2 getD (cO n) cP) (aB (b2 G6 (fW (aB (b2 getD (cO n) iW) aQ)) (b2 getD (cO n) h_)) aQ)))) false ρ=.ok (.lst (T.map λt=>rwD N (tr t))):=by
  refine fH (tkD N) (λt=>rwD N (tr t)) T hρ (kI hj) (by have:=G.tl;lia) λt ht=>⟨?_,dO ..⟩
  obtain⟨g1,g2,g3,g4⟩:=xM (hn t);have h2:=(G.tg t ht).2.2.2;exact fB (aD g1 (aD g2 (aD (aK (fB (aD g3 rfl) (by rw[bF];show 1<=1000000;decide)) g4 (NZ _ _ (by rw[List.length_map];show 1+_<=_;lia))) rfl))) (by rw[bF];show 3<=1000000;decide)
 have e:(T.map λt=>rwD N (tr t))=(T.map tr).map (rwD N):=by rw[List.map_map];rfl
 rw[e] at hc;rw[List.map_append];exact aK hi hc (K8 _ _ (by rw[List.length_map,List.length_map,List.length_map,bF];have:=G.ml;have:=G.tl;lia) (bQ (dO N) _) (bQ (dO N) _))
omit hN hd in
theorem aHx:Hds (M++T.map tr)/\Hds M:=by
 have hmi:=G.mi;have hti:=G.ti;have m3:=G.m3;have hM:Hds M:=⟨G.mn,λr hr=>by
  obtain⟨a,b,c⟩:=G.mg r hr;have:=hmi r hr;exact⟨by lia,by lia,λi hi=>by have:=b i hi;lia,by lia⟩,by have:=G.ml;lia⟩
 refine⟨⟨?_,λr hr=>?_,by have:=G.ml;have:=G.tl;rw[List.length_append,List.length_map];lia⟩,hM⟩
 ·rw[List.map_append,List.map_map];refine List.nodup_append.mpr ⟨G.mn,G.tn,λa ha b hb z=>?_⟩;obtain⟨r,hr,rfl⟩:=List.mem_map.mp ha;obtain⟨t,ht,rfl⟩:=List.mem_map.mp hb;have h1:=hmi r hr;have h2:=hti t ht;have:r.1=t.1:=z;lia
 ·rcases List.mem_append.mp hr with hr|hr
  ·exact hM.lt r hr
  ·obtain⟨t,ht,rfl⟩:=List.mem_map.mp hr;obtain⟨a,b,c,d⟩:=G.tg t ht;have h2:=hti t ht;refine⟨by show t.1<26;lia,by show t.2.1<26;lia,λi hi=>?_,by show t.2.2.2.length+1<=10;lia⟩;rcases List.mem_cons.mp hi with rfl|hi
   ·lia
   ·have:=c i hi;lia
theorem aDo(hn:n<=2000):∃(R:List Ru)(n':Nat),Tab M T R/\n'<=n+108/\ch1 iH (dk cs n) [.lst (M.map (rwD N)),.lst (T.map (tkD N)),.lst ((List.range 26).map (sy N)),.dct (lsD N m l)]=.ok (.lst (R.map (ruD N)),dk cs n'):=by
 have htl:=G.tl;obtain⟨R,n',a,b,c,d,e,f,g,k1,k2,k3,k4⟩:=RZ (cs:=cs) hN hd G T (λt ht=>ht) [] n .uD .uD .uD .uD .uD .uD .uD 0x1 (by simp;lia);obtain⟨hF,hM⟩:=aHx G;obtain⟨y1,y2⟩:=aAz G T G.tn;rw[<-k1] at y1 y2;have hR:Rls R:=by
  refine⟨y1,λu hu=>?_,?_⟩
  ·obtain⟨z1,z2⟩:=y2 (ky u) (List.mem_map_of_mem (f:=ky) hu);obtain⟨t,ht,e1⟩:=List.mem_map.mp z1;obtain⟨r,hr,e2⟩:=List.mem_map.mp z2;have h1:=G.ti t ht;have h2:=G.mi r hr;have e1:t.1=u.1:=e1;have e2:r.1=u.2.1:=e2;lia
  ·have hl:∀TL:List Tk,((TL.map λt=>uZ M t M).flatten).length<=6*TL.length:=by
    intro TL;induction TL with
    |nil=>exact Nat.le_refl _
    |cons t TL ih=>
     rw[List.map_cons,List.flatten_cons,List.length_append,List.length_cons];have:(uZ M t M).length<=6:=by
      unfold uZ;rw[List.length_map];have:=List.length_filter_le (λr:Rw=>decide (r.2.1=t.2.2.1)) M;have:=G.ml;lia
     lia
   have:=congrArg List.length k1;rw[List.length_map] at this;have:=hl T;lia
 refine⟨R,n',⟨hF,hM,hR,λr hr=>⟨(G.mi r hr).2,(G.mg r hr).2.2⟩,λt ht=>⟨(G.ti t ht).1,(G.ti t ht).2,(G.tg t ht).2.2.2⟩,λt ht r hr hk=>?_⟩,by lia,wK λz=>uR (k:=1) (ρ:=rst cs N M T m l z n' R a b c d e f g) ?_⟩
 ·obtain⟨u,hu,own,ws,rfl,o1,o2,o3,o4,o5,o6⟩:=k2 t ht r hr hk;exact⟨own,ws,hu,o1,o2,o3,o4,o5,o6⟩
 ·show mY [.cel z (dk cs n),.lst (M.map (rwD N)),.lst (T.map (tkD N)),.lst ((List.range 26).map (sy N)),.dct (lsD N m l),.uD,.uD,.uD,.uD,.uD,.uD,.uD,.uD,.uD]=_;rw[aDm];refine aM (ρ':=[.cel z (dk cs n),.lst (M.map (rwD N)),.lst (T.map (tkD N)),.lst ((List.range 26).map (sy N)),.dct (lsD N m l),.lst ((M++T.map tr).map (rwD N)),.uD,.uD,.uD,.uD,.uD,.uD,.uD,.uD]) (cZ (i:=5) (R0 hN hd G (n:=14) rfl rfl rfl λt=>rfl)) ?_;refine aM (ρ':=rst cs N M T m l z n [] .uD .uD .uD .uD .uD .uD .uD) (fK (i:=6) rfl rfl) ?_;refine aM (zX (d:=.lst (T.map (tkD N))) (xs:=T.map (tkD N)) rfl rfl (k4 z)) ?_;rw[List.nil_append];exact vK rfl rfl
end
def aHy(h:Run H a v)(h2:Run H b w):Run H (a++b) (v++w):=by
 induction h with
 |nil=>exact h2
 |@step r rest W hr h ih=>
  rw[List.append_assoc] at ih;exact .step hr ih
def aHz(h:f ρ=.ok (d,ρ')):Z7 f ρ=.ok (.rt (.tup (d::ρ'))):=by
 unfold Z7;rw[h];rfl
def aI0(h:f ρ=.ok (.lst ys,ρ'))(h0:ρ.getD i .uD=.lst xs0)(h1:ρ'.getD i .uD=.lst xs)(hl:xs.length+ys.length<=10000)(hp:D.aJ ys=true):U0 i f ρ=.ok (.nx (ρ'.set i (.lst (xs++ys)))):=by
 unfold U0;rw[h,Res.aO,h0];dsimp only;rw[h1];dsimp only;rw[if_pos (by rw[hp,bF,decide_eq_true 0x1];rfl)]
def teX:FX:=(bT cF 5 0 (aB fD (aB lY (aB d7 (aB mC aQ)))))
def aB0:lO=bB (eV false 6 (x2R getD eY (x2L (aU .mod) (bT aN 1 0 aQ) (aV lC (aB eY aQ))))) (bB (sIf (bTB (b2 (eX .ne) c7 (bC (.str "")))) (Z7 (bT cF 5 0 (aB fD (aB c7 (aB d7 (aB mC aQ)))))) mF) (bB (bW true 7 (gM (aB (bPu (b2 getD jR cG)) aQ)) true) (bB (VD (bK (b2 G6 (fW (aB (b2 getD jR iW) aQ)) (b2 getD jR h_)) false) (tg1 8) (U0 7 teX)) (nM 7)))):=rfl
abbrev tst(cs:List Int)(N:List Str)(M:List Rw)(T:List Tk)(m:Nat)(l:Nat->Nat)(most:Nat)(w:D)(z n:Nat)(a b c:D):List D:=[.cel z (dk cs n),.lst ((M++T.map tr).map (rwD N)),.lst (T.map (tkD N)),w,.int (most:Int),.dct (lsD N m l),a,b,c]
section
variable {cs:List Int} {N:List Str} (hN:N.length=26) (hd:N.Nodup) {m:Nat} {M:List Rw} {T:List Tk} {l:Nat->Nat} (G:Sig m M T l) {most:Nat} (hmo:most<=40)
include hN hd G hmo
theorem aB1:∀(ks:List Nat),(∀k∈ks,k<m)->∀(W:List Nat)(n:Nat)(c:D),n+40*ks.length<=3000->W.length+40*ks.length<=5000->∃(V:List Nat)(n':Nat)(c':D),Run (M++T.map tr) ks V/\V.length<=40*ks.length/\n'<=n+40*ks.length/\∀z,vA (tg1 8) (U0 7 teX) (ks.map (sy N)) (tst cs N M T m l most w z n a (.lst (W.map (sy N))) c)=.ok (.nx (tst cs N M T m l most w z n' a (.lst ((W++V).map (sy N))) c'))
 |[],_,W,n,c,_,_=>⟨[],n,c,.nil,Nat.zero_le _,by lia,λz=>by rw[List.append_nil];rfl⟩
 |k::ks,hk,W,n,c,hn,hW=>by
  rw[List.length_cons] at hn hW;have PL:=uH G [] (λr hr=>(by cases hr)) 0x4;rw[List.nil_append] at PL;obtain⟨V,n1,v1,v2,v3,v4⟩:=CP hN hd cs (n:=n) PL (k:=k) (most:=most) (hk k 0x2) 0x1 0x1;have hm4:max most 4<=40:=by lia
  obtain⟨V2,n2,c2,q1,q2,q3,q4⟩:=aB1 ks (λx hx=>hk x (by simp[hx])) (W++V) n1 (sy N k) 0x1 (by rw[List.length_append];lia);refine⟨V++V2,n2,c2,aHy (a:=[k]) v1 q1,by rw[List.length_append,List.length_cons];lia,by rw[List.length_cons];lia,λz=>?_⟩;rw[List.map_cons];have hx:teX (tst cs N M T m l most w z n a (.lst (W.map (sy N))) (sy N k))=.ok (.lst (V.map (sy N)),tst cs N M T m l most w z n1 a (.lst (W.map (sy N))) (sy N k)):=iJ (ρ:=tst cs N M T m l most w z n a (.lst (W.map (sy N))) (sy N k)) (i:=0) (h:=dk cs n) (h':=dk cs n1) (r:=.lst (V.map (sy N))) (rest:=[.lst ((M++T.map tr).map (rwD N)),sy N k,.int most,.dct (lsD N m l)]) (aD rfl (aD rfl (aD rfl (aD rfl rfl)))) rfl rfl v4 (iZ cs n1) rfl;refine dB (ρ1:=tst cs N M T m l most w z n a (.lst (W.map (sy N))) (sy N k)) (ρ2:=tst cs N M T m l most w z n1 a (.lst ((W++V).map (sy N))) (sy N k)) rfl ((aI0 (i:=7) (xs0:=W.map (sy N)) (xs:=W.map (sy N)) (ys:=V.map (sy N)) hx rfl rfl (by rw[List.length_map,List.length_map];lia) (bL ..)).trans ?_) ((q4 z).trans ?_)
  ·rw[<-List.map_append];rfl
  ·rw[List.append_assoc]
theorem aI1{x:Str}(hx:x=""\/∃k,k<m/\D.str x=sy N k){n:Nat}(hn:n<=2000):∃(V:List Nat)(k n':Nat),Run (M++T.map tr) [k] V/\V.length<=121/\n'<=n+121/\ch1 gW (dk cs n) [.lst ((M++T.map tr).map (rwD N)),.lst (T.map (tkD N)),.str x,.int (most:Int),.dct (lsD N m l)]=.ok (.lst (V.map (sy N)),dk cs n'):=by
 obtain⟨v,qv⟩:=iT cs n 0x1;have lT:0<T.length:=G.t1;obtain⟨i,i1,i2⟩:=kix (m:=T.length) 0x1 v;have hi:T[i]?=some T[i]:=List.getElem?_eq_getElem i1;have htT:T[i]∈T:=List.getElem_mem i1;generalize T[i]=t at hi htT;have hm4:max most 4<=40:=by lia
 have s6:∀z,eV false 6 (x2R getD eY (x2L (aU .mod) (bT aN 1 0 aQ) (aV lC (aB eY aQ)))) (tst cs N M T m l most (.str x) z n .uD .uD .uD)=.ok (.nx (tst cs N M T m l most (.str x) z (n+1) (tkD N t) .uD .uD)):=λz=>by
  have hl:∀ρ:List D,cO 2 ρ=.ok (.lst (T.map (tkD N)))->(aV lC (aB eY aQ)) ρ=.ok (.int T.length):=λρ h=>bO (aD h rfl) (by
   show Res.ok (D.int ((T.map (tkD N)).length:Int))=_;rw[List.length_map])
  exact gH (i:=6) (aA1 (x:=.lst (T.map (tkD N))) rfl (uQ (uY qv rfl rfl) rfl (hl _ rfl) (b_ _ _ 0x1) rfl) (mG i2 hi) (uC ..)) rfl
 have hc:∀z,bTB (b2 (eX .ne) c7 (bC (.str ""))) (tst cs N M T m l most (.str x) z (n+1) (tkD N t) .uD .uD)=.ok (!(x==("" : Str))):=λz=>e_ (aK (x:=.str x) rfl rfl rfl)
 cases hz:(x==("" : Str)) with
 |false=>
  obtain⟨k,hk,ek⟩:=hx.resolve_left λe=>by rw[e] at hz;exact absurd hz 0x6
  rw[hz] at hc;have PL:=uH G [] (λr hr=>(by cases hr)) 0x4;rw[List.nil_append] at PL;obtain⟨V,n1,v1,v2,v3,v4⟩:=CP hN hd cs (n:=n+1) PL (k:=k) (most:=most) hk 0x1 0x1;refine⟨V,k,n1,v1,by lia,by lia,wK λz=>uR (k:=1) (ρ:=tst cs N M T m l most (.str x) z n1 (tkD N t) .uD .uD) ?_⟩;show lO (tst cs N M T m l most (.str x) z n .uD .uD .uD)=_;rw[aB0];refine aM (s6 z) (JK (VF (hc z) (aHz ?_)));rw[ek];exact iJ (ρ:=tst cs N M T m l most (sy N k) z (n+1) (tkD N t) .uD .uD) (i:=0) (h:=dk cs (n+1)) (h':=dk cs n1) (r:=.lst (V.map (sy N))) (rest:=[.lst ((M++T.map tr).map (rwD N)),sy N k,.int most,.dct (lsD N m l)]) (aD rfl (aD rfl (aD rfl (aD rfl rfl)))) rfl rfl v4 (iZ cs n1) rfl
 |true=>
  rw[hz] at hc;obtain⟨g1,g2,g3,g4⟩:=G.tg t htT;have hkl:(t.2.2.1::t.2.2.2).length<=3:=by rw[List.length_cons];lia
  obtain⟨V,n1,c1,q1,q2,q3,q4⟩:=aB1 (cs:=cs) hN hd G hmo (w:=.str x) (a:=tkD N t) (t.2.2.1::t.2.2.2) (λk hk=>by
   rcases List.mem_cons.mp hk with rfl|hk
   ·exact g2
   ·exact g3 k hk) [t.1] (n+1) .uD 0x1 (by show 1+_<=_;lia)
  have hrun:Run (M++T.map tr) [t.2.1] (t.1::V):=.step (r:=tr t) (rest:=[]) (List.mem_append_right _ (List.mem_map_of_mem (f:=tr) htT)) (by rw[List.append_nil];exact q1);refine⟨t.1::V,t.2.1,n1,hrun,by rw[List.length_cons];lia,by lia,wK λz=>uR (k:=1) (ρ:=tst cs N M T m l most (.str x) z n1 (tkD N t) (.lst (([t.1]++V).map (sy N))) c1) ?_⟩;show lO (tst cs N M T m l most (.str x) z n .uD .uD .uD)=_;rw[aB0];obtain⟨y1,y2,y3,y4⟩:=xM (N:=N) (t:=t) (i:=6) (ρ:=tst cs N M T m l most (.str x) z (n+1) (tkD N t) .uD .uD) rfl;obtain⟨w1,w2,w3,w4⟩:=xM (N:=N) (t:=t) (i:=6) (ρ:=tst cs N M T m l most (.str x) z (n+1) (tkD N t) (.lst ([t.1].map (sy N))) .uD) rfl;refine aM (s6 z) (aM (xT (hc z) rfl) ?_);refine aM (ρ':=tst cs N M T m l most (.str x) z (n+1) (tkD N t) (.lst ([t.1].map (sy N))) .uD) (fK (i:=7) ?_ rfl) ?_
  ·unfold gM;rw[aD (xs:=[]) (b:=aQ) (NB y1 rfl) rfl,Res.aO,if_pos (by rw[bF];rfl)];rfl
  have hit:bK (b2 G6 (fW (aB (b2 getD jR iW) aQ)) (b2 getD jR h_)) false (tst cs N M T m l most (.str x) z (n+1) (tkD N t) (.lst ([t.1].map (sy N))) .uD)=.ok ((t.2.2.1::t.2.2.2).map (sy N),true):=by
   refine(gZ (xs:=(t.2.2.1::t.2.2.2).map (sy N)) (aK (x:=.tup [sy N t.2.2.1]) (fB (aD (b:=aQ) (xs:=[]) w3 rfl) (by rw[bF];show 1<=1000000;decide)) w4 (NZ [sy N t.2.2.1] _ (by rw[List.length_map];show 1+_<=_;lia)))).trans ?_;rw[bL];rfl
  exact aM (yJ hit (q4 z)) (vK rfl rfl)
end
def lw0:FS:=(bW true 1 (aMi (gM (aB (nC nJ fX (eZ O9)) (aB cG aQ)))) true)
def lw1:FS:=(eV false 2 (bT aN 1 1 aQ))
def lw2:FS:=(eV false 3 (x2L (aU .mod) (bT aN 1 1 aQ) (bC (.int 61))))
def lw3:FS:=(sIf (bTB (b2 (eX .eq) (b2 (aU .mod) (b2 (aU .fdiv) eY W6) DG) cP)) (bW false 3 (b2 xR c7 KD) true) mF)
def lw4:FS:=(eV false 4 (bT fP 1 1 aQ))
def lw5:FS:=(Y7 (bT jB 2 1 (aB d7 aQ)) [5,6,7,8])
def lw6:FS:=(bW false 9 (b2 (aU .add) jR (cJ 17 (bK jN false) jT dH (fW (aB (b2 getD oV cG) (aB (b2 getD oV cP) (aB (b2 G6 (fW (aB (b2 getD oV iW) aQ)) (b2 getD oV h_)) aQ)))) false)) true)
def lw7:FS:=(bW false 10 (bC (.str "")) true)
def lw8:FS:=(sIf (bTB (b2 (eX .eq) (b2 (aU .mod) eY iW) cP)) (bW false 10 (b2 getD mC (b2 (aU .mod) (b2 (aU .fdiv) eY KD) (aV lC (aB mC aQ)))) false) mF)
def lw9:FS:=(eV false 11 (xTu (bT gW 6 1 (aB kJ (aB jN (aB mL (aB (bPu (b2 getD (gM (aB DG (aB xP (aB KH aQ)))) (b2 (aU .mod) (b2 (aU .fdiv) eY iW) h_))) (aB lY aQ))))))))
def aP2:FS:=(bW false 12 (b2 getD (cJ 17 (bK kJ false) jT (bTB (b2 (eX .eq) (b2 getD oV cG) (b2 getD eO cG))) (b2 getD oV cP) false) cG) false)
def aQa:FS:=(eV false 13 (bT iH 5 1 (aB jR (aB jN (aB d7 (aB lY aQ))))))
def aQb:FS:=(bW false 14 (fW (aB (aV cX (aB mC aQ)) (aB (aV cX (aB jR aQ)) (aB (aV cX (aB jN aQ)) (aB (aV cX (aB lA aQ)) aQ))))) false)
def aP3:FS:=(bW false 15 (aV (mD 3 bH) (aB fV (aB eO (aB c7 aQ)))) true)
def aP4:FS:=(sIf (bTB (b2 (eX .eq) j4 (gM aQ))) (nU (b2 (eX .eq) (aV (mD 3 bH) (aB fV (aB eO (aB (b2 (aU .fdiv) c7 iW) aQ)))) (gM aQ)) true) mF)
def aP5:FS:=(bW false 16 (aV (mD 1 gF) (aB (b2 getD j4 cG) aQ)) true)
def aP6:FS:=(sIf (bOr (bTB (b2 (uN .lt) xO cG)) (bOr (bTB (b2 (uN .gt) xO c7)) (VB (bTr (aV (mD 3 dC) (aB (b2 getD (b2 getD j4 cG) cG) (aB k_ (aB jR aQ)))))))) (nU (bC (.bl false)) true) mF)
def aP7:FS:=(sIf (bTB (b2 (eX .ne) (aV (mD 3 bH) (aB fV (aB eO (aB xO aQ)))) j4)) (nU (bC (.bl false)) true) mF)
def aP8:FS:=(sIf (aBq (bTB (b2 (uN .gt) xO cG)) (bTB (b2 (eX .ne) (aV (mD 3 bH) (aB fV (aB eO (aB (b2 (aU .sub) xO cP) aQ)))) (gM aQ)))) (nU (bC (.bl false)) true) mF)
def aP9:FS:=(nU (aMf (b2 (uN .gt) (aV lC (aB (b2 getD (b2 getD j4 cG) cG) aQ)) W7) (b2 (eX .eq) (aV (mD 3 bH) (aB fV (aB (b2 getD (b2 getD j4 cG) cG) (aB cG aQ)))) (gM (aB (bPu (fW (aB (b2 getD (b2 getD j4 cG) cG) (aB cG (aB cG (aB cG aQ)))))) aQ)))) true)
def aI2:aHd=bB lw0 (bB lw1 (bB lw2 (bB lw3 (bB lw4 (bB lw5 (bB lw6 (bB lw7 (bB lw8 (bB lw9 (bB aP2 (bB aQa (bB aQb (bB aP3 (bB aP4 (bB aP5 (bB aP6 (bB aP7 (bB aP8 aP9)))))))))))))))))):=rfl
def aOc(N:List Str)(W:List Nat)(c:Cn)(n:Nat):(wD N W c).fC (n+2)=true:=by
 show(D.dR n (W.map (sy N))&&_)=true;rw[vL];rfl
def N5(N:List Str)(W:List Nat)(c:Cn):(D.lst [wD N W c]).fC aX=true:=by
 show((wD N W c).fC 11&&true)=true;rw[aOc N W c 9];rfl
def aM0(N:List Str)(W:List Nat)(c:Cn):eX .eq (.lst [wD N W c]) (.lst [])=.ok (.bl false):=by
 show(if (D.lst [wD N W c]).fC aX&&true then Res.ok (D.bl (eqD (.lst [wD N W c]) (.lst []))) else .bad)=_;rw[N5];rfl
def R3(N:List Str)(W:List Nat)(c:Cn):eqD (.lst [wD N W c]) (.lst [wD N W c])=true:=by
 have e:∀ws:List Nat,yF (ws.map (sy N)) (ws.map (sy N))=true:=by
  intro ws;induction ws with
  |nil=>rfl
  |cons x ws ih=>
   show(eqD (sy N x) (sy N x)&&yF (ws.map (sy N)) (ws.map (sy N)))=true;rw[ih];show((N.getD x "")==(N.getD x ""))&&true=true;rw[beq_self_eq_true];rfl
 show((yF (W.map (sy N)) (W.map (sy N))&&((c.c==c.c)&&((c.p==c.p)&&((c.d==c.d)&&true))))&&true)=true;rw[e,beq_self_eq_true,beq_self_eq_true,beq_self_eq_true];rfl
def aI3(N:List Str)(W:List Nat)(c:Cn):eX .ne (.lst [wD N W c]) (.lst [wD N W c])=.ok (.bl false):=by
 show(if (D.lst [wD N W c]).fC aX&&(D.lst [wD N W c]).fC aX then Res.ok (D.bl (!eqD (.lst [wD N W c]) (.lst [wD N W c]))) else .bad)=_;rw[N5,R3];rfl
def eq_self(N:List Str)(W:List Nat)(c:Cn):eX .eq (.lst [wD N W c]) (.lst [wD N W c])=.ok (.bl true):=by
 show(if (D.lst [wD N W c]).fC aX&&(D.lst [wD N W c]).fC aX then Res.ok (D.bl (eqD (.lst [wD N W c]) (.lst [wD N W c]))) else .bad)=_;rw[N5,R3];rfl
abbrev u_(x0 x1 x2:D)(b:Int)(x4 x5:D)(N:List Str)(M:List Rw)(x7 x8 x9 x10:D)(W0:List Nat)(k:Nat)(x13:D)(P:D)(f t:D):List D:=[x0,x1,x2,.int b,x4,x5,.lst (M.map (rwD N)),x7,x8,x9,x10,.tup (W0.map (sy N)),sy N k,x13,P,f,t]
section
variable {N:List Str} (hN:N.length=26) (hd:N.Nodup) {M:List Rw} {T:List Tk} {R:List Ru} (B:Tab M T R) {b:Int} (hb0:0<=b) (hb:b<=400) {k:Nat} {ks W0:List Nat} (hr:Run (M++T.map tr) [k] W0) (hl:W0.length<=400)
include hN hd B hb0 hb hr hl
theorem aI4{x0 x1 x2 x4 x5 x7 x8 x9 x10 x13:D}:bB aP3 (bB aP4 (bB aP5 (bB aP6 (bB aP7 (bB aP8 aP9))))) (u_ x0 x1 x2 b x4 x5 N M x7 x8 x9 x10 W0 k x13 (jZ N ks M T R) .uD .uD)=.ok (.rt (.bl true)):=by
 have ask:∀{f t:D}{i:FE}{m:Int}{r:D},i (u_ x0 x1 x2 b x4 x5 N M x7 x8 x9 x10 W0 k x13 (jZ N ks M T R) f t)=.ok (.int m)->mD 3 bH [jZ N ks M T R,.tup (W0.map (sy N)),.int m]=.ok r->aV (mD 3 bH) (aB fV (aB eO (aB i aQ))) (u_ x0 x1 x2 b x4 x5 N M x7 x8 x9 x10 W0 k x13 (jZ N ks M T R) f t)=.ok r:=λ{f t i m r} hi h=>bO (aD rfl (aD rfl (aD hi rfl))) h
 have hb2:b / 2<=b:=by lia
 have hb3:0<=b / 2:=by lia
 rcases aAt hN hd B hb hr hl hb0 with hs|⟨W,c,h1,h2,h3,h4,h5⟩
 ·have a1:=C_ (hs b hb0 (Int.le_refl _));have a2:=C_ (hs (b / 2) hb3 hb2);refine aM (cZ (ask rfl a1)) ?_;exact JK (VF (e_ (aK rfl rfl rfl)) (wG (aK (ask (aK rfl rfl (dM _ _ 0x4 0x4)) a2) rfl rfl) rfl))
 ·have w1:=h5 b hb0 (Int.le_refl _);rw[if_pos h4] at w1;have a1:=CZ w1;have t0:0<=tot c:=by have:=h3.c;have:=h3.p;have:=h3.d;show 0<=c.c+c.p+c.d;lia
  have w2:=h5 (tot c) t0 h4;rw[if_pos (Int.le_refl _)] at w2;have a2:=CZ w2;have a3:=CZ (U9 hN hd B (m:=0) (ks:=ks) h1 0x1);have iv:mD 3 dC [.tup (W.map (sy N)),sy N k,.lst (M.map (rwD N))]=.ok (.bl true):=(sJ rfl).trans (NQ hN hd B.hM h1 0x1);have f00:∀t:D,b2 getD (b2 getD j4 cG) cG (u_ x0 x1 x2 b x4 x5 N M x7 x8 x9 x10 W0 k x13 (jZ N ks M T R) (.lst [wD N W c]) t)=.ok (.tup (W.map (sy N))):=λt=>aK (x:=wD N W c) (aK rfl rfl rfl) rfl rfl
  refine aM (ρ':=u_ x0 x1 x2 b x4 x5 N M x7 x8 x9 x10 W0 k x13 (jZ N ks M T R) (.lst [wD N W c]) .uD) (cZ (i:=15) (ask rfl a1)) ?_;refine aM (xT (e_ (aK (x:=.lst [wD N W c]) (y:=.lst []) rfl rfl (aM0 N W c))) rfl) ?_;refine aM (ρ':=u_ x0 x1 x2 b x4 x5 N M x7 x8 x9 x10 W0 k x13 (jZ N ks M T R) (.lst [wD N W c]) (.int (tot c))) (cZ (i:=16) (bO (xs:=[wD N W c]) (aD (aK rfl rfl rfl) rfl) (aAw h3))) ?_;refine aM (xT (aEn (e_ (aK (x:=.int (tot c)) rfl rfl ((RB _ _).trans (by rw[decide_eq_false 0x1])))) (aEn (e_ (aK (x:=.int (tot c)) (y:=.int b) rfl rfl ((cmp_gt _ _).trans (by rw[decide_eq_false 0x1])))) (JR (b:=true) (JS (bO (aD (f00 _) (aD rfl (aD rfl rfl))) iv))))) rfl) ?_;refine aM (xT (e_ (aK (y:=.lst [wD N W c]) (ask rfl a2) rfl (aI3 N W c))) rfl) ?_;refine aM (ρ':=u_ x0 x1 x2 b x4 x5 N M x7 x8 x9 x10 W0 k x13 (jZ N ks M T R) (.lst [wD N W c]) (.int (tot c))) ?_ ?_
  ·by_cases hz:0<tot c
   ·have w4:=h5 (tot c-1) 0x1 0x1;rw[if_neg 0x1] at w4;exact xT (aJn (e_ (aK (x:=.int (tot c)) rfl rfl ((cmp_gt _ _).trans (by rw[decide_eq_true hz])))) (e_ (aK (y:=.lst []) (ask (aK (x:=.int (tot c)) rfl rfl (GZ _ _)) (C_ w4)) rfl rfl))) rfl
   ·exact xT (aJo (e_ (aK (x:=.int (tot c)) rfl rfl ((cmp_gt _ _).trans (by rw[decide_eq_false hz]))))) rfl
  ·have hlen:b2 (uN .gt) (aV lC (aB (b2 getD (b2 getD j4 cG) cG) aQ)) W7 (u_ x0 x1 x2 b x4 x5 N M x7 x8 x9 x10 W0 k x13 (jZ N ks M T R) (.lst [wD N W c]) (.int (tot c)))=.ok (.bl (decide ((400:Int)<W.length))):=aK (x:=.int W.length) (bO (aD (f00 _) rfl) (by show Res.ok (D.int ((W.map (sy N)).length:Int))=_;rw[List.length_map])) rfl (cmp_gt _ _);have hrest:b2 (eX .eq) (aV (mD 3 bH) (aB fV (aB (b2 getD (b2 getD j4 cG) cG) (aB cG aQ)))) (gM (aB (bPu (fW (aB (b2 getD (b2 getD j4 cG) cG) (aB cG (aB cG (aB cG aQ)))))) aQ)) (u_ x0 x1 x2 b x4 x5 N M x7 x8 x9 x10 W0 k x13 (jZ N ks M T R) (.lst [wD N W c]) (.int (tot c)))=.ok (.bl true):=by
    have hL:gM (aB (bPu (fW (aB (b2 getD (b2 getD j4 cG) cG) (aB cG (aB cG (aB cG aQ)))))) aQ) (u_ x0 x1 x2 b x4 x5 N M x7 x8 x9 x10 W0 k x13 (jZ N ks M T R) (.lst [wD N W c]) (.int (tot c)))=.ok (.lst [wD N W ⟨0,0,0⟩]):=by
     have hT:fW (aB (b2 getD (b2 getD j4 cG) cG) (aB cG (aB cG (aB cG aQ)))) (u_ x0 x1 x2 b x4 x5 N M x7 x8 x9 x10 W0 k x13 (jZ N ks M T R) (.lst [wD N W c]) (.int (tot c)))=.ok (wD N W ⟨0,0,0⟩):=fB (aD (f00 _) (aD rfl (aD rfl (aD rfl rfl)))) (by rw[bF];show 4<=1000000;decide);unfold gM;rw[aD (xs:=[]) (b:=aQ) (NB hT (NT ..)) rfl,Res.aO,if_pos (by rw[bF];rfl)];rfl
    exact aK (bO (xs:=[jZ N ks M T R,.tup (W.map (sy N)),.int 0]) (aD rfl (aD (f00 _) (aD rfl rfl))) a3) hL (eq_self ..)
   refine wG (d:=.bl true) ?_ rfl;unfold aMf;rw[hlen,Res.aO];cases decide ((400:Int)<W.length)
   ·exact hrest
   ·rfl
end
def aI5{f:FX}{ρ ρ1 xs:List D}{is:List Nat}(h:f ρ=.ok (.lst xs,ρ1))(hl:xs.length=is.length){ρ':List D}(he:KN is xs ρ1=ρ'):Y7 f is ρ=.ok (.nx ρ'):=by
 subst he;unfold Y7;rw[h,Res.aO];dsimp only;rw[if_pos (decide_eq_true hl)]
def aF3(h:a ρ=.ok xs)(hl:xs.length<=lim):gM a ρ=.ok (.lst xs):=by
 unfold gM;rw[h,Res.aO,if_pos (decide_eq_true hl)];rfl
def aQc(ns:List Int):(ns.map D.int).all isI=true:=by
 rw[List.all_eq_true];intro x hx;obtain⟨i,_,rfl⟩:=List.mem_map.mp hx;rfl
def aM1(ns:List Int)(r:List D):∃cs:List Int,lw0 (.scr (ns.map D.int)::.uD::r)=.ok (.nx (.scr (ns.map D.int)::.lst (dk cs 0)::r)):=by
 refine⟨cutD ns none (some 120),fK ?_ (iZ _ _)⟩;have h1:nC nJ fX (eZ O9) (.scr (ns.map D.int)::.uD::r)=.ok (.lst ((cutD ns none (some 120)).map D.int)):=by
  rw[<-aGg];show(if D.aJ (ns.map D.int) then Res.ok (D.lst (cutD (ns.map D.int) none (some 120))) else .bad)=_;rw[sO];rfl
 have h2:gM (aB (nC nJ fX (eZ O9)) (aB cG aQ)) (.scr (ns.map D.int)::.uD::r)=.ok (.lst [.lst ((cutD ns none (some 120)).map D.int),.int 0]):=aF3 (aD h1 rfl) (by rw[bF];simp);unfold aMi;rw[h2,Res.aO];show(do let r <- aGm [.lst ((cutD ns none (some 120)).map D.int),.int 0];Res.ok (D.lst r))=_;have h3:aGm [.lst ((cutD ns none (some 120)).map D.int),.int 0]=.ok (dk (cutD ns none (some 120)) 0):=by
  show(if ((cutD ns none (some 120)).map D.int).all isI&&D.aJ [.int 0] then Res.ok (D.scr ((cutD ns none (some 120)).map D.int)::[.int 0]) else .bad)=_;rw[aQc];rfl
 rw[h3];rfl
def aI6(i:Int)(h0:0<=i)(h1:i<3):∃t:Nat,getD (.lst [.int 4,.int 12,.int 40]) (.int i)=.ok (.int (t:Int))/\t<=40:=by
 have:i=0\/i=1\/i=2:=by lia
 rcases this with h|h|h<;>subst h
 ·exact⟨4,rfl,by decide⟩
 ·exact⟨12,rfl,by decide⟩
 ·exact⟨40,rfl,by decide⟩
theorem aF4:∀{L:List α},(L.map f).Nodup->∀{a b:α},a∈L->b∈L->f a=f b->a=b
 |[],_,a,_,ha,_,_=>by cases ha
 |x::L,h,a,b,ha,hb,e=>by
  rw[List.map_cons,List.nodup_cons] at h;rcases List.mem_cons.mp ha with e1|ha1
  ·rcases List.mem_cons.mp hb with e2|hb1
   ·rw[e1,e2]
   ·exact absurd (show f x∈L.map f by rw[<-e1,e];exact List.mem_map_of_mem hb1) h.1
  ·rcases List.mem_cons.mp hb with e2|hb1
   ·exact absurd (show f x∈L.map f by rw[<-e2,<-e];exact List.mem_map_of_mem ha1) h.1
   ·exact aF4 h.2 ha1 hb1 e
def aOd(h:f ρ=.ok (.lst xs,ρ'))(hp:D.aJ xs=true):xTu f ρ=.ok (.tup xs,ρ'):=by
 unfold xTu;rw[h,Res.aO];dsimp only;rw[if_pos hp]
abbrev LS(ns cs:List Int)(n:Nat)(x2 x3 x4 x5 x6 x7 x8 x9 x10 x11 x12 x13 x14:D):List D:=[.scr (ns.map D.int),.lst (dk cs n),x2,x3,x4,x5,x6,x7,x8,x9,x10,x11,x12,x13,x14,.uD,.uD]
def aM2{ns cs:List Int}{n:Nat}{v:Int}{x2:D}(q:ch1 aN (dk cs n) []=.ok (.int v,dk cs (n+1))):lw2 (LS ns cs n x2 .uD .uD .uD .uD .uD .uD .uD .uD .uD .uD .uD .uD)=.ok (.nx (LS ns cs (n+1) x2 (.int (v % 61)) .uD .uD .uD .uD .uD .uD .uD .uD .uD .uD .uD)):=gH (uQ (uY q rfl rfl) rfl rfl (b_ _ _ 0x4) rfl) rfl
def aM3{ns cs:List Int}{n:Nat}{cell v:Int}(h0:0<=v)(h1:v<61):∃b:Int,0<=b/\b<=400/\lw3 (LS ns cs n (.int cell) (.int v) .uD .uD .uD .uD .uD .uD .uD .uD .uD .uD .uD)=.ok (.nx (LS ns cs n (.int cell) (.int b) .uD .uD .uD .uD .uD .uD .uD .uD .uD .uD .uD)):=by
 have hc:bTB (b2 (eX .eq) (b2 (aU .mod) (b2 (aU .fdiv) eY W6) DG) cP) (LS ns cs n (.int cell) (.int v) .uD .uD .uD .uD .uD .uD .uD .uD .uD .uD .uD)=.ok (cell / 18 % 4==1):=e_ (aK (aK (aK rfl rfl (dM _ _ 0x4 0x4)) rfl (b_ _ _ 0x4)) rfl (m8 _ _));cases hz:(cell / 18 % 4==1) with
 |true=>
  rw[hz] at hc;exact⟨v*6,by lia,by lia,VF hc (cZ (aK rfl rfl (oA _ _ rfl)))⟩
 |false=>
  rw[hz] at hc;exact⟨v,h0,by lia,xT hc rfl⟩
section
variable {ns cs:List Int} {N:List Str} (hN:N.length=26) (hd:N.Nodup) {m:Nat} {M:List Rw} {T:List Tk} {l:Nat->Nat} (G:Sig m M T l)
abbrev LT(ns cs:List Int)(N:List Str)(m:Nat)(M:List Rw)(T:List Tk)(l:Nat->Nat)(n:Nat)(cell b:Int)(x9 x10 x11 x12 x13 x14:D):List D:=LS ns cs n (.int cell) (.int b) (.lst ((List.range 26).map (sy N))) (.lst ((List.range m).map (sy N))) (.lst (M.map (rwD N))) (.lst (T.map (tkD N))) (.dct (lsD N m l)) x9 x10 x11 x12 x13 x14
include G in
theorem aM4{n:Nat}{cell b:Int}{x9:D}:∃x:Str,(x=""\/∃k,k<m/\D.str x=sy N k)/\lw8 (LT ns cs N m M T l n cell b x9 (.str "") .uD .uD .uD .uD)=.ok (.nx (LT ns cs N m M T l n cell b x9 (.str x) .uD .uD .uD .uD)):=by
 have hc:bTB (b2 (eX .eq) (b2 (aU .mod) eY iW) cP) (LT ns cs N m M T l n cell b x9 (.str "") .uD .uD .uD .uD)=.ok (cell % 2==1):=e_ (aK (aK rfl rfl (b_ _ _ 0x4)) rfl (m8 _ _));have m1:=G.m1;obtain⟨k,k1,k2⟩:=kix m1 (cell / 6);cases hz:(cell % 2==1) with
 |true=>
  rw[hz] at hc;refine⟨N.getD k "",.inr ⟨k,k1,rfl⟩,VF hc (jK (aK rfl (aK (aK rfl rfl (dM _ _ 0x4 0x4)) (bO (aD rfl rfl) ?_) (b_ _ _ 0x1)) (iU k2 k1)) rfl)⟩;show Res.ok (D.int (((List.range m).map (sy N)).length:Int))=_;rw[List.length_map,List.length_range]
 |false=>
  rw[hz] at hc;exact⟨"",.inl rfl,xT hc rfl⟩
def aM5{n n':Nat}{cell b:Int}{x:Str}{V:List Nat}{most:Nat}(hm:getD (.lst [.int 4,.int 12,.int 40]) (.int (cell / 2 % 3))=.ok (.int (most:Int)))(q:ch1 gW (dk cs n) [.lst ((M++T.map tr).map (rwD N)),.lst (T.map (tkD N)),.str x,.int (most:Int),.dct (lsD N m l)]=.ok (.lst (V.map (sy N)),dk cs n')):lw9 (LT ns cs N m M T l n cell b (.lst ((M++T.map tr).map (rwD N))) (.str x) .uD .uD .uD .uD)=.ok (.nx (LT ns cs N m M T l n' cell b (.lst ((M++T.map tr).map (rwD N))) (.str x) (.tup (V.map (sy N))) .uD .uD .uD)):=by
 have hL:gM (aB DG (aB xP (aB KH aQ))) (LT ns cs N m M T l n cell b (.lst ((M++T.map tr).map (rwD N))) (.str x) .uD .uD .uD .uD)=.ok (.lst [.int 4,.int 12,.int 40]):=aF3 (aD rfl (aD rfl (aD rfl rfl))) (by rw[bF];show 3<=1000000;decide);have ha:aB kJ (aB jN (aB mL (aB (bPu (b2 getD (gM (aB DG (aB xP (aB KH aQ)))) (b2 (aU .mod) (b2 (aU .fdiv) eY iW) h_))) (aB lY aQ)))) (LT ns cs N m M T l n cell b (.lst ((M++T.map tr).map (rwD N))) (.str x) .uD .uD .uD .uD)=.ok [.lst ((M++T.map tr).map (rwD N)),.lst (T.map (tkD N)),.str x,.int (most:Int),.dct (lsD N m l)]:=
  aD rfl (aD rfl (aD rfl (aD (NB (aK hL (aK (aK rfl rfl (dM _ _ 0x4 0x4)) rfl (b_ _ _ 0x4)) hm) rfl) (aD rfl rfl))))
 exact gH (aOd (iJ ha rfl rfl q (iZ cs n') rfl) (bL ..)) rfl
include hN hd in
theorem aI7{n:Nat}{cell b:Int}{x10:D}{k:Nat}{V:List Nat}(hF:Hds (M++T.map tr))(hr:Run (M++T.map tr) [k] V):aP2 (LT ns cs N m M T l n cell b (.lst ((M++T.map tr).map (rwD N))) x10 (.tup (V.map (sy N))) .uD .uD .uD)=.ok (.nx (LT ns cs N m M T l n cell b (.lst ((M++T.map tr).map (rwD N))) x10 (.tup (V.map (sy N))) (sy N k) .uD .uD)):=by
 generalize hH:M++T.map tr=H at hF hr;cases hr with
 |@step r _ W hrH hrun=>
  have hmem:r∈H.filter (λq=>decide (q.1=r.1)):=List.mem_filter.mpr ⟨hrH,decide_eq_true rfl⟩;have hall:∀q∈H.filter (λq=>decide (q.1=r.1)),q=r:=λq hq=>by
   obtain⟨h1,h2⟩:=List.mem_filter.mp hq;exact aF4 hF.nd h1 hrH (of_decide_eq_true h2)
  have hc:cJ 17 (bK kJ false) jT (bTB (b2 (eX .eq) (b2 getD oV cG) (b2 getD eO cG))) (b2 getD oV cP) false (LT ns cs N m M T l n cell b (.lst (H.map (rwD N))) x10 (.tup ((r.1::W).map (sy N))) .uD .uD .uD)=.ok (.lst ((H.filter λq=>decide (q.1=r.1)).map λq=>sy N q.2.1)):=by
   refine aA7 (rwD N) (λq=>sy N q.2.1) (λq=>decide (q.1=r.1)) H rfl (kI rfl) (by have:=hF.ln;lia) (λq hq=>?_) λq hq _=>⟨(jY rfl).2.1,rfl⟩
   exact e_ (aK (jY rfl).1 (aK rfl rfl (RG rfl rfl)) (aAf hN hd (hF.lt q hq).1 (hF.lt r hrH).1))
  generalize H.filter (λq=>decide (q.1=r.1))=L at hmem hall hc;cases L with
  |nil=>cases hmem
  |cons q L=>
   have e:=hall q (List.mem_cons_self ..);subst e;exact jK (aK hc rfl (mG rfl rfl)) rfl
end
def main:∀ns:List Int,ns.length<=63->U7 [.scr (ns.map D.int)]=.ok (.bl true):=λns _=>by
 obtain⟨cs,e0⟩:=aM1 ns [.uD,.uD,.uD,.uD,.uD,.uD,.uD,.uD,.uD,.uD,.uD,.uD,.uD,.uD,.uD];obtain⟨cell,q1⟩:=iT cs 0 0x1;obtain⟨v,q2⟩:=iT cs 1 0x1;obtain⟨b,hb0,hb,e3⟩:=aM3 (ns:=ns) (cs:=cs) (n:=2) (cell:=cell) (v:=v % 61) (Int.emod_nonneg _ 0x4) (Int.emod_lt_of_pos _ 0x4);obtain⟨N,hN,hd,q4⟩:=aDc cs 2 0x1;rw[aL6 N hN] at q4;obtain⟨m,M,T,l,n1,G,hn1,q5⟩:=aLi hN hd cs 5 0x1;obtain⟨x,hx,e8⟩:=aM4 (ns:=ns) (cs:=cs) (N:=N) G (n:=n1) (cell:=cell) (b:=b) (x9:=.lst ((M++T.map tr).map (rwD N)));obtain⟨most,o1,o2⟩:=aI6 (cell / 2 % 3) (Int.emod_nonneg _ 0x4) (Int.emod_lt_of_pos _ 0x4);obtain⟨V,k,n2,r1,r2,r3,q9⟩:=aI1 (cs:=cs) hN hd G o2 hx (n:=n1) 0x1;obtain⟨R,n3,B,hn3,q11⟩:=aDo (cs:=cs) hN hd G (n:=n2) 0x1;have e9:=aM5 (ns:=ns) (b:=b) o1 q9;have e10:=aI7 (ns:=ns) (cs:=cs) hN hd (m:=m) (l:=l) (n:=n2) (cell:=cell) (b:=b) (x10:=.str x) B.hF r1;have tl:=aI4 hN hd B hb0 hb (ks:=List.range m) r1 0x1 (x0:=.scr (ns.map D.int)) (x1:=.lst (dk cs n3)) (x2:=.int cell) (x4:=.lst ((List.range 26).map (sy N))) (x5:=.lst ((List.range m).map (sy N))) (x7:=.lst (T.map (tkD N))) (x8:=.dct (lsD N m l)) (x9:=.lst ((M++T.map tr).map (rwD N))) (x10:=.str x) (x13:=.lst (R.map (ruD N)));refine call_v ?_;show aHd (.scr (ns.map D.int)::.uD::[.uD,.uD,.uD,.uD,.uD,.uD,.uD,.uD,.uD,.uD,.uD,.uD,.uD,.uD,.uD])=_;rw[aI2];refine aM e0 ?_;refine aM (ρ':=LS ns cs 1 (.int cell) .uD .uD .uD .uD .uD .uD .uD .uD .uD .uD .uD .uD) (gH (i:=2) (uY q1 rfl rfl) rfl) ?_;refine aM (aM2 q2) ?_;refine aM e3 ?_;refine aM (ρ':=LS ns cs 5 (.int cell) (.int b) (.lst ((List.range 26).map (sy N))) .uD .uD .uD .uD .uD .uD .uD .uD .uD .uD) (gH (i:=4) (iJ (fs:=aQ) (i:=1) (rest:=[]) rfl rfl rfl q4 (iZ ..) rfl) rfl) ?_;refine aM (ρ':=LT ns cs N m M T l n1 cell b .uD .uD .uD .uD .uD .uD) (aI5 (iJ (i:=1) (fs:=aB d7 aQ) (rest:=[.lst ((List.range 26).map (sy N))]) (aD rfl rfl) rfl rfl q5 (iZ ..) rfl) rfl rfl) ?_;refine aM (ρ':=LT ns cs N m M T l n1 cell b (.lst ((M++T.map tr).map (rwD N))) .uD .uD .uD .uD .uD) (cZ (i:=9) (R0 hN hd G (n:=17) rfl rfl rfl λt=>rfl)) ?_;refine aM (ρ':=LT ns cs N m M T l n1 cell b (.lst ((M++T.map tr).map (rwD N))) (.str "") .uD .uD .uD .uD) (cZ (i:=10) rfl) ?_;refine aM e8 (aM e9 (aM e10 ?_))
 refine aM (ρ':=LT ns cs N m M T l n3 cell b (.lst ((M++T.map tr).map (rwD N))) (.str x) (.tup (V.map (sy N))) (sy N k) (.lst (R.map (ruD N))) .uD) (gH (i:=13) (iJ (i:=1) (h:=dk cs n2) (h':=dk cs n3) (r:=.lst (R.map (ruD N))) (fs:=aB jR (aB jN (aB d7 (aB lY aQ)))) (rest:=[.lst (M.map (rwD N)),.lst (T.map (tkD N)),.lst ((List.range 26).map (sy N)),.dct (lsD N m l)]) (aD rfl (aD rfl (aD rfl (aD rfl rfl)))) rfl rfl q11 (iZ ..) rfl) rfl) ?_;refine aM (ρ':=LT ns cs N m M T l n3 cell b (.lst ((M++T.map tr).map (rwD N))) (.str x) (.tup (V.map (sy N))) (sy N k) (.lst (R.map (ruD N))) (jZ N (List.range m) M T R)) (jK (i:=14) (fB (aD (bO (aD rfl rfl) rfl) (aD (bO (aD rfl rfl) rfl) (aD (bO (aD rfl rfl) rfl) (aD (bO (aD rfl rfl) rfl) rfl)))) (by rw[bF];show 4<=1000000;decide)) (aDk ..)) ?_;exact tl
end Lk55
section
open PySem PySem.W PyProof.Rows
namespace PySem.W.Fast
def tw9606791318440406682:=()
def tw14186443792828726842:=()
def tw1529761396614988377:=()
def tw11337887977309558079:=()
def tw6401072514192442392:=()
def tw9294963139919242546:=()
def tw3047792539416018822:=()
def tw13570352561558303344:=()
def tw8148668864143317030:=()
def tw16493013399105555998:=()
def tw5757139324026474538:=()
def tw5311648233332013625:=()
def tw9230463386359455939:=()
def tw14410687519699924483:=()
def tw7707589545652056584:=()
def tw8665102512175685346:=()
def tw5697417474807001732:=()
def tw2470627395089463546:=()
def tw7874205719477277298:=()
def tw644443068810003808:=()
def tw5266711899532821610:=()
def tw8968829106648260839:=()
def tw16574191434018260568:=()
def tw14482039440306642642:=()
def tw18270465611096037298:=()
def tw479890032046253969:=()
def tw2916477139008216221:=()
def tw12334710927863804460:=()
def tw4667595773850394111:=()
def tw8037651450156009901:=()
def tw13622049782956723628:=()
def tw9836035059189117700:=()
def tw5883423981558963626:=()
def tw8704423411542019207:=()
def tw14163909162003721469:=()
def tw13711821615105479541:=()
def tw15308408608253968378:=()
def tw15169712035765215245:=()
def tw3245044999422824022:=()
def tw14030787085608898626:=()
def tw12005297781401357107:=()
def tw8996175869734607246:=()
def tw4079665331552010147:=()
def tw6511540569946169486:=()
def tw15212790227134328777:=()
def tw10946408411700485886:=()
def tw11806440625836332436:=()
def tw17772480276823644752:=()
def tw10469770658007712598:=()
def tw4837633698935791646:=()
def tw2278891552148422708:=()
def tw7412879186062730624:=()
def tw6283745766450342442:=()
def tw15190531336765202373:=()
def tw1129813644874158461:=()
def tw12072319863866578729:=()
def tw4251006616401043431:=()
def tw7263716851594754488:=()
def tw4216704343618209154:=()
def tw11874249452655473827:=()
def tw477394101089401241:=()
def tw5778531524601814064:=()
def tw15038700312066778546:=()
def tw13883764767994915694:=()
def tw7120967010123082779:=()
def tw7078076363310984171:=()
def tw5577806720152029321:=()
def tw9105592599788489502:=()
def tw13906146979180437043:=()
def tw2275098909826539263:=()
def tw12772832172682267529:=()
def tw10363996348301977948:=()
def tw3017276731171287191:=()
def tw4780521655614234359:=()
def tw11383451512290340575:=()
def tw17241731977533154889:=()
def tw7366163938015541199:=()
def tw5510150324094819285:=()
def tw4974275451047463978:=()
def tw10919656549813991735:=()
def tw12539991544810708139:=()
def tw3640345389812509361:=()
def tw8117796131930727259:=()
def tw4279441671022114963:=()
def tw16867690886406028761:=()
def tw15490599876402867506:=()
def tw7213752611894137414:=()
def tw10479657679469218233:=()
def tw17878046048036297284:=()
def tw9785671032481293699:=()
def tw8578385247500450625:=()
def tw9715720174627735948:=()
def tw8273843092831637708:=()
def tw1870147155158162097:=()
def tw11948392981638523559:=()
def tw15866626099925299777:=()
def tw18238472870886897469:=()
def tw17804713110843371457:=()
def tw11800813655821690768:=()
def tw17698325484200865878:=()
def tw17832788593395101028:=()
def tw3764073155267084132:=()
def tw17304076658023168829:=()
def tw6798220897964538602:=()
def tw15683939452704688386:=()
def tw4017455987098604739:=()
def tw15682339687911761167:=()
def tw5461995536855869299:=()
def tw17155520323409469156:=()
def tw7760701538177414390:=()
def tw17248467502361036749:=()
def tw13366968996399567181:=()
def tw12700087514287799771:=()
def tw4976744025771103238:=()
def tw9567163526953594860:=()
def tw15918008818471817248:=()
def tw8364367943434909786:=()
def tw1604728761280302991:=()
def tw15778083909128855289:=()
def tw11500284439451730008:=()
end PySem.W.Fast
set_option maxRecDepth 100000 in
set_option maxHeartbeats 0 in
theorem PySem.Challenge.cw_hookmill_k55_whole_kinds_kept_holds : PySem.Challenge.rw_hookmill_k55_whole_kinds_kept.Holds := by
 w_on;o_law;k_head;(case hw=>w_witness2)
 k_fill
 refine Lk55.walk (l:=PySem.Challenge.rw_hookmill_k55_whole_kinds_kept) Lk55.main rfl rfl (fun w h Y=>PySem.W.kIn_of Y) ?F
 case F=>
  intro w mg fa h KX G hmg
  refine' Lk55.aL3 KX G hmg ?a0 ?a1 ?a2 ?l2 ?c2 ?k2 ?t2 ?a3 ?a4 ?a5 ?a6 ?a7 ?a8 ?a9 ?a10 ?a11 ?a12 ?l12 ?c12 ?k12 ?qj ?qk ?ql ?qm ?qo ?qp ?qr ?qt ?qu ?qw ?qx ?qy ?qz ?qA ?qB ?qC ?qD ?qE ?qF ?pc ?qG ?qH ?qI ?qJ ?qK ?qL ?qM ?qN ?qO ?qP ?kn_Spent ?pb ?p7 ?pg_Frame ?qQ ?po_Frame ?qR ?mk_Frame ?qS ?qT ?pR ?pS ?pT ?qU ?pU ?pC ?pD ?pg_PlainRun ?qV ?po_PlainRun ?qW ?mk_PlainRun ?qX ?qY ?pV ?pW ?pX ?qZ ?pY ?pZ ?qa ?pE ?pj ?ph ?pi ?rg ?qb ?qc ?pF ?iI ?qd ?pG ?pH ?pq ?gY ?rh ?qe ?qf ?pI ?m7 ?rj ?qg ?qh ?pJ ?gG ?rq
  (case a0|a1|a3|a4|a5|a6|a7|a8|a9|a10|a11=>refine' Lk55.aO1 ?a ?b ?c ?d;(case a=>k_is);(case b=>k_is);(case c=>k_is);case d=>k_is)
  (case a2|l2|c2|k2|t2|a12|l12|c12|k12|qj|qk|ql|qm|qo|qp|qr|qt|qu|qw|qx|qy|qz|qA|qB|qC|qD|qE|qF|pc|qH|qI|qJ|qK|qL|qM|qN|qO|pb|p7|pg_Frame|qQ|po_Frame|qR|mk_Frame|qS|qT|pR|pS|pT|qU|pU|pC|pD|pg_PlainRun|qV|po_PlainRun|qW|mk_PlainRun|qX|qY|pV|pW|pX|qZ|pY|pZ|qa|pE|pj|ph|pi|rg|qb|qc|pF|iI|qd|pG|pH|pq|gY|rh|qe|qf|pI|m7|rj|qg|qh|pJ|gG=>k_is)
  (case qG=>kts_exm)
  (case qP=>kit_is)
  (case kn_Spent=>kit_is)
  (case rq=>k_exc)
end
