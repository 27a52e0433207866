import PyProof.Rows.All
import Wide.All
import OpenK.AllK
import Wide.FinOn
import PySem.Challenge.RW_hookmill_k08_whole_hooked_in_any_order
set_option Elab.async false
set_option maxRecDepth 100000
set_option maxHeartbeats 4000000
noncomputable section
set_option linter.all false
set_option autoImplicit true
set_option genSizeOfSpec false
set_option genInjectivity true
abbrev nDb(x:PySem.Str):Prop:= (x==("__debug__" : PySem.Str))=false
abbrev nCd(x:PySem.Str):Prop:= (x==("__classdict__" : PySem.Str))=false
namespace L2
open PySem PySem.Spec PyProof.Rows
noncomputable abbrev Key:=Sum Int Str
noncomputable def R7:Key->Value->Bool
 |.inl k,v=>Value.isInt k v
 |.inr x,v=>Value.isStrOf x v
noncomputable def aMu(w:World):Key->Int
 |.inl k=>hashInt k
 |.inr x=>hashStr w x
theorem dB:∀{k:Key}{v:Value},R7 k v=true->(∃i t,k=Sum.inl i/\v=Value.int i t)\/(∃x t,k=Sum.inr x/\v=Value.str x t)
 |.inl i,v,h=>by
  obtain⟨t,e⟩:=Value.isInt_shape (k:=i) (v:=v) h;exact .inl ⟨i,t,rfl,e⟩
 |.inr x,v,h=>by
  obtain⟨t,e⟩:=Value.isStrOf_shape (x:=x) (v:=v) h;exact .inr ⟨x,t,rfl,e⟩
theorem U8(i:Int)(t:Tok):R7 (.inl i) (.int i t)=true:=by simp[R7,Value.isInt]
theorem U9(x:Str)(t:Tok):R7 (.inr x) (.str x t)=true:=by simp[R7,Value.isStrOf]
theorem aH1(a b:Int):decide ((Sum.inl a:Key)=Sum.inl b)=(a==b):=by
 by_cases e:a=b
 ·subst e;simp
 ·have h:¬(Sum.inl a:Key)=Sum.inl b:=λq=>e (Sum.inl.inj q)
  rw[decide_eq_false h];exact(beq_eq_false_iff_ne.mpr e).symm
theorem aH2(a b:Str):decide ((Sum.inr a:Key)=Sum.inr b)=decide (a=b):=by
 by_cases e:a=b
 ·subst e;simp
 ·have h:¬(Sum.inr a:Key)=Sum.inr b:=λq=>e (Sum.inr.inj q)
  rw[decide_eq_false h,decide_eq_false e]
theorem aH3(a:Int)(b:Str):decide ((Sum.inl a:Key)=Sum.inr b)=false:=decide_eq_false (λq=>nomatch q)
theorem aH4(a:Str)(b:Int):decide ((Sum.inr a:Key)=Sum.inl b)=false:=decide_eq_false (λq=>nomatch q)
def dR(prog:Program)(w:World):PySem.KeyKind prog w Key where
 is:=R7
 hash:=aMu w
 inj:=λv a b ha hb=>by
  rcases dB ha with ⟨i,t,rfl,rfl⟩|⟨x,t,rfl,rfl⟩
  ·rcases dB hb with ⟨j,u,rfl,e⟩|⟨y,u,rfl,e⟩
   ·injection e with e1 _;rw[e1]
   ·exact nomatch e
  ·rcases dB hb with ⟨j,u,rfl,e⟩|⟨y,u,rfl,e⟩
   ·exact nomatch e
   ·injection e with e1 _;rw[e1]
 byValue:=λk v h=>by
  rcases dB h with ⟨i,t,rfl,rfl⟩|⟨x,t,rfl,rfl⟩<;>rfl
 pyHash:=λhv h=>by
  rcases dB hv with ⟨i,t,rfl,rfl⟩|⟨x,t,rfl,rfl⟩
  ·exact wpAny_pyHash_int h
  ·exact wpAny_pyHash_str h
 eqBool:=λhu hv h=>by
  rcases dB hu with ⟨i,t,rfl,rfl⟩|⟨x,t,rfl,rfl⟩
  ·rcases dB hv with ⟨j,u,rfl,rfl⟩|⟨y,u,rfl,rfl⟩
   ·rw[aH1] at h;exact wpAny_eqBool_int h
   ·rw[aH3] at h;exact SeqAt.EqAt.int_str i t y u _ _ _ _ h
  ·rcases dB hv with ⟨j,u,rfl,rfl⟩|⟨y,u,rfl,rfl⟩
   ·rw[aH4] at h;exact SeqAt.EqAt.str_int x t j u _ _ _ _ h
   ·rw[aH2] at h;exact wpAny_eqBool_str h
 «strs»:=λk x t v h=>by
  rcases dB h with ⟨i,u,rfl,e⟩|⟨y,u,rfl,e⟩
  ·exact nomatch e
  ·injection e with e1 _
   subst e1;cases v<;>rfl
theorem J8(prog:Program)(w:World)(i:Int)(t:Tok):(dR prog w).is (.inl i) (.int i t)=true:=U8 i t
theorem J9(prog:Program)(w:World)(x:Str)(t:Tok):(dR prog w).is (.inr x) (.str x t)=true:=U9 x t
inductive V where
 |non|bl (b:Bool)|int (i:Int)|str (x:Str)|byt (b:Array UInt8)|flt (b:UInt64)|ref (a:Addr)|ty (n:String)
 deriving DecidableEq
def RelV:V->Value->Prop
 |.non,u=>u=Value.none
 |.bl b,u=>u=Value.bool b
 |.int i,u=>∃t,u=Value.int i t
 |.str x,u=>∃t,u=Value.str x t
 |.byt b,u=>∃t,u=Value.bytes b t
 |.flt b,u=>∃t,u=Value.float b t
 |.ref a,u=>u=Value.ref a
 |.ty n,u=>u=Value.type n
abbrev Vals:List V->List Value->Prop:=Paired RelV
theorem Vals.length{xs:List V}{us:List Value}(r:Vals xs us):xs.length=us.length:=Paired.length r
theorem Vals.get:∀{xs:List V}{us:List Value}{i:Nat}{x:V},Vals xs us->xs[i]?=some x->∃u,us[i]?=some u/\RelV x u
 |_,_,_,_,.nil,e=>by simp at e
 |_,_,0,_,.cons r _,e=>by simp at e;subst e;exact⟨_,rfl,r⟩
 |_,_,i+1,x,.cons _ t,e=>by
  obtain⟨u,h1,h2⟩:=Vals.get (i:=i) (x:=x) t (by simpa using e);exact⟨u,by simpa using h1,h2⟩
theorem Vals.append:∀{xs ys:List V}{us ws:List Value},Vals xs us->Vals ys ws->Vals (xs++ys) (us++ws)
 |_,_,_,_,.nil,s=>s
 |_,_,_,_,.cons r t,s=>.cons r (Vals.append t s)
theorem Vals.take:∀{xs:List V}{us:List Value}(n:Nat),Vals xs us->Vals (xs.take n) (us.take n)
 |_,_,0,_=>.nil
 |_,_,_+1,.nil=>.nil
 |_,_,n+1,.cons r t=>.cons r (Vals.take n t)
theorem Vals.drop:∀{xs:List V}{us:List Value}(n:Nat),Vals xs us->Vals (xs.drop n) (us.drop n)
 |_,_,0,r=>r
 |_,_,_+1,.nil=>.nil
 |_,_,n+1,.cons _ t=>Vals.drop n t
def aAk:Option V->Option Value->Prop
 |some v,some u=>RelV v u
 |none,none=>True
 |_,_=>False
def KV{κ:Type}:List (κ×V)->List (κ×Value)->Prop:=Paired λ(p:κ×V)(q:κ×Value)=>p.1=q.1/\RelV p.2 q.2
noncomputable def kV:Key->V
 |.inl i=>.int i
 |.inr x=>.str x
inductive HO where
 |lst (xs:List V)
 |tup (xs:List V)
 |dK (kvs:List (Key×V))|dT (kvs:List (List Key×V))
 |set (S:Int->Bool) (n:Nat)
 |ins (C dx:Addr) (fs:List (Str×V))
 |own (x:Addr)
 |xd (fs:List (Str×V))
 |met (f x:Addr)
 |rng (lo hi:Int)
 |frz (o:Obj) (u:HO)
 |tbl (ps:Array Value)
 |ext (φ:Heap->Prop)
noncomputable abbrev Hp:=Addr->Option HO
noncomputable def upd(H:Hp)(a:Addr)(o:HO):Hp:=λb=>if b=a then some o else H b
theorem aO{H:Hp}{a:Addr}{o:HO}:upd H a o a=some o:=by unfold upd;rw[if_pos rfl]
theorem bL{H:Hp}{a b:Addr}{o:HO}(h:b≠a):upd H a o b=H b:=by unfold upd;rw[if_neg h]
theorem J_{H:Hp}{a:Addr}{o u:HO}:upd (upd H a o) a u=upd H a u:=by
 funext b;unfold upd;split<;>rfl
theorem aEa{H:Hp}{a b:Addr}{o u:HO}(h:H a=some o)(h':H b=some u)(d:o≠u):a≠b:=by
 intro e;subst e;rw[h] at h';exact d (Option.some.inj h')
theorem fM{H:Hp}{a b:Addr}{o:HO}(h:H a=some o)(h':H b=none):a≠b:=by
 intro e;subst e;rw[h] at h';cases h'
def lY(h:Heap)(a:Addr)(its:Array Value):Prop:=∃o,h.get? a=some o/\o.cls=.type "tuple"/\∃n,(o.data,o.dict)=(Data.seq its n,none)
theorem lY.tup{h:Heap}{a:Addr}{its:Array Value}(t:lY h a its):IsTup h a its:=let ⟨o,e,c,n,d⟩:=t;⟨o,e,c,n,congrArg (·.1) d⟩
theorem lY.bare{h:Heap}{a:Addr}{its:Array Value}(t:lY h a its):∃o,h.get? a=some o/\o.dict=none:=let ⟨o,e,_,_,d⟩:=t;⟨o,e,congrArg (·.2) d⟩
theorem lY.new(h:Heap)(items:Array Value):lY (h.push {cls:=.type "tuple",data:=.seq items}) h.objs.size items:=⟨_,Heap.get?_push_size _ rfl,rfl,_,rfl⟩
section
variable (P:Program) (w:World)
def jG(H:Hp)(h:Heap)(a:Addr):HO->Prop
 |.lst xs=>xs.length<=sizeLine/\∃(its:List Value)(n:Nat),Vals xs its/\h.get? a=some {cls:=.type "list",data:=.seq its.toArray n}
 |.tup xs=>xs.length<=sizeLine/\∃its:List Value,Vals xs its/\lY h a its.toArray
 |.dK kvs=>kvs.length<=sizeLine/\(a==sysModules)=false/\∃vs,KV kvs vs/\h.DictOf (dR P w) a vs
 |.dT kvs=>kvs.length<=sizeLine/\(a==sysModules)=false/\∃xs:List (List Key×Addr×Value),
   Paired (λ(p:List Key×V)(q:List Key×Addr×Value)=>p.1=q.1/\H q.2.1=some (.tup (p.1.map kV))/\RelV p.2 q.2.2) kvs xs/\
   ∃o es ep,h.get? a=some o/\o.ExactDict/\o.data=.dict es ep/\es.toList=xs.map (entryOfKey (tupleKind (dR P w)))/\(xs.map (·.1)).Nodup
 |.set S n=>h.SetOf (intKind P w) a S n
 |.ins C dx fs=>H dx=some (.own a)/\fs.length<=1000/\dx≠a/\h.get? a=some (PySem.W.instObj C dx)/\
   ∃mA,h.Ns1 dx mA/\(∀f,aAk (fs.lookup f) (mA f))/\PySem.Within mA (fs.map (·.1))
 |.own _=>∃o,h.get? a=some o
 |.xd fs=>∃mA,h.Ns1 a mA/\∀f,aAk (fs.lookup f) (mA f)
 |.rng lo hi=>∃t u v,h.get? a=some {cls:=.type "range",data:=.fields #[.int lo t,.int hi u,.int 1 v]}
 |.frz o u=>h.get? a=some o/\jG H h a u
 |.tbl ps=>h.get? a=some {cls:=.none,data:=.fields ps}
 |.met f x=>h.get? a=some (PySem.W.methodObj (.ref f) (.ref x))
 |.ext φ=>φ h/\(∃o,h.get? a=some o)/\∀h1 h2:Heap,φ h1->(∀o,h1.get? a=some o->h2.get? a=some o)->φ h2
def HOk(H:Hp)(h:Heap):Prop:=∀a o,H a=some o->jG P w H h a o
end
section
variable {P:Program} {w:World} {H H':Hp} {h h':Heap} {a:Addr} {o:HO}
theorem jG.lt(x:jG P w H h a o):a<h.objs.size:=by
 cases o with
 |lst xs=>obtain⟨_,_,_,_,e⟩:=x;exact Heap.lt_size e
 |tup xs=>obtain⟨_,_,_,p⟩:=x;exact p.tup.lt
 |dK kvs=>obtain⟨_,_,_,_,o,_,_,e,_⟩:=x;exact Heap.lt_size e
 |dT kvs=>obtain⟨_,_,_,_,o,_,_,e,_⟩:=x;exact Heap.lt_size e
 |set S n=>obtain⟨o,_,_,_,e,_⟩:=x;exact Heap.lt_size e
 |ins C dx fs=>obtain⟨_,_,_,e,_⟩:=x;exact Heap.lt_size e
 |own y=>obtain⟨_,e⟩:=x;exact Heap.lt_size e
 |xd fs=>obtain⟨_,⟨_,_,_,e,_⟩,_⟩:=x;exact Heap.lt_size e
 |rng lo hi=>obtain⟨_,_,_,e⟩:=x;exact Heap.lt_size e
 |frz ob u=>obtain⟨e,_⟩:=x;exact Heap.lt_size e
 |tbl ps=>exact Heap.lt_size (show h.get? a=some _ from x)
 |met f y=>exact Heap.lt_size (show h.get? a=some _ from x)
 |ext φ=>obtain⟨_,⟨_,e⟩,_⟩:=x;exact Heap.lt_size e
theorem Paired.aKj{α β:Type}{F G:α->β->Prop}:∀{l₁:List α}{l₂:List β},Paired F l₁ l₂->(∀a b,F a b->G a b)->Paired G l₁ l₂
 |_,_,.nil,_=>.nil
 |_,_,.cons r t,f=>.cons (f _ _ r) (Paired.aKj t f)
theorem jG.stay(x:jG P w H h a o)(k:∀b u,(b=a\/H b=some (.own a))->h.get? b=some u->h'.get? b=some u)
 (ho:∀b,H b=some (.own a)->H' b=some (.own a))(ht:∀b xs,H b=some (.tup xs)->H' b=some (.tup xs)):jG P w H' h' a o:=by
 induction o with
 |lst xs=>obtain⟨z,its,n,r,e⟩:=x;exact⟨z,its,n,r,k _ _ (.inl rfl) e⟩
 |tup xs=>obtain⟨z,its,r,ob,e,c⟩:=x;exact⟨z,its,r,ob,k _ _ (.inl rfl) e,c⟩
 |dK kvs=>obtain⟨z,y,vs,r,ob,es,ep,e,c⟩:=x;exact⟨z,y,vs,r,ob,es,ep,k _ _ (.inl rfl) e,c⟩
 |dT kvs=>
  obtain⟨z,y,xs,r,ob,es,ep,e,c⟩:=x;exact⟨z,y,xs,Paired.aKj r λp q z=>⟨z.1,ht _ _ z.2.1,z.2.2⟩,ob,es,ep,k _ _ (.inl rfl) e,c⟩
 |set S n=>obtain⟨ob,es,ep,t,e,c⟩:=x;exact⟨ob,es,ep,t,k _ _ (.inl rfl) e,c⟩
 |ins C dx fs=>
  obtain⟨d,z,ne,e,mA,⟨od,es,ep,e2,c⟩,r⟩:=x;exact⟨ho _ d,z,ne,k _ _ (.inl rfl) e,mA,⟨od,es,ep,k _ _ (.inr d) e2,c⟩,r⟩
 |own y=>obtain⟨ob,e⟩:=x;exact⟨ob,k _ _ (.inl rfl) e⟩
 |xd fs=>obtain⟨mA,⟨od,es,ep,e,c⟩,r⟩:=x;exact⟨mA,⟨od,es,ep,k _ _ (.inl rfl) e,c⟩,r⟩
 |rng lo hi=>obtain⟨t,u,v,e⟩:=x;exact⟨t,u,v,k _ _ (.inl rfl) e⟩
 |frz ob u ih=>obtain⟨e,q⟩:=x;exact⟨k _ _ (.inl rfl) e,ih q⟩
 |tbl ps=>
  have e:h.get? a=some {cls:=.none,data:=.fields ps}:=x;show h'.get? a=some {cls:=.none,data:=.fields ps};exact k a _ (.inl rfl) e
 |met f y=>
  have e:h.get? a=some (PySem.W.methodObj (.ref f) (.ref y)):=x;show h'.get? a=some (PySem.W.methodObj (.ref f) (.ref y));exact k a _ (.inl rfl) e
 |ext φ=>obtain⟨p,⟨o,e⟩,st⟩:=x;exact⟨st _ _ p λo q=>k _ _ (.inl rfl) q,⟨o,k _ _ (.inl rfl) e⟩,st⟩
theorem HOk.lt(x:HOk P w H h)(e:H a=some o):a<h.objs.size:=(x a o e).lt
theorem HOk.fresh(x:HOk P w H h)(e:h.objs.size<=a):H a=none:=by
 cases q:H a with
 |none=>rfl
 |some u=>exact absurd (Nat.lt_of_lt_of_le (x.lt q) e) (Nat.lt_irrefl _)
theorem HOk.kept(x:HOk P w H h)(k:∀b u,h.get? b=some u->h'.get? b=some u):HOk P w H h':=λa o e=>
 (x a o e).stay (λb u _ q=>k b u q) (λ_ q=>q) λ_ _ q=>q
theorem HOk.laid(x:HOk P w H h)(k:∀b u,h.get? b=some u->h'.get? b=some u)(hp:h.objs.size<=a)(new:jG P w (upd H a o) h' a o):HOk P w (upd H a o) h':=λb u e=>by
 have hn:=x.fresh hp;by_cases hb:b=a
 ·subst hb;rw[aO] at e;cases e;exact new
 ·rw[bL hb] at e;exact(x b u e).stay (λc v _ q=>k c v q) (λc q=>by rw[bL (fM q hn)];exact q) λc xs q=>by rw[bL (fM q hn)];exact q
end
def Rd(H:Hp)(a:Addr)(u:HO):Prop:=H a=some u\/∃o,H a=some (.frz o u)
theorem Rd.ok{P:Program}{w:World}{H:Hp}{h:Heap}{a:Addr}{u:HO}(r:Rd H a u)(x:HOk P w H h):jG P w H h a u:=by
 rcases r with r|⟨o,r⟩
 ·exact x a u r
 ·obtain⟨_,q⟩:=x a _ r;exact q
def Mut:Option HO->Prop
 |some (.lst _)=>True
 |some (.dK _)=>True
 |some (.dT _)=>True
 |some (.set _ _)=>True
 |some (.ins _ _ _)=>True
 |some (.ext _)=>True
 |_=>False
section
variable {P:Program} {w:World} {H:Hp} {h h':Heap} {x e:Addr} {o':HO}
theorem HOk.write(ok:HOk P w H h)(mu:Mut (H x))(he:e=x\/H e=some (.own x))(k:∀b u,b≠e->h.get? b=some u->h'.get? b=some u)(heo:∃u,h'.get? e=some u)
 (new:jG P w (upd H x o') h' x o'):HOk P w (upd H x o') h':=λb u q=>by
 have nown:∀c y,H c=some (.own y)->c≠x:=λc y r z=>by subst z;rw[r] at mu;exact mu
 have ntup:∀c xs,H c=some (.tup xs)->c≠x:=λc xs r z=>by subst z;rw[r] at mu;exact mu
 by_cases hb:b=x
 ·subst hb;rw[aO] at q;cases q;exact new
 ·rw[bL hb] at q;by_cases hbe:b=e
  ·have q':H b=some (.own x):=by
    rcases he with z|z
    ·exact absurd (hbe.trans z) hb
    ·rw[hbe];exact z
   rw[q] at q';cases q';obtain⟨v,hv⟩:=heo;exact⟨v,by rw[hbe];exact hv⟩
  ·refine(ok b u q).stay (λc v hc r=>k c v ?_ r) (λc r=>by rw[bL (nown c b r)];exact r) λc xs r=>by rw[bL (ntup c xs r)];exact r
   rcases hc with rfl|hc
   ·exact hbe
   ·rintro rfl;rcases he with z|z
    ·exact nown c b hc z
    ·rw[hc] at z;cases z;exact hb rfl
end
structure Un(fs ex:List Addr)(H H':Hp)(h h':Heap):Prop where
 keep:∀b o,h.get? b=some o->H b=none->b∉fs->b∉ex->h'.get? b=some o
 slot:∀b o,h.get? b=some o->H b=none->b∈fs->b∉ex->∃sl,h'.get? b=some {o with slots:=sl}
 free:∀b o,h.get? b=some o->H b=none->b∉ex->H' b=none
 there:∀b o,h.get? b=some o->b∉ex->∃o',h'.get? b=some o'
 tups:∀b xs,H b=some (.tup xs)->H' b=some (.tup xs)
 frzs:∀b o u,H b=some (.frz o u)->H' b=some (.frz o u)
 tbls:∀b ps,H b=some (.tbl ps)->∃more,H' b=some (.tbl (ps++more))
section
variable {fs ex:List Addr} {H H1:Hp} {h h1 h':Heap} {a x e:Addr} {o:HO}
theorem Un.any(u:Un fs ex H H1 h h1){b:Addr}{ob:Obj}(q:h.get? b=some ob)(n:H b=none)(hx:b∉ex):∃sl,h1.get? b=some {ob with slots:=sl}:=by
 by_cases hb:b∈fs
 ·exact u.slot b ob q n hb hx
 ·exact⟨ob.slots,u.keep b ob q n hb hx⟩
theorem Un.kept(k:∀b u,h.get? b=some u->h'.get? b=some u):Un fs ex H H h h':=
 ⟨λb ob q _ _ _=>k b ob q,λb ob q _ _ _=>⟨ob.slots,k b ob q⟩,λ_ _ _ n _=>n,λb ob q _=>⟨ob,k b ob q⟩,λ_ _ q=>q,λ_ _ _ q=>q,λ_ ps q=>⟨#[],by rw[q];simp⟩⟩
theorem Un.refl:Un fs ex H H h h:=Un.kept λ_ _ q=>q
theorem Un.laid(k:∀b u,h.get? b=some u->h'.get? b=some u)(hp:h.objs.size<=a)(hn:H a=none):Un fs ex H (upd H a o) h h' where
 keep:=λb u q _ _ _=>k b u q
 slot:=λb u q _ _ _=>⟨u.slots,k b u q⟩
 free:=λb u q n _=>by rw[bL (Nat.ne_of_lt (Nat.lt_of_lt_of_le (Heap.lt_size q) hp))];exact n
 there:=λb u q _=>⟨u,k b u q⟩
 tups:=λb xs q=>by rw[bL (fM q hn)];exact q
 frzs:=λb u xs q=>by rw[bL (fM q hn)];exact q
 tbls:=λb ps q=>⟨#[],by rw[bL (fM q hn),q];simp⟩
theorem Un.write(mu:Mut (H x))(he:e=x\/H e=some (.own x))(k:∀b u,b≠e->h.get? b=some u->h'.get? b=some u)(heo:∃u,h'.get? e=some u):Un fs ex H (upd H x o) h h':=by
 have hx:∀b,H b=none->b≠x:=λb n z=>by subst z;rw[n] at mu;exact mu
 have hb:∀b,H b=none->b≠e:=λb n z=>by
  subst z;rcases he with r|r
  ·exact hx b n r
  ·rw[n] at r;cases r
 have hm:∀b u,H b=some u->¬Mut (some u)->b≠x:=λb u q nm z=>by subst z;rw[q] at mu;exact nm mu
 refine⟨λb u q n _ _=>k b u (hb b n) q,λb u q n _ _=>⟨u.slots,k b u (hb b n) q⟩,λb u q n _=>by rw[bL (hx b n)];exact n,λb u q _=>?_,
  λb xs q=>by rw[bL (hm b _ q λz=>z)];exact q,λb u xs q=>by rw[bL (hm b _ q λz=>z)];exact q,λb ps q=>⟨#[],by rw[bL (hm b _ q λz=>z),q];simp⟩⟩
 by_cases hbe:b=e
 ·subst hbe;exact heo
 ·exact⟨u,k b u hbe q⟩
end
noncomputable def trk(h:Heap)(H:Hp):List Addr:=(List.range h.objs.size).filter λa=>(H a).isSome
def aAq(h:Heap)(H:Hp):Heap:=PySem.W.hideAll h (trk h H)
theorem U_(h:Heap)(H:Hp):(aAq h H).objs.size=h.objs.size:=PySem.W.hideAll_size _ _
theorem aAr{h:Heap}{H:Hp}{b:Addr}{o:Obj}(e:h.get? b=some o)(n:H b=none):(aAq h H).get? b=some o:=
 PySem.W.hideAll_get _ e λhm=>by
  have q:(H b).isSome=true:=(List.mem_filter.mp hm).2;rw[n] at q;simp at q
theorem aEb{h:Heap}{H:Hp}{b:Addr}{o:Obj}(e:(aAq h H).get? b=some o):h.get? b=some o/\H b=none:=by
 have e':h.get? b=some o:=PySem.W.of_hideAll (trk h H) e;refine⟨e',?_⟩;cases q:H b with
 |none=>rfl
 |some x=>
  have hm:b∈trk h H:=List.mem_filter.mpr ⟨List.mem_range.mpr (Heap.lt_size e'),by simp[q]⟩;have z:(aAq h H).get? b=none:=PySem.W.hideAll_none (trk h H) hm;rw[z] at e;cases e
structure Mod(K:PySem.W.Frag)(mg:Str->Option Value)(base:Heap):Prop where
 kin:K.In base
 glob:base.Ns mainGlobals mg
 blt:∃mb,base.Ns builtinsNs mb/\∀x:Str,x ≠ "__name__"->mb x=bootBuiltins x
 nolimit:base.NoLimit
/-- the context: a def's body (or a comprehension's block) running. base: fixed through the whole law;s₀,H₀: the entry;outer: the frames whose slots others may change (a def's callers);stack: all frames that run;
   ex: iterators that were made ahead of the entry and are walked here (a comprehension's);fn: the names whose cells were made at the entry (a def: all;a comprehension's block: its own);calm: not within an except suite;pn: pins that every state bears;xe: what is wanted of an exception that leaves the code -/
structure Cx where
 prog:Program
 w:World
 K:PySem.W.Frag
 mg:Str->Option Value
 base:Heap
 A:Around
 N:List Str
 s₀:Shared
 H₀:Hp
 env:Env
 outer:List Env
 stack:List Env
 ex:List Addr
 fn:Str->Bool
 calm:Bool
 pn:List (Addr×Obj)
 xe:Value->Shared->Prop
noncomputable def frs(l:List Env):List Addr:=l.filterMap (·.frame)
abbrev Cx.fs(X:Cx):List Addr:=frs X.outer
def Vis(sc:Scope)(x:Str):Prop:=sc.names.lookup x=some .local\/sc.names.lookup x=some .cell\/sc.names.lookup x=some .free
def Loc(sc:Scope)(x:Str):Prop:=sc.names.lookup x=some .local\/sc.names.lookup x=some .cell
def Look(env:Env)(h:Heap)(m:Str->Option Value)(x:Str)(u:Value):Prop:=
 (env.kindOf x=some .local/\m x=some u)\/((env.kindOf x=some .cell\/env.kindOf x=some .free)/\∃c,env.cells.lookup x=some c/\h.IsCell c (some u))
structure Cx.Ok(X:Cx):Prop where
 mod:Mod X.K X.mg X.base
 kind:X.env.scope.kind=.function
 glob:X.env.globals=mainGlobals
 blt:X.env.builtins=builtinsNs
 above:X.s₀.heap.objs.size<=X.env.locals
 inj:∀x y c,X.env.cells.lookup x=some c->X.env.cells.lookup y=some c->x=y
 has:∀x,(X.env.kindOf x=some .cell\/X.env.kindOf x=some .free)->∃c,X.env.cells.lookup x=some c
 cab:∀x c,X.fn x=true->X.env.cells.lookup x=some c->X.s₀.heap.objs.size<=c
 hd:X.calm=true->X.A.handled=none
 frames:X.A.frames=some X.stack
 stk:X.stack=X.outer\/(X.stack=X.env::X.outer/\X.env.frame=some X.env.locals)
 exf:∀b∈X.ex,b≠X.env.locals/\∀x c,X.env.cells.lookup x=some c->c≠b
 bs:∀b o,X.base.get? b=some o->X.s₀.heap.get? b=some o/\X.H₀ b=none
 bsz:X.base.objs.size<=X.s₀.heap.objs.size
 noex:∀b o,X.base.get? b=some o->b∉X.ex
 exfs:∀b∈X.ex,b∉X.fs
 VB:X.s₀.heap.FunFrames X.base X.outer
 frf:∀b∈X.fs,X.H₀ b=none
structure Inv(X:Cx)(pins:List (Addr×Obj))(σ:List (Option V))(H:Hp)(s:Shared):Prop where
 ok:X.Ok
 os:s.os=X.s₀.os
 bare:AllBare s.gens
 base:Un X.fs X.ex X.H₀ H X.s₀.heap s.heap
 loc:∃m,s.heap.Ns X.env.locals m/\∀(i:Nat)(x:Str)(v:V),X.N[i]?=some x->σ[i]?=some (some v)->Vis X.env.scope x->∃u,RelV v u/\Look X.env s.heap m x u
 cell:∀x c,X.env.cells.lookup x=some c->∃v,s.heap.IsCell c v
 free:H X.env.locals=none
 freeC:∀x c,X.env.cells.lookup x=some c->H c=none
 pin:∀p∈X.pn++pins,s.heap.get? p.1=some p.2/\H p.1=none/\p.1≠X.env.locals/\p.1∉X.fs/\∀v,p.2.data≠.cell v
 hok:HOk X.prog X.w H s.heap
 len:σ.length=X.N.length
section
variable {X:Cx} {pins:List (Addr×Obj)} {σ:List (Option V)} {H H':Hp} {s:Shared} {h':Heap}
theorem Cx.Ok.aMv(ok:X.Ok){b:Addr}{o:Obj}(e:X.base.get? b=some o):b∉X.fs:=λhb=>by
 have:=(ok.VB.mem hb).1;rw[e] at this;cases this
theorem Inv.bs(I:Inv X pins σ H s):∀b o,X.base.get? b=some o->s.heap.get? b=some o/\H b=none:=λb o e=>
 ⟨I.base.keep b o (I.ok.bs b o e).1 (I.ok.bs b o e).2 (I.ok.aMv e) (I.ok.noex b o e),I.base.free b o (I.ok.bs b o e).1 (I.ok.bs b o e).2 (I.ok.noex b o e)⟩
theorem Inv.bk(I:Inv X pins σ H s):∀b o,X.base.get? b=some o->s.heap.get? b=some o:=λb o e=>(I.bs b o e).1
theorem Inv.mod(I:Inv X pins σ H s):Mod X.K X.mg X.base:=I.ok.mod
theorem Inv.kIn(I:Inv X pins σ H s):X.K.In s.heap:=I.ok.mod.kin.keeps I.bk
theorem Inv.lt(I:Inv X pins σ H s):X.env.locals<s.heap.objs.size:=let ⟨_,hn,_⟩:=I.loc;hn.lt
theorem Inv.sz(I:Inv X pins σ H s):X.s₀.heap.objs.size<=s.heap.objs.size:=Nat.le_trans I.ok.above (Nat.le_of_lt I.lt)
theorem Inv.aM8(I:Inv X pins σ H s){a:Addr}(h:s.heap.objs.size<=a):a∉X.fs:=λhb=>by
 obtain⟨_,o,ho,_⟩:=I.ok.VB.mem hb;exact absurd (Nat.lt_of_lt_of_le (Heap.lt_size ho) (Nat.le_trans I.sz h)) (Nat.lt_irrefl _)
theorem Inv.cne(I:Inv X pins σ H s):∀x c,X.env.cells.lookup x=some c->c≠X.env.locals:=λx c e z=>by
 obtain⟨v,o,ho,hd⟩:=I.cell x c e;obtain⟨m,⟨o',es,ep,ho',hd',_⟩,_⟩:=I.loc;rw[z,ho'] at ho;cases ho;rw[hd'] at hd;cases hd
theorem Inv.VB(I:Inv X pins σ H s):s.heap.FunFrames X.base X.outer:=by
 have all:∀(l:List Env),(∀b∈frs l,b∈X.fs)->X.s₀.heap.FunFrames X.base l->s.heap.FunFrames X.base l:=by
  intro l;induction l with
  |nil=>intro _ _;trivial
  |cons env r ih=>
   intro hs hl;obtain⟨hk,⟨L,o,hf,hn,ho,hd⟩,hr⟩:=hl;have hL:L∈X.fs:=hs L (by unfold frs;rw[List.filterMap_cons,hf];exact List.mem_cons_self);obtain⟨sl,e⟩:=I.base.slot L o ho (I.ok.frf L hL) hL λz=>I.ok.exfs L z hL
   exact⟨hk,⟨L,_,hf,hn,e,hd⟩,ih (λb hb=>hs b (by unfold frs;rw[List.filterMap_cons,hf];exact List.mem_cons_of_mem _ hb)) hr⟩
 exact all X.outer (λ_ hb=>hb) I.ok.VB
theorem Inv.stack(I:Inv X pins σ H s):s.heap.FunFrames X.base X.stack:=by
 rcases I.ok.stk with e|⟨e,hf⟩
 ·rw[e];exact I.VB
 ·rw[e];obtain⟨m,hn,_⟩:=I.loc;refine .cons (by rw[I.ok.kind];decide) hf hn ?_ I.VB;exact Heap.get?_none_of_le (Nat.le_trans I.ok.bsz I.ok.above)
theorem Inv.PL(I:Inv X pins σ H s):∀b∈frs X.stack,b∈X.env.locals::X.fs:=λb hb=>by
 rcases I.ok.stk with e|⟨e,hf⟩
 ·rw[e] at hb;exact List.mem_cons_of_mem _ hb
 ·rw[e] at hb;unfold frs at hb;rw[List.filterMap_cons,hf] at hb;exact hb
theorem Inv.VD(I:Inv X pins σ H s):∀b∈frs X.stack,H b=none:=λb hb=>by
 rcases List.mem_cons.mp (I.PL b hb) with e|hb
 ·rw[e];exact I.free
 ·obtain⟨_,o,ho,_⟩:=I.ok.VB.mem hb;exact I.base.free b o ho (I.ok.frf b hb) λz=>I.ok.exfs b z hb
theorem Inv.step{g':Array GenState}{t':Nat}{d':Drawn}{ch:List Addr}(I:Inv X pins σ H s)
 (hch:∀b∈ch,(b∈X.ex\/X.s₀.heap.objs.size<=b)/\b≠X.env.locals/\(∀x c,X.env.cells.lookup x=some c->c≠b)/\∀p∈X.pn++pins,p.1≠b)
 (keep:∀b o,b≠X.env.locals->b∉X.fs->b∉ch->s.heap.get? b=some o->H b=none->h'.get? b=some o)
 (slot:∀b o,b≠X.env.locals->b∈X.fs->b∉ch->s.heap.get? b=some o->H b=none->∃sl,h'.get? b=some {o with slots:=sl})(free:∀b o,b∉ch->s.heap.get? b=some o->H b=none->H' b=none)
 (there:∀b o,b∉ch->s.heap.get? b=some o->∃o',h'.get? b=some o')
 (tups:∀b xs,H b=some (.tup xs)->H' b=some (.tup xs))(frzs:∀b o u,H b=some (.frz o u)->H' b=some (.frz o u))(tbls:∀b ps,H b=some (.tbl ps)->∃more,H' b=some (.tbl (ps++more)))
 (ns:∀m,s.heap.Ns X.env.locals m->h'.Ns X.env.locals m)(hok:HOk X.prog X.w H' h')(hg:AllBare g') :
  Inv X pins σ H' {s with heap:=h',gens:=g',drawn:=d',toks:=t'}:=by
 have neL:∀b o,X.s₀.heap.get? b=some o->b≠X.env.locals:=λb o e=>Nat.ne_of_lt (Nat.lt_of_lt_of_le (Heap.lt_size e) I.ok.above)
 have neC:∀b o,X.s₀.heap.get? b=some o->b∉X.ex->b∉ch:=λb o e hx hb=>by
  rcases(hch b hb).1 with z|z
  ·exact hx z
  ·exact absurd (Nat.lt_of_lt_of_le (Heap.lt_size e) z) (Nat.lt_irrefl _)
 have cellK:∀x c,X.env.cells.lookup x=some c->∀v,s.heap.IsCell c v->h'.IsCell c v:=λx c e v ⟨o,ho,hd⟩=>by
  have nch:c∉ch:=λz=>(hch c z).2.2.1 x c e rfl
  by_cases hc:c∈X.fs
  ·obtain⟨sl,q⟩:=slot c o (I.cne x c e) hc nch ho (I.freeC x c e);exact⟨_,q,hd⟩
  ·exact⟨o,keep c o (I.cne x c e) hc nch ho (I.freeC x c e),hd⟩
 refine⟨I.ok,I.os,hg,⟨λb o e n hb hx=>?_,λb o e n hb hx=>?_,λb o e n hx=>?_,λb o e hx=>?_,λb xs e=>tups b xs (I.base.tups b xs e),λb o xs e=>frzs b o xs (I.base.frzs b o xs e),λb ps e=>?_⟩,?_,λx c e=>?_,?_,λx c e=>?_,λp hp=>?_,hok,I.len⟩
 ·exact keep b o (neL b o e) hb (neC b o e hx) (I.base.keep b o e n hb hx) (I.base.free b o e n hx)
 ·obtain⟨sl,e1⟩:=I.base.slot b o e n hb hx;obtain⟨sl',e2⟩:=slot b _ (neL b o e) hb (neC b o e hx) e1 (I.base.free b o e n hx);exact⟨sl',e2⟩
 ·obtain⟨o',e1⟩:=I.base.there b o e hx;exact free b o' (neC b o e hx) e1 (I.base.free b o e n hx)
 ·obtain⟨o',e1⟩:=I.base.there b o e hx;exact there b o' (neC b o e hx) e1
 ·obtain⟨m1,e1⟩:=I.base.tbls b ps e;obtain⟨m2,e2⟩:=tbls b _ e1;exact⟨m1++m2,by rw[e2,Array.append_assoc]⟩
 ·obtain⟨m,hn,hl⟩:=I.loc;refine⟨m,ns m hn,λi x v e1 e2 e3=>?_⟩;obtain⟨u,r,l⟩:=hl i x v e1 e2 e3;refine⟨u,r,?_⟩;rcases l with l|⟨k,c,e,z⟩
  ·exact .inl l
  ·exact .inr ⟨k,c,e,cellK x c e _ z⟩
 ·obtain⟨v,z⟩:=I.cell x c e;exact⟨v,cellK x c e v z⟩
 ·obtain⟨m,⟨o,_,_,ho,_⟩,_⟩:=I.loc;exact free _ o (λz=>(hch _ z).2.1 rfl) ho I.free
 ·obtain⟨v,o,ho,hd⟩:=I.cell x c e;exact free c o (λz=>(hch c z).2.2.1 x c e rfl) ho (I.freeC x c e)
 ·obtain⟨e,n,ne,nf,d⟩:=I.pin p hp;have nch:p.1∉ch:=λz=>(hch p.1 z).2.2.2 p hp rfl
  exact⟨keep p.1 p.2 ne nf nch e n,free p.1 p.2 nch e n,ne,nf,d⟩
theorem Inv.un{t':Nat}(I:Inv X pins σ H s)(u:Un X.fs [] H H' s.heap h')(hok:HOk X.prog X.w H' h'):Inv X pins σ H' {s with heap:=h',toks:=t'}:=by
 obtain⟨m,⟨o,es,ep,ho,r⟩,_⟩:=id I.loc;obtain⟨sl,hL⟩:=u.any ho I.free (by simp);exact I.step (g':=s.gens) (d':=s.drawn) (ch:=[]) (λ_ z=>nomatch z) (λb o _ hb _ e n=>u.keep b o e n hb (by simp)) (λb o _ hb _ e n=>u.slot b o e n hb (by simp)) (λb o _ e n=>u.free b o e n (by simp)) (λb o _ e=>u.there b o e (by simp)) u.tups u.frzs u.tbls (λm' hm=>by
  obtain⟨o',es',ep',ho',r'⟩:=hm;rw[ho] at ho';cases ho';exact⟨_,es',ep',hL,r'⟩) hok I.bare
theorem Inv.call{g':Array GenState}{t':Nat}{d':Drawn}{ch:List Addr}(I:Inv X pins σ H s)(u:Un (frs X.stack) ch H H' s.heap h')(hok:HOk X.prog X.w H' h')(hg:AllBare g')
 (hch:∀b∈ch,(b∈X.ex\/X.s₀.heap.objs.size<=b)/\b≠X.env.locals/\(∀x c,X.env.cells.lookup x=some c->c≠b)/\∀p∈X.pn++pins,p.1≠b) :
  Inv X pins σ H' {s with heap:=h',gens:=g',drawn:=d',toks:=t'}:=by
 obtain⟨m,⟨o,es,ep,ho,r⟩,_⟩:=id I.loc;obtain⟨sl,hL⟩:=u.any ho I.free λz=>(hch _ z).2.1 rfl
 exact I.step (ch:=ch) hch (λb o hL hb hc e n=>u.keep b o e n (λz=>(List.mem_cons.mp (I.PL b z)).elim hL hb) hc) (λb o _ _ hc e n=>u.any e n hc) (λb o hc e n=>u.free b o e n hc) (λb o hc e=>u.there b o e hc) u.tups u.frzs u.tbls (λm' hm=>by
  obtain⟨o',es',ep',ho',r'⟩:=hm;rw[ho] at ho';cases ho';exact⟨_,es',ep',hL,r'⟩) hok hg
theorem Inv.turned{t':Nat}{it:Addr}(I:Inv X pins σ H s)(k:∀b o,b≠it->s.heap.get? b=some o->h'.get? b=some o)(hn:H it=none)(hL:it≠X.env.locals)
 (h1:it∈X.ex\/X.s₀.heap.objs.size<=it)(h2:∀x c,X.env.cells.lookup x=some c->c≠it)(h3:∀p∈X.pn++pins,p.1≠it):Inv X pins σ H {s with heap:=h',toks:=t'}:=by
 have nit:∀b u,H b=some u->b≠it:=λb u e z=>by rw[z,hn] at e;cases e
 refine I.step (g':=s.gens) (d':=s.drawn) (ch:=[it]) (λb hb=>?_) (λb o _ _ hc e _=>k b o (λz=>hc (by simp[z])) e) (λb o _ _ hc e _=>⟨o.slots,k b o (λz=>hc (by simp[z])) e⟩) (λ_ _ _ _ n=>n)
  (λb o hc e=>⟨o,k b o (λz=>hc (by simp[z])) e⟩) (λ_ _ e=>e) (λ_ _ _ e=>e) (λb ps e=>⟨#[],by rw[e];simp⟩) (λm hm=>?_) (λb u e=>?_) I.bare
 ·have e:b=it:=by simpa using hb
  subst e;exact⟨h1,hL,h2,h3⟩
 ·obtain⟨o,es,ep,ho,r⟩:=hm;exact⟨o,es,ep,k _ o (Ne.symm hL) ho,r⟩
 ·refine(I.hok b u e).stay (λc v hc q=>k c v ?_ q) (λ_ q=>q) λ_ _ q=>q
  rcases hc with z|z
  ·rw[z];exact nit b u e
  ·exact nit c _ z
theorem Inv.tok(I:Inv X pins σ H s)(t:Nat):Inv X pins σ H {s with toks:=t}:=I.un (h':=s.heap) (t':=t) Un.refl I.hok
theorem Inv.kept{t':Nat}(I:Inv X pins σ H s)(k:∀b u,s.heap.get? b=some u->h'.get? b=some u):Inv X pins σ H {s with heap:=h',toks:=t'}:=I.un (Un.kept k) (I.hok.kept k)
theorem Inv.laid{a:Addr}{o:HO}{t':Nat}(I:Inv X pins σ H s)(k:∀b u,s.heap.get? b=some u->h'.get? b=some u)(hp:s.heap.objs.size<=a)(new:jG X.prog X.w (upd H a o) h' a o) :
  Inv X pins σ (upd H a o) {s with heap:=h',toks:=t'}:=I.un (Un.laid k hp (I.hok.fresh hp)) (I.hok.laid k hp new)
theorem Inv.write{x e:Addr}{o:HO}{t':Nat}(I:Inv X pins σ H s)(mu:Mut (H x))(he:e=x\/H e=some (.own x))(k:∀b u,b≠e->s.heap.get? b=some u->h'.get? b=some u)(heo:∃u,h'.get? e=some u)
 (new:jG X.prog X.w (upd H x o) h' x o):Inv X pins σ (upd H x o) {s with heap:=h',toks:=t'}:=I.un (Un.write mu he k heo) (I.hok.write mu he k heo new)
theorem Inv.weak{σ':List (Option V)}(I:Inv X pins σ H s)(hl:σ'.length=σ.length)(w:∀(i:Nat) v,σ'[i]?=some (some v)->σ[i]?=some (some v)):Inv X pins σ' H s:=
 ⟨I.ok,I.os,I.bare,I.base,let ⟨m,hn,hl'⟩:=I.loc;⟨m,hn,λi x v e1 e2 e3=>hl' i x v e1 (w i v e2) e3⟩,I.cell,I.free,I.freeC,I.pin,I.hok,hl.trans I.len⟩
theorem Inv.KC{pins':List (Addr×Obj)}(I:Inv X pins σ H s)(h:∀p∈pins',s.heap.get? p.1=some p.2/\H p.1=none/\p.1≠X.env.locals/\p.1∉X.fs/\∀v,p.2.data≠.cell v):Inv X pins' σ H s:=
 ⟨I.ok,I.os,I.bare,I.base,I.loc,I.cell,I.free,I.freeC,λp hp=>(List.mem_append.mp hp).elim (λz=>I.pin p (List.mem_append_left _ z)) (h p),I.hok,I.len⟩
theorem PN{N:List Str}(hN:N.Nodup){i j:Nat}{x:Str}(a:N[i]?=some x)(b:N[j]?=some x):i=j:=by
 obtain⟨h1,e1⟩:=List.getElem?_eq_some_iff.mp a;obtain⟨h2,e2⟩:=List.getElem?_eq_some_iff.mp b;exact(List.getElem_inj hN).mp (e1.trans e2.symm)
theorem VF{M:Model}{A:Around}{E:Value->Shared->Prop}{i:Nat}{x:Str}{v:V}{u:Value}{Q:Unit->Shared->Prop}(I:Inv X pins σ H s)(hN:X.N.Nodup)(hi:X.N[i]?=some x)(hx:Loc X.env.scope x)(r:RelV v u)
 (h:∀s',Inv X pins (σ.set i (some v)) H s'->(∃a,Heap.SameBut a s.heap s'.heap/\(a=X.env.locals\/X.env.cells.lookup x=some a))->Q () s')(hf:X.fn x=true\/X.env.scope.names.lookup x=some .local:=by first|exact .inl rfl|exact .inr rfl|assumption):wpAny M A (storeName X.env x u) Q E s:=by
 obtain⟨m,hn,hl⟩:=id I.loc;have hcls:(X.env.scope.kind==.class||(X.env.scope.kind==.module&&X.env.locals !=X.env.globals))=false:=by rw[I.ok.kind];rfl
 have hiσ:i<σ.length:=by rw[I.len];exact(List.getElem?_eq_some_iff.mp hi).1
 have cne:=I.cne;have tracked:∀{a:Addr}{h':Heap},(∃o,s.heap.get? a=some o/\H a=none)->Heap.SameBut a s.heap h'->HOk X.prog X.w H h':=λ{a h'} ha hs b ob e=>by
  obtain⟨_,_,hfree⟩:=ha;refine(I.hok b ob e).stay (λc w' hc q=>(hs.2 c ?_).trans q) (λ_ q=>q) λ_ _ q=>q
  rintro rfl;rcases hc with rfl|hc
  ·rw[hfree] at e;cases e
  ·rw[hfree] at hc;cases hc
 rcases hx with hk|hk
 ·refine wpAny_storeName_local hk hn (λh' hn' hs=>?_) hcls;obtain⟨oL,_,_,hoL,_⟩:=id hn;refine h _ ⟨I.ok,I.os,I.bare,⟨λb o e n hb hx=>?_,λb o e n hb hx=>?_,I.base.free,λb o e hx=>?_,I.base.tups,I.base.frzs,I.base.tbls⟩,⟨_,hn',λj y v' e1 e2 e3=>?_⟩,λy c e=>?_,I.free,I.freeC,λp hp=>?_,tracked ⟨oL,hoL,I.free⟩ hs,by simpa using I.len⟩ ⟨_,hs,.inl rfl⟩
  ·exact(hs.2 b (Nat.ne_of_lt (Nat.lt_of_lt_of_le (Heap.lt_size e) I.ok.above))).trans (I.base.keep b o e n hb hx)
  ·obtain⟨sl,e1⟩:=I.base.slot b o e n hb hx;exact⟨sl,(hs.2 b (Nat.ne_of_lt (Nat.lt_of_lt_of_le (Heap.lt_size e) I.ok.above))).trans e1⟩
  ·obtain⟨o',e1⟩:=I.base.there b o e hx;exact⟨o',(hs.2 b (Nat.ne_of_lt (Nat.lt_of_lt_of_le (Heap.lt_size e) I.ok.above))).trans e1⟩
  ·by_cases hj:j=i
   ·subst hj;rw[hi] at e1;cases e1;rw[List.getElem?_set_self hiσ] at e2;cases e2;exact⟨u,r,.inl ⟨hk,by simp⟩⟩
   ·rw[List.getElem?_set_ne (Ne.symm hj)] at e2;obtain⟨u',r',q⟩:=hl j y v' e1 e2 e3;refine⟨u',r',?_⟩;rcases q with ⟨k,e⟩|⟨k,c,e,z⟩
    ·refine .inl ⟨k,?_⟩;have:y≠x:=λe=>hj (PN hN e1 (e▸hi))
     simp[this,e]
    ·exact .inr ⟨k,c,e,z.sameBut hs (cne y c e)⟩
  ·obtain⟨w',z⟩:=I.cell y c e;exact⟨w',z.sameBut hs (cne y c e)⟩
  ·obtain⟨e,n,ne,nf,d⟩:=I.pin p hp;exact⟨(hs.2 p.1 ne).trans e,n,ne,nf,d⟩
 ·have hfn:X.fn x=true:=by
   rcases hf with z|z
   ·exact z
   ·rw[z] at hk;cases hk
  obtain⟨c,hc⟩:=I.ok.has x (.inl hk);obtain⟨w',z⟩:=I.cell x c hc;refine wpAny_storeName_cell I.ok.kind hk hc z (λh' hc' hs=>?_);obtain⟨oc,hoc,hocd⟩:=id z;refine h {s with heap:=h'} ⟨I.ok,I.os,I.bare,⟨λb o e n hb hx=>?_,λb o e n hb hx=>?_,I.base.free,λb o e hx=>?_,I.base.tups,I.base.frzs,I.base.tbls⟩,⟨m,hn.sameBut hs (Ne.symm (cne x c hc)),λj y v' e1 e2 e3=>?_⟩,λy c' e=>?_,I.free,I.freeC,λp hp=>?_,tracked ⟨oc,hoc,I.freeC x c hc⟩ hs,by simpa using I.len⟩ ⟨c,hs,.inr hc⟩
  ·exact(hs.2 b (Nat.ne_of_lt (Nat.lt_of_lt_of_le (Heap.lt_size e) (I.ok.cab x c hfn hc)))).trans (I.base.keep b o e n hb hx)
  ·obtain⟨sl,e1⟩:=I.base.slot b o e n hb hx;exact⟨sl,(hs.2 b (Nat.ne_of_lt (Nat.lt_of_lt_of_le (Heap.lt_size e) (I.ok.cab x c hfn hc)))).trans e1⟩
  ·obtain⟨o',e1⟩:=I.base.there b o e hx;exact⟨o',(hs.2 b (Nat.ne_of_lt (Nat.lt_of_lt_of_le (Heap.lt_size e) (I.ok.cab x c hfn hc)))).trans e1⟩
  ·by_cases hj:j=i
   ·subst hj;rw[hi] at e1;cases e1;rw[List.getElem?_set_self hiσ] at e2;cases e2;exact⟨u,r,.inr ⟨.inl hk,c,hc,hc'⟩⟩
   ·rw[List.getElem?_set_ne (Ne.symm hj)] at e2;obtain⟨u',r',q⟩:=hl j y v' e1 e2 e3;refine⟨u',r',?_⟩;rcases q with q|⟨k,c',e,z'⟩
    ·exact .inl q
    ·refine .inr ⟨k,c',e,z'.sameBut hs ?_⟩;rintro rfl;exact hj (PN hN e1 (I.ok.inj _ _ _ e hc▸hi))
  ·by_cases hcc:c'=c
   ·subst hcc;exact⟨_,hc'⟩
   ·obtain⟨w2,z2⟩:=I.cell y c' e;exact⟨w2,z2.sameBut hs hcc⟩
  ·obtain⟨e,n,ne,nf,d⟩:=I.pin p hp;refine⟨(hs.2 p.1 ?_).trans e,n,ne,nf,d⟩;intro q;rw[q,hoc] at e;have q':oc=p.2:=Option.some.inj e;exact d w' (by rw[<-q'];exact hocd)
theorem uQ{M:Model}{A:Around}{E:Value->Shared->Prop}{i:Nat}{x:Str}{v:V}{u:Value}{Q:Unit->Shared->Prop}(I:Inv X pins σ H s)(hN:X.N.Nodup)(hi:X.N[i]?=some x)(hx:Loc X.env.scope x)(r:RelV v u)
 (h:∀s',Inv X pins (σ.set i (some v)) H s'->Q () s')(hf:X.fn x=true\/X.env.scope.names.lookup x=some .local:=by first|exact .inl rfl|exact .inr rfl|assumption):wpAny M A (storeName X.env x u) Q E s:=
 VF I hN hi hx r (λs' I' _=>h s' I') hf
end
abbrev XK:=Value->Option Addr->Hp->Prop
noncomputable abbrev St:=List (Option V)
abbrev VK:=V->Hp->Prop
abbrev TE:=St->Hp->VK->Prop
abbrev TT:=St->Hp->(Bool->Hp->Prop)->Prop
abbrev TA:=St->Hp->(List V->Hp->Prop)->Prop
structure Ends where
 nx:St->Hp->Prop
 rt:VK
 bk:St->Hp->Prop:=λ_ _=>False
 ct:St->Hp->Prop:=λ_ _=>False
abbrev TS:=Ends->St->Hp->Prop
def EP(X:Cx)(pins:List (Addr×Obj))(σ:St)(Q:VK)(u:Value)(s':Shared):Prop:=∃v H',Inv X pins σ H' s'/\RelV v u/\Q v H'
def TP(X:Cx)(pins:List (Addr×Obj))(σ:St)(Q:Bool->Hp->Prop)(b:Bool)(s':Shared):Prop:=∃H',Inv X pins σ H' s'/\Q b H'
def AP(X:Cx)(pins:List (Addr×Obj))(σ:St)(Q:List V->Hp->Prop)(us:List Value)(s':Shared):Prop:=∃vs H',Inv X pins σ H' s'/\Vals vs us/\Q vs H'
def SP(X:Cx)(pins:List (Addr×Obj))(D:Ends)(f:Flow)(s':Shared):Prop:=
 match f with
 |.next=>∃σ' H',Inv X pins σ' H' s'/\D.nx σ' H'
 |.brk=>∃σ' H',Inv X pins σ' H' s'/\D.bk σ' H'
 |.cont=>∃σ' H',Inv X pins σ' H' s'/\D.ct σ' H'
 |.ret u=>∃v σ' H',Inv X pins σ' H' s'/\RelV v u/\D.rt v H'
def PE(X:Cx)(e:Expr)(t:TE):Prop:=
 ∀(pins:List (Addr×Obj))(s:Shared)(σ:St)(H:Hp)(Q:VK),Inv X pins σ H s->t σ H Q->wpAny (model X.prog X.w) X.A (eval e X.env) (EP X pins σ Q) X.xe s
def PT(X:Cx)(e:Expr)(t:TT):Prop:=
 ∀(pins:List (Addr×Obj))(s:Shared)(σ:St)(H:Hp)(Q:Bool->Hp->Prop),Inv X pins σ H s->t σ H Q->wpAny (model X.prog X.w) X.A (isTrue e X.env (eval e X.env)) (TP X pins σ Q) X.xe s
def PW(X:Cx)(e:Expr)(t:TT):Prop:=
 ∀(whole:Sem Value)(pins:List (Addr×Obj))(s:Shared)(σ:St)(H:Hp)(Q:Bool->Hp->Prop),Inv X pins σ H s->t σ H Q->wpAny (model X.prog X.w) X.A (isTrue e X.env whole) (TP X pins σ Q) X.xe s
theorem PW.pt{X:Cx}{e:Expr}{t:TT}(h:PW X e t):PT X e t:=h _
def PA(X:Cx)(es:List Expr)(t:TA):Prop:=
 ∀(pos:Pos)(pins:List (Addr×Obj))(s:Shared)(σ:St)(H:Hp)(Q:List V->Hp->Prop),Inv X pins σ H s->t σ H Q->wpAny (model X.prog X.w) X.A (spliced (backTo pos (starEach es X.env))) (AP X pins σ Q) X.xe s
def PS(X:Cx)(st:Stmt)(t:TS):Prop:=
 ∀(pins:List (Addr×Obj))(s:Shared)(σ:St)(H:Hp)(D:Ends),Inv X pins σ H s->t D σ H->wpAny (model X.prog X.w) X.A (exec st X.env) (SP X pins D) X.xe s
def PSs(X:Cx)(st:List Stmt)(t:TS):Prop:=
 ∀(pins:List (Addr×Obj))(s:Shared)(σ:St)(H:Hp)(D:Ends),Inv X pins σ H s->t D σ H->wpAny (model X.prog X.w) X.A (execs st X.env) (SP X pins D) X.xe s
theorem thn{α:Type}{t:Sem α}{Q Q':α->Shared->Prop}{M:Model}{A:Around}{E:Value->Shared->Prop}{s:Shared}(h:wpAny M A t Q E s)(hQ:∀a s,Q a s->Q' a s):wpAny M A t Q' E s:=wpAny_mono h hQ λ_ _ x=>x
section
variable {X:Cx}
noncomputable def aMw(i:Nat):TE:=λσ H Q=>∃v,σ[i]?=some (some v)/\Q v H
noncomputable def tC(v:V):TE:=λ_ H Q=>Q v H
theorem jH{i:Nat}{x:Str}{pos:Pos}(hN:X.N[i]?=some x)(hv:Vis X.env.scope x)(hd:nDb x:=by decide)(hcd:nCd x:=by decide):PE X (.Name x pos) (aMw i):=by
 intro pins s σ H Q I h;obtain⟨v,e,h⟩:=h;obtain⟨m,hn,hl⟩:=I.loc;obtain⟨u,r,l⟩:=hl i x v hN e hv;have fin:EP X pins σ Q u s:=⟨v,H,I,r,h⟩
 rcases l with ⟨hk,hm⟩|⟨hk,c,hc,hcell⟩
 ·exact wpAny_Name (wpAny_loadName_local I.ok.kind hk hn hm fin) hd
 ·rcases hk with hk|hk
  ·exact wpAny_Name (wpAny_loadName_cell I.ok.kind hk hc hcell fin) hd
  ·exact wpAny_Name (wpAny_loadName_free I.ok.kind hk hc hcell fin hcd) hd
theorem aH5{i j pos}:PE X (.Constant (.int i) j pos) (tC (.int i)):=λ_ _ _ H _ I h=>wpAny_Constant_int ⟨.int i,H,I.tok _,⟨_,rfl⟩,h⟩
theorem aKk{b j pos}:PE X (.Constant (.bool b) j pos) (tC (.bl b)):=λ_ _ _ H _ I h=>Constant_bool ⟨.bl b,H,I,rfl,h⟩
theorem aH6{x j pos}:PE X (.Constant (.str x) j pos) (tC (.str x)):=λ_ _ _ H _ I h=>Calls.Constant_str ⟨.str x,H,I.tok _,⟨_,rfl⟩,h⟩
def Gl(X:Cx)(x:Str):Prop:=X.env.kindOf x=some .globalImplicit
theorem aEc{E:Value->Shared->Prop}{pins:List (Addr×Obj)}{s:Shared}{σ:St}{H:Hp}{x:Str}{u:Value}{pos:Pos}{Q:Value->Shared->Prop}(I:Inv X pins σ H s)(hg:Gl X x)(hm:X.mg x=some u)(h:Q u s)
 (hd:nDb x:=by decide):wpAny (model X.prog X.w) X.A (eval (.Name x pos) X.env) Q E s:=
 Calls.Name_function_global I.ok.kind hg (Calls.loadGlobal_global (by rw[I.ok.glob];exact I.mod.glob.keeps I.bk) hm h) hd
theorem DX{E:Value->Shared->Prop}{pins:List (Addr×Obj)}{s:Shared}{σ:St}{H:Hp}{x:Str}{u:Value}{pos:Pos}{Q:Value->Shared->Prop}(I:Inv X pins σ H s)(hg:Gl X x)(hm:X.mg x=none)(hv:bootBuiltins x=some u)(h:Q u s)
 (hn:x ≠ "__name__":=by decide)(hd:nDb x:=by decide):wpAny (model X.prog X.w) X.A (eval (.Name x pos) X.env) Q E s:=by
 obtain⟨mb,h1,h2⟩:=I.mod.blt;exact Calls.Name_function_global I.ok.kind hg (Calls.loadGlobal_builtin (by rw[I.ok.glob];exact I.mod.glob.keeps I.bk) hm (by rw[I.ok.blt];exact h1.keeps I.bk) ((h2 x hn).trans hv) h) hd
theorem aEd{x:Str}{v:V}{u:Value}{pos:Pos}(hg:Gl X x)(hm:X.mg x=none)(hv:bootBuiltins x=some u)(r:RelV v u)(hn:x ≠ "__name__":=by decide)(hd:nDb x:=by decide):PE X (.Name x pos) (tC v):=
 λ_ _ _ H _ I h=>DX I hg hm hv ⟨v,H,I,r,h⟩ hn hd
variable {a b:Expr} {ta tb:TE} {pos:Pos}
variable {tA tB':TT} {rest:List Expr}
noncomputable def aMx(t u:TT):TT:=λσ H Q=>t σ H λc H1=>if c=true then u σ H1 Q else Q false H1
noncomputable def tOr(t u:TT):TT:=λσ H Q=>t σ H λc H1=>if c=true then Q true H1 else u σ H1 Q
noncomputable def aMy(t:TT):TT:=λσ H Q=>t σ H λc H1=>Q (!c) H1
theorem aEe(ha:PT X a tA):PW X (.BoolOp .And [a] pos) tA:=by
 intro wh pins s σ H Q I h;refine isTrue_and (thn (ha pins s σ H Q I h) λc s1 e=>?_);cases c with
 |true=>exact isTrue_and_nil e
 |false=>exact e
theorem aH7(ha:PT X a tA):PW X (.BoolOp .Or [a] pos) tA:=by
 intro wh pins s σ H Q I h;refine isTrue_or (thn (ha pins s σ H Q I h) λc s1 e=>?_);cases c with
 |false=>exact isTrue_or_nil e
 |true=>exact e
theorem aH8(ha:PT X a tA)(hb:PW X (.BoolOp .And (b::rest) pos) tB'):PW X (.BoolOp .And (a::b::rest) pos) (aMx tA tB'):=by
 intro wh pins s σ H Q I h;refine isTrue_and (thn (ha pins s σ H _ I h) λc s1 ⟨H1,I1,q1⟩=>?_);cases c with
 |true=>exact hb wh pins s1 σ H1 Q I1 q1
 |false=>exact⟨H1,I1,q1⟩
theorem aKl(ha:PT X a tA)(hb:PW X (.BoolOp .Or (b::rest) pos) tB'):PW X (.BoolOp .Or (a::b::rest) pos) (tOr tA tB'):=by
 intro wh pins s σ H Q I h;refine isTrue_or (thn (ha pins s σ H _ I h) λc s1 ⟨H1,I1,q1⟩=>?_);cases c with
 |true=>exact⟨H1,I1,q1⟩
 |false=>exact hb wh pins s1 σ H1 Q I1 q1
theorem aH9(ha:PT X a tA):PT X (.UnaryOp .Not a pos) (aMy tA):=by
 intro pins s σ H Q I h;exact isTrue_not (ha pins s σ H (λc H1=>Q (!c) H1) I h)
noncomputable def aKm(ta tb:TE):TE:=λσ H Q=>ta σ H λx H1=>∃c,x=.bl c/\if c=true then tb σ H1 Q else Q (.bl false) H1
noncomputable def aKn(ta:TE):TE:=λσ H Q=>ta σ H λx H1=>∃c,x=.bl c/\Q (.bl (!c)) H1
theorem aHa{op}{t:TE}(h:PE X a t):PE X (.BoolOp op [a] pos) t:=λpins s σ H Q I hw=>BoolOp_one (h pins s σ H Q I hw)
theorem aHb(ha:PE X a ta)(hb:PE X (.BoolOp .And (b::rest) pos) tb):PE X (.BoolOp .And (a::b::rest) pos) (aKm ta tb):=by
 intro pins s σ H Q I h;refine BoolOp_and (thn (ha pins s σ H _ I h) λv s1 ⟨x,H1,I1,r1,q1⟩=>?_);obtain⟨c,rfl,q1⟩:=q1;cases r1;refine wpAny_truthy_bool ?_;cases c with
 |true=>exact hb pins s1 σ H1 Q I1 q1
 |false=>exact⟨.bl false,H1,I1,rfl,q1⟩
theorem aHc(ha:PE X a ta):PE X (.UnaryOp .Not a pos) (aKn ta):=by
 intro pins s σ H Q I h;refine UnaryOp_ (thn (ha pins s σ H _ I h) λv s1 ⟨x,H1,I1,r1,q1⟩=>?_);obtain⟨c,rfl,q1⟩:=q1;cases r1;exact not_of (wpAny_truthy_bool ⟨.bl (!c),H1,I1,rfl,q1⟩)
end
def SqL(K:PySem.W.Frag)(H:Hp)(a:Addr)(xs:List V):Prop:=
 Rd H a (.lst xs)\/
  ∃(o:Obj)(its:Array Value)(n:Nat),K.lookup a=some o/\o.cls=.type "list"/\o.dict=none/\o.data=.seq its n/\its.size<=sizeLine/\Vals xs its.toList
def SqT(K:PySem.W.Frag)(H:Hp)(a:Addr)(xs:List V):Prop:=
 Rd H a (.tup xs)\/
  ∃(o:Obj)(its:Array Value)(n:Nat),K.lookup a=some o/\o.cls=.type "tuple"/\o.data=.seq its n/\its.size<=sizeLine/\Vals xs its.toList
noncomputable def aMz:Value->Option V
 |.none=>some .non
 |.bool b=>some (.bl b)
 |.int i _=>some (.int i)
 |.str x _=>some (.str x)
 |.bytes b _=>some (.byt b)
 |.float b _=>some (.flt b)
 |.ref a=>some (.ref a)
 |.type n=>some (.ty n)
 |_=>none
theorem RelV.abs{x:V}{u:Value}(r:RelV x u):aMz u=some x:=by
 cases x with
 |non=>cases r;rfl
 |bl _=>cases r;rfl
 |int _=>obtain⟨t,rfl⟩:=r;rfl
 |str _=>obtain⟨t,rfl⟩:=r;rfl
 |byt _=>obtain⟨t,rfl⟩:=r;rfl
 |flt _=>obtain⟨t,rfl⟩:=r;rfl
 |ref _=>cases r;rfl
 |ty _=>cases r;rfl
theorem RelV.inj{x y:V}{u:Value}(r:RelV x u)(q:RelV y u):x=y:=Option.some.inj (r.abs.symm.trans q.abs)
theorem Vals.inj:∀{xs ys:List V}{us:List Value},Vals xs us->Vals ys us->xs=ys
 |_,_,_,.nil,.nil=>rfl
 |_,_,_,.cons r t,.cons r' t'=>by rw[r.inj r',Vals.inj t t']
section
variable {X:Cx} {pins:List (Addr×Obj)} {σ:St} {H:Hp} {s:Shared} {a:Addr} {xs ys:List V}
theorem SqL.of{K:PySem.W.Frag}(h:H a=some (.lst xs)):SqL K H a xs:=.inl (.inl h)
theorem SqT.of{K:PySem.W.Frag}(h:H a=some (.tup xs)):SqT K H a xs:=.inl (.inl h)
theorem Inv.list(I:Inv X pins σ H s)(h:SqL X.K H a xs):∃its:List Value,Vals xs its/\PlainL s.heap a its.toArray/\xs.length<=sizeLine:=by
 rcases h with h|⟨o,its,n,hk,hc,hd,hs,hz,r⟩
 ·obtain⟨z,its,n,r,e⟩:=h.ok I.hok;exact⟨its,r,⟨_,n,e,rfl,rfl,rfl⟩,z⟩
 ·refine⟨its.toList,r,⟨o,n,I.kIn a o hk,hc,hd,by simpa using hs⟩,?_⟩;have e:=r.length;simp only[Array.length_toList] at e;lia
theorem Inv.tuple(I:Inv X pins σ H s)(h:SqT X.K H a xs):∃its:List Value,Vals xs its/\IsTup s.heap a its.toArray/\xs.length<=sizeLine:=by
 rcases h with h|⟨o,its,n,hk,hc,hs,hz,r⟩
 ·obtain⟨z,its,r,p⟩:=h.ok I.hok;exact⟨its,r,p.tup,z⟩
 ·refine⟨its.toList,r,⟨o,I.kIn a o hk,hc,n,by simpa using hs⟩,?_⟩;have e:=r.length;simp only[Array.length_toList] at e;lia
theorem Inv.aAs(I:Inv X pins σ H s)(h:SqL X.K H a xs)(h':SqL X.K H a ys):xs=ys:=by
 obtain⟨its,r,⟨o,n,e,_,_,d⟩,_⟩:=I.list h;obtain⟨its',r',⟨o',n',e',_,_,d'⟩,_⟩:=I.list h';rw[e] at e';cases e';rw[d] at d';injection d' with d1 _
 have:its=its':=by simpa using congrArg Array.toList d1
 subst this;exact r.inj r'
theorem Inv.VG(I:Inv X pins σ H s)(h:SqT X.K H a xs)(h':SqT X.K H a ys):xs=ys:=by
 obtain⟨its,r,⟨o,e,_,n,d⟩,_⟩:=I.tuple h;obtain⟨its',r',⟨o',e',_,n',d'⟩,_⟩:=I.tuple h';rw[e] at e';cases e';rw[d] at d';injection d' with d1 _
 have:its=its':=by simpa using congrArg Array.toList d1
 subst this;exact r.inj r'
end
noncomputable abbrev Cx.wish(X:Cx)(E:Value->Shared->Prop):Cx:={X with xe:=E}
noncomputable abbrev Cx.nox(X:Cx):Cx:=X.wish λ_ _=>False
theorem Cx.Ok.wish{X:Cx}(ok:X.Ok)(E:Value->Shared->Prop):(X.wish E).Ok:=
 ⟨ok.mod,ok.kind,ok.glob,ok.blt,ok.above,ok.inj,ok.has,ok.cab,ok.hd,ok.frames,ok.stk,ok.exf,ok.bs,ok.bsz,ok.noex,ok.exfs,ok.VB,ok.frf⟩
theorem Cx.Ok.tZ{X:Cx}{E:Value->Shared->Prop}(ok:(X.wish E).Ok):X.Ok:=
 ⟨ok.mod,ok.kind,ok.glob,ok.blt,ok.above,ok.inj,ok.has,ok.cab,ok.hd,ok.frames,ok.stk,ok.exf,ok.bs,ok.bsz,ok.noex,ok.exfs,ok.VB,ok.frf⟩
section
variable {X:Cx} {pins:List (Addr×Obj)} {σ:St} {H:Hp} {s:Shared} {E:Value->Shared->Prop}
theorem Inv.wish(I:Inv X pins σ H s)(E:Value->Shared->Prop):Inv (X.wish E) pins σ H s:=⟨I.ok.wish E,I.os,I.bare,I.base,I.loc,I.cell,I.free,I.freeC,I.pin,I.hok,I.len⟩
theorem Inv.tZ(I:Inv (X.wish E) pins σ H s):Inv X pins σ H s:=⟨I.ok.tZ,I.os,I.bare,I.base,I.loc,I.cell,I.free,I.freeC,I.pin,I.hok,I.len⟩
theorem SP.tZ{D:Ends}{f:Flow}{s':Shared}(h:SP (X.wish E) pins D f s'):SP X pins D f s':=by
 cases f with
 |next=>obtain⟨σ',H',I,q⟩:=h;exact⟨σ',H',I.tZ,q⟩
 |brk=>obtain⟨σ',H',I,q⟩:=h;exact⟨σ',H',I.tZ,q⟩
 |cont=>obtain⟨σ',H',I,q⟩:=h;exact⟨σ',H',I.tZ,q⟩
 |ret u=>obtain⟨v,σ',H',I,r,q⟩:=h;exact⟨v,σ',H',I.tZ,r,q⟩
theorem PSs.nox{st:List Stmt}{t:TS}(h:PSs X.nox st t):PSs X st t:=λpins s σ H D I hw=>
 wpAny_mono (h pins s σ H D (I.wish _) hw) (λ_ _ q=>q.tZ) λ_ _ z=>False.elim z
end
section
variable {X:Cx} {st:Stmt} {rest:List Stmt} {t u:TS} {e:Expr} {te:TE} {pos:Pos}
noncomputable def aKo:TS:=λD σ H=>D.nx σ H
noncomputable def aM9(t u:TS):TS:=λD σ H=>t {D with nx:=u D} σ H
theorem aEf:PSs X [] aKo:=λ_ _ σ H _ I h=>wpAny_execs_nil ⟨σ,H,I,h⟩
theorem aAt(h1:PS X st t)(h2:PSs X rest u):PSs X (st::rest) (aM9 t u):=by
 intro pins s σ H D I h;refine wpAny_execs_cons (thn (h1 pins s σ H {D with nx:=u D} I h) λf s1 q=>?_);cases f with
 |next=>
  obtain⟨σ',H',I',q⟩:=q;exact h2 pins s1 σ' H' D I' q
 |ret v=>exact q
 |brk=>exact q
 |cont=>exact q
theorem aEg(h1:PS X st t):PSs X [st] t:=by
 intro pins s σ H D I h;refine wpAny_execs_cons (thn (h1 pins s σ H D I h) λf s1 q=>?_);cases f with
 |next=>exact wpAny_execs_nil q
 |ret v=>exact q
 |brk=>exact q
 |cont=>exact q
theorem Inv.quiet{pins:List (Addr×Obj)}{σ:St}{H:Hp}{s:Shared}(I:Inv X pins σ H s):interactive X.env=false:=by simp[interactive,I.ok.kind]
noncomputable def aKp(te:TE):TS:=λD σ H=>te σ H λ_ H1=>D.nx σ H1
theorem KD(he:PE X e te)(hs:swapsWith e none pos.line X.env=pure false:=by rfl):PS X (.Expr e pos) (aKp te):=by
 intro pins s σ H D I h;exact wpAny_Expr_any (thn (he pins s σ H _ I h) λv s1 ⟨x,H1,I1,r1,q1⟩=>⟨σ,H1,I1,q1⟩) I.quiet hs
noncomputable def aN0(te:TE):TS:=λD σ H=>te σ H D.rt
theorem VH(he:PE X e te):PS X (.Return (some e) pos) (aN0 te):=by
 intro pins s σ H D I h;exact wpAny_Return_some (thn (he pins s σ H _ I h) λv s1 ⟨x,H1,I1,r1,q1⟩=>⟨x,σ,H1,I1,r1,q1⟩)
noncomputable def aN1(c:TT)(t u:TS):TS:=λD σ H=>c σ H λb H1=>if b=true then t D σ H1 else u D σ H1
theorem aKq{c:Expr}{a b:List Stmt}{tc:TT}(hc:PT X c tc)(ha:PSs X a t)(hb:PSs X b u):PS X (.If c a b pos) (aN1 tc t u):=by
 intro pins s σ H D I h;refine wpAny_If (thn (hc pins s σ H _ I h) λd s1 ⟨H1,I1,q1⟩=>?_);cases d with
 |true=>exact ha pins s1 σ H1 D I1 q1
 |false=>exact hb pins s1 σ H1 D I1 q1
end
abbrev TG:=V->St->Hp->(St->Hp->Prop)->Prop
abbrev TGs:=List V->St->Hp->(St->Hp->Prop)->Prop
def PG(X:Cx)(target:Expr)(t:TG):Prop:=
 ∀(pins:List (Addr×Obj))(s:Shared)(σ:St)(H:Hp)(v:V)(u:Value)(Q:St->Hp->Prop),Inv X pins σ H s->RelV v u->t v σ H Q->
  wpAny (model X.prog X.w) X.A (assign target X.env u) (λ_ s'=>∃σ' H',Inv X pins σ' H' s'/\Q σ' H') X.xe s
def PGs(X:Cx)(ts:List Expr)(t:TGs):Prop:=
 ∀(pins:List (Addr×Obj))(s:Shared)(σ:St)(H:Hp)(vs:List V)(us:List Value)(Q:St->Hp->Prop),Inv X pins σ H s->Vals vs us->t vs σ H Q->
  wpAny (model X.prog X.w) X.A (assignInOrder ((assignEach ts X.env).map (·.2)) us) (λ_ s'=>∃σ' H',Inv X pins σ' H' s'/\Q σ' H') X.xe s
section
variable {X:Cx} {pos:Pos}
noncomputable def wV(i:Nat):TG:=λv σ H Q=>Q (σ.set i (some v)) H
theorem bB{i:Nat}{x:Str}(hN:X.N.Nodup)(hi:X.N[i]?=some x)(hx:Loc X.env.scope x)(hf:X.fn x=true\/X.env.scope.names.lookup x=some .local:=by first|exact .inl rfl|exact .inr rfl|assumption):PG X (.Name x pos) (wV i):=by
 intro pins s σ H v u Q I r h;exact wpAny_assign_Name (uQ I hN hi hx r (λs' I'=>⟨_,H,I',h⟩) hf)
noncomputable def aMa:TGs:=λvs σ H Q=>vs=[]/\Q σ H
noncomputable def aHd(t:TG)(u:TGs):TGs:=λvs σ H Q=>∃v r,vs=v::r/\t v σ H λσ' H'=>u r σ' H' Q
theorem jO:PGs X [] aMa:=by
 intro pins s σ H vs us Q I r h;obtain⟨e,h⟩:=h;subst e;cases r;exact assignInOrder_nil ⟨σ,H,I,h⟩
theorem cG{e:Expr}{es:List Expr}{t:TG}{u:TGs}(h1:PG X e t)(h2:PGs X es u)
 (hs:(assignEach (e::es) X.env).map (·.2)=assign e X.env::(assignEach es X.env).map (·.2):=by rfl):PGs X (e::es) (aHd t u):=by
 intro pins s σ H vs us Q I r h;obtain⟨v,vr,e1,h⟩:=h;subst e1;cases r with
 |cons r rr=>
  rw[hs];refine assignInOrder_cons (thn (h1 pins s σ H _ _ _ I r h) λ_ s1 ⟨σ1,H1,I1,q1⟩=>?_);exact h2 pins s1 σ1 H1 _ _ Q I1 rr q1
noncomputable def aKr(K:PySem.W.Frag)(n:Nat)(t:TGs):TG:=λv σ H Q=>∃a xs,v=.ref a/\SqT K H a xs/\xs.length=n/\t xs σ H Q
theorem oR{es:List Expr}{k:Nat}{t:TGs}{n:Nat}(hc:X.calm=true)(h:PGs X es t)
 (hn:(assignEach es X.env).length=n:=by rfl)(hst:(assignEach es X.env).findIdx? (·.1)=none:=by rfl):PG X (.Tuple es k pos) (aKr X.K n t):=by
 intro pins s σ H v u Q I r hw;obtain⟨a,xs,e1,hq,hl,hw⟩:=hw;subst e1;cases r;obtain⟨its,rv,ht,hz⟩:=I.tuple hq;refine assign_Tuple_tuple (I.ok.hd hc) ht (by simp[hn,<-hl,rv.length]) hst λh' hx=>?_
 have I1:Inv X pins σ H {s with heap:=h'}:=I.kept (t':=s.toks) λb o e=>hx b o (Nat.ne_of_lt (Heap.lt_size e)) e
 exact h pins _ σ H xs _ Q I1 (by simpa using rv) hw
noncomputable def aGs(te:TE)(g:TG):TS:=λD σ H=>te σ H λx H1=>g x σ H1 D.nx
theorem aHe{tg e:Expr}{te:TE}{g:TG}(he:PE X e te)(hg:PG X tg g)(hs:swapsWithSole [tg] e pos.line X.env=pure false:=by rfl)(hw:swappedStores [tg] e X.env=pure none:=by rfl)
 (h1:(assignEach [tg] X.env).map (·.2)=[assign tg X.env]:=by rfl):PS X (.Assign [tg] e pos) (aGs te g):=by
 intro pins s σ H D I h;refine wpAny_Assign_stores (thn (he pins s σ H _ I h) λv s1 ⟨x,H1,I1,r1,q1⟩=>?_) hs hw;rw[h1];exact thn (hg pins s1 σ H1 x v _ I1 r1 q1) λ_ s2 q=>q
theorem aCx{i:Nat}{x:Str}{e:Expr}{te:TE}{pos':Pos}(hN:X.N.Nodup)(hi:X.N[i]?=some x)(hx:Loc X.env.scope x)(he:PE X e te)(hs:swapsWith e (some (.Name x pos')) pos.line X.env=pure false:=by rfl)(hf:X.fn x=true\/X.env.scope.names.lookup x=some .local:=by first|exact .inl rfl|exact .inr rfl|assumption) :
  PS X (.Assign [.Name x pos'] e pos) (aGs te (wV i)):=by
 intro pins s σ H D I h;refine wpAny_Assign_Name (thn (he pins s σ H _ I h) λv s1 ⟨y,H1,I1,r1,q1⟩=>?_) hs;exact uQ I1 hN hi hx r1 (λs2 I2=>⟨_,H1,I2,q1⟩) hf
noncomputable def aN2(i j:Nat)(ta:TA):TS:=λD σ H=>ta σ H λvs H1=>∃v w,vs=[v,w]/\D.nx ((σ.set i (some v)).set j (some w)) H1
theorem aHf{i j:Nat}{x y:Str}{a b:Expr}{ta:TA}{px py pt:Pos}{kt k2 pt2}(hc:X.calm=true)(hN:X.N.Nodup)(hi:X.N[i]?=some x)(hj:X.N[j]?=some y)(hij:i≠j)
 (hx:X.env.scope.names.lookup x=some .local)(hy:X.env.scope.names.lookup y=some .local)(ha:PA X [a,b] ta)
 (hw:swappedStores [.Tuple [.Name x px,.Name y py] kt pt] (.Tuple [a,b] k2 pt2) X.env=pure (some [x,y]))
 (hs:swapsWithSole [.Tuple [.Name x px,.Name y py] kt pt] (.Tuple [a,b] k2 pt2) pos.line X.env=pure false:=by rfl) :
  PS X (.Assign [.Tuple [.Name x px,.Name y py] kt pt] (.Tuple [a,b] k2 pt2) pos) (aN2 i j ta):=by
 intro pins s σ H D I h;rw[exec_Assign_arm];refine wpAny_bind (wpAny_standAt ?_);rw[hs];refine wpAny_bind (wpAny_pure ?_);rw[if_neg (by decide)];refine wpAny_bind (Tuple_ (thn (ha _ pins s σ H _ I h) λus s1 ⟨vs,H1,I1,r1,q1⟩=>?_));obtain⟨v,w,e1,q1⟩:=q1;subst e1;obtain⟨u1,u2,rfl,rv,rw'⟩:∃u1 u2,us=[u1,u2]/\RelV v u1/\RelV w u2:=by
  cases r1 with
  |cons p q=>
   cases q with
   |cons p' q'=>
    cases q';exact⟨_,_,rfl,p,p'⟩
 refine wpAny_newObj_type ?_ (by show 2<=sizeLine;decide);have I2:Inv X pins σ H1 {s1 with heap:=s1.heap.push {cls:=.type "tuple",data:=.seq [u1,u2].toArray}}:=I1.kept (t':=s1.toks) λb o e=>Heap.get?_push_of_some _ e
 rw[hw];refine wpAny_bind (wpAny_pure ?_);show wpAny (model X.prog X.w) X.A (do rule "assign.swapped-stores";let items <- unpackItems (.ref s1.heap.objs.size) 2 none;assignInOrder [λv=>bindName X.env y v,λv=>bindName X.env x v] items.reverse;pure Flow.next) _ _ _;refine wpAny_bind (wpAny_rule (wpAny_bind (unpackItems_tuple (items:=#[u1,u2]) (I.ok.hd hc) (IsTup.new s1.heap _) λh' hx'=>?_)));have I3:=I2.kept (h':=h') (t':=s1.toks) λb o e=>hx' b o (Nat.ne_of_lt (Heap.lt_size e)) e
 show wpAny _ _ (assignInOrder [λv=>bindName X.env y v,λv=>bindName X.env x v] [u2,u1] >>= λ_=>pure Flow.next) _ _ _;refine wpAny_bind (assignInOrder_cons (wpAny_bindName (uQ I3 hN hj (.inl hy) rw' (λs2 I4=>?_) (.inr hy))));refine assignInOrder_cons (wpAny_bindName (uQ I4 hN hi (.inl hx) rv (λs3 I5=>assignInOrder_nil (wpAny_pure ?_)) (.inr hx)));rw[List.set_comm _ _ (Ne.symm hij)] at I5;exact⟨_,H1,I5,q1⟩
def aHg(c:TT)(tb:TS):TS:=λD σ H=>∃W:Nat->St->Hp->Prop,(∃m,W m σ H)/\∀m σ H,W m σ H->
 c σ H λb H1=>if b=true then ∃N:St->Hp->Prop,(∀σ' H',N σ' H'->∃m',m'<m/\W m' σ' H')/\tb {D with nx:=N,ct:=N,bk:=D.nx} σ H1 else D.nx σ H1
theorem aAu{c:Expr}{body:List Stmt}{tc:TT}{tb:TS}(hp:PassesOwn (model X.prog X.w) X.A X.env X.xe)(hc:PT X c tc)(hb:PSs X body tb):PS X (.While c body [] pos) (aHg tc tb):=by
 intro pins s σ H D I h;obtain⟨W,⟨m0,w0⟩,turn⟩:=h;refine wpAny_While (codeAny_whileLoop (λn s'=>∃σ' H',Inv X pins σ' H' s'/\W n σ' H') ?_ m0 ⟨σ,H,I,w0⟩);rintro n s1 ⟨σ1,H1,I1,w1⟩;refine wpAny_passesOwn hp (thn (hc pins s1 σ1 H1 _ I1 (turn n σ1 H1 w1)) λb s2 ⟨H2,I2,q2⟩=>?_);cases b with
 |true=>
  obtain⟨N,hN,q2⟩:=q2;rw[if_pos rfl];refine wpAny_passesOwn hp (thn (hb pins s2 σ1 H2 _ I2 q2) λf s3 q3=>?_);cases f with
  |next=>
   obtain⟨σ3,H3,I3,n3⟩:=q3;obtain⟨m',hm,w3⟩:=hN σ3 H3 n3;exact⟨m',hm,σ3,H3,I3,w3⟩
  |cont=>
   obtain⟨σ3,H3,I3,n3⟩:=q3;obtain⟨m',hm,w3⟩:=hN σ3 H3 n3;exact⟨m',hm,σ3,H3,I3,w3⟩
  |brk=>exact q3
  |ret v=>exact q3
 |false=>
  rw[if_neg Bool.false_ne_true];exact wpAny_execs_nil ⟨σ1,H2,I2,q2⟩
end
structure It where
 go:Nat->Hp->Prop
 yld:Nat->Hp->V->Hp->Prop
 stop:Nat->Hp->Prop
def VJ(X:Cx)(pins:List (Addr×Obj))(H:Hp)(b:Addr):Prop:=
 H b=none/\b≠X.env.locals/\b∉X.fs/\(b∈X.ex\/X.s₀.heap.objs.size<=b)/\(∀x c,X.env.cells.lookup x=some c->c≠b)/\∀p∈X.pn++pins,p.1≠b
theorem Inv.aKc{X:Cx}{pins:List (Addr×Obj)}{σ:St}{H H':Hp}{s:Shared}{b:Addr}(I:Inv X pins σ H s)(hb:s.heap.objs.size<=b)(hn:H' b=none):VJ X pins H' b:=by
 refine⟨hn,Nat.ne_of_gt (Nat.lt_of_lt_of_le I.lt hb),I.aM8 hb,.inr (Nat.le_trans I.sz hb),λx c e z=>?_,λp hp z=>?_⟩
 ·obtain⟨v,q⟩:=I.cell x c e;exact absurd (Nat.lt_of_lt_of_le q.lt (by rw[z];exact hb)) (Nat.lt_irrefl _)
 ·exact absurd (Nat.lt_of_lt_of_le (Heap.lt_size (I.pin p hp).1) (by rw[z];exact hb)) (Nat.lt_irrefl _)
structure Turn(P:Program)(w:World)(K:PySem.W.Frag)(tg:Expr)(J:It)(fp:List Addr)(it:Addr)(tn:Nat->Heap->Prop):Prop where
 mem:it∈fp
 obj:∀i h,tn i h->∀b∈fp,∃o,h.get? b=some o/\∀v,o.data≠.cell v
 keep:∀i h h',tn i h->(∀b∈fp,∀o,h.get? b=some o->h'.get? b=some o)->tn i h'
 item:∀(X:Cx),X.prog=P->X.w=w->X.K=K->X.calm=true->∀(i:Nat)(pins:List (Addr×Obj))(s:Shared)(σ:St)(H:Hp)(E:Value->Shared->Prop),Inv X pins σ H s->(∀b∈fp,VJ X pins H b)->tn i s.heap->J.go i H->
  wpAny (model P w) X.A (pyNext (.ref it)) (λr s1=>∃u,r=some u/\
   wpAny (model P w) X.A (letOwnedTupleGo tg (.ref it) u) (λ_ s2=>∃x H',Inv X pins σ H' s2/\RelV x u/\J.yld i H x H'/\tn (i+1) s2.heap/\∀b∈fp,H' b=none) E s1) E s
 done:∀(X:Cx),X.prog=P->X.w=w->X.K=K->X.calm=true->∀(i:Nat)(pins:List (Addr×Obj))(s:Shared)(σ:St)(H:Hp)(E:Value->Shared->Prop),Inv X pins σ H s->(∀b∈fp,VJ X pins H b)->tn i s.heap->J.stop i H->
  wpAny (model P w) X.A (pyNext (.ref it)) (λr s1=>r=none/\Inv X pins σ H s1) E s
 self:∀(A:Around)(i:Nat)(s:Shared)(Q:Value->Shared->Prop)(E:Value->Shared->Prop),tn i s.heap->Q (.ref it) s->wpAny (model P w) A (pyIter (.ref it)) Q E s
abbrev TI:=St->Hp->(It->Hp->Prop)->Prop
def PIE(X:Cx)(pins:List (Addr×Obj))(σ:St)(tg:Expr)(R:It->Hp->Prop)(itv:Value)(s2:Shared):Prop:=
 ∃(it:Addr)(fp:List Addr)(tn:Nat->Heap->Prop)(J:It)(H':Hp),itv=.ref it/\Inv X pins σ H' s2/\Turn X.prog X.w X.K tg J fp it tn/\tn 0 s2.heap/\(∀b∈fp,VJ X pins H' b)/\R J H'
def PI(X:Cx)(tg iter:Expr)(wi:TI):Prop:=
 ∀(pins:List (Addr×Obj))(s:Shared)(σ:St)(H:Hp)(R:It->Hp->Prop),Inv X pins σ H s->wi σ H R->
  wpAny (model X.prog X.w) X.A (eval iter X.env) (λv s1=>wpAny (model X.prog X.w) X.A (pyIter v) (PIE X pins σ tg R) X.xe s1) X.xe s
theorem aAv{M:Model}{A:Around}{E:Value->Shared->Prop}{s:Shared}{tg:Expr}{it:Addr}{u:Value}{o:Obj}{n:String}{vs:Array Value}{Q:Unit->Shared->Prop}(ho:s.heap.get? it=some o)(hc:o.cls=.type n)(hd:o.data=.fields vs)
 (hn:["enumerate","zip","dict_itemiterator","dict_reverseitemiterator","odict_iterator","itertools.zip_longest","itertools.pairwise"].contains n=false)(hQ:Q () s):wpAny M A (letOwnedTupleGo tg (.ref it) u) Q E s:= by
  unfold letOwnedTupleGo;cases tg<;>first
    |exact wpAny_pure hQ
    | (cases u<;>first
        |exact wpAny_pure hQ
        | (refine wpAny_bind (wpAny_load ho ?_)
           rw[hc,hd];show wpAny M A (if (["enumerate","zip","dict_itemiterator","dict_reverseitemiterator","odict_iterator","itertools.zip_longest","itertools.pairwise"].contains n&&vs[0]?==some (rawInt _))=true then _ else _) Q E s;rw[if_neg (by intro h;rw[hn,Bool.false_and] at h;cases h)];exact wpAny_pure hQ))
noncomputable def Itl(K:PySem.W.Frag)(a:Addr):It:=
 ⟨λi H=>∃xs x,SqL K H a xs/\xs[i]?=some x,λi H x H'=>H'=H/\∀xs,SqL K H a xs->xs[i]?=some x,λi H=>∃xs,SqL K H a xs/\xs.length<=i⟩
noncomputable def Itt(K:PySem.W.Frag)(a:Addr):It:=
 ⟨λi H=>∃xs x,SqT K H a xs/\xs[i]?=some x,λi H x H'=>H'=H/\∀xs,SqT K H a xs->xs[i]?=some x,λi H=>∃xs,SqT K H a xs/\xs.length<=i⟩
noncomputable def Itr(lo:Int)(n:Nat):It:=⟨λi _=>i<n,λi H x H'=>H'=H/\x=.int (lo+i),λi _=>n<=i⟩
theorem VL{P:Program}{w:World}{K:PySem.W.Frag}{tg:Expr}(a it:Addr):Turn P w K tg (Itl K a) [it] it (λi h=>h.IsListIter it a i) where
 mem:=by simp
 obj:=λi h st b hb=>by
  have e:b=it:=by simpa using hb
  subst e;obtain⟨o,e,c,d⟩:=st;exact⟨o,e,λv z=>by rw[d] at z;cases z⟩
 keep:=λi h h' st k=>st.at λo e=>k it (by simp) o e
 item:=by
  intro X hP hw hK hc i pins s σ H E I hf st hg;subst hP hw hK;obtain⟨xs,x,hq,hx⟩:=hg;obtain⟨its,rv,p,hz⟩:=I.list hq;obtain⟨u,hu,ru⟩:=rv.get hx;obtain⟨f0,f1,f2,f3,f4,f5⟩:=hf it (by simp);refine wpAny_pyNext_list_item st p.isList (x:=u) (by simpa using hu) λh' st' sb=>?_
  have I1:Inv X pins σ H {s with heap:=h'}:=I.turned (t':=s.toks) (λb o hb e=>(sb.2 b hb).trans e) f0 f1 f3 f4 f5;obtain⟨o,e,c,d⟩:=id st';exact⟨u,rfl,aAv (s:={s with heap:=h'}) e c d (by decide) ⟨x,H,I1,ru,⟨rfl,λys hy=>by rw[I.aAs hy hq];exact hx⟩,st',λb hb=>(hf b hb).1⟩⟩
 done:=by
  intro X hP hw hK hc i pins s σ H E I hf st hg;subst hP hw hK;obtain⟨xs,hq,hx⟩:=hg;obtain⟨its,rv,p,hz⟩:=I.list hq;obtain⟨f0,f1,f2,f3,f4,f5⟩:=hf it (by simp);have hl:=rv.length;exact wpAny_pyNext_list_end (I.ok.hd hc) st p.isList (by simp;lia) λh' eb=>⟨rfl,I.turned (t':=s.toks) (λb o hb e=>eb b o hb e) f0 f1 f3 f4 f5⟩
 self:=λ_ _ _ _ _ st h=>wpAny_pyIter_listiter st h
theorem R8{P:Program}{w:World}{K:PySem.W.Frag}{tg:Expr}(a it:Addr):Turn P w K tg (Itt K a) [it] it (λi h=>h.IsTupleIter it a i) where
 mem:=by simp
 obj:=λi h st b hb=>by
  have e:b=it:=by simpa using hb
  subst e;obtain⟨o,e,c,d⟩:=st;exact⟨o,e,λv z=>by rw[d] at z;cases z⟩
 keep:=λi h h' st k=>st.at λo e=>k it (by simp) o e
 item:=by
  intro X hP hw hK hc i pins s σ H E I hf st hg;subst hP hw hK;obtain⟨xs,x,hq,hx⟩:=hg;obtain⟨its,rv,p,hz⟩:=I.tuple hq;obtain⟨u,hu,ru⟩:=rv.get hx;obtain⟨f0,f1,f2,f3,f4,f5⟩:=hf it (by simp);refine wpAny_pyNext_tuple_item st (show s.heap.IsTuple a its.toArray from p) (x:=u) (by simpa using hu) λh' st' sb=>?_
  have I1:Inv X pins σ H {s with heap:=h'}:=I.turned (t':=s.toks) (λb o hb e=>(sb.2 b hb).trans e) f0 f1 f3 f4 f5;obtain⟨o,e,c,d⟩:=id st';exact⟨u,rfl,aAv (s:={s with heap:=h'}) e c d (by decide) ⟨x,H,I1,ru,⟨rfl,λys hy=>by rw[I.VG hy hq];exact hx⟩,st',λb hb=>(hf b hb).1⟩⟩
 done:=by
  intro X hP hw hK hc i pins s σ H E I hf st hg;subst hP hw hK;obtain⟨xs,hq,hx⟩:=hg;obtain⟨its,rv,p,hz⟩:=I.tuple hq;obtain⟨f0,f1,f2,f3,f4,f5⟩:=hf it (by simp);have hl:=rv.length;exact wpAny_pyNext_tuple_end (I.ok.hd hc) st (show s.heap.IsTuple a its.toArray from p) (by simp;lia) λh' eb=>⟨rfl,I.turned (t':=s.toks) (λb o hb e=>eb b o hb e) f0 f1 f3 f4 f5⟩
 self:=λ_ _ _ _ _ st h=>wpAny_pyIter_tupleiter st h
theorem R9{P:Program}{w:World}{K:PySem.W.Frag}{tg:Expr}(it:Addr)(lo:Int)(n:Nat):Turn P w K tg (Itr lo n) [it] it (λi h=>IsRangeIter h it (lo+(i:Nat)*1) ((n:Int)-(i:Nat)) 1) where
 mem:=by simp
 obj:=λi h st b hb=>by
  have e:b=it:=by simpa using hb
  subst e;exact⟨_,st,λv z=>by
   have z':Data.fields _=Data.cell v:=z;cases z'⟩
 keep:=λi h h' st k=>k it (by simp) _ st
 item:=by
  intro X hP hw hK hc i pins s σ H E I hf st hg;subst hP hw hK;obtain⟨f0,f1,f2,f3,f4,f5⟩:=hf it (by simp);have W:=Walks.range (prog:=X.prog) (w:=X.w) (I.ok.hd hc) it lo 1 n;refine W.item i s _ _ hg st λv h' tk hv st' kk=>?_
  obtain⟨t,rfl⟩:=hv;have I1:Inv X pins σ H {s with heap:=h',toks:=tk}:=I.turned (λb o hb e=>kk b o (by simpa using hb) e) f0 f1 f3 f4 f5;refine⟨_,rfl,aAv (s:={s with heap:=h',toks:=tk}) (n:= "range_iterator") st' rfl rfl (by decide) ⟨.int (lo+i),H,I1,⟨t,?_⟩,⟨rfl,rfl⟩,st',λb hb=>(hf b hb).1⟩⟩;rw[Int.mul_one]
 done:=by
  intro X hP hw hK hc i pins s σ H E I hf st hg;subst hP hw hK;obtain⟨f0,f1,f2,f3,f4,f5⟩:=hf it (by simp);exact wpAny_pyNext_range_end (I.ok.hd hc) st (by have:n<=i:=hg;lia) λh' eb=>⟨rfl,I.turned (t':=s.toks) (λb o hb e=>eb b o hb e) f0 f1 f3 f4 f5⟩
 self:=λ_ _ _ _ _ st h=>wpAny_pyIter_rangeiter st h
section
variable {X:Cx} {tg:Expr}
theorem aAw{pins:List (Addr×Obj)}{σ:St}{H:Hp}{s:Shared}{R:It->Hp->Prop}{E:Value->Shared->Prop}{lo hi:Int}{t u v:Tok}{tk:Nat}(I:Inv X pins σ H s)(h1:-(2 ^ 62)<=lo)(h2:lo<2 ^ 62)(h3:-(2 ^ 62)<=hi)(h4:hi<2 ^ 62)
 (q:R (Itr lo (hi-lo).toNat) H):wpAny (model X.prog X.w) X.A (pyIter (.ref s.heap.objs.size)) (PIE X pins σ tg R) E {s with heap:=s.heap.push {cls:=.type "range",data:=.fields #[.int lo t,.int hi u,.int 1 v]},toks:=tk}:=by
 refine wpAny_pyIter_range (IsRange.new ..) (small_one h1 h2 h3 h4) ?_;have I1:Inv X pins σ H {s with heap:=s.heap.push {cls:=.type "range",data:=.fields #[.int lo t,.int hi u,.int 1 v]},toks:=tk}:=I.kept λb o e=>Heap.get?_push_of_some _ e
 refine⟨(s.heap.push {cls:=.type "range",data:=.fields #[.int lo t,.int hi u,.int 1 v]}).objs.size,[(s.heap.push {cls:=.type "range",data:=.fields #[.int lo t,.int hi u,.int 1 v]}).objs.size],_,_,H,rfl,
  I1.kept (t':=tk) λb o e=>Heap.get?_push_of_some _ e,R9 _ lo (hi-lo).toNat,?_,λb hb=>?_,q⟩
 ·have e1:lo+((0:Nat):Int)*1=lo:=by simp
  have e2:(((hi-lo).toNat:Nat):Int)-((0:Nat):Int)=Builtin.Range.rangeSize lo hi 1:=by rw[rangeSize_one];split<;>lia
  show IsRangeIter _ _ (lo+((0:Nat):Int)*1) ((((hi-lo).toNat:Nat):Int)-((0:Nat):Int)) 1;rw[e1,e2];exact Heap.get?_push_size _ rfl
 ·have e:b=(s.heap.push {cls:=.type "range",data:=.fields #[.int lo t,.int hi u,.int 1 v]}).objs.size:=by simpa using hb
  subst e;exact I1.aKc (Nat.le_refl _) (I1.hok.fresh (Nat.le_refl _))
def aKs(ta:TA):TI:=λσ H R=>ta σ H λvs H1=>∃j:Int,vs=[.int j]/\-(2 ^ 62)<=j/\j<2 ^ 62/\R (Itr 0 j.toNat) H1
theorem VM{a:Expr}{ta:TA}{p pos:Pos}(hg:Gl X "range")(hm:X.mg "range"=none)(ha:PA X [a] ta)(hs:starEach [a] X.env=[(false,eval a X.env)]:=by rfl):PI X tg (.Call (.Name "range" p) [a] [] pos) (aKs ta):=by
 intro pins s σ H R I h;refine Call_ (DX I hg hm boot_range (PyProof.Rows.callWith_type1 (thn (ha pos pins s σ H _ I h) λus s1 ⟨vs,H1,I1,r1,q1⟩=>?_) hs rfl));obtain⟨j,e,q1,q2,q⟩:=q1;subst e;cases r1 with
 |cons r rr=>
  cases rr;obtain⟨t,rfl⟩:=r;exact call_range_1 (aAw I1 (by lia) (by lia) q1 q2 (by simpa using q))
def aN3(wi:TI)(g:TG)(tb:TS):TS:=λD σ H=>wi σ H λJ H1=>∃W:Nat->Nat->St->Hp->Prop,(∃m,W 0 m σ H1)/\∀i m σ H,W i m σ H->
 (J.stop i H/\D.nx σ H)\/(J.go i H/\∃N:St->Hp->Prop,(∀σ' H',N σ' H'->∃m',m'<m/\W (i+1) m' σ' H')/\∀x H',J.yld i H x H'->g x σ H' λσ2 H2=>tb {D with nx:=N,ct:=N,bk:=D.nx} σ2 H2)
noncomputable def uX(fp:List Addr)(h:Heap):List (Addr×Obj):=fp.filterMap λb=>(h.get? b).map λo=>(b,o)
theorem nR{fp:List Addr}{h:Heap}{b:Addr}{o:Obj}(hb:b∈fp)(e:h.get? b=some o):(b,o)∈uX fp h:=List.mem_filterMap.mpr ⟨b,hb,by rw[e];rfl⟩
theorem VN{fp:List Addr}{h:Heap}{p:Addr×Obj}(hp:p∈uX fp h):p.1∈fp/\h.get? p.1=some p.2:=by
 obtain⟨b,hb,e⟩:=List.mem_filterMap.mp hp;cases q:h.get? b with
 |none=>rw[q] at e;cases e
 |some o=>
  rw[q] at e;have e':(b,o)=p:=Option.some.inj e;subst e';exact⟨hb,q⟩
theorem Inv.pinned{pins:List (Addr×Obj)}{σ:St}{H:Hp}{s:Shared}{fp:List Addr}(I:Inv X pins σ H s)(hf:∀b∈fp,VJ X pins H b)(ho:∀b∈fp,∃o,s.heap.get? b=some o/\∀v,o.data≠.cell v):Inv X (pins++uX fp s.heap) σ H s:=
 I.KC λp hp=>(List.mem_append.mp hp).elim (λz=>I.pin p (List.mem_append_right _ z)) λz=>by
  obtain⟨hb,e⟩:=VN z;obtain⟨f0,f1,f2,_⟩:=hf p.1 hb;obtain⟨o,e',d⟩:=ho p.1 hb;rw[e] at e';cases e';exact⟨e,f0,f1,f2,d⟩
theorem Inv.qT{pins pl:List (Addr×Obj)}{σ:St}{H:Hp}{s:Shared}(I:Inv X (pins++pl) σ H s):Inv X pins σ H s:=I.KC λp hp=>I.pin p (List.mem_append_right _ (List.mem_append_left _ hp))
theorem aCy{iter:Expr}{body:List Stmt}{wi:TI}{g:TG}{tb:TS}{pos:Pos}(hp:PassesOwn (model X.prog X.w) X.A X.env X.xe)(hc:X.calm=true)(hi:PI X tg iter wi)(hg:PG X tg g)(hb:PSs X body tb)
 (hs:∀x,foldedSetIterable iter X.env x=pure x:=by intro _;rfl):PS X (.For tg iter body [] pos) (aN3 wi g tb):=by
 intro pins s σ H D I h;refine wpAny_For (thn (hi pins s σ H _ I h) λv s1 h1=>thn h1 λitv s2 h2=>?_) hs;obtain⟨it,fp,tn,J,H2,e,I2,T,st2,f2,W,⟨m0,w0⟩,turn⟩:=h2;subst e
 -- what stays true of the iterator's objects through the loop
 have stat:∀{H':Hp},(∀b∈fp,H' b=none)->∀b∈fp,VJ X pins H' b:=λhn b hb=>⟨hn b hb,(f2 b hb).2⟩
 refine codeAny_forLoop_any (λn s'=>∃i σ' H',Inv X pins σ' H' s'/\tn i s'.heap/\(∀b∈fp,H' b=none)/\W i n σ' H') ?_ m0 ⟨0,σ,H2,I2,st2,λb hb=>(f2 b hb).1,w0⟩;rintro n s3 ⟨i,σ3,H3,I3,st3,fr3,w3⟩;rcases turn i n σ3 H3 w3 with ⟨stop,qn⟩|⟨go,N,hN,step⟩
 ·refine wpAny_passesOwn hp (thn (T.done X rfl rfl rfl hc i pins s3 σ3 H3 X.xe I3 (stat fr3) st3 stop) λr s4 ⟨hr,I4⟩=>?_);subst hr;exact wpAny_execs_nil ⟨σ3,H3,I4,qn⟩
 ·refine wpAny_passesOwn hp (thn (T.item X rfl rfl rfl hc i pins s3 σ3 H3 X.xe I3 (stat fr3) st3 go) λr s4 ⟨u,hr,h4⟩=>?_);subst hr;refine wpAny_passesOwn hp (thn h4 λ_ s5 ⟨x,H5,I5,r5,y5,st5,fr5⟩=>?_);have I5':=I5.pinned (stat fr5) (T.obj _ _ st5);refine wpAny_passesOwn hp (thn (hg _ s5 σ3 H5 x u _ I5' r5 (step x H5 y5)) λ_ s6 ⟨σ6,H6,I6,q6⟩=>?_);refine wpAny_passesOwn hp (thn (hb _ s6 σ6 H6 _ I6 q6) λf s7 q7=>?_);have again:∀{σ7:St}{H7:Hp},Inv X (pins++uX fp s5.heap) σ7 H7 s7->N σ7 H7->∃m,m<n/\∃i σ' H',Inv X pins σ' H' s7/\tn i s7.heap/\(∀b∈fp,H' b=none)/\W i m σ' H':=λ{σ7 H7} I7 n7=>by
   obtain⟨m',hm,w7⟩:=hN σ7 H7 n7;refine⟨m',hm,i+1,σ7,H7,I7.qT,T.keep _ _ _ st5 λb hb o e=>(I7.pin (b,o) (List.mem_append_right _ (List.mem_append_right _ (nR hb e)))).1,λb hb=>?_,w7⟩;obtain⟨o,e,d⟩:=T.obj _ _ st5 b hb;exact(I7.pin (b,o) (List.mem_append_right _ (List.mem_append_right _ (nR hb e)))).2.1
  cases f with
  |next=>obtain⟨σ7,H7,I7,n7⟩:=q7;exact again I7 n7
  |cont=>obtain⟨σ7,H7,I7,n7⟩:=q7;exact again I7 n7
  |brk=>obtain⟨σ7,H7,I7,q7⟩:=q7;exact⟨σ7,H7,I7.qT,q7⟩
  |ret v=>obtain⟨x7,σ7,H7,I7,r7,q7⟩:=q7;exact⟨x7,σ7,H7,I7.qT,r7,q7⟩
end
abbrev R2:=V->V->Hp->VK->Prop
def OpR(X:Cx)(f:Value->Value->Sem Value)(r:R2):Prop:=
 ∀(pins:List (Addr×Obj))(s:Shared)(σ:St)(H:Hp)(x y:V)(v u:Value)(Q:VK),Inv X pins σ H s->RelV x v->RelV y u->r x y H Q->
  wpAny (model X.prog X.w) X.A (f v u) (EP X pins σ Q) X.xe s
def UnR(X:Cx)(f:Value->Sem Value)(r:V->Hp->VK->Prop):Prop:=
 ∀(pins:List (Addr×Obj))(s:Shared)(σ:St)(H:Hp)(x:V)(v:Value)(Q:VK),Inv X pins σ H s->RelV x v->r x H Q->
  wpAny (model X.prog X.w) X.A (f v) (EP X pins σ Q) X.xe s
def kE(X:Cx)(f:Value)(r:List V->Hp->VK->Prop):Prop:=
 ∀(pins:List (Addr×Obj))(s:Shared)(σ:St)(H:Hp)(xs:List V)(us:List Value)(Q:VK),Inv X pins σ H s->Vals xs us->r xs H Q->
  wpAny (model X.prog X.w) X.A (call f us) (EP X pins σ Q) X.xe s
def aN4(X:Cx)(r:V->Hp->(Bool->Hp->Prop)->Prop):Prop:=
 ∀(pins:List (Addr×Obj))(s:Shared)(σ:St)(H:Hp)(x:V)(v:Value)(Q:Bool->Hp->Prop),Inv X pins σ H s->RelV x v->r x H Q->
  wpAny (model X.prog X.w) X.A (truthy v) (TP X pins σ Q) X.xe s
noncomputable def tOp(r:R2)(ta tb:TE):TE:=λσ H Q=>ta σ H λx H1=>tb σ H1 λy H2=>r x y H2 Q
noncomputable def tUn(r:V->Hp->VK->Prop)(ta:TE):TE:=λσ H Q=>ta σ H λx H1=>r x H1 Q
noncomputable def rI(C:Int->Int->Prop)(g:Int->Int->V):R2:=λx y H Q=>∃i j,x=.int i/\y=.int j/\C i j/\Q (g i j) H
noncomputable def rI0(g:Int->Int->V):R2:=λx y H Q=>∃i j,x=.int i/\y=.int j/\Q (g i j) H
def rU(g:Int->V):V->Hp->VK->Prop:=λx H Q=>∃i,x=.int i/\Q (g i) H
section
variable {X:Cx} {a b:Expr} {ta tb:TE} {pos:Pos}
theorem aKt(ha:PE X a ta)(hb:PE X b tb){pins:List (Addr×Obj)}{s:Shared}{σ:St}{H:Hp}{R:V->V->Hp->Prop}(I:Inv X pins σ H s)
 (h:ta σ H λx H1=>tb σ H1 λy H2=>R x y H2){Q:Value->Shared->Prop}{f:Value->Value->Sem Value}
 (hf:∀v u s2 x y H2,Inv X pins σ H2 s2->RelV x v->RelV y u->R x y H2->wpAny (model X.prog X.w) X.A (f v u) Q X.xe s2) :
  wpAny (model X.prog X.w) X.A (eval a X.env) (λv s₁=>wpAny (model X.prog X.w) X.A (eval b X.env) (λu s₂=>wpAny (model X.prog X.w) X.A (f v u) Q X.xe s₂) X.xe s₁) X.xe s:=by
 refine thn (ha pins s σ H _ I h) λv s1 ⟨x,H1,I1,r1,q1⟩=>?_
 refine thn (hb pins s1 σ H1 _ I1 q1) λu s2 ⟨y,H2,I2,r2,q2⟩=>?_
 exact hf v u s2 x y H2 I2 r1 r2 q2
theorem aKu{op:Operator}{r:R2}(ho:OpR X (binaryOp op) r)(ha:PE X a ta)(hb:PE X b tb):PE X (.BinOp a op b pos) (tOp r ta tb):=by
 intro pins s σ H Q I h;exact wpAny_BinOp (aKt ha hb I h λv u s2 x y H2 I2 rx ry q=>ho pins s2 σ H2 x y v u Q I2 rx ry q)
theorem aKw{op:UnaryOp}{r:V->Hp->VK->Prop}(ho:UnR X (unaryOp op) r)(ha:PE X a ta):PE X (.UnaryOp op a pos) (tUn r ta):=by
 intro pins s σ H Q I h;exact UnaryOp_ (thn (ha pins s σ H _ I h) λv s1 ⟨x,H1,I1,r1,q1⟩=>ho pins s1 σ H1 x v Q I1 r1 q1)
theorem opI{f:Value->Value->Sem Value}{C:Int->Int->Prop}{g:Int->Int->Int}
 (rule:∀(i j:Int) (t u:Tok) (s:Shared) (Q:Value->Shared->Prop) (E:Value->Shared->Prop),C i j->Q (.int (g i j) s.toks) {s with toks:=s.toks+1}->wpAny (model X.prog X.w) X.A (f (.int i t) (.int j u)) Q E s) :
  OpR X f (rI C λi j=>.int (g i j)):=by
 intro pins s σ H x y v u Q I rx ry h;obtain⟨i,j,rfl,rfl,hc,q⟩:=h;obtain⟨t,rfl⟩:=rx;obtain⟨t',rfl⟩:=ry;exact rule i j t t' s _ _ hc ⟨.int (g i j),H,I.tok _,⟨_,rfl⟩,q⟩
theorem aMb{f:Value->Value->Sem Value}{g:Int->Int->Int}
 (rule:∀(i j:Int) (t u:Tok) (s:Shared) (Q:Value->Shared->Prop) (E:Value->Shared->Prop),Q (.int (g i j) s.toks) {s with toks:=s.toks+1}->wpAny (model X.prog X.w) X.A (f (.int i t) (.int j u)) Q E s) :
  OpR X f (rI0 λi j=>.int (g i j)):=by
 intro pins s σ H x y v u Q I rx ry h;obtain⟨i,j,rfl,rfl,q⟩:=h;obtain⟨t,rfl⟩:=rx;obtain⟨t',rfl⟩:=ry;exact rule i j t t' s _ _ ⟨.int (g i j),H,I.tok _,⟨_,rfl⟩,q⟩
def aN5(i j:Int):Prop:=0<j/\j<1073741824
def aN6(i j:Int):Prop:=0<=j/\j<=1000000/\i.natAbs<2 ^ 64
def aKx(i j:Int):Prop:=(-(2 ^ 64)<i/\i<2 ^ 64)\/(-(2 ^ 64)<j/\j<2 ^ 64)
theorem aKx.ok{i j:Int}(h:aKx i j):IntMulOk i j:=by
 rcases h with ⟨h1,h2⟩|⟨h1,h2⟩
 ·exact .of_left (intBits_le_64 h1 h2)
 ·exact .of_right (intBits_le_64 h1 h2)
theorem aHh:OpR X (binaryOp .Add) (rI0 λi j=>.int (i+j)):=aMb λ_ _ _ _ _ _ _ q=>add_int q
theorem aHi:OpR X (binaryOp .Sub) (rI0 λi j=>.int (i-j)):=aMb λ_ _ _ _ _ _ _ q=>sub_int q
theorem aHj:OpR X (binaryOp .Mult) (rI aKx λi j=>.int (i*j)):=opI λ_ _ _ _ _ _ _ hc q=>mul_int q hc.ok
theorem aEh:OpR X (binaryOp .FloorDiv) (rI aN5 λi j=>.int (i / j)):=opI λi j _ _ _ _ _ hc q=>by
 have h1:(0:Int)<j:=hc.1;have h2:j<1073741824:=hc.2;exact floordiv_int (by lia) (by rw[Int.fdiv_eq_ediv_of_nonneg i (by lia)];exact q) (.inl (PyProof.noPylong_small (by lia)))
theorem aHk:OpR X (binaryOp .Mod) (rI (λ_ j=>0<j) λi j=>.int (i % j)):=opI λi j _ _ _ _ _ hc q=>by
 have h1:(0:Int)<j:=hc;exact mod_int' (by lia) (by rw[Int.fmod_eq_emod_of_nonneg i (by lia)];exact q)
theorem aHl:OpR X (binaryOp .Pow) (rI aN6 λi j=>.int (i ^ j.toNat)):=opI λ_ _ _ _ _ _ _ hc q=>pow_int_small hc.1 hc.2.1 hc.2.2 q
theorem unI{f:Value->Sem Value}{g:Int->Int}
 (rule:∀(i:Int) (t:Tok) (s:Shared) (Q:Value->Shared->Prop) (E:Value->Shared->Prop),Q (.int (g i) s.toks) {s with toks:=s.toks+1}->wpAny (model X.prog X.w) X.A (f (.int i t)) Q E s) :
  UnR X f (rU λi=>.int (g i)):=by
 intro pins s σ H x v Q I rx h;obtain⟨i,rfl,q⟩:=h;obtain⟨t,rfl⟩:=rx;exact rule i t s _ _ ⟨.int (g i),H,I.tok _,⟨_,rfl⟩,q⟩
theorem aHm:UnR X (unaryOp .USub) (rU λi=>.int (-i)):=unI λ_ _ _ _ _ q=>neg_int q
end
section
variable {X:Cx} {a b c:Expr} {ta tb tc:TE} {pos:Pos}
theorem cV(b:Expr){op:CmpOp}(h:op≠.In:=by decide)(h2:op≠.NotIn:=by decide):behindInMarks op b=false:=by
 have e1:(op==CmpOp.In)=false:=by cases op<;>first|rfl|exact absurd rfl h
 have e2:(op==CmpOp.NotIn)=false:=by cases op<;>first|rfl|exact absurd rfl h2
 cases b<;>simp[behindInMarks,e1,e2]
theorem aEi{op:CmpOp}{r:R2}(ho:OpR X (compareOp op) r)(ha:PE X a ta)(hb:PE X b tb)(hm:behindInMarks op b=false):PE X (.Compare a [op] [b] pos) (tOp r ta tb):=by
 intro pins s σ H Q I h;exact wpAny_Compare1 (aKt ha hb I h λv u s2 x y H2 I2 rx ry q=>ho pins s2 σ H2 x y v u Q I2 rx ry q) hm
noncomputable def aHn(t:TE):TT:=λσ H Q=>t σ H λx H'=>∃k,x=.bl k/\Q k H'
theorem aEj{op:CmpOp}{r:R2}(ho:OpR X (compareOp op) r)(ha:PE X a ta)(hb:PE X b tb)(hm:behindInMarks op b=false):PT X (.Compare a [op] [b] pos) (aHn (tOp r ta tb)):=by
 intro pins s σ H Q I h;refine wpAny_isTrue_Compare1 (thn (ha pins s σ H _ I h) λv s1 ⟨x,H1,I1,r1,q1⟩=>thn (hb pins s1 σ H1 _ I1 q1) λu s2 ⟨y,H2,I2,r2,q2⟩=>
  thn (ho pins s2 σ H2 x y v u _ I2 r1 r2 q2) λc s3 ⟨z,H3,I3,r3,k,e,q3⟩=>?_) hm
 subst e;cases r3;exact wpAny_truthy_bool ⟨H3,I3,q3⟩
noncomputable def aCz(r r':R2)(ta tb tc:TE):TE:=λσ H Q=>ta σ H λx H1=>tb σ H1 λy H2=>r x y H2 λz H3=>∃k,z=.bl k/\
 (if k=true then tc σ H3 λw' H4=>r' y w' H4 Q else Q (.bl false) H3)
theorem aAx{op op':CmpOp}{r r':R2}(ho:OpR X (compareOp op) r)(ho':OpR X (compareOp op') r')(ha:PE X a ta)(hb:PE X b tb)(hc:PE X c tc)
 (hm:lastMarks [op,op'] [b,c]=false:=by with_unfolding_all rfl):PT X (.Compare a [op,op'] [b,c] pos) (aHn (aCz r r' ta tb tc)):=by
 intro pins s σ H Q I h;refine isTrue_chain (thn (ha pins s σ H _ I h) λv s1 ⟨x,H1,I1,r1,q1⟩=>test_link (thn (hb pins s1 σ H1 _ I1 q1) λu s2 ⟨y,H2,I2,r2,q2⟩=>
  thn (ho pins s2 σ H2 x y v u _ I2 r1 r2 q2) λd s3 ⟨z,H3,I3,r3,k,e,q3⟩=>?_)) hm
 subst e;cases r3;refine wpAny_truthy_bool ?_;cases k with
 |false=>
  obtain⟨k',e',q'⟩:=q3;cases e';exact ite_ff ⟨H3,I3,q'⟩
 |true=>
  refine ite_tt (test_last (thn (hc pins s3 σ H3 _ I3 q3) λw' s4 ⟨z',H4,I4,r4,q4⟩=>thn (ho' pins s4 σ H4 y z' u w' _ I4 r2 r4 q4) λd' s5 ⟨z2,H5,I5,r5,k2,e2,q5⟩=>?_));subst e2;cases r5;exact wpAny_truthy_bool ⟨H5,I5,q5⟩
def aKy(K:PySem.W.Frag)(x:V)(H:Hp)(k:Bool):Prop:=
 match x with
 |.non=>k=false
 |.bl b=>k=b
 |.int i=>k=(i !=0)
 |.str y=>y.length<=sizeLine/\k=((y.length:Int)!=0)
 |.byt y=>y.size<=sizeLine/\k=((y.size:Int)!=0)
 |.ref p=>(∃xs,SqL K H p xs/\k=!xs.isEmpty)\/(∃xs,SqT K H p xs/\k=!xs.isEmpty)\/∃kvs,H p=some (.dK kvs)/\k=!kvs.isEmpty
 |_=>False
theorem R_{κ:Type}{kvs:List (κ×V)}{vs:List (κ×Value)}(r:KV kvs vs):(!vs.isEmpty)=!kvs.isEmpty:=by
 cases r<;>rfl
theorem xQ{xs:List V}{its:List Value}(r:Vals xs its):(!its.toArray.isEmpty)=!xs.isEmpty:=by
 cases r<;>simp
theorem xR:(sizeLine:Nat)<2 ^ 63:=by rw[sizeLine_eq];decide
theorem aHo:aN4 X (λx H Q=>∃k,aKy X.K x H k/\Q k H):=by
 intro pins s σ H x v Q I rx h;obtain⟨k,e,q⟩:=h;have hl:=xR;have hs:sizeLine=16777216:=sizeLine_eq;cases x with
 |non=>
  cases rx;have e':k=false:=e;subst e';exact truthy_none ⟨H,I,q⟩
 |bl b=>
  cases rx;have e':k=b:=e;subst e';exact wpAny_truthy_bool ⟨H,I,q⟩
 |int i=>
  obtain⟨t,rfl⟩:=rx;have e':k=(i !=0):=e;subst e';exact PySem.P.truthy_int ⟨H,I,q⟩
 |str y=>
  obtain⟨t,rfl⟩:=rx;obtain⟨hy,e'⟩:y.length<=sizeLine/\k=((y.length:Int)!=0):=e;subst e';exact PySem.P.truthy_str (by lia) ⟨H,I.tok _,q⟩
 |byt y=>
  obtain⟨t,rfl⟩:=rx;obtain⟨hy,e'⟩:y.size<=sizeLine/\k=((y.size:Int)!=0):=e;subst e';exact PySem.W.truthy_bytes (by lia) ⟨H,I.tok _,q⟩
 |ref p=>
  cases rx;have e':(∃xs,SqL X.K H p xs/\k=!xs.isEmpty)\/(∃xs,SqT X.K H p xs/\k=!xs.isEmpty)\/∃kvs,H p=some (.dK kvs)/\k=!kvs.isEmpty:=e;rcases e' with ⟨xs,hx,e'⟩|⟨xs,hx,e'⟩|⟨kvs,hx,e'⟩
  ·subst e';obtain⟨its,r,pl,hz⟩:=I.list hx;have hlen:=r.length;exact wpAny_truthy_list pl.isList (by simp only[List.size_toArray];lia) ⟨H,I.tok _,by rw[xQ r];exact q⟩
  ·subst e';obtain⟨its,r,pl,hz⟩:=I.tuple hx;have hlen:=r.length;exact truthy_tuple pl (by simp only[List.size_toArray];lia) ⟨H,I.tok _,by rw[xQ r];exact q⟩
  ·subst e';obtain⟨hz,hS,vs,r,m⟩:kvs.length<=sizeLine/\(p==sysModules)=false/\∃vs,KV kvs vs/\s.heap.DictOf (dR X.prog X.w) p vs:=I.hok p _ hx;have hlen:kvs.length=vs.length:=Paired.length r;exact wpAny_truthy_dict hS m (by lia) ⟨H,I.tok _,by rw[R_ r];exact q⟩
 |_=>exact(show False from e).elim
theorem aAy(ha:PE X a ta)(he:∀whole,isTrue a X.env whole=(do let v <- whole;standAt a.pos;holding [v] (truthy v))) :
  PT X a (λσ H Q=>ta σ H λx H'=>∃k,aKy X.K x H' k/\Q k H'):=by
 intro pins s σ H Q I h;exact isTrue_plain (thn (ha pins s σ H _ I h) λv s1 ⟨x,H1,I1,r1,q1⟩=>aHo pins s1 σ H1 x v Q I1 r1 q1) (he _)
theorem SJ:OpR X (binaryOp .Add) (λx y H Q=>∃i j,x=.str i/\y=.str j/\i.length+j.length<=sizeLine/\Q (.str (i++j)) H):=by
 intro pins s σ H x y v u Q I rx ry h;obtain⟨i,j,rfl,rfl,hz,q⟩:=h;obtain⟨t,rfl⟩:=rx;obtain⟨t',rfl⟩:=ry;exact add_str (λt' tk=>⟨.str (i++j),H,I.tok _,⟨_,rfl⟩,q⟩) hz
theorem vals1{x:V}{us:List Value}(r:Vals [x] us):∃u,us=[u]/\RelV x u:=by
 cases r with
 |cons r1 r2=>cases r2;exact⟨_,rfl,r1⟩
end
theorem aAk.some_of{v:V}{o:Option Value}(r:aAk (some v) o):∃u,o=some u/\RelV v u:=by
 cases o with
 |none=>exact(show False from r).elim
 |some u=>exact⟨u,rfl,r⟩
structure t6(k:Nat)(A:Around):Prop where
 hd:A.handled=none
 dp:A.depth+3*k+5<recursionLimit
 un:A.units+16*k+200<cLine
theorem t6.mono{j k:Nat}{A:Around}(r:t6 k A)(h:j<=k):t6 j A:=⟨r.hd,by have:=r.dp;lia,by have:=r.un;lia⟩
theorem t6.deeper{k:Nat}{A:Around}(r:t6 (k+1) A)(env:Env):t6 k (A.deeper env):=
 ⟨r.hd,by have:=r.dp;show A.depth+1+3*k+5<_;lia,by have:=r.un;show A.units+3+16*k+200<_;lia⟩
theorem t6.depth{k:Nat}{A:Around}(r:t6 k A):A.depth<recursionLimit:=by have:=r.dp;lia
theorem t6.units{k:Nat}{A:Around}(r:t6 k A):A.units+64<cLine:=by have:=r.un;lia
noncomputable def aN7:TA:=λ_ H Q=>Q [] H
noncomputable def aKz(ta:TE)(tr:TA):TA:=λσ H Q=>ta σ H λx H1=>tr σ H1 λxs H2=>Q (x::xs) H2
section
variable {X:Cx} {e:Expr} {es:List Expr} {te:TE} {t:TA} {pos:Pos}
theorem t7:PA X [] aN7:=λ_ _ _ _ H Q I h=>Calls.spliced_nil ⟨[],H,I,.nil,h⟩
theorem fG(ha:PE X e te)(hr:PA X es t)(hs:starEach (e::es) X.env=(false,eval e X.env)::starEach es X.env:=by rfl):PA X (e::es) (aKz te t):=by
 intro pos pins s σ H Q I h;rw[hs];show wpAny _ _ (spliced ((false,eval e X.env)::backTo pos (starEach es X.env))) _ _ s;refine Calls.spliced_cons (thn (ha pins s σ H _ I h) λu s1 ⟨x,H1,I1,r1,q1⟩=>?_);exact thn (hr pos pins s1 σ H1 _ I1 q1) λus s2 ⟨xs,H2,I2,r2,q2⟩=>⟨x::xs,H2,I2,.cons r1 r2,q2⟩
def aN8(t:TA):TE:=λσ H Q=>t σ H λxs H1=>xs.length<=sizeLine/\∀p,H1 p=none->Q (.ref p) (upd H1 p (.tup xs))
def aN9(t:TA):TE:=λσ H Q=>t σ H λxs H1=>xs.length<=sizeLine/\∀p,H1 p=none->Q (.ref p) (upd H1 p (.lst xs))
theorem aHp{x1}(h:PA X es t):PE X (.Tuple es x1 pos) (aN8 t):=by
 intro pins s σ H Q I hq;refine wpAny_Tuple_spliced (thn (h pos pins s σ H _ I hq) λus s1 ⟨xs,H1,I1,r,z,q⟩=>⟨by rw[<-r.length];exact z,?_⟩);have hf:H1 s1.heap.objs.size=none:=I1.hok.fresh (Nat.le_refl _);refine⟨.ref s1.heap.objs.size,upd H1 s1.heap.objs.size (.tup xs),I1.laid (t':=s1.toks) (λb u e=>Heap.get?_push_of_some _ e) (Nat.le_refl _) ?_,rfl,q _ hf⟩;exact⟨z,us,r,⟨_,Heap.get?_push_size _ rfl,rfl,_,rfl⟩⟩
theorem aHq(h:PA X es t):PE X (.List es pos) (aN9 t):=by
 intro pins s σ H Q I hq;refine wpAny_List_spliced (thn (h pos pins s σ H _ I hq) λus s1 ⟨xs,H1,I1,r,z,q⟩=>⟨by rw[<-r.length];exact z,?_⟩);have hf:H1 s1.heap.objs.size=none:=I1.hok.fresh (Nat.le_refl _);refine⟨.ref s1.heap.objs.size,upd H1 s1.heap.objs.size (.lst xs),I1.laid (t':=s1.toks) (λb u e=>Heap.get?_push_of_some _ e) (Nat.le_refl _) ?_,rfl,q _ hf⟩;exact⟨z,us,0,r,Heap.get?_push_size _ rfl⟩
end
abbrev Sp:=List V->Hp->VK->XK->Prop
abbrev CXT:=List Env->Hp->Shared->XK->Value->Shared->Prop
structure aKd(P:Program)(w:World)(K:PySem.W.Frag)(mg:Str->Option Value)(base:Heap)(A:Around)(outer:List Env)(s:Shared)(H:Hp):Prop where
 frames:A.frames=some outer
 mod:Mod K mg base
 bs:∀b o,base.get? b=some o->s.heap.get? b=some o/\H b=none
 bsz:base.objs.size<=s.heap.objs.size
 VB:s.heap.FunFrames base outer
 frf:∀b∈frs outer,H b=none
 hok:HOk P w H s.heap
 bare:AllBare s.gens
def CE(outer:List Env)(P:Program)(w:World)(H:Hp)(s:Shared)(Q:VK)(u:Value)(s':Shared):Prop:=
 ∃v H',s'.os=s.os/\AllBare s'.gens/\Un (frs outer) [] H H' s.heap s'.heap/\HOk P w H' s'.heap/\RelV v u/\Q v H'
def CR(CX:CXT)(outer:List Env)(P:Program)(w:World)(H:Hp)(s:Shared)(Q:VK)(E:XK)(r:Result)(s':Shared):Prop:=
 match r with
 |.ok (.ret u)=>CE outer P w H s Q u s'
 |.ok _=>False
 |.error e=>CX outer H s E e s'
structure SN(P:Program)(w:World)(K:PySem.W.Frag)(mg:Str->Option Value)(base:Heap)(CX:CXT)(k:Nat)(f:Addr)(fd:FuncData)(ps:List Str)(sp:Sp):Prop where
 len:∀vs H Q E,sp vs H Q E->vs.length=ps.length
 run:∀(A:Around)(outer:List Env)(s:Shared)(H:Hp)(args:Args)(us:List Value)(vs:List V)(Q:VK)(E:XK),t6 k A->aKd P w K mg base A outer s H->BindsTo s fd args (ps.zip us)->Vals vs us->sp vs H Q E->
  codeAny (model P w) A (.call (.ref f) args) (CR CX outer P w H s Q E) s
section
variable {X:Cx} {pins:List (Addr×Obj)} {σ:St} {H:Hp} {s s':Shared}
theorem Inv.env0(I:Inv X pins σ H s):aKd X.prog X.w X.K X.mg X.base X.A X.stack s H:=
 ⟨I.ok.frames,I.ok.mod,I.bs,Nat.le_trans I.ok.bsz I.sz,I.stack,I.VD,I.hok,I.bare⟩
theorem Inv.after{Q:VK}{u:Value}(I:Inv X pins σ H s)(h:CE X.stack X.prog X.w H s Q u s'):EP X pins σ Q u s':=by
 obtain⟨v,H',os,bare,un,hok,r,q⟩:=h;obtain⟨hh,g,d,t,os'⟩:=s';obtain rfl:os'=s.os:=os;exact⟨v,H',I.call (h':=hh) (g':=g) (d':=d) (t':=t) (ch:=[]) un hok bare (λb z=>absurd z (by simp)),r,q⟩
end
noncomputable def aL0(sp:Sp)(dvs:List V)(E:XK)(t:TA):TE:=λσ H Q=>t σ H λvs H1=>sp (vs++dvs) H1 Q E
def Binds(K:PySem.W.Frag)(fd:FuncData)(ps:List Str)(ds:List Value):Prop:=
 ∀(s:Shared)(us:List Value),K.In s.heap->(us++ds).length=ps.length->BindsTo s fd ⟨us,[]⟩ (ps.zip (us++ds))
theorem Binds.all{K:PySem.W.Frag}{fd:FuncData}{ps:List Str}(h:∀us:List Value,us.length=ps.length->bindArgs fd ⟨us,[]⟩=pure (ps.zip us)):Binds K fd ps []:=λs us _ hl=>by
 rw[List.append_nil] at hl ⊢;exact .of_eq (h us hl)
def VP(CX:CXT)(X:Cx)(E:XK):Prop:=∀(pins:List (Addr×Obj))(σ:St)(H:Hp)(s:Shared)(e:Value)(s':Shared),Inv X pins σ H s->CX X.stack H s E e s'->X.xe e s'
section
variable {X:Cx} {CX:CXT} {k:Nat} {f:Addr} {fd:FuncData} {ps:List Str} {sp:Sp} {dvs:List V} {ds:List Value} {E:XK} {x:Str} {p pos:Pos} {e:Expr} {es:List Expr} {t:TA}
theorem aHr{pins:List (Addr×Obj)}{σ:St}{H:Hp}{s:Shared}{Q:VK}{us:List Value}{vs:List V}(F:SN X.prog X.w X.K X.mg X.base CX k f fd ps sp)(hr:t6 k X.A)(hb:Binds X.K fd ps ds)(hd:Vals dvs ds)(hx:VP CX X E)
 (I:Inv X pins σ H s)(r:Vals vs us)(h:sp (vs++dvs) H Q E):wpAny (model X.prog X.w) X.A (call (.ref f) us) (EP X pins σ Q) X.xe s:=by
 have r2:Vals (vs++dvs) (us++ds):=r.append hd;have hl:(us++ds).length=ps.length:=by rw[<-r2.length];exact F.len _ _ _ _ h
 refine wpAny_call (codeAny_mono (F.run X.A X.stack s H ⟨us,[]⟩ (us++ds) (vs++dvs) Q E hr I.env0 (hb s us I.kIn hl) r2 h) λr s' hq=>?_);cases r with
 |error e=>exact hx pins σ H s e s' I hq
 |ok fl=>
  cases fl with
  |ret u=>exact I.after hq
  |next=>exact False.elim hq
  |brk=>exact False.elim hq
  |cont=>exact False.elim hq
theorem yJ(F:SN X.prog X.w X.K X.mg X.base CX k f fd ps sp)(hr:t6 k X.A)(hg:Gl X x)(hm:X.mg x=some (.ref f))(hk:PySem.W.keepIn X.K (.ref f)=true)(hb:Binds X.K fd ps ds)(hd:Vals dvs ds)(hx:VP CX X E)
 (ha:PA X (e::es) t)(hdb:nDb x:=by decide)(he:starEach (e::es) X.env=(false,eval e X.env)::starEach es X.env:=by rfl)(hpl:(backTo pos (starEach es X.env)).any (·.1)=false:=by rfl) :
  PE X (.Call (.Name x p) (e::es) [] pos) (aL0 sp dvs E t):=by
 intro pins s σ H Q I h;refine wpAny_Call_Name_kw (aEc I hg hm ?_ hdb);refine PySem.W.callWith_K (h₀:=X.base) I.ok.mod.kin hk (thn (ha pos pins s σ H _ I h) λus s1 ⟨vs,H1,I1,r,q⟩=>⟨I1.kIn,?_⟩) he hpl;exact aHr F hr hb hd hx I1 r q
end
structure bQ(N P:List Str)(sc:Scope):Prop where
 kind:sc.kind=.function
 co:sc.isCoroutine=false
 gen:sc.isGenerator=false
 nd:N.Nodup
 pre:N.take P.length=P
 par:∀x∈P,sc.names.lookup x=some .local\/sc.names.lookup x=some .cell
 nofree:∀y∈sc.names,y.2≠.free
theorem DY{kindOf:Str->Option NameKind}{x:Str}:∀{binds:List (Str×Value)}{m:Str->Option Value},(∀v,(x,v)∉binds)->bindL kindOf binds m x=m x
 |[],_,_=>rfl
 | (n,v)::r,m,h=>by
  unfold bindL;rw[DY λw hw=>h w (List.mem_cons_of_mem _ hw)];split
  ·have:x≠n:=by rintro rfl;exact h v List.mem_cons_self
   simp[this]
  ·rfl
theorem D_{kindOf:Str->Option NameKind}{x:Str}:∀{binds:List (Str×Value)}{m:Str->Option Value},(∀v,(x,v)∉binds)->bindC kindOf binds m x=m x
 |[],_,_=>rfl
 | (n,v)::r,m,h=>by
  unfold bindC;rw[D_ λw hw=>h w (List.mem_cons_of_mem _ hw)];split
  ·rfl
  ·have:x≠n:=by rintro rfl;exact h v List.mem_cons_self
   simp[this]
theorem EY{kindOf:Str->Option NameKind}{x:Str}{v:Value}:∀{P:List Str}{vs:List Value}{i:Nat}{m:Str->Option Value},P.Nodup->P[i]?=some x->vs[i]?=some v->kindOf x=some .local->
  bindL kindOf (P.zip vs) m x=some v
 |[],_,_,_,_,h,_,_=>by simp at h
 |_::_,[],_,_,_,_,h,_=>by simp at h
 |p::P,w::vs,0,m,nd,h1,h2,hk=>by
  simp at h1 h2;subst h1;subst h2;show bindL kindOf ((p,w)::P.zip vs) m p=_;unfold bindL;rw[DY λv hv=>(List.nodup_cons.mp nd).1 (List.of_mem_zip hv).1,if_pos hk];simp
 |p::P,w::vs,i+1,m,nd,h1,h2,hk=>by
  show bindL kindOf ((p,w)::P.zip vs) m x=_;unfold bindL;exact EY (i:=i) (List.nodup_cons.mp nd).2 (by simpa using h1) (by simpa using h2) hk
theorem E_{kindOf:Str->Option NameKind}{x:Str}{v:Value}:∀{P:List Str}{vs:List Value}{i:Nat}{m:Str->Option Value},P.Nodup->P[i]?=some x->vs[i]?=some v->kindOf x≠some .local->
  bindC kindOf (P.zip vs) m x=some v
 |[],_,_,_,_,h,_,_=>by simp at h
 |_::_,[],_,_,_,_,h,_=>by simp at h
 |p::P,w::vs,0,m,nd,h1,h2,hk=>by
  simp at h1 h2;subst h1;subst h2;show bindC kindOf ((p,w)::P.zip vs) m p=_;unfold bindC;rw[D_ λv hv=>(List.nodup_cons.mp nd).1 (List.of_mem_zip hv).1,if_neg hk];simp
 |p::P,w::vs,i+1,m,nd,h1,h2,hk=>by
  show bindC kindOf ((p,w)::P.zip vs) m x=_;unfold bindC;exact E_ (i:=i) (List.nodup_cons.mp nd).2 (by simpa using h1) (by simpa using h2) hk
noncomputable def start(N:List Str)(vs:List V):St:=vs.map some++List.replicate (N.length-vs.length) none
noncomputable def aAz(CX:CXT)(P:Program)(w:World)(K:PySem.W.Frag)(mg:Str->Option Value)(base:Heap)(N:List Str)(qual:Str)(scope:Scope)(f:Addr)(cd:Value)(A:Around)(outer:List Env)(s:Shared)(H:Hp)(E:XK):Cx where
 prog:=P
 w:=w
 K:=K
 mg:=mg
 base:=base
 A:=A.deeper (envOfC qual scope s.heap.objs.size f cd)
 N:=N
 s₀:=s
 H₀:=H
 env:=envOfC qual scope s.heap.objs.size f cd
 outer:=outer
 stack:=envOfC qual scope s.heap.objs.size f cd::outer
 ex:=[]
 calm:=true
 fn:=λ_=>true
 pn:=[]
 xe:=λe s'=>wpAny (model P w) (A.deeper (envOfC qual scope s.heap.objs.size f cd)) (leaving (envOfC qual scope s.heap.objs.size f cd) e) (λ_ s''=>CX outer H s E e s'') (λe' s''=>CX outer H s E e' s'') s'
theorem PP{sc:Scope}{n:Nat}{x:Str}(h:sc.names.lookup x=some .cell):∃c,(cellsFrom n sc.names []).lookup x=some c:=by
 have q:=PySem.W.cellsFrom_some sc.names n [] (.inl h);exact Option.isSome_iff_exists.mp q
theorem VR{CX:CXT}{P:Program}{w:World}{K:PySem.W.Frag}{mg:Str->Option Value}{base:Heap}{N ps:List Str}{qual:Str}{scope:Scope}{f:Addr}{cd:Value}{A:Around}{outer:List Env}{s s1:Shared}{H:Hp}{E:XK}{us:List Value}{vs:List V}
 (S:bQ N ps scope)(hd:A.handled=none)(e0:aKd P w K mg base A outer s H)(hl:vs.length=ps.length)(r:Vals vs us)
 (x:InCallC s s.heap.objs.size (bindL (envOfC qual scope s.heap.objs.size f cd).kindOf (ps.zip us) λ_=>none) (cellsFrom (s.heap.objs.size+1) scope.names []) (bindC (envOfC qual scope s.heap.objs.size f cd).kindOf (ps.zip us) λ_=>none) s1) :
  Inv (aAz CX P w K mg base N qual scope f cd A outer s H E) [] (start N vs) H s1:=by
 have hpl:ps.length<=N.length:=by have:=congrArg List.length S.pre;rw[List.length_take] at this;lia
 obtain⟨h1,tk,rfl,hk⟩:=x.done;have noA:∀b:Addr,b∉(aAz CX P w K mg base N qual scope f cd A outer s H E).ex:=λb z=>absurd (show b∈([]:List Addr) from z) (by simp)
 refine⟨⟨e0.mod,S.kind,rfl,rfl,Nat.le_refl _,λy z c h1 h2=>?_,λy hy=>?_,λy c _ h=>?_,λ_=>hd,Around.frames_deeper e0.frames,.inr ⟨rfl,rfl⟩,λb z=>absurd z (noA b),e0.bs,e0.bsz,λb _ _=>noA b,λb z=>absurd z (noA b),e0.VB,e0.frf⟩,
  rfl,e0.bare,Un.kept hk,⟨_,x.toInCall.ns,λi y v h1 h2 h3=>?_⟩,λy c h=>⟨_,x.cell y c h⟩,e0.hok.fresh (Nat.le_refl _),λy c h=>?_,λp hp=>absurd (show p∈([]:List (Addr×Obj)) from hp) (by simp),e0.hok.kept hk,?_⟩
 ·exact name_of_addr x.apart (PySem.mem_of_lookup h1) (PySem.mem_of_lookup h2)
 ·have hy:scope.names.lookup y=some .cell\/scope.names.lookup y=some .free:=hy;rcases hy with hy|hy
  ·exact PP hy
  ·exact absurd rfl (S.nofree _ (PySem.mem_of_lookup hy))
 ·exact Nat.le_of_lt (x.above y c (PySem.mem_of_lookup h))
 ·have hi:i<vs.length:=by
   unfold start at h2;by_cases hi:i<vs.length
   ·exact hi
   ·rw[List.getElem?_append_right (by simpa using hi)] at h2;rw[List.getElem?_replicate] at h2;split at h2<;>cases h2
  have ha:vs[i]?=some v:=by
   unfold start at h2;rw[List.getElem?_append_left (by simpa using hi),List.getElem?_map] at h2;cases e:vs[i]? with
   |none=>rw[e] at h2;cases h2
   |some a=>rw[e] at h2;cases h2;rfl
  obtain⟨u,hu,rv⟩:=r.get ha;have hp:ps[i]?=some y:=by
   rw[<-S.pre,List.getElem?_take_of_lt (by lia)];exact h1
  have ndP:ps.Nodup:=by rw[<-S.pre];exact S.nd.sublist (List.take_sublist _ _)
  refine⟨u,rv,?_⟩;rcases S.par y (List.mem_of_getElem? hp) with k|k
  ·exact .inl ⟨k,EY ndP hp hu k⟩
  ·obtain⟨c,e⟩:=PP (n:=s.heap.objs.size+1) k;refine .inr ⟨.inl k,c,e,?_⟩;have q:=x.cell y c e;rw[E_ ndP hp hu (by show scope.names.lookup y≠_;rw[k];decide)] at q;exact q
 ·exact e0.hok.fresh (Nat.le_of_lt (x.above y c (PySem.mem_of_lookup h)))
 ·unfold start;show _=N.length;rw[List.length_append,List.length_map,List.length_replicate];lia
theorem aL1{CX:CXT}{P:Program}{w:World}{K:PySem.W.Frag}{mg:Str->Option Value}{base:Heap}{k:Nat}{f:Addr}{name qual:Str}{params:Arguments}{body:List Stmt}{scope:Scope}{dV kV doc pm cdv ct oc:Value}{an od:Option Addr}
 {osl:Array (Option Value)}{N ps:List Str}{sp:Sp}(lk:K.lookup f=some ⟨oc,od,.func (PySem.W.fnOf name qual params body scope dV kV doc pm an cdv ct),osl⟩)(hcd:PySem.W.codeIn K cdv qual=true)(S:bQ N ps scope)
 (len:∀vs H Q E,sp vs H Q E->vs.length=ps.length)
 (hbody:∀(A:Around) (outer:List Env) (s:Shared) (H:Hp) (vs:List V) (Q:VK) (E:XK),t6 k (A.deeper (envOfC qual scope s.heap.objs.size f cdv))->sp vs H Q E->
   ∃t,PSs (aAz CX P w K mg base N qual scope f cdv A outer s H E) body t/\t {nx:=λ_ H'=>Q .non H',rt:=Q} (start N vs) H) :
  SN P w K mg base CX (k+1) f (PySem.W.fnOf name qual params body scope dV kV doc pm an cdv ct) ps sp:=by
 refine⟨len,λA outer s H args us vs Q E hr e0 hb r hsp=>?_⟩;have hl:=len _ _ _ _ hsp;have KX:K.In s.heap:=e0.mod.kin.keeps λb o e=>(e0.bs b o e).1
 have lim:s.heap.NoLimit:=e0.mod.nolimit.keeps λb o e=>(e0.bs b o e).1
 have hkind:∀y∈ps.zip us,scope.names.lookup y.1=some .local\/(scope.names.lookup y.1=some .cell/\((cellsFrom (s.heap.objs.size+1) scope.names []).lookup y.1).isSome=true):=λ⟨n,v⟩ hy=>by
  rcases S.par n (List.of_mem_zip hy).1 with q|q
  ·exact .inl q
  ·exact .inr ⟨q,PySem.W.cellsFrom_some _ _ _ (.inl q)⟩
 refine codeAny_call_function hr.depth (KX _ _ lk) rfl S.co S.gen rfl (PySem.W.codeRec_of KX hcd) (hb _ _ _ _ ?_);refine wpAny_newFunctionEnv_cells S.kind hkind λenv he s1 x=>?_
 subst he;refine⟨lim.keeps x.toInCall.keep,codeAny_func ?_⟩;obtain⟨t,ht,hq⟩:=hbody A outer s H vs Q E (hr.deeper _) hsp;have I:Inv (aAz CX P w K mg base N qual scope f cdv A outer s H E) [] (start N vs) H s1:=VR S hr.hd e0 hl r x;refine wpAny_mono (ht [] s1 (start N vs) H _ I hq) (λfl s' hs=>?_) λe s' hs=>hs
 have fin:∀{σ':St}{H':Hp}{v:V}{u:Value},Inv (aAz CX P w K mg base N qual scope f cdv A outer s H E) [] σ' H' s'->RelV v u->Q v H'->CE outer P w H s Q u s':=
  λ{σ' H' v u} J rv q=>⟨v,H',J.os,J.bare,J.base,J.hok,rv,q⟩
 cases fl with
 |ret u=>
  obtain⟨v,σ',H',J,rv,q⟩:=hs;exact fin J rv q
 |next=>
  obtain⟨σ',H',J,q⟩:=hs;exact fin (v:=V.non) (u:=Value.none) J rfl q
 |brk=>
  obtain⟨_,_,_,q⟩:=hs;exact False.elim q
 |cont=>
  obtain⟨_,_,_,q⟩:=hs;exact False.elim q
section
variable {X:Cx} {x:Str} {p pos:Pos} {e:Expr} {es:List Expr} {t:TA} {id T:String} {r:List V->Hp->VK->Prop}
noncomputable def tCB(r:List V->Hp->VK->Prop)(t:TA):TE:=λσ H Q=>t σ H λvs H1=>r vs H1 Q
theorem PQ(hc:kE X (.builtin id) r)(hg:Gl X x)(hm:X.mg x=none)(hv:bootBuiltins x=some (.builtin id))(ha:PA X (e::es) t)(hn:x ≠ "__name__":=by decide)(hdb:nDb x:=by decide)
 (he:starEach (e::es) X.env=(false,eval e X.env)::starEach es X.env:=by rfl)(hpl:(backTo pos (starEach es X.env)).any (·.1)=false:=by rfl):PE X (.Call (.Name x p) (e::es) [] pos) (tCB r t):=by
 intro pins s σ H Q I h;refine wpAny_Call_Name_kw (DX I hg hm hv ?_ hn hdb);exact PyProof.Rows.callWith_builtin1 (thn (ha pos pins s σ H _ I h) λus s1 ⟨vs,H1,I1,r1,q1⟩=>hc pins s1 σ H1 vs us Q I1 r1 q1) he hpl
theorem FJ(hc:kE X (.type T) r)(hg:Gl X x)(hm:X.mg x=none)(hv:bootBuiltins x=some (.type T))(ha:PA X (e::es) t)(hn:x ≠ "__name__":=by decide)(hdb:nDb x:=by decide)
 (he:starEach (e::es) X.env=(false,eval e X.env)::starEach es X.env:=by rfl)(hpl:(backTo pos (starEach es X.env)).any (·.1)=false:=by rfl):PE X (.Call (.Name x p) (e::es) [] pos) (tCB r t):=by
 intro pins s σ H Q I h;refine wpAny_Call_Name_kw (DX I hg hm hv ?_ hn hdb);exact PyProof.Rows.callWith_type1 (thn (ha pos pins s σ H _ I h) λus s1 ⟨vs,H1,I1,r1,q1⟩=>hc pins s1 σ H1 vs us Q I1 r1 q1) he hpl
end
end L2
namespace HT
open PySem PyProof.Rows
section
variable {prog:Program} {w:World} {A:Around} {E:Value->Shared->Prop} {s:Shared}
noncomputable def sIx(n d:Nat):Option Int->Nat
 |none=>d
 |some v=>if v<0 then (v+(n:Int)).toNat else min v.toNat n
theorem aHs(n d:Nat)(hd:d<=n)(o:Option Int):sIx n d o<=n:=by
 cases o with
 |none=>exact hd
 |some v=>
  show(if v<0 then (v+(n:Int)).toNat else min v.toNat n)<=n;by_cases hv:v<0
  ·rw[if_pos hv];lia
  ·rw[if_neg hv];exact Nat.min_le_right _ _
theorem VV(v:Int)(n d:Nat):(if v<0 then max (v+(n:Int)) 0 else min v (n:Int))=((sIx n d (some v):Nat):Int):=by
 show(if v<0 then max (v+(n:Int)) 0 else min v (n:Int))=(((if v<0 then (v+(n:Int)).toNat else min v.toNat n):Nat):Int);by_cases hv:v<0
 ·simp only[if_pos hv];lia
 ·simp only[if_neg hv];lia
theorem SQ(lo hi:Option Int)(n:Nat):Builtin.Slice.sliceAdjust lo hi 1 (n:Int)=(((sIx n 0 lo:Nat):Int),((sIx n n hi:Nat):Int)):=by
 have h1:¬((1:Int)<0):=by lia
 unfold Builtin.Slice.sliceAdjust;simp only[h1,if_false];refine Prod.ext ?_ ?_
 ·cases lo with
  |none=>rfl
  |some v=>exact VV v n 0
 ·cases hi with
  |none=>rfl
  |some v=>exact VV v n n
theorem SX(i j:Nat):Builtin.Slice.slicePlaces (i:Int) (j:Int) 1=j-i:=by
 unfold Builtin.Slice.slicePlaces;have h1:(1:Int) > 0:=by lia
 simp only[h1,if_true,Int.ediv_one];split<;>lia
theorem xT{v:Value}{o:Option Int}{Q:Option Int->Shared->Prop}(p:IsPart v o)(h:Q o s):wpAny (model prog w) A (Builtin.Slice.slicePartIndex v) Q E s:=by
 cases p with
 |none=>exact slicePart_none h
 |int i t=>exact slicePart_int h
theorem uL{sl:Addr}{vl vu:Value}{lo hi:Option Int}{n:Nat}{Q:Int×Int×Nat->Shared->Prop}(hs:s.heap.IsSliceOf sl vl vu .none)(pl:IsPart vl lo)(pu:IsPart vu hi)
 (h:Q (((sIx n 0 lo:Nat):Int),1,sIx n n hi-sIx n 0 lo) s):wpAny (model prog w) A (Builtin.Slice.sliceApplied (.ref sl) (pure (n:Int))) Q E s:=by
 obtain⟨os,hos,hcs,hds⟩:=id hs;unfold Builtin.Slice.sliceApplied Builtin.Slice.sliceFields;refine wpAny_bind (wpAny_bind (wpAny_field hos hds (x:=vl) rfl (wpAny_bind (wpAny_field hos hds (x:=vu) rfl (wpAny_bind (wpAny_field hos hds (x:=.none) rfl (wpAny_pure ?_)))))));refine wpAny_bind (slicePart_none ?_);show wpAny _ _ (if ((1:Int)==0)=true then _ else _) _ _ s;rw[if_neg (by decide)];refine wpAny_bind (xT pl (wpAny_bind (xT pu (wpAny_bind (wpAny_pure ?_)))));show wpAny _ _ (match Builtin.Slice.sliceAdjust lo hi 1 (n:Int) with|(lo,hi)=>pure (lo,(1:Int),Builtin.Slice.slicePlaces lo hi 1)) _ _ s;rw[SQ lo hi n];show wpAny _ _ (pure (((sIx n 0 lo:Nat):Int),(1:Int),Builtin.Slice.slicePlaces ((sIx n 0 lo:Nat):Int) ((sIx n n hi:Nat):Int) 1)) _ _ s;rw[SX];exact wpAny_pure h
theorem aB0(xs:Array Value)(i k:Nat):((List.range k).filterMap λ(m:Nat)=>xs[((i:Int)+(m:Int)*1).toNat]?).toArray=((xs.toList.drop i).take k).toArray:=by
 have e:(λ(m:Nat)=>xs[((i:Int)+(m:Int)*1).toNat]?)=λm=>xs[i+m]?:=by
  funext m
  have:((i:Int)+(m:Int)*1).toNat=i+m:=by lia
  rw[this]
 rw[e];have:=pick_run xs i k;rw[List.filterMap_map] at this;have e2:((λx=>xs[x]?) ∘ λx=>i+x)=λm=>xs[i+m]?:=rfl
 rw[e2] at this;rw[this]
theorem tD{t sl:Addr}{items:Array Value}{vl vu:Value}{lo hi:Option Int}{Q:Value->Shared->Prop}(ht:IsTup s.heap t items)(hs:s.heap.IsSliceOf sl vl vu .none)(pl:IsPart vl lo)(pu:IsPart vu hi)
 (hw:¬(sIx items.size 0 lo=0/\sIx items.size items.size hi=items.size))
 (h:Q (.ref s.heap.objs.size) {s with heap:=s.heap.push {cls:=.type "tuple",data:=.seq ((items.toList.drop (sIx items.size 0 lo)).take (sIx items.size items.size hi-sIx items.size 0 lo)).toArray}})
 (hsz:items.size<=sizeLine):wpAny (model prog w) A (getItem (.ref t) (.ref sl)) Q E s:=by
 have htake:sizeOk (.seq ((items.toList.drop (sIx items.size 0 lo)).take (sIx items.size items.size hi-sIx items.size 0 lo)).toArray):=by
  show((items.toList.drop (sIx items.size 0 lo)).take (sIx items.size items.size hi-sIx items.size 0 lo)).toArray.size<=sizeLine;rw[List.size_toArray,List.length_take,List.length_drop,Array.length_toList];lia
 have hj:sIx items.size items.size hi<=items.size:=aHs _ _ (Nat.le_refl _) hi;obtain⟨os,hos,hcs,hds⟩:=id hs;have hTs:s.TypeIs (.ref sl) "slice":=⟨os,hos,hcs⟩
 unfold getItem
 try with_reducible refine wpAny_holding ?_
 first|refine wpAny_bind (wpAny_pure ?_)|skip
 refine wpAny_bind (wpAny_sequenceKey ht.typeIs (by decide) ?_);refine wpAny_bind (wpAny_callSpecial?_slot (name:=Str.ofString "__getitem__") ht.typeIs PyProof.Rows.slot_tuple_getitem
  (wpAny_call_entry PyProof.Rows.slot_tuple_getitem ht.typeIs entry_tuple_getitem ?_ (args_tuple_getitem _ _)))
 show wpAny _ _ (Builtin.Tuple.tupleItemsOf (.ref t) >>= _) _ _ s;refine wpAny_bind (tupleItemsOf_ ht ?_);refine wpAny_bind (wpAny_typeOf hTs ?_);rw[if_pos (by decide)];refine wpAny_bind (uL hs pl pu ?_);have hno:¬((((sIx items.size 0 lo:Nat):Int)==0&&(1:Int)==1&&(sIx items.size items.size hi-sIx items.size 0 lo)==items.size)=true):=by
  intro q;rw[Bool.and_eq_true,Bool.and_eq_true] at q;have q1:((sIx items.size 0 lo:Nat):Int)=0:=eq_of_beq q.1.1;have q2:sIx items.size items.size hi-sIx items.size 0 lo=items.size:=eq_of_beq q.2;exact hw ⟨by lia,by lia⟩
 show wpAny _ _ (if (((sIx items.size 0 lo:Nat):Int)==0&&(1:Int)==1&&(sIx items.size items.size hi-sIx items.size 0 lo)==items.size)=true then _ else _) _ _ s;rw[if_neg hno,aB0]
 first
  |exact wpAny_bind (m:=Builtin.Tuple.tupleExact _) (wpAny_newObj_type (wpAny_pure ⟨_,rfl,wpAny_pure h⟩) htake)
  |exact wpAny_bind (m:=Builtin.Tuple.tupleExact _) (wpAny_newObj_type (wpAny_bind (wpAny_pure (wpAny_pure ⟨_,rfl,wpAny_pure h⟩))) htake)
  |exact wpAny_bind (wpAny_bind (m:=Builtin.Tuple.tupleExact _) (wpAny_newObj_type (wpAny_pure (wpAny_pure ⟨_,rfl,wpAny_pure h⟩)) htake))
  |exact wpAny_bind (wpAny_bind (m:=Builtin.Tuple.tupleExact _) (wpAny_newObj_type (wpAny_pure ⟨_,rfl,wpAny_pure h⟩) htake))
end
end HT
namespace L2
open PySem PySem.Spec PyProof.Rows
abbrev TO:=St->Hp->(Option Int->Hp->Prop)->Prop
def PO(X:Cx)(e:Option Expr)(t:TO):Prop:=
 ∀(pins:List (Addr×Obj))(s:Shared)(σ:St)(H:Hp)(Q:Option Int->Hp->Prop),Inv X pins σ H s->t σ H Q->
  wpAny (model X.prog X.w) X.A (evalPart e X.env) (λu s'=>∃o H',Inv X pins σ H' s'/\IsPart u o/\Q o H') X.xe s
noncomputable def aL2(t:TE):TO:=λσ H Q=>t σ H λx H1=>∃i,x=.int i/\Q (some i) H1
section
variable {X:Cx} {e:Expr} {te:TE} {lo hi:Option Expr} {tl th:TO} {pos p2:Pos}
theorem aEk(h:PE X e te):PO X (some e) (aL2 te):=by
 intro pins s σ H Q I hw;rw[evalPart_some];refine thn (h pins s σ H _ I hw) λu s1 ⟨x,H1,I1,r1,q1⟩=>?_
 obtain⟨i,rfl,q⟩:=q1;obtain⟨t,rfl⟩:=r1;exact⟨some i,H1,I1,.int i t,q⟩
def SlR(X:Cx)(r:V->Option Int->Option Int->Hp->VK->Prop):Prop:=
 ∀(pins:List (Addr×Obj))(s:Shared)(σ:St)(H:Hp)(x:V)(v vl vu:Value)(lo hi:Option Int)(sl:Addr)(Q:VK),Inv X pins σ H s->RelV x v->s.heap.IsSliceOf sl vl vu .none->IsPart vl lo->IsPart vu hi->r x lo hi H Q->
  ∃T id,typeLookup (.type T) "__getitem__"=pure (some (.builtin id))/\s.TypeIs v T/\wpAny (model X.prog X.w) X.A (getItem v (.ref sl)) (EP X pins σ Q) X.xe s
noncomputable def tSl(r:V->Option Int->Option Int->Hp->VK->Prop)(te:TE)(tl th:TO):TE:=λσ H Q=>te σ H λx H1=>tl σ H1 λl H2=>th σ H2 λu H3=>r x l u H3 Q
theorem aB1{r:V->Option Int->Option Int->Hp->VK->Prop}(hr:SlR X r)(he:PE X e te)(hl:PO X lo tl)(hu:PO X hi th):PE X (.Subscript e (.Slice lo hi none p2) pos) (tSl r te tl th):=by
 intro pins s σ H Q I h;refine Subscript_ (thn (he pins s σ H _ I h) λv s1 ⟨x,H1,I1,r1,q1⟩=>?_);refine wpAny_Slice (thn (hl pins s1 σ H1 _ I1 q1) λvl s2 ⟨l,H2,I2,pl,q2⟩=>thn (hu pins s2 σ H2 _ I2 q2) λvu s3 ⟨u,H3,I3,pu,q3⟩=>?_);rw[evalPart_none];refine wpAny_pure ?_;have I4:Inv X pins σ H3 {s3 with heap:=s3.heap.push {cls:=.type "slice",data:=.fields #[vl,vu,.none]}}:=I3.kept (t':=s3.toks) λb ob q=>Heap.get?_push_of_some _ q
 obtain⟨T,id,hT,ht,hg⟩:=hr pins {s3 with heap:=s3.heap.push {cls:=.type "slice",data:=.fields #[vl,vu,.none]}} σ H3 x v vl vu l u s3.heap.objs.size Q I4 r1 (Heap.IsSliceOf.new ..) pl pu q3;show wpAny (model X.prog X.w) X.A (subscriptTail e (.Slice lo hi none p2) v (.ref s3.heap.objs.size)) (EP X pins σ Q) X.xe {s3 with heap:=s3.heap.push {cls:=.type "slice",data:=.fields #[vl,vu,.none]}};exact tail_any (ops:=[.ref s3.heap.objs.size,v]) ht hT hg (by with_unfolding_all rfl)
noncomputable def V0(xs:List V)(lo hi:Option Int):List V:=(xs.drop (HT.sIx xs.length 0 lo)).take (HT.sIx xs.length xs.length hi-HT.sIx xs.length 0 lo)
theorem uY(xs:List V)(lo hi:Option Int):(V0 xs lo hi).length<=xs.length:=by
 unfold V0;rw[List.length_take,List.length_drop];lia
def aNa(K:PySem.W.Frag):V->Option Int->Option Int->Hp->VK->Prop:=λx lo hi H Q=>∃a xs,x=.ref a/\SqT K H a xs/\
 ¬(HT.sIx xs.length 0 lo=0/\HT.sIx xs.length xs.length hi=xs.length)/\∀p,H p=none->Q (.ref p) (upd H p (.tup (V0 xs lo hi)))
theorem aHt:SlR X (aNa X.K):=by
 intro pins s σ H x v vl vu lo hi sl Q I rx hs pl pu h;obtain⟨a,xs,rfl,hx,hw,q⟩:=h;cases rx;obtain⟨its,r,ht,hz⟩:=I.tuple hx;have hlen:its.toArray.size=xs.length:=by rw[List.size_toArray];exact r.length.symm
 refine⟨"tuple",_,PyProof.Rows.slot_tuple_getitem.lookup,ht.typeIs,?_⟩;refine HT.tD ht hs pl pu (by rw[hlen];exact hw) ?_ (by rw[hlen];exact hz);rw[hlen];refine⟨.ref s.heap.objs.size,_,I.laid (t':=s.toks) (o:=.tup (V0 xs lo hi)) (λb ob q=>Heap.get?_push_of_some _ q) (Nat.le_refl _) ?_,rfl,q _ (I.hok.fresh (Nat.le_refl _))⟩;exact⟨Nat.le_trans (uY xs lo hi) hz,_,(r.drop (HT.sIx xs.length 0 lo)).take (HT.sIx xs.length xs.length hi-HT.sIx xs.length 0 lo),lY.new _ _⟩
end
noncomputable def ixN(n:Nat)(i:Int):Option Nat:=if 0<=i then (if i<n then some i.toNat else none) else if -(n:Int)<=i then some (i+n).toNat else none
def atI{α:Type}(xs:List α)(i:Int):Option α:=(ixN xs.length i).bind λj=>xs[j]?
theorem aEm{n:Nat}{i:Int}{j:Nat}(h:ixN n i=some j):seqIndex? i n=some j/\j<n/\-(n:Int)<=i/\i<n:=by
 unfold ixN at h;by_cases h0:0<=i
 ·rw[if_pos h0] at h;by_cases h1:i<n
  ·rw[if_pos h1] at h;have e:i.toNat=j:=Option.some.inj h;exact⟨by rw[seqIndex_of h0 h1,e],by lia,by lia,h1⟩
  ·rw[if_neg h1] at h;cases h
 ·rw[if_neg h0] at h;by_cases h1:-(n:Int)<=i
  ·rw[if_pos h1] at h;have e:(i+n).toNat=j:=Option.some.inj h;exact⟨by rw[seqIndex_neg (by lia) h1,e],by lia,h1,by lia⟩
  ·rw[if_neg h1] at h;cases h
theorem KH{α:Type}{xs:List α}{i:Int}{v:α}(h:atI xs i=some v):∃j,seqIndex? i xs.length=some j/\xs[j]?=some v/\j<xs.length/\-(xs.length:Int)<=i/\i<xs.length:=by
 unfold atI at h;cases e:ixN xs.length i with
 |none=>rw[e] at h;cases h
 |some j=>
  rw[e] at h;obtain⟨h1,h2,h3,h4⟩:=aEm e;exact⟨j,h1,h,h2,h3,h4⟩
def KJ(b:Expr):Prop:=∀o i,subscripted b false o i=operate [o,i] (getItem o i)
def IxR(X:Cx)(r:R2):Prop:=
 ∀(value slice:Expr)(pins:List (Addr×Obj))(s:Shared)(σ:St)(H:Hp)(x y:V)(v u:Value)(Q:VK),Inv X pins σ H s->RelV x v->RelV y u->r x y H Q->
  subscripted slice false v u=operate [v,u] (getItem v u)->wpAny (model X.prog X.w) X.A (subscriptTail value slice v u) (EP X pins σ Q) X.xe s
def MtR(X:Cx)(id:String)(r:V->List V->Hp->VK->Prop):Prop:=
 ∀(pins:List (Addr×Obj))(s:Shared)(σ:St)(H:Hp)(x:V)(xs:List V)(v:Value)(us:List Value)(Q:VK),Inv X pins σ H s->RelV x v->Vals xs us->r x xs H Q->
  wpAny (model X.prog X.w) X.A (call (.builtin id) (v::us)) (EP X pins σ Q) X.xe s
section
variable {X:Cx} {a b:Expr} {ta tb:TE} {pos:Pos}
theorem aL3{r:R2}(hr:IxR X r)(ha:PE X a ta)(hb:PE X b tb)(hs:KJ b):PE X (.Subscript a b pos) (tOp r ta tb):=by
 intro pins s σ H Q I h;exact Subscript_ (aKt ha hb I h λv u s2 x y H2 I2 rx ry q=>hr a b pins s2 σ H2 x y v u Q I2 rx ry q (hs _ _))
def aNb(K:PySem.W.Frag):R2:=λx y H Q=>∃p xs i v,x=.ref p/\y=.int i/\SqL K H p xs/\atI xs i=some v/\Q v H
def aNc(K:PySem.W.Frag):R2:=λx y H Q=>∃p xs i v,x=.ref p/\y=.int i/\SqT K H p xs/\atI xs i=some v/\Q v H
def aNd:R2:=λx y H Q=>∃z i c,x=.str z/\y=.int i/\z.length<=sizeLine/\atI z.cps.toList i=some c/\Q (.str ⟨#[c]⟩) H
theorem KN:IxR X (aNb X.K):=by
 intro value slice pins s σ H x y v u Q I rx ry h hs;obtain⟨p,xs,i,z,rfl,rfl,hq,he,q⟩:=h;cases rx;obtain⟨t,rfl⟩:=ry;obtain⟨its,r,pl,hz⟩:=I.list hq;obtain⟨j,h1,h2,h3,h4,h5⟩:=KH he;obtain⟨w,ew,rw'⟩:=r.get h2;have hl:=r.length;have hn:=xR;have fin:EP X pins σ Q w s:=⟨z,H,I,rw',q⟩
 by_cases h0:0<=i
 ·have hj:i.toNat=j:=by
   rw[seqIndex_of h0 h5] at h1;exact Option.some.inj h1
  exact item_listR pl.isList h0 (by lia) (by rw[hj];simpa using ew) fin hs
 ·have hj:(i+(its.toArray.size:Int)).toNat=j:=by
   rw[seqIndex_neg (by lia) h4] at h1;rw[List.size_toArray,<-hl];exact Option.some.inj h1
  exact subscriptTail_builtinR (x:=w) pl.isList.typeIs slot_list_getitem.lookup
   (wpAny_getItem_list_neg (Q:=λr s'=>r=w/\EP X pins σ Q r s') pl.isList (by lia) (by rw[List.size_toArray]<;>lia) (by lia) (by rw[hj];simpa using ew) ⟨rfl,fin⟩) hs
theorem aHu:IxR X (aNc X.K):=by
 intro value slice pins s σ H x y v u Q I rx ry h hs;obtain⟨p,xs,i,z,rfl,rfl,hq,he,q⟩:=h;cases rx;obtain⟨t,rfl⟩:=ry;obtain⟨its,r,pl,hz⟩:=I.tuple hq;obtain⟨j,h1,h2,h3,h4,h5⟩:=KH he;obtain⟨w,ew,rw'⟩:=r.get h2;have hl:=r.length;have hn:=xR;have fin:EP X pins σ Q w s:=⟨z,H,I,rw',q⟩
 exact subscriptTail_builtinR (x:=w) pl.typeIs slot_tuple_getitem.lookup
  (getItem_tuple (j:=j) (Q:=λr s'=>r=w/\EP X pins σ Q r s') pl (by lia) (by lia) (by rw[List.size_toArray,<-hl];exact h1) (by simpa using ew) ⟨rfl,fin⟩) hs
theorem aHv:IxR X aNd:=by
 intro value slice pins s σ H x y v u Q I rx ry h hs;obtain⟨z,i,c,rfl,rfl,hz,he,q⟩:=h;obtain⟨t,rfl⟩:=rx;obtain⟨t',rfl⟩:=ry;obtain⟨j,h1,h2,h3,h4,h5⟩:=KH he;have hl:z.cps.toList.length=z.length:=by simp[Str.length]
 rw[hl] at h1 h4 h5;have hn:=xR;exact tail_any (typeIs_str s z t) slot_str_getitem.lookup (getItem_str (c:=c) (by
  have e1:decide (i < -(2 ^ 63:Int))=false:=decide_eq_false (by lia);have e2:decide (i >= 2 ^ 63)=false:=decide_eq_false (by lia);rw[e1,e2,Bool.or_false]) (by rw[h1];simpa using h2) ⟨.str ⟨#[c]⟩,H,I.tok _,⟨_,rfl⟩,q⟩) hs
theorem FN(lo hi:Option Int)(n:Nat):(sliceBounds lo hi none n).1=((HT.sIx n 0 lo:Nat):Int)/\(sliceBounds lo hi none n).2.1=((HT.sIx n n hi:Nat):Int)/\(sliceBounds lo hi none n).2.2=1:=by
 refine⟨?_,?_,rfl⟩
 ·cases lo with
  |none=>simp[sliceBounds,HT.sIx]
  |some i=>
   simp only[sliceBounds,HT.sIx,Option.getD_none,show(1:Int) > 0 by decide,if_true];by_cases h:i<0
   ·simp only[h,if_true]<;>lia
   ·simp only[h,if_false]<;>lia
 ·cases hi with
  |none=>simp[sliceBounds,HT.sIx]
  |some i=>
   simp only[sliceBounds,HT.sIx,Option.getD_none,show(1:Int) > 0 by decide,if_true];by_cases h:i<0
   ·simp only[h,if_true]<;>lia
   ·simp only[h,if_false]<;>lia
theorem yK(its:List Value)(lo hi:Option Int):slicePick its.toArray lo hi none=((its.drop (HT.sIx its.length 0 lo)).take (HT.sIx its.length its.length hi-HT.sIx its.length 0 lo)).toArray:=by
 obtain⟨h1,h2,h3⟩:=FN lo hi its.toArray.size;unfold slicePick;rw[h1,h2,h3];simp only[sliceRange_one,pick_run,List.size_toArray]<;>rfl
def aNe(K:PySem.W.Frag):V->Option Int->Option Int->Hp->VK->Prop:=λx lo hi H Q=>∃a xs,x=.ref a/\SqL K H a xs/\∀p,H p=none->Q (.ref p) (upd H p (.lst (V0 xs lo hi)))
theorem V1:SlR X (aNe X.K):=by
 intro pins s σ H x v vl vu lo hi sl Q I rx hs pl pu h;obtain⟨a,xs,rfl,hx,q⟩:=h;cases rx;obtain⟨its,r,ht,hz⟩:=I.list hx;have hlen:=r.length;refine⟨"list",_,slot_list_getitem.lookup,ht.isList.typeIs,?_⟩;refine wpAny_getItem_list_slice ht.isList hs pl pu .none (by simp) ?_ (by rw[List.size_toArray]<;>lia);rw[yK,<-hlen];refine⟨.ref s.heap.objs.size,_,I.laid (t':=s.toks) (o:=.lst (V0 xs lo hi)) (λb ob q=>Heap.get?_push_of_some _ q) (Nat.le_refl _) ?_,rfl,q _ (I.hok.fresh (Nat.le_refl _))⟩;exact⟨Nat.le_trans (uY xs lo hi) hz,_,0,(r.drop (HT.sIx xs.length 0 lo)).take (HT.sIx xs.length xs.length hi-HT.sIx xs.length 0 lo),Heap.get?_push_size _ rfl⟩
theorem jJ:kE X (.builtin "len") (λxs H Q=>∃p ys,xs=[.ref p]/\(SqL X.K H p ys\/SqT X.K H p ys)/\Q (.int ys.length) H):=by
 intro pins s σ H xs us Q I r h;obtain⟨p,ys,rfl,hq,q⟩:=h;obtain⟨u,rfl,rx⟩:=vals1 r;cases rx;have hn:=xR;rcases hq with hq|hq
 ·obtain⟨its,r',pl,hz⟩:=I.list hq;have hlen:=r'.length;exact Calls.call_len_list pl.isList (by simp only[List.size_toArray]<;>lia) ⟨.int ys.length,H,I.tok _,⟨s.toks+1,by rw[List.size_toArray,hlen]⟩,q⟩
 ·obtain⟨its,r',pl,hz⟩:=I.tuple hq;have hlen:=r'.length;exact len_tuple pl (by simp only[List.size_toArray]<;>lia) ⟨.int ys.length,H,I.tok _,⟨s.toks+1,by rw[List.size_toArray,hlen]⟩,q⟩
theorem FP:kE X (.builtin "len") (λxs H Q=>∃z,xs=[.str z]/\z.length<=sizeLine/\Q (.int z.length) H):=by
 intro pins s σ H xs us Q I r h;obtain⟨z,rfl,hz,q⟩:=h;obtain⟨u,rfl,t,rfl⟩:=vals1 r;have hn:=xR;exact len_str (by lia) ⟨.int z.length,H,I.tok _,⟨_,rfl⟩,q⟩
theorem t8:kE X (.type "list") (λxs H Q=>∃p ys,xs=[.ref p]/\(SqL X.K H p ys\/SqT X.K H p ys)/\∀l,H l=none->Q (.ref l) (upd H l (.lst ys))):=by
 intro pins s σ H xs us Q I r h;obtain⟨p,ys,rfl,hq,q⟩:=h;obtain⟨u,rfl,rx⟩:=vals1 r;cases rx;have fin:∀(its:List Value),Vals ys its->ys.length<=sizeLine->∀(h':Heap)(c':Nat),(∀b o',s.heap.get? b=some o'->h'.get? b=some o')->
   h'.get? s.heap.objs.size=some {cls:=.type "list",dict:=none,data:=.seq its.toArray c',slots:=#[]}->EP X pins σ Q (.ref s.heap.objs.size) {s with heap:=h'}:=λits r' hz h' c' kp e=>
  ⟨.ref s.heap.objs.size,_,I.laid (t':=s.toks) kp (Nat.le_refl _) (show jG X.prog X.w _ h' _ (.lst ys) from ⟨hz,its,c',r',e⟩),rfl,q _ (I.hok.fresh (Nat.le_refl _))⟩
 rcases hq with hq|hq
 ·obtain⟨its,r',pl,hz⟩:=I.list hq;have hlen:=r'.length;obtain⟨o,ho,hc,n,hd⟩:=pl.isList;exact call_list_seq p (.inl rfl) ho hc hd (λh' c' kp e=>fin its r' hz h' c' kp e) (by simp only[List.size_toArray]<;>lia)
 ·obtain⟨its,r',pl,hz⟩:=I.tuple hq;have hlen:=r'.length;obtain⟨o,ho,hc,n,hd⟩:=pl;exact call_list_seq p (.inr rfl) ho hc hd (λh' c' kp e=>fin its r' hz h' c' kp e) (by simp only[List.size_toArray]<;>lia)
theorem qU:kE X (.type "tuple") (λxs H Q=>∃p ys,xs=[.ref p]/\((SqL X.K H p ys/\∀l,H l=none->Q (.ref l) (upd H l (.tup ys)))\/(SqT X.K H p ys/\Q (.ref p) H))):=by
 intro pins s σ H xs us Q I r h;obtain⟨p,ys,rfl,h⟩:=h;obtain⟨u,rfl,rx⟩:=vals1 r;cases rx;rcases h with ⟨hq,q⟩|⟨hq,q⟩
 ·obtain⟨its,r',pl,hz⟩:=I.list hq;have hlen:=r'.length;refine call_tuple_list pl.isList (λh' kp=>?_) (by simp only[List.size_toArray]<;>lia);have I1:Inv X pins σ H {s with heap:=h'}:=I.kept (t':=s.toks) kp;have I2:Inv X pins σ (upd H h'.objs.size (.tup ys)) {s with heap:=h'.push {cls:=.type "tuple",data:=.seq its.toArray}}:=
   I1.laid (t':=s.toks) (λb o e=>Heap.get?_push_of_some _ e) (Nat.le_refl _) (show jG X.prog X.w _ _ _ (.tup ys) from ⟨hz,its,r',lY.new _ _⟩)
  exact⟨.ref h'.objs.size,_,I2,rfl,q _ (I1.hok.fresh (Nat.le_refl _))⟩
 ·obtain⟨its,r',pl,hz⟩:=I.tuple hq;exact call_tuple_same pl ⟨.ref p,H,I,rfl,q⟩
def tyV(K:PySem.W.Frag)(T:String)(x:V)(H:Hp):Prop:=match x with
 |.str _=>T="str"
 |.int _=>T="int"
 |.ref p=>(T="list"/\∃xs,SqL K H p xs)\/(T="tuple"/\((∃o,K.lookup p=some o/\o.cls=.type "tuple"/\o.dict=none)\/∃xs,H p=some (.tup xs)))\/
   (T="dict"/\((∃kvs,H p=some (.dK kvs))\/∃kvs,H p=some (.dT kvs)))\/(T="set"/\∃S n,H p=some (.set S n))
 |_=>False
theorem aHw{pins:List (Addr×Obj)}{σ:St}{H:Hp}{s:Shared}{T:String}{x:V}{v:Value}(I:Inv X pins σ H s)(r:RelV x v)(ty:tyV X.K T x H) :
  s.TypeIs v T/\∀a,v=.ref a->∃ob,s.heap.get? a=some ob/\ob.dict=none:=by
 cases x with
 |str z=>
  obtain⟨t,rfl⟩:=r;cases (show T="str" from ty);exact⟨typeIs_str s z t,λ_ e=>nomatch e⟩
 |int i=>
  obtain⟨t,rfl⟩:=r;cases (show T="int" from ty);exact⟨typeIs_int s i t,λ_ e=>nomatch e⟩
 |ref p=>
  cases r;rcases ty with ⟨rfl,xs,hq⟩|⟨rfl,⟨o,hk,hc,hd⟩|⟨xs,hk⟩⟩|⟨rfl,hk⟩|⟨rfl,S,n,hk⟩
  ·obtain⟨its,_,pl,_⟩:=I.list hq;refine⟨pl.isList.typeIs,λa e=>?_⟩;cases e;obtain⟨o,n,e,c,hd,_⟩:=pl;exact⟨o,e,hd⟩
  ·refine⟨⟨o,I.kIn p o hk,hc⟩,λa e=>?_⟩;cases e;exact⟨o,I.kIn _ o hk,hd⟩
  ·obtain⟨_,its,_,pl⟩:=I.hok p _ hk;refine⟨(lY.tup pl).typeIs,λa e=>?_⟩;cases e;exact lY.bare pl
  ·have z:∃o,s.heap.get? p=some o/\o.ExactDict:=by
    rcases hk with ⟨kvs,hk⟩|⟨kvs,hk⟩
    ·obtain⟨_,_,_,_,o,_,_,e,ex,_⟩:=I.hok p _ hk;exact⟨o,e,ex⟩
    ·obtain⟨_,_,_,_,o,_,_,e,ex,_⟩:=I.hok p _ hk;exact⟨o,e,ex⟩
   obtain⟨o,e,ex⟩:=z;refine⟨⟨o,e,ex.1⟩,λa e2=>?_⟩;cases e2;exact⟨o,e,ex.2.1⟩
  ·obtain⟨o,_,_,_,e,ex,_⟩:=I.hok p _ hk;refine⟨⟨o,e,ex.1⟩,λa e2=>?_⟩;cases e2;exact⟨o,e,ex.2.1⟩
 |_=>exact False.elim ty
noncomputable def tBM(K:PySem.W.Frag)(T:String)(r:V->List V->Hp->VK->Prop)(to:TE)(t:TA):TE:=λσ H Q=>to σ H λx H1=>tyV K T x H1/\t σ H1 λxs H2=>r x xs H2 Q
variable {o e:Expr} {es:List Expr} {to:TE} {t:TA} {name:Str} {apos cpos:Pos} {T id:String} {r:V->List V->Hp->VK->Prop}
theorem aEn(pa:PlainAttrs T)(slot:Slot T name id)(hty:typeOf (.builtin id)=pure (.type "method_descriptor"))(hm:MtR X id r)(ho:PE X o to)(ha:PA X (e::es) t)
 (hbase:attributeBase o name X.env (eval o X.env)=eval o X.env:=by rfl)
 (hfew:((backTo cpos (starEach (e::es) X.env)).all (λx=>!x.1)&&(backToKw cpos (keywordEach [] X.env)).all (λx=>x.1.isSome)
  &&decide ((e::es).length+([]:List Keyword).length+(if ([]:List Keyword).isEmpty then 0 else 1)<30))=true:=by rfl)
 (hline:(apos.endLine==cpos.line)=true:=by rfl)(hs:starEach (e::es) X.env=(false,eval e X.env)::starEach es X.env:=by rfl)(hplain:(backTo cpos (starEach es X.env)).any (·.1)=false:=by rfl) :
  PE X (.Call (.Attribute o name apos) (e::es) [] cpos) (tBM X.K T r to t):=by
 intro pins s σ H Q I h;refine wpAny_Call_method_late hbase hfew hline rfl (thn (ho pins s σ H _ I h) λv s1 ⟨x,H1,I1,r1,ty,q1⟩=>?_);obtain⟨h1,h2⟩:=aHw I1 r1 ty;refine⟨T,id,pa,slot,hty,h1,h2,?_⟩;have hA:=ha cpos pins s1 σ H1 _ I1 q1;rw[hs] at hA ⊢;refine Calls.callWith_builtin (by show(false||(backTo cpos (starEach es X.env)).any (·.1))=false;rw[hplain]<;>rfl) (Calls.evalArgs_plain ?_);exact thn hA λus s2 ⟨vs,H2,I2,r2,q2⟩=>hm pins s2 σ H2 x vs v us Q I2 r1 r2 q2
end
def MtM(X:Cx)(id:String)(r:V->List V->Hp->VK->Prop):Prop:=
 ∀(pins:List (Addr×Obj))(s:Shared)(σ:St)(H:Hp)(x:V)(xs:List V)(v:Value)(us:List Value)(Q:VK),Inv X pins σ H s->RelV x v->Vals xs us->r x xs H Q->
  wpAny (model X.prog X.w) X.A (call (.builtin id) (v::us)) (EP X pins σ Q) X.xe s
theorem Vals.one:∀{x:V}{us:List Value},Vals [x] us->∃u,us=[u]/\RelV x u
 |_,_,.cons r .nil=>⟨_,rfl,r⟩
section
variable {X:Cx} {pins:List (Addr×Obj)} {σ:St} {H:Hp} {s:Shared} {l:Addr} {xs ys:List V}
theorem Inv.aMc{its its':List Value}{n:Nat}{f:Array Value->Array Value}{t':Nat}(I:Inv X pins σ H s)(hH:H l=some (.lst xs))
 (e:s.heap.get? l=some {cls:=.type "list",data:=.seq its.toArray n})(hf:f its.toArray=its'.toArray)(hv:Vals ys its')(hz:ys.length<=sizeLine) :
  Inv X pins σ (upd H l (.lst ys)) {s with heap:=s.heap.update l (Obj.mapSeq f),toks:=t'}:=by
 have q:=PySem.IsL.update e f;rw[hf] at q;refine I.write (x:=l) (e:=l) (by rw[hH];exact trivial) (.inl rfl) (λb' u hb hu=>(Heap.get?_update_other s.heap (Obj.mapSeq f) (Ne.symm hb)).trans hu) ⟨_,q⟩ ?_;exact⟨hz,its',_,hv,q⟩
theorem Inv.aNf{its:List Value}{t':Nat}(I:Inv X pins σ H s)(hv:Vals ys its)(hz:ys.length<=sizeLine) :
  Inv X pins σ (upd H s.heap.objs.size (.lst ys)) {s with heap:=s.heap.push {cls:=.type "list",data:=.seq its.toArray},toks:=t'}:=
 I.laid (λ_ _ q=>Heap.get?_push_of_some _ q) (Nat.le_refl _) ⟨hz,its,0,hv,Heap.get?_push_size _ rfl⟩
theorem Inv.fresh(I:Inv X pins σ H s):H s.heap.objs.size=none:=I.hok.fresh (Nat.le_refl _)
theorem Inv.aMd(I:Inv X pins σ H s)(hH:H l=some (.lst xs)):xs.length<=sizeLine/\∃(its:List Value)(n:Nat),Vals xs its/\xs.length=its.length/\s.heap.get? l=some {cls:=.type "list",data:=.seq its.toArray n}:=by
 obtain⟨z,its,n,r,e⟩:=I.hok l _ hH;exact⟨z,its,n,r,r.length,e⟩
end
section
variable {X:Cx}
def aEo:V->List V->Hp->VK->Prop:=λx vs H Q=>∃l xs y,x=.ref l/\vs=[y]/\H l=some (.lst xs)/\xs.length<sizeLine/\Q .non (upd H l (.lst (xs++[y])))
theorem FQ:MtM X "list.append" aEo:=by
 intro pins s σ H x vs v us Q I rx rv h;obtain⟨l,xs,y,rfl,rfl,hH,hz,q⟩:=h;cases rx;obtain⟨u,rfl,ru⟩:=rv.one;obtain⟨z,its,n,r,hl,e⟩:=I.aMd hH;refine call_meets F.slot_list_append ⟨_,e,rfl⟩ F.entry_list_append (F.args_list_append_2 _ _) (PySem.list_append l its.toArray n u (by rw[List.size_toArray];lia)) ⟨e,?_⟩;refine⟨.non,_,I.aMc (its':=its++[u]) hH e (by simp) (r.append (.cons ru .nil)) ?_,rfl,q⟩;rw[List.length_append,List.length_singleton];lia
end
section
variable {κ:Type} [DecidableEq κ]
noncomputable def wW(kvs:List (κ×V))(k:κ):Option V:=(kvs.find? λkv=>decide (kv.1=k)).map (·.2)
noncomputable def putK(kvs:List (κ×V))(k:κ)(v:V):List (κ×V):=
 if (kvs.any λkv=>decide (kv.1=k))=true then kvs.map (λkv=>if kv.1=k then (kv.1,v) else kv) else kvs++[(k,v)]
theorem qW{p:κ×V}{r:List (κ×V)}{k:κ}(e:p.1=k):wW (p::r) k=some p.2:=by simp[wW,List.find?_cons,e]
theorem qX{p:κ×V}{r:List (κ×V)}{k:κ}(e:¬p.1=k):wW (p::r) k=wW r k:=by simp[wW,List.find?_cons,e]
theorem qY(k:κ):∀kvs:List (κ×V),(kvs.any λkv=>decide (kv.1=k))=(wW kvs k).isSome
 |[]=>rfl
 |p::r=>by
  rw[List.any_cons];by_cases e:p.1=k
  ·simp only[qW e,decide_eq_true e,Bool.true_or,Option.isSome_some]
  ·rw[qX e,decide_eq_false e,Bool.false_or];exact qY k r
theorem uZ(kvs:List (κ×V))(k:κ)(v:V):(putK kvs k v).length<=kvs.length+1:=by
 unfold putK;split
 ·rw[List.length_map];lia
 ·rw[List.length_append,List.length_cons,List.length_nil];lia
theorem aB2{kvs:List (κ×V)}{k:κ}(v:V)(h:wW kvs k=none):putK kvs k v=kvs++[(k,v)]:=by
 unfold putK;rw[qY,h];exact if_neg (by decide)
theorem aAk.mG{o:Option V}{u:Option Value}(r:aAk o u):o.isSome=u.isSome:=by
 cases o with
 |none=>cases u with
  |none=>rfl
  |some _=>exact(show False from r).elim
 |some _=>cases u with
  |none=>exact(show False from r).elim
  |some _=>rfl
theorem KV.val{kvs:List (κ×V)}{vs:List (κ×Value)}(r:KV kvs vs)(k:κ):aAk (wW kvs k) (valueAt vs k):=by
 unfold KV at r;induction r with
 |nil=>exact True.intro
 |@cons p q ps qs h t ih=>
  obtain⟨h1,h2⟩:=h;by_cases e:p.1=k
  ·have e':q.1=k:=h1.symm.trans e;have b:valueAt (q::qs) k=some q.2:=by simp[valueAt,List.find?_cons,e']
   rw[qW e,b];exact h2
  ·have e':¬q.1=k:=λz=>e (h1.trans z)
   have b:valueAt (q::qs) k=valueAt qs k:=by simp[valueAt,List.find?_cons,e']
   rw[qX e,b];exact ih
theorem KV.any{kvs:List (κ×V)}{vs:List (κ×Value)}(r:KV kvs vs)(k:κ):(kvs.any λkv=>decide (kv.1=k))=vs.any λkv=>decide (kv.1=k):=by
 unfold KV at r;induction r with
 |nil=>rfl
 |cons h t ih=>rw[List.any_cons,List.any_cons,ih,h.1]
theorem KV.repl{kvs:List (κ×V)}{vs:List (κ×Value)}(r:KV kvs vs)(k:κ){y:V}{u:Value}(ry:RelV y u) :
  KV (kvs.map λkv=>if kv.1=k then (kv.1,y) else kv) (vs.map λkv=>if kv.1=k then (kv.1,u) else kv):=by
 unfold KV at r ⊢;induction r with
 |nil=>exact .nil
 |@cons p q ps qs h t ih=>
  rw[List.map_cons,List.map_cons];refine .cons ?_ ih;obtain⟨h1,h2⟩:=h;by_cases e:p.1=k
  ·rw[if_pos e,if_pos (h1.symm.trans e)];exact⟨h1,ry⟩
  ·rw[if_neg e,if_neg (λz=>e (h1.trans z))];exact⟨h1,h2⟩
theorem KV.put{kvs:List (κ×V)}{vs:List (κ×Value)}(r:KV kvs vs)(k:κ){y:V}{u:Value}(ry:RelV y u):KV (putK kvs k y) (stored vs k u):=by
 unfold putK stored;rw[r.any k];by_cases e:(vs.any λkv=>decide (kv.1=k))=true
 ·rw[if_pos e,if_pos e];exact r.repl k ry
 ·rw[if_neg e,if_neg e];exact Paired.snoc r ⟨rfl,ry⟩
theorem KV.length{kvs:List (κ×V)}{vs:List (κ×Value)}(r:KV kvs vs):kvs.length=vs.length:=Paired.length r
end
theorem V3{P:Program}{w:World}{k:Key}{u:Value}(r:RelV (kV k) u):(dR P w).is k u=true:=by
 cases k with
 |inl i=>obtain⟨t,e⟩:=(show ∃t,u=Value.int i t from r);subst e;exact J8 P w i t
 |inr x=>obtain⟨t,e⟩:=(show ∃t,u=Value.str x t from r);subst e;exact J9 P w x t
theorem FW{P:Program}{w:World}:∀{ks:List Key}{us:List Value},Vals (ks.map kV) us->ItemsAre (dR P w) ks us
 |[],_,r=>by rw[List.map_nil] at r;cases r;exact .nil
 |k::ks,_,r=>by
  rw[List.map_cons] at r;cases r with
  |cons h t=>exact .cons (V3 h) (FW t)
abbrev KT(H:Hp):List (List Key×V)->List (List Key×Addr×Value)->Prop:=Paired λp q=>p.1=q.1/\H q.2.1=some (.tup (p.1.map kV))/\RelV p.2 q.2.2
theorem KT.val{H:Hp}{kvs:List (List Key×V)}{xs:List (List Key×Addr×Value)}(r:KT H kvs xs)(k:List Key):aAk (wW kvs k) ((atKey xs k).map (·.2)):=by
 induction r with
 |nil=>exact True.intro
 |@cons p q ps qs h t ih=>
  obtain⟨h1,_,h2⟩:=h;by_cases e:p.1=k
  ·have e':q.1=k:=h1.symm.trans e;have b:atKey (q::qs) k=some q.2:=by simp[atKey,List.find?_cons,e']
   rw[qW e,b];exact h2
  ·have e':¬q.1=k:=λz=>e (h1.trans z)
   have b:atKey (q::qs) k=atKey qs k:=by simp[atKey,List.find?_cons,e']
   rw[qX e,b];exact ih
theorem KT.repl{H:Hp}{kvs:List (List Key×V)}{xs:List (List Key×Addr×Value)}(r:KT H kvs xs)(k:List Key){y:V}{u:Value}(ry:RelV y u) :
  KT H (kvs.map λkv=>if kv.1=k then (kv.1,y) else kv) (xs.map (putAt k u)):=by
 induction r with
 |nil=>exact .nil
 |@cons p q ps qs h t ih=>
  rw[List.map_cons,List.map_cons];refine .cons ?_ ih;obtain⟨h1,h2,h3⟩:=h;unfold putAt;by_cases e:p.1=k
  ·rw[if_pos e,if_pos (h1.symm.trans e)];exact⟨h1,h2,ry⟩
  ·rw[if_neg e,if_neg (λz=>e (h1.trans z))];exact⟨h1,h2,h3⟩
theorem KT.put{H:Hp}{kvs:List (List Key×V)}{xs:List (List Key×Addr×Value)}(r:KT H kvs xs)(k:List Key){b:Addr}{y:V}{u:Value}(hb:H b=some (.tup (k.map kV)))(ry:RelV y u) :
  KT H (putK kvs k y) (storedH xs k b u):=by
 have e:(kvs.any λkv=>decide (kv.1=k))=(atKey xs k).isSome:=by
  rw[qY,(r.val k).mG,Option.isSome_map]
 unfold putK storedH;rw[e];by_cases q:(atKey xs k).isSome=true
 ·rw[if_pos q,if_pos q];exact r.repl k ry
 ·rw[if_neg q,if_neg q];exact Paired.snoc r ⟨rfl,hb,ry⟩
theorem KT.keeps{H H':Hp}{kvs:List (List Key×V)}{xs:List (List Key×Addr×Value)}(r:KT H kvs xs)(ht:∀b ys,H b=some (.tup ys)->H' b=some (.tup ys)):KT H' kvs xs:=
 Paired.aKj r λ_ _ z=>⟨z.1,ht _ _ z.2.1,z.2.2⟩
section
variable {P:Program} {w:World} {H:Hp} {h:Heap} {a:Addr}
theorem aHx{u:HO}(ok:HOk P w H h)(e:Rd H a u):jG P w H h a u:=e.ok ok
theorem V4{kvs:List (Key×V)}(ok:HOk P w H h)(e:Rd H a (.dK kvs)):kvs.length<=sizeLine/\(a==sysModules)=false/\∃vs,KV kvs vs/\h.DictOf (dR P w) a vs:=
 show jG P w H h a (.dK kvs) from aHx ok e
theorem S5{kvs:List (Key×V)}(ok:HOk P w H h)(e:H a=some (.dK kvs)):kvs.length<=sizeLine/\(a==sysModules)=false/\∃vs,KV kvs vs/\h.DictOf (dR P w) a vs:=V4 ok (.inl e)
theorem FZ{ks:List Key}(ok:HOk P w H h)(e:H a=some (.tup (ks.map kV))):(tupleKind (dR P w)).is h ks a:=by
 obtain⟨_,its,r,o,h1,h2,n,h3⟩:=(show jG P w H h a (.tup (ks.map kV)) from ok a _ e)
 exact⟨o,its.toArray,n,h1,h2,congrArg (·.1) h3,by simpa using FW r⟩
theorem V5{kvs:List (List Key×V)}(ok:HOk P w H h)(e:Rd H a (.dT kvs)):kvs.length<=sizeLine/\(a==sysModules)=false/\
  ∃xs,KT H kvs xs/\h.DictOfH (tupleKind (dR P w)) a xs:=by
 obtain⟨z,y,xs,r,o,es,ep,h1,h2,h3,h4,h5⟩:=(show jG P w H h a (.dT kvs) from aHx ok e)
 refine⟨z,y,xs,r,o,es,ep,h1,h2,h3,h4,λx hx=>?_,h5⟩;have all:∀{l:List (List Key×V)}{m:List (List Key×Addr×Value)},KT H l m->∀x∈m,(tupleKind (dR P w)).is h x.1 x.2.1:=by
  intro l m q;induction q with
  |nil=>intro x hx;exact nomatch hx
  |@cons p q ps qs hq t ih=>
   intro x hx;rcases List.mem_cons.mp hx with e|hx
   ·subst e;exact FZ ok (by rw[<-hq.1];exact hq.2.1)
   ·exact ih x hx
 exact all r x hx
theorem aB3{kvs:List (List Key×V)}(ok:HOk P w H h)(e:H a=some (.dT kvs)):kvs.length<=sizeLine/\(a==sysModules)=false/\
  ∃xs,KT H kvs xs/\h.DictOfH (tupleKind (dR P w)) a xs:=V5 ok (.inl e)
end
def V6(H:Hp)(a:Addr)(y:V)(r:Option V):Prop:=
 (∃kvs k,Rd H a (.dK kvs)/\y=kV k/\r=wW kvs k)\/∃kvs k b,Rd H a (.dT kvs)/\y=.ref b/\H b=some (.tup (k.map kV))/\r=wW kvs k
def aD0(H:Hp)(a:Addr)(y v:V)(H':Hp):Prop:=
 (∃kvs k,H a=some (.dK kvs)/\y=kV k/\kvs.length<sizeLine/\H'=upd H a (.dK (putK kvs k v)))\/
 ∃kvs k b,H a=some (.dT kvs)/\y=.ref b/\H b=some (.tup (k.map kV))/\kvs.length<sizeLine/\H'=upd H a (.dT (putK kvs k v))
theorem V6.k{H:Hp}{a:Addr}{kvs:List (Key×V)}{k:Key}(e:H a=some (.dK kvs)):V6 H a (kV k) (wW kvs k):=.inl ⟨kvs,k,.inl e,rfl,rfl⟩
theorem V6.t{H:Hp}{a b:Addr}{kvs:List (List Key×V)}{k:List Key}(e:H a=some (.dT kvs))(eb:H b=some (.tup (k.map kV))):V6 H a (.ref b) (wW kvs k):=.inr ⟨kvs,k,b,.inl e,rfl,eb,rfl⟩
theorem aD0.k{H:Hp}{a:Addr}{kvs:List (Key×V)}{k:Key}{v:V}(e:H a=some (.dK kvs))(hl:kvs.length<sizeLine):aD0 H a (kV k) v (upd H a (.dK (putK kvs k v))):=.inl ⟨kvs,k,e,rfl,hl,rfl⟩
theorem aD0.t{H:Hp}{a b:Addr}{kvs:List (List Key×V)}{k:List Key}{v:V}(e:H a=some (.dT kvs))(eb:H b=some (.tup (k.map kV)))(hl:kvs.length<sizeLine) :
  aD0 H a (.ref b) v (upd H a (.dT (putK kvs k v))):=.inr ⟨kvs,k,b,e,rfl,eb,hl,rfl⟩
section
variable {X:Cx} {pins:List (Addr×Obj)} {σ:St} {H:Hp} {s:Shared} {a:Addr} {y v:V} {u r:Value} {o:Option V} {A:Around} {E:Value->Shared->Prop}
theorem Inv.big(I:Inv X pins σ H s):sysModules<s.heap.objs.size:=by
 have h:mainGlobals<s.heap.objs.size:=(I.mod.glob.keeps I.bk).lt;exact Nat.lt_trans (by decide) h
theorem V7{Q:Value->Shared->Prop}(hu:A.units+1<cLine)(I:Inv X pins σ H s)(g:V6 H a y (some v))(ry:RelV y u)(h:∀w' s',Inv X pins σ H s'->RelV v w'->Q w' s') :
  wpAny (model X.prog X.w) A (getItem (.ref a) u) Q E s:=by
 rcases g with ⟨kvs,k,e,ey,l⟩|⟨kvs,k,b,e,ey,eb,l⟩
 ·subst ey;obtain⟨z,hd,vs,rel,dd⟩:=V4 I.hok e;obtain⟨w',hw,rw'⟩:=aAk.some_of (v:=v) (o:=valueAt vs k) (by rw[l];exact rel.val k);exact wpAny_getItem_of (V3 ry) dd.mapOf hw (h w' _ (I.tok _) rw')
 ·subst ey;cases (show u=Value.ref b from ry);obtain⟨z,hd,xs,rel,dd⟩:=V5 I.hok e;obtain⟨w',hw,rw'⟩:=aAk.some_of (v:=v) (o:=(atKey xs k).map (·.2)) (by rw[l];exact rel.val k);obtain⟨p,hp,hp2⟩:=Option.map_eq_some_iff.mp hw;refine wpAny_getItem_heap (tupleKind_room_in1 hu) (FZ I.hok eb) dd hp ?_;rw[hp2];exact h w' _ (I.tok _) rw'
theorem aMe{Q:Value->Shared->Prop}(hu:A.units+1<cLine)(I:Inv X pins σ H s)(g:V6 H a y o)(ry:RelV y u)(h:∀s',Inv X pins σ H s'->Q (.bool o.isSome) s') :
  wpAny (model X.prog X.w) A (compareOp .In u (.ref a)) Q E s:=by
 rcases g with ⟨kvs,k,e,ey,l⟩|⟨kvs,k,b,e,ey,eb,l⟩
 ·subst ey;obtain⟨z,hd,vs,rel,dd⟩:=V4 I.hok e;refine wpAny_in_of (V3 ry) hd dd.mapOf ?_;rw[<-(rel.val k).mG,<-l];exact h _ (I.tok _)
 ·subst ey;cases (show u=Value.ref b from ry);obtain⟨z,hd,xs,rel,dd⟩:=V5 I.hok e;refine wpAny_in_heap (tupleKind_room_in1 hu) (FZ I.hok eb) hd dd ?_;have q:=(rel.val k).mG;rw[Option.isSome_map] at q;rw[<-q,<-l];exact h _ (I.tok _)
theorem aEp{Q:Value->Shared->Prop}(hu:A.units+1<cLine)(I:Inv X pins σ H s)(g:V6 H a y o)(ry:RelV y u)(h:∀s',Inv X pins σ H s'->Q (.bool (!o.isSome)) s') :
  wpAny (model X.prog X.w) A (compareOp .NotIn u (.ref a)) Q E s:=by
 rcases g with ⟨kvs,k,e,ey,l⟩|⟨kvs,k,b,e,ey,eb,l⟩
 ·subst ey;obtain⟨z,hd,vs,rel,dd⟩:=V4 I.hok e;refine wpAny_notIn_of (V3 ry) hd dd.mapOf ?_;rw[<-(rel.val k).mG,<-l];exact h _ (I.tok _)
 ·subst ey;cases (show u=Value.ref b from ry);obtain⟨z,hd,xs,rel,dd⟩:=V5 I.hok e;refine wpAny_notIn_heap (tupleKind_room_in1 hu) (FZ I.hok eb) hd dd ?_;have q:=(rel.val k).mG;rw[Option.isSome_map] at q;rw[<-q,<-l];exact h _ (I.tok _)
theorem V8{h':Heap}{t':Nat}{ob:HO}(I:Inv X pins σ H s)(mu:Mut (H a))(hs:Heap.SameBut a s.heap h')(he:∃q,h'.get? a=some q)(new:jG X.prog X.w (upd H a ob) h' a ob) :
  Inv X pins σ (upd H a ob) {s with heap:=h',toks:=t'}:=
 I.write (x:=a) (e:=a) mu (.inl rfl) (λb q hb z=>(hs.2 b hb).trans z) he new
theorem aHy{P:Program}{w:World}{H':Hp}{h':Heap}{kvs:List (Key×V)}{vs:List (Key×Value)}(z:kvs.length<=sizeLine)(hd:(a==sysModules)=false)(rel:KV kvs vs)(dd:h'.DictOf (dR P w) a vs) :
  jG P w H' h' a (.dK kvs):=⟨z,hd,vs,rel,dd⟩
theorem F_{H':Hp}{Q:Unit->Shared->Prop}(hu:A.units+1<cLine)(I:Inv X pins σ H s)(g:aD0 H a y v H')(ry:RelV y u)(rv:RelV v r)(h:∀s',Inv X pins σ H' s'->Q () s') :
  wpAny (model X.prog X.w) A (setItem (.ref a) u r) Q E s:=by
 rcases g with ⟨kvs,k,e,ey,l,eH⟩|⟨kvs,k,b,e,ey,eb,l,eH⟩
 ·subst ey eH;obtain⟨z,hd,vs,rel,dd⟩:=S5 I.hok e;have hz:vs.length<=sizeLine:=by rw[<-rel.length];exact z
  have hl:(putK kvs k v).length<=sizeLine:=by have:=uZ kvs k v;lia
  refine wpAny_setItem_pairs (hsz:=hz) (V3 ry) dd λh' dd' hs=>h _ ?_
  have he:∃q,h'.get? a=some q:=let ⟨q,_,_,hq,_⟩:=dd';⟨q,hq⟩
  exact V8 I (by rw[e];exact True.intro) hs he (aHy hl hd (rel.put k rv) dd')
 ·subst ey eH;cases (show u=Value.ref b from ry);obtain⟨z,hd,xs,rel,dd⟩:=aB3 I.hok e;have hz:xs.length<=sizeLine:=by rw[<-Paired.length rel];exact z
  have hl:(putK kvs k v).length<=sizeLine:=by have:=uZ kvs k v;lia
  refine wpAny_setItem_heap (hsz:=hz) (tupleKind_room_in1 hu) (FZ I.hok eb) dd λh' dd' hs=>h _ ?_
  obtain⟨q,es,ep,hq,h2,h3,h4,_,h5⟩:=dd';refine V8 I (by rw[e];exact True.intro) hs ⟨q,hq⟩ ⟨hl,hd,_,(rel.put k eb rv).keeps λc ys ec=>?_,q,es,ep,hq,h2,h3,h4,h5⟩;rw[bL (aEa ec e (λz=>nomatch z))];exact ec
end
theorem KQ{X:Cx}{pins:List (Addr×Obj)}{σ:St}{H:Hp}{s:Shared}{a:Addr}{y:V}{o:Option V}(I:Inv X pins σ H s)(g:V6 H a y o):s.TypeIs (.ref a) "dict":=by
 rcases g with ⟨kvs,k,e,_,_⟩|⟨kvs,k,b,e,_,_,_⟩
 ·obtain⟨_,_,vs,_,dd⟩:=V4 I.hok e;exact dd.typeIs
 ·obtain⟨_,_,xs,_,dd⟩:=V5 I.hok e;exact dd.typeIs
theorem aB4{P:Program}{w:World}{H:Hp}(h:Heap)(hb:sysModules<h.objs.size):jG P w H (h.push {cls:=.type "dict",data:=.dict #[]}) h.objs.size (.dK []):=
 ⟨Nat.zero_le _,beq_eq_false_iff_ne.mpr (Ne.symm (Nat.ne_of_lt hb)),[],.nil,Heap.DictOf.new h⟩
theorem aB5{P:Program}{w:World}{H:Hp}(h:Heap)(hb:sysModules<h.objs.size):jG P w H (h.push {cls:=.type "dict",data:=.dict #[]}) h.objs.size (.dT []):=
 ⟨Nat.zero_le _,beq_eq_false_iff_ne.mpr (Ne.symm (Nat.ne_of_lt hb)),[],.nil,_,#[],0,Heap.get?_push_size _ rfl,⟨rfl,rfl,rfl⟩,rfl,rfl,List.nodup_nil⟩
def aHz:TE:=λ_ H Q=>∀p,H p=none->Q (.ref p) (upd H p (.dK []))
def aI0:TE:=λ_ H Q=>∀p,H p=none->Q (.ref p) (upd H p (.dT []))
section
variable {X:Cx} {pos:Pos}
theorem aB6:PE X (.Dict [] [] pos) aHz:=λpins s σ H Q I h=>
 wpAny_Dict_empty ⟨.ref s.heap.objs.size,_,I.laid (a:=s.heap.objs.size) (o:=.dK []) (t':=s.toks) (λ_ _ q=>Heap.get?_push_of_some _ q) (Nat.le_refl _) (aB4 s.heap I.big),rfl,h _ (I.hok.fresh (Nat.le_refl _))⟩
theorem aB7:PE X (.Dict [] [] pos) aI0:=λpins s σ H Q I h=>
 wpAny_Dict_empty ⟨.ref s.heap.objs.size,_,I.laid (a:=s.heap.objs.size) (o:=.dT []) (t':=s.toks) (λ_ _ q=>Heap.get?_push_of_some _ q) (Nat.le_refl _) (aB5 s.heap I.big),rfl,h _ (I.hok.fresh (Nat.le_refl _))⟩
end
end L2
namespace Att
open PySem PySem.W PySem.Calls PyProof.Rows
theorem u0{P:Params}{h:Heap}:∀(ns:List Int)(vs:List Value),WellAll P h vs (ns.map WData.int)->IntsAre vs ns:=by
 intro ns;induction ns with
 |nil=>
  intro vs w;rw[List.map_nil] at w;cases w;exact .nil
 |cons n ns ih=>
  intro vs w;rw[List.map_cons] at w;cases w with
  |cons a b=>
   cases a;exact .cons _ _ (ih _ b)
theorem V9{l:OpenLaw}{n:Nat}(hn:l.most=some n){P:Params}{h:Heap}{args:List WData}{vals:List Value}
 (hpre:l.row.toRowW.claim.pre args=true)(hwl:WellAll P h vals args) :
  ∃a vs ns,vals=[Value.ref a]/\args=[WData.list (ns.map WData.int)]/\h.get? a=some {cls:=.type "list",data:=.seq vs.toArray}/\IntsAre vs ns/\ns.length<=n:=by
 have hsh:WShape.hasAll [] args [.list .int]=true:=(pre_splitW hpre).1;have hc:l.pre.holds [] {args:=args}=true:=(pre_splitW hpre).2;obtain⟨d,r,rfl,h1,h2⟩:=hasAllW_cons hsh;obtain rfl:=hasAllW_nil h2;obtain⟨xs,rfl,h3⟩:=hasW_list h1;obtain⟨ns,rfl⟩:=items_int h3;have hlen:ns.length<=n:=by
  unfold OpenLaw.pre at hc;have h4:(WTm.not (.lt (.lit (.int (n:Int))) (.len (.arg 0)))).holds [] {args:=[.list (ns.map .int)]}=true:=by
   have h4:=(holds_andW hc).1;rw[hn] at h4;exact h4
  have h5:=condW_of h4 (w_not (w_lt w_lit (w_len_list (w_arg rfl))));rw[List.length_map] at h5;refine Nat.le_of_not_lt λq=>?_
  have q':(n:Int)<((ns.length:Nat):Int):=by lia
  first
   | (rw[decide_eq_true q'] at h5;exact absurd h5 (by decide))
   | (simp at h5;lia)
 cases hwl with
 |cons w1 w2=>
  cases w2;cases w1 with
  |list ho hall=>exact⟨_,_,ns,rfl,rfl,ho,u0 ns _ hall,hlen⟩
theorem V_(l:OpenLaw)(args:List WData):l.row.toRowW.claim.post args (.bool true) args=true:=
 postW_of (r:=l.row.toRowW) (X:=(true==true))
  (show WShape.has [] (.bool true) .bool=true by first|rfl|decide|simp[WShape.has,WShape.arms,WShape.armsAll])
  (show(WTm.eq .res (.lit (.bool true))).value [] {args:=args,res:=some (.bool true),after:=args}=some (.bool (true==true)) from w_eq_bool (w_res rfl) w_lit) rfl
theorem KR{l:OpenLaw}{n:Nat}{q:Program}{loose:List Str}{XP:(Str->Option Value)->Heap->Prop}{YP:World->Heap->Prop}{d:DefRec}
 (hn:l.most=some n)(hdf:d.params.defaults=[])
 (call:∀(w:World) (s₀ s₁:Shared) (mg mb:Str->Option Value) (fa:Addr) (o:Obj) (pm cd doc:Value) (a:Addr) (vs:List Value) (ns:List Int),
   Ground q loose [] XP w s₀ mg mb s₁.heap->YP w s₁.heap->
   s₁.heap.get? fa=some o->o.data=.func (docDef d.name d.params d.body d.scope pm cd doc)->s₁.heap.CodeRec cd d.name->mg d.name=some (.ref fa)->
   s₁.heap.get? a=some {cls:=.type "list",data:=.seq vs.toArray}->IntsAre vs ns->ns.length<=n->s₁.gens=#[]->
   codeAny (model l.prog w) callerA (.call (.ref fa) ⟨[.ref a],[]⟩) (λr s'=>r=.ok (.ret (.bool true))/\OldK s₁.heap s'.heap/\s'.os=s₁.os/\AllBare s'.gens) s₁) :
  WalkO q loose XP YP l.row.toRowW d [] (λf vs=>PySem.call f vs):=by
 intro w s₀ s₁ mg mb G Y fa o pm cd doc dV kV ho hd hcd hD hmg hg args vals as hpre hlay hrd hwl hlo;obtain rfl:dV=.none:=Dflts.none hD hdf;obtain rfl:kV=.none:=Dflts.noKw hD;obtain⟨a,vs,ns,rfl,rfl,hobj,hints,hlen⟩:=V9 hn hpre hwl;refine enter_call (codeAny_mono (call w s₀ s₁ mg mb fa o pm cd doc a vs ns G Y ho (fd_plain hd) hcd hmg hobj hints hlen hg) λr s' hq=>?_);obtain⟨rfl,h2,h3,h4⟩:=hq;exact⟨.inl ⟨.bool true,.bool true,[],rfl,λ_=>rfl,.bool true,V_ l _,λ_=>⟨List.Pairwise.nil,λ_ hm=>(nomatch hm)⟩⟩,h2,h3,h4⟩
end Att
namespace L2
open PySem PySem.Spec PyProof.Rows
theorem GC:∀{vs:List Value}{ns:List Int},IntsAre vs ns->Vals (ns.map V.int) vs
 |_,_,.nil=>.nil
 |_,_,.cons n t h=>.cons ⟨t,rfl⟩ (GC h)
def Only(H:Hp):Prop:=∀b,H b=none\/∃o xs,H b=some (.frz o (.lst xs))
theorem aB8{P:Program}{w:World}{K:PySem.W.Frag}{mg mb:Str->Option Value}{CX:CXT}{k:Nat}{fa a:Addr}{fd:FuncData}{x:Str}{sp:Sp}{s₁:Shared}{vs:List Value}{ns:List Int}
 (KX:K.In s₁.heap)(hns:s₁.heap.Ns mainGlobals mg)(hb:s₁.heap.Ns builtinsNs mb)(hbb:∀x:Str,x ≠ "__name__"->mb x=bootBuiltins x)(hlim:s₁.heap.NoLimit)(hg:s₁.gens=#[])
 (ha:s₁.heap.get? a=some {cls:=.type "list",data:=.seq vs.toArray})(hi:IntsAre vs ns)(hl:ns.length<=sizeLine)(hr:t6 k callerA)
 (F:∀base:Heap,K.In base->base.Ns mainGlobals mg->SN P w K mg base CX k fa fd [x] sp)(hbind:∀(s:Shared) (u:Value),BindsTo s fd ⟨[u],[]⟩ [(x,u)])
 (hsp:∀H:Hp,Only H->SqL K H a (ns.map V.int)->sp [.ref a] H (λv _=>v=.bl true) λ_ _ _=>False)
 (hCX:∀H e s',CX [] H s₁ (λ_ _ _=>False) e s'->False) :
  codeAny (model P w) callerA (.call (.ref fa) ⟨[.ref a],[]⟩) (λr s'=>r=.ok (.ret (.bool true))/\OldK s₁.heap s'.heap/\s'.os=s₁.os/\AllBare s'.gens) s₁:=by
 have rv:=GC hi;have lenV:=hi.length
 -- from an abstract heap in which nothing but the script may be tracked
 have core:∀H:Hp,Only H->SqL K H a (ns.map V.int)->HOk P w H s₁.heap->(∀b,H b≠none->b=a)->(H a≠none->K.lookup a=none)->
   codeAny (model P w) callerA (.call (.ref fa) ⟨[.ref a],[]⟩) (λr s'=>r=.ok (.ret (.bool true))/\OldK s₁.heap s'.heap/\s'.os=s₁.os/\AllBare s'.gens) s₁:=by
  intro H hO hS hok hA hK;have base_of:∀{b:Addr}{o:Obj},s₁.heap.get? b=some o->H b=none->(aAq s₁.heap H).get? b=some o:=λe n=>aAr e n
  have noA:∀{b:Addr}{o:Obj}{es:Array DictEntry}{ep:Nat},s₁.heap.get? b=some o->o.data=.dict es ep->H b=none:=λ{b o es ep} e d=>by
   cases q:H b with
   |none=>rfl
   |some u=>
    have e':b=a:=hA b (by rw[q];simp);subst e';rw[ha] at e;cases e;have d':Data.seq vs.toArray _=Data.dict es ep:=d;cases d'
  have nsK:∀{b:Addr}{m:Str->Option Value},s₁.heap.Ns b m->(aAq s₁.heap H).Ns b m:=λ{b m} ⟨o,es,ep,e,d,r⟩=>⟨o,es,ep,base_of e (noA e d),d,r⟩
  have hKb:K.In (aAq s₁.heap H):=λb o e=>base_of (KX b o e) (by
   cases q:H b with
   |none=>rfl
   |some u=>
    have e':b=a:=hA b (by rw[q];simp);subst e';rw[hK (by rw[q];simp)] at e;cases e)
  have hM:Mod K mg (aAq s₁.heap H):=⟨hKb,nsK hns,⟨mb,nsK hb,hbb⟩,let ⟨mc,h1,h2⟩:=hlim;⟨mc,nsK h1,h2⟩⟩
  have e0:aKd P w K mg (aAq s₁.heap H) callerA [] s₁ H:=⟨rfl,hM,λb o e=>aEb e,Nat.le_of_eq (U_ _ _),trivial,λb hb=>absurd (show b∈([]:List Addr) from hb) (by simp),hok,.of_eq hg⟩
  refine codeAny_mono ((F _ hKb (nsK hns)).run callerA [] s₁ H ⟨[.ref a],[]⟩ [.ref a] [.ref a] _ _ hr e0 (hbind s₁ (.ref a)) (.cons rfl .nil) (hsp H hO hS)) λr s' h=>?_
  cases r with
  |error e=>exact(hCX H e s' h).elim
  |ok fl=>
   cases fl with
   |next=>exact False.elim h
   |brk=>exact False.elim h
   |cont=>exact False.elim h
   |ret u=>
    obtain⟨v,H',os,bare,un,hok',r',q⟩:=h;have q':v=.bl true:=q;subst q';obtain rfl:u=Value.bool true:=r';refine⟨rfl,OldK.of_keep λb o e=>?_,os,bare⟩;cases q:H b with
    |none=>exact un.keep b o e q (by intro z;exact absurd (show b∈([]:List Addr) from z) (by simp)) (by simp)
    |some u=>
     rcases hO b with z|⟨ob,xs,z⟩
     ·rw[q] at z;cases z
     ·have z2:=un.frzs b ob _ z;obtain⟨e1,_⟩:=hok b _ z;obtain⟨e2,_⟩:=hok' b _ z2;rw[e] at e1;cases e1;exact e2
 cases hk:K.lookup a with
 |some o=>
  -- the script is one of the module's own objects
  have e:=KX a o hk;rw[ha] at e;cases e;refine core (λ_=>none) (λ_=>.inl rfl) (.inr ⟨_,vs.toArray,_,hk,rfl,rfl,rfl,by rw[List.size_toArray,lenV];exact hl,by simpa using rv⟩) (λb u z=>by have z':(none:Option HO)=some u:=z;cases z') (λb z=>absurd rfl z) λz=>absurd rfl z
 |none=>
  refine core (λb=>if b=a then some (.frz {cls:=.type "list",data:=.seq vs.toArray} (.lst (ns.map V.int))) else none) (λb=>?_) (.inl (.inr ⟨{cls:=.type "list",data:=.seq vs.toArray},if_pos rfl⟩)) (λb u z=>?_) (λb z=>?_) λ_=>hk
  ·by_cases hb:b=a
   ·exact .inr ⟨_,_,if_pos hb⟩
   ·exact .inl (if_neg hb)
  ·by_cases hb:b=a
   ·have z':=(if_pos hb).symm.trans z;cases z';subst hb;exact⟨ha,by rw[List.length_map];exact hl,vs,_,rv,ha⟩
   ·have z':=(if_neg hb).symm.trans z;cases z'
  ·by_cases hb:b=a
   ·exact hb
   ·exact absurd (if_neg hb) z
theorem aEq{l:PySem.W.OpenLaw}{n k:Nat}{q:Program}{loose:List Str}{XP:(Str->Option Value)->Heap->Prop}{YP:World->Heap->Prop}{d:DefRec}{K:Params->PySem.W.Frag}{CX:World->CXT}{sp:World->Sp}{x:Str}
 (hn:l.most=some n)(hn2:n<=sizeLine)(hdf:d.params.defaults=[])(hr:t6 k callerA)
 (hY:∀(w:World) (h:Heap),YP w h->(K w.params).In h)
 (F:∀(w:World) (mg:Str->Option Value) (fa:Addr) (h:Heap),(K w.params).In h->h.Ns mainGlobals mg->mg d.name=some (.ref fa)->
   ∃fd:FuncData,(∀(s:Shared) (u:Value),BindsTo s fd ⟨[u],[]⟩ [(x,u)])/\
    ∀base:Heap,(K w.params).In base->base.Ns mainGlobals mg->SN l.prog w (K w.params) mg base (CX w) k fa fd [x] (sp w))
 (hsp:∀(w:World) (H:Hp) (a:Addr) (ns:List Int),ns.length<=n->Only H->SqL (K w.params) H a (ns.map V.int)->sp w [.ref a] H (λv _=>v=.bl true) λ_ _ _=>False)
 (hCX:∀(w:World) (H:Hp) (s:Shared) (e:Value) (s':Shared),CX w [] H s (λ_ _ _=>False) e s'->False) :
  PySem.W.WalkO q loose XP YP l.row.toRowW d [] (λf vs=>PySem.call f vs):=by
 refine Att.KR hn hdf λw s₀ s₁ mg mb fa o pm cd doc a vs ns G Y ho hd hcd hmg hobj hints hlen hg=>?_
 have KX:=hY w _ Y;obtain⟨fd,hb,hF⟩:=F w mg fa _ KX G.T.g hmg;exact aB8 KX G.T.g G.T.b G.T.builtins G.T.nolimit hg hobj hints (Nat.le_trans hlen hn2) hr hF hb (λH hO hS=>hsp w H a ns hlen hO hS) λH e s'=>hCX w H s₁ e s'
noncomputable def oX(s:Stmt):Arguments:=match s with
 |.FunctionDef _ a _ _ _ _ _ _ _ _=>a
 |_=>{posonlyargs:=[],args:=[],vararg:=none,kwonlyargs:=[],kw_defaults:=[],kwarg:=none,defaults:=[]}
noncomputable def i_(s:Stmt):List Stmt:=match s with
 |.FunctionDef _ _ b _ _ _ _ _ _ _=>b
 |_=>[]
noncomputable def aM(s:Stmt):Scope:=match s with
 |.FunctionDef _ _ _ _ _ _ sc _ _ _=>sc
 |_=>{kind:=.function,names:=[],isGenerator:=false,isCoroutine:=false}
noncomputable abbrev CX0:CXT:=λ_ _ _ _ _ _=>False
noncomputable abbrev E0:XK:=λ_ _ _=>False
theorem aB9{X:Cx}:VP CX0 X E0:=λ_ _ _ _ _ _ _ h=>h.elim
structure Fun(K:PySem.W.Frag)(x qual:Str)(st:Stmt)(f:Addr)(fd:FuncData):Prop where
 ex:∃(oc:Value)(od:Option Addr)(kV doc pm:Value)(an:Option Addr)(cdv ct:Value)(osl:Array (Option Value)),
  fd=PySem.W.fnOf x qual (oX st) (i_ st) (aM st) .none kV doc pm an cdv ct/\K.lookup f=some ⟨oc,od,.func fd,osl⟩/\PySem.W.codeIn K cdv qual=true
 kp:PySem.W.keepIn K (.ref f)=true
section
variable {P:Program} {w:World} {K:PySem.W.Frag} {mg:Str->Option Value} {base:Heap}
theorem Fun.ok{x qual:Str}{st:Stmt}{f:Addr}{fd:FuncData}{N ps:List Str}{k:Nat}{sp:Sp}(F:Fun K x qual st f fd)(S:bQ N ps (aM st))(len:∀vs H Q E,sp vs H Q E->vs.length=ps.length)
 (hbody:∀(cdv:Value) (A:Around) (outer:List Env) (s:Shared) (H:Hp) (vs:List V) (Q:VK) (E:XK),t6 k (A.deeper (envOfC qual (aM st) s.heap.objs.size f cdv))->sp vs H Q E->
   ∃t,PSs (aAz CX0 P w K mg base N qual (aM st) f cdv A outer s H E).nox (i_ st) t/\t {nx:=λ_ H'=>Q .non H',rt:=Q} (start N vs) H):SN P w K mg base CX0 (k+1) f fd ps sp:=by
 obtain⟨oc,od,kV,doc,pm,an,cdv,ct,osl,rfl,lk,hcd⟩:=F.ex;refine aL1 lk hcd S len λA outer s H vs Q E hr hsp=>?_
 obtain⟨t,h,q⟩:=hbody cdv A outer s H vs Q E hr hsp;exact⟨t,h.nox,q⟩
theorem Fun.binds{x qual:Str}{st:Stmt}{f:Addr}{fd:FuncData}{ps:List Str}(F:Fun K x qual st f fd)
 (h:∀(kV doc pm:Value) (an:Option Addr) (cdv ct:Value) (us:List Value),us.length=ps.length->bindArgs (PySem.W.fnOf x qual (oX st) (i_ st) (aM st) .none kV doc pm an cdv ct) ⟨us,[]⟩=pure (ps.zip us)):Binds K fd ps []:=by
 obtain⟨oc,od,kV,doc,pm,an,cdv,ct,osl,rfl,lk,hcd⟩:=F.ex;exact .all (h kV doc pm an cdv ct)
theorem aD1{x qual:Str}{st:Stmt}{f:Addr}{oc:Value}{od an:Option Addr}{osl:Array (Option Value)}{kV doc pm cdv ct:Value}(l:K.lookup f=some ⟨oc,od,.func (PySem.W.fnOf x qual (oX st) (i_ st) (aM st) .none kV doc pm an cdv ct),osl⟩)
 (c:PySem.W.codeIn K cdv qual=true)(k:PySem.W.keepIn K (.ref f)=true):Fun K x qual st f (PySem.W.fnOf x qual (oX st) (i_ st) (aM st) .none kV doc pm an cdv ct):=⟨⟨oc,od,kV,doc,pm,an,cdv,ct,osl,rfl,l,c⟩,k⟩
end
def dG(H H':Hp):Prop:=∀b o,H b=some o->H' b=some o
theorem dG.refl(H:Hp):dG H H:=λ_ _ h=>h
theorem dG.trans{H H1 H2:Hp}(a:dG H H1)(b:dG H1 H2):dG H H2:=λc o h=>b c o (a c o h)
theorem dG.free{H H':Hp}(e:dG H H'){l:Addr}(h:H' l=Option.none):H l=Option.none:=by
 cases q:H l with
 |none=>rfl
 |some o=>
  rw[e l o q] at h;cases h
section
variable {κ:Type} [DecidableEq κ]
theorem aBa{kvs:List (κ×V)}{k:κ}(h:wW kvs k=none):¬k∈kvs.map (·.1):=by
 intro m;obtain⟨p,hp,e⟩:=List.mem_map.mp m;have q:(kvs.any λkv=>decide (kv.1=k))=true:=List.any_eq_true.mpr ⟨p,hp,decide_eq_true e⟩;rw[qY,h] at q;exact absurd q (by simp)
theorem WD:∀{l:List κ}{k:κ},l.Nodup->¬k∈l->(l++[k]).Nodup
 |[],k,_,_=>by simp
 |a::r,k,h,hk=>by
  obtain⟨h1,h2⟩:=List.nodup_cons.mp h;show(a::(r++[k])).Nodup;refine List.nodup_cons.mpr ⟨λm=>?_,WD h2 λm=>hk (List.mem_cons.mpr (Or.inr m))⟩;rcases List.mem_append.mp m with q|q
  ·exact h1 q
  ·exact hk (List.mem_cons.mpr (Or.inl (List.mem_singleton.mp q).symm))
theorem aEr{kvs:List (κ×V)}{k:κ}(v:V)(hn:(kvs.map (·.1)).Nodup)(h:wW kvs k=none):((putK kvs k v).map (·.1)).Nodup:=by
 rw[aB2 v h,List.map_append];exact WD hn (aBa h)
end
end L2
namespace TS
open PySem PyProof.Rows
noncomputable def WF:Bool->Keyed->Array Keyed->Nat->Nat->Nat->StateT SortSt Sem (Option Nat):=sortPriv% PySem.Builtin.gallop
noncomputable def yL:Nat->StateT SortSt Sem Unit:=sortPriv% PySem.Builtin.setMinGallop
noncomputable def aBb:Array Keyed->Array Keyed->StateT SortSt Sem (Array Keyed):=sortPriv% PySem.Builtin.mergeLo
noncomputable def aBc:Array Keyed->Array Keyed->StateT SortSt Sem (Array Keyed):=sortPriv% PySem.Builtin.mergeHi
noncomputable def KY(left:Bool)(key:Keyed)(arr:Array Keyed)(base i:Nat):StateT SortSt Sem (Option Bool):=
 elem' arr (base+i) >>= λx=>if left=true then lt' x key else lt' key x >>= λr=>pure (Option.map (λb=>!b) r)
theorem nT{prog:Program}{w:World}{A:Around}{E:Value->Shared->Prop}{s:Shared}{g:Nat}{st:SortSt}{Q:Unit->SortSt->Prop}
 (h:Q () (SortSt.mk' (kindOf st) (arrOf st) (pendingOf st) g (failedOf st))):wpS (model prog w) A E s (yL g) Q st:=wpS_modify h
section
variable {prog:Program} {w:World} {A:Around} {E:Value->Shared->Prop} {s:Shared}
theorem S6{left:Bool}{key:Keyed}{arr:Array Keyed}{base n hint:Nat}{st:SortSt}{Q:Option Nat->SortSt->Prop}(p:Nat->Bool)
 (hp:∀i (R:Option Bool->SortSt->Prop),i<n->R (some (p i)) st->wpS (model prog w) A E s (KY left key arr base i) R st)
 (hm:∀i j,i<=j->j<n->p j=true->p i=true)(hh:hint<n)
 (h:∀k,k<=n->(∀i,i<k->p i=true)->(∀i,k<=i->i<n->p i=false)->Q (some k) st) :
  wpS (model prog w) A E s (WF left key arr base n hint) Q st:=by
 with_unfolding_all refine wpS_bind (hp _ _ hh ?_)
 dsimp only;cases hr:p hint with
 |true=>
  simp only[if_true];refine wpS_bind (wpS_mono (wpS_forRange
   (I:=λx c st'=>st'=st/\∃l o,c=(none,l,o)/\l<o/\x+1<=o/\hint+l<n/\p (hint+l)=true)
   (Q:=λc st'=>st'=st/\∃l o,c=(none,l,o)/\l<o/\hint+l<n/\p (hint+l)=true/\(n-hint<=o\/(hint+o<n/\p (hint+o)=false))) ?step ?fin ?init) ?post)
  case init=>exact⟨rfl,0,1,rfl,by lia,by lia,hh,hr⟩
  case fin=>
   rintro c st' ⟨rfl,l,o,rfl,a1,a2,a3,a4⟩;exact⟨rfl,l,o,rfl,a1,a3,a4,.inl (by lia)⟩
  case step=>
   rintro x c st' _ hx ⟨rfl,l,o,rfl,a1,a2,a3,a4⟩;dsimp only;by_cases hge:o >= n-hint
   ·rw[if_pos hge];exact wpS_pure ⟨rfl,l,o,rfl,a1,a3,a4,.inl hge⟩
   ·rw[if_neg hge];refine wpS_bind (hp _ _ (by lia) ?_);dsimp only;cases hb:p (hint+o) with
    |true=>
     simp only[Bool.not_true,Bool.false_eq_true,if_false];exact wpS_pure ⟨rfl,_,_,rfl,by lia,by lia,by lia,hb⟩
    |false=>
     simp only[Bool.not_false,if_true];exact wpS_pure ⟨rfl,_,_,rfl,a1,a3,a4,.inr ⟨by lia,hb⟩⟩
  case post=>
   rintro c st₀ ⟨rfl,l,o,rfl,a1,a3,a4,a5⟩;dsimp only;have H1:∀i,i<hint+l+1->p i=true:=λi hi=>hm i (hint+l) (by lia) a3 a4
   have H2:∀i,hint+min o (n-hint)<=i->i<n->p i=false:=by
    intro i i1 i2;rcases a5 with a5|⟨a5,a6⟩
    ·lia
    ·cases hq:p i with
     |false=>rfl
     |true=>rw[hm (hint+o) i (by lia) i2 hq] at a6;cases a6
   refine wpS_bind (wpS_mono (wpS_forRange
    (I:=λx c st'=>st'=st₀/\∃l r,c=(none,l,r)/\l<=r/\r<=n/\r-l<=n-x/\(∀i,i<l->p i=true)/\(∀i,r<=i->i<n->p i=false))
    (Q:=λc st'=>st'=st₀/\∃l r,c=(none,l,r)/\l=r/\r<=n/\(∀i,i<l->p i=true)/\(∀i,r<=i->i<n->p i=false)) ?step2 ?fin2 ?init2) ?post2)
   case init2=>exact⟨rfl,_,_,rfl,by lia,by lia,by lia,H1,H2⟩
   case fin2=>
    rintro c st' ⟨rfl,l,r,rfl,a1,a2,a3,a4,a5⟩;exact⟨rfl,l,r,rfl,by lia,a2,a4,a5⟩
   case step2=>
    rintro x c st' _ hx ⟨rfl,l,r,rfl,a1,a2,a3,a4,a5⟩;dsimp only;by_cases hge:l >= r
    ·rw[if_pos hge];exact wpS_pure ⟨rfl,l,r,rfl,by lia,a2,a4,a5⟩
    ·rw[if_neg hge];refine wpS_bind (hp _ _ (by lia) ?_);dsimp only;cases hb:p (l+(r-l) / 2) with
     |true=>
      simp only[if_true];exact wpS_pure ⟨rfl,_,_,rfl,by lia,a2,by lia,λi hi=>hm i _ (by lia) (by lia) hb,a5⟩
     |false=>
      simp only[Bool.false_eq_true,if_false];refine wpS_pure ⟨rfl,_,_,rfl,by lia,by lia,by lia,a4,λi i1 i2=>?_⟩;cases hq:p i with
      |false=>rfl
      |true=>rw[hm _ i i1 i2 hq] at hb;cases hb
   case post2=>
    rintro c st' ⟨rfl,l,r,rfl,rfl,a2,a4,a5⟩;exact wpS_pure (h l a2 a4 a5)
 |false=>
  simp only[Bool.false_eq_true,if_false];refine wpS_bind (wpS_mono (wpS_forRange
   (I:=λx c st'=>st'=st/\∃l o,c=(none,l,o)/\l<o/\x+1<=o/\l<=hint/\p (hint-l)=false)
   (Q:=λc st'=>st'=st/\∃l o,c=(none,l,o)/\l<o/\l<=hint/\p (hint-l)=false/\(hint+1<=o\/(o<=hint/\p (hint-o)=true))) ?step ?fin ?init) ?post)
  case init=>exact⟨rfl,0,1,rfl,by lia,by lia,by lia,hr⟩
  case fin=>
   rintro c st' ⟨rfl,l,o,rfl,a1,a2,a3,a4⟩;exact⟨rfl,l,o,rfl,a1,a3,a4,.inl (by lia)⟩
  case step=>
   rintro x c st' _ hx ⟨rfl,l,o,rfl,a1,a2,a3,a4⟩;dsimp only;by_cases hge:o >= hint+1
   ·rw[if_pos hge];exact wpS_pure ⟨rfl,l,o,rfl,a1,a3,a4,.inl hge⟩
   ·rw[if_neg hge];refine wpS_bind (hp _ _ (by lia) ?_);dsimp only;cases hb:p (hint-o) with
    |false=>
     simp only[Bool.false_eq_true,if_false];exact wpS_pure ⟨rfl,_,_,rfl,by lia,by lia,by lia,hb⟩
    |true=>
     simp only[if_true];exact wpS_pure ⟨rfl,_,_,rfl,a1,a3,a4,.inr ⟨by lia,hb⟩⟩
  case post=>
   rintro c st₀ ⟨rfl,l,o,rfl,a1,a3,a4,a5⟩;dsimp only;have H1:∀i,i<hint+1-min o (hint+1)->p i=true:=by
    intro i hi;rcases a5 with a5|⟨a5,a6⟩
    ·lia
    ·exact hm i (hint-o) (by lia) (by lia) a6
   have H2:∀i,hint-l<=i->i<n->p i=false:=by
    intro i i1 i2;cases hq:p i with
    |false=>rfl
    |true=>rw[hm (hint-l) i (by lia) i2 hq] at a4;cases a4
   refine wpS_bind (wpS_mono (wpS_forRange
    (I:=λx c st'=>st'=st₀/\∃l r,c=(none,l,r)/\l<=r/\r<=n/\r-l<=n-x/\(∀i,i<l->p i=true)/\(∀i,r<=i->i<n->p i=false))
    (Q:=λc st'=>st'=st₀/\∃l r,c=(none,l,r)/\l=r/\r<=n/\(∀i,i<l->p i=true)/\(∀i,r<=i->i<n->p i=false)) ?step2 ?fin2 ?init2) ?post2)
   case init2=>exact⟨rfl,_,_,rfl,by lia,by lia,by lia,H1,H2⟩
   case fin2=>
    rintro c st' ⟨rfl,l,r,rfl,a1,a2,a3,a4,a5⟩;exact⟨rfl,l,r,rfl,by lia,a2,a4,a5⟩
   case step2=>
    rintro x c st' _ hx ⟨rfl,l,r,rfl,a1,a2,a3,a4,a5⟩;dsimp only;by_cases hge:l >= r
    ·rw[if_pos hge];exact wpS_pure ⟨rfl,l,r,rfl,by lia,a2,a4,a5⟩
    ·rw[if_neg hge];refine wpS_bind (hp _ _ (by lia) ?_);dsimp only;cases hb:p (l+(r-l) / 2) with
     |true=>
      simp only[if_true];exact wpS_pure ⟨rfl,_,_,rfl,by lia,a2,by lia,λi hi=>hm i _ (by lia) (by lia) hb,a5⟩
     |false=>
      simp only[Bool.false_eq_true,if_false];refine wpS_pure ⟨rfl,_,_,rfl,by lia,by lia,by lia,a4,λi i1 i2=>?_⟩;cases hq:p i with
      |false=>rfl
      |true=>rw[hm _ i i1 i2 hq] at hb;cases hb
   case post2=>
    rintro c st' ⟨rfl,l,r,rfl,rfl,a2,a4,a5⟩;exact wpS_pure (h l a2 a4 a5)
end
structure Ord(U:Keyed->Prop)(blt:Keyed->Keyed->Bool):Prop where
 irr:∀x,U x->blt x x=false
 tr:∀x y z,U x->U y->U z->blt x y=true->blt y z=true->blt x z=true
 ntr:∀x y z,U x->U y->U z->blt x z=true->blt x y=true\/blt y z=true
noncomputable abbrev dk:Keyed:=(.none,.none)
def gt(a:Array Keyed)(i:Nat):Keyed:=a.getD i dk
theorem mH{a:Array Keyed}{i:Nat}(h:i<a.size):a[i]?=some (gt a i):=by
 unfold gt;simp[Array.getD,h]
def qZ(U:Keyed->Prop)(a:Array Keyed):Prop:=∀i,i<a.size->U (gt a i)
def Srt(blt:Keyed->Keyed->Bool)(a:Array Keyed)(lo hi:Nat):Prop:=∀i j,lo<=i->i<=j->j<hi->blt (gt a j) (gt a i)=false
def S7(prog:Program)(w:World)(A:Around)(E:Value->Shared->Prop)(s:Shared)(kd:SortKind)(U:Keyed->Prop)(blt:Keyed->Keyed->Bool):Prop:=
 ∀(x y:Keyed)(st:SortSt)(Q:Option Bool->SortSt->Prop),U x->U y->kindOf st=kd->Q (some (blt x y)) st->wpS (model prog w) A E s (lt' x y) Q st
section
variable {prog:Program} {w:World} {A:Around} {E:Value->Shared->Prop} {s:Shared} {kd:SortKind} {U:Keyed->Prop} {blt:Keyed->Keyed->Bool}
theorem bU{arr:Array Keyed}{i:Nat}{st:SortSt}{Q:Keyed->SortSt->Prop}(hi:i<arr.size)(h:Q (gt arr i) st):wpS (model prog w) A E s (elem' arr i) Q st:=by
 rw[elem'_eq,mH hi];exact wpS_pure h
def gp(blt:Keyed->Keyed->Bool)(left:Bool)(key:Keyed)(arr:Array Keyed)(base i:Nat):Bool:=if left then blt (gt arr (base+i)) key else !blt key (gt arr (base+i))
theorem S8(hL:S7 prog w A E s kd U blt){left:Bool}{key:Keyed}{arr:Array Keyed}{base i:Nat}{st:SortSt}{R:Option Bool->SortSt->Prop}(hk:kindOf st=kd)(hi:base+i<arr.size)(hU:qZ U arr)(hK:U key)
 (h:R (some (gp blt left key arr base i)) st):wpS (model prog w) A E s (KY left key arr base i) R st:=by
 unfold KY;refine wpS_bind (bU hi ?_);unfold gp at h;cases left with
 |true=>
  simp only[if_true] at h ⊢;exact hL _ _ _ _ (hU _ hi) hK hk h
 |false=>
  simp only[Bool.false_eq_true,if_false] at h ⊢;refine wpS_bind (hL _ _ _ _ hK (hU _ hi) hk (wpS_pure ?_));exact h
theorem aEs(O:Ord U blt){left:Bool}{key:Keyed}{arr:Array Keyed}{base n:Nat}(hn:base+n<=arr.size)(hU:qZ U arr)(hK:U key)(hs:Srt blt arr base (base+n)) :
  ∀i j,i<=j->j<n->gp blt left key arr base j=true->gp blt left key arr base i=true:=by
 intro i j hij hj h;have h0:=hs (base+i) (base+j) (by lia) (by lia) (by lia);have ui:=hU (base+i) (by lia);have uj:=hU (base+j) (by lia);unfold gp at h ⊢;cases left with
 |true=>
  simp only[if_true] at h ⊢;rcases O.ntr _ (gt arr (base+i)) _ uj ui hK h with q|q
  ·rw[h0] at q;cases q
  ·exact q
 |false=>
  simp only[Bool.false_eq_true,if_false] at h ⊢;cases q:blt key (gt arr (base+i)) with
  |false=>rfl
  |true=>
   rcases O.ntr _ (gt arr (base+j)) _ hK uj ui q with z|z
   ·rw[z] at h;cases h
   ·rw[h0] at z;cases z
theorem tE(O:Ord U blt)(hL:S7 prog w A E s kd U blt){left:Bool}{key:Keyed}{arr:Array Keyed}{base n hint:Nat}{st:SortSt}{Q:Option Nat->SortSt->Prop}(hk:kindOf st=kd)(hn:base+n<=arr.size)(hU:qZ U arr)(hK:U key)
 (hs:Srt blt arr base (base+n))(hh:hint<n)
 (h:∀k,k<=n->(∀i,i<k->gp blt left key arr base i=true)->(∀i,k<=i->i<n->gp blt left key arr base i=false)->Q (some k) st):wpS (model prog w) A E s (WF left key arr base n hint) Q st:=
 S6 (gp blt left key arr base) (λi R hi r=>S8 hL hk (by lia) hU hK r) (aEs O hn hU hK hs) hh h
end
section
variable (blt:Keyed->Keyed->Bool)
noncomputable abbrev le(x y:Keyed):Bool:=!blt y x
def mrg(xs ys:List Keyed):List Keyed:=xs.merge ys (le blt)
variable {blt}
theorem mJ{a:Array Keyed}{i:Nat}(h:i<a.size):a.toList.drop i=gt a i::a.toList.drop (i+1):=by
 rw[List.drop_eq_getElem_cons (by simpa using h)]
 congr 1
 unfold gt;simp[Array.getD,h]
theorem yM{a:Array Keyed}{i:Nat}(h:a.size<=i):a.toList.drop i=[]:=List.drop_of_length_le (by simpa using h)
theorem mK(xs:List Keyed):mrg blt xs []=xs:=List.merge_right xs
theorem oY(ys:List Keyed):mrg blt [] ys=ys:=List.nil_merge ys
theorem gU(x y:Keyed)(xs ys:List Keyed):mrg blt (x::xs) (y::ys)=if blt y x then y::mrg blt (x::xs) ys else x::mrg blt xs (y::ys):=by
 unfold mrg;rw[List.cons_merge_cons];cases h:blt y x<;>simp[le,h]
def J(blt:Keyed->Keyed->Bool)(a b:Array Keyed)(out:Array Keyed)(ia ib:Nat):Prop:=
 out.toList++mrg blt (a.toList.drop ia) (b.toList.drop ib)=mrg blt a.toList b.toList
variable {a b out:Array Keyed} {ia ib:Nat}
theorem J.pb(h:J blt a b out ia ib)(ha:ia<a.size)(hb:ib<b.size)(q:blt (gt b ib) (gt a ia)=true):J blt a b (out.push (gt b ib)) ia (ib+1):=by
 unfold J at h ⊢;rw[<-h,mJ ha,mJ hb,gU,if_pos q,<-mJ ha];simp
theorem J.pa(h:J blt a b out ia ib)(ha:ia<a.size)(hb:ib<b.size)(q:blt (gt b ib) (gt a ia)=false):J blt a b (out.push (gt a ia)) (ia+1) ib:=by
 unfold J at h ⊢;rw[<-h,mJ ha,mJ hb,gU,if_neg (by simp[q]),<-mJ hb];simp
theorem PX{a:Array Keyed}{i k:Nat}(h:i+k<a.size)(out:Array Keyed):out++a.extract i (i+(k+1))=(out++a.extract i (i+k)).push (gt a (i+k)):=by
 apply Array.toList_inj.mp;simp only[Array.toList_append,Array.toList_extract,List.extract_eq_take_drop,Array.toList_push];rw[show i+(k+1)-i=k+1 by lia,show i+k-i=k by lia,List.take_add_one,List.append_assoc]
 congr 2
 rw[List.getElem?_drop];have:a.toList[i+k]?=some (gt a (i+k)):=by rw[Array.getElem?_toList];exact mH h
 rw[this];rfl
theorem P0(a:Array Keyed)(i:Nat)(out:Array Keyed):out++a.extract i (i+0)=out:=by
 apply Array.toList_inj.mp;simp
theorem J.ga(h:J blt a b out ia ib)(hb:ib<b.size):∀k,ia+k<=a.size->(∀i,i<k->blt (gt b ib) (gt a (ia+i))=false)->J blt a b (out++a.extract ia (ia+k)) (ia+k) ib
 |0,_,_=>by rw[P0];exact h
 |k+1,hk,q=>by
  have ih:=J.ga h hb k (by lia) λi hi=>q i (by lia)
  rw[PX (by lia)];exact J.pa ih (by lia) hb (q k (by lia))
theorem J.gb(h:J blt a b out ia ib)(ha:ia<a.size):∀k,ib+k<=b.size->(∀i,i<k->blt (gt b (ib+i)) (gt a ia)=true)->J blt a b (out++b.extract ib (ib+k)) ia (ib+k)
 |0,_,_=>by rw[P0];exact h
 |k+1,hk,q=>by
  have ih:=J.gb h ha k (by lia) λi hi=>q i (by lia)
  rw[PX (by lia)];exact J.pb ih ha (by lia) (q k (by lia))
theorem nU(a:Array Keyed)(i:Nat):(a.extract i a.size).toList=a.toList.drop i:=by
 simp[Array.toList_extract,List.extract_eq_take_drop,List.take_of_length_le]
theorem J.S9(h:J blt a b out ia ib)(hb:ib=b.size):(out++a.extract ia a.size++b.extract ib b.size).toList=mrg blt a.toList b.toList:=by
 rw[<-h,Array.toList_append,Array.toList_append,nU,nU,yM (Nat.le_of_eq hb.symm),mK];simp
theorem J.S_(h:J blt a b out ia ib)(ha:ia=a.size):(out++a.extract ia a.size++b.extract ib b.size).toList=mrg blt a.toList b.toList:=by
 rw[<-h,Array.toList_append,Array.toList_append,nU,nU,yM (Nat.le_of_eq ha.symm),oY];simp
theorem yN(x:Keyed):∀ys:List Keyed,(∀y∈ys,blt y x=true)->mrg blt [x] ys=ys++[x]
 |[],_=>mK _
 |y::ys,h=>by
  rw[gU,if_pos (h y (List.mem_cons_self ..)),yN x ys λz hz=>h z (List.mem_cons_of_mem _ hz)];rfl
theorem aD2{a:Array Keyed}{x:Keyed}(h:x∈a.toList):∃i,i<a.size/\x=gt a i:=by
 obtain⟨i,hi,e⟩:=List.getElem_of_mem h;refine⟨i,by simpa using hi,?_⟩;unfold gt;rw[<-e];have hi':i<a.size:=by simpa using hi
 simp[Array.getD,hi']
theorem J.last(h:J blt a b out ia ib)(ha:ia+1=a.size)(q:∀i,i<b.size->blt (gt b i) (gt a ia)=true):(out++b.extract ib b.size++a.extract ia a.size).toList=mrg blt a.toList b.toList:=by
 rw[<-h,Array.toList_append,Array.toList_append,nU,nU,mJ (by lia:ia<a.size),yM (a:=a) (i:=ia+1) (by lia),yN,List.append_assoc];intro y hy;obtain⟨i,hi,e⟩:=aD2 (List.mem_of_mem_drop hy);rw[e];exact q i hi
end
structure Sim(st st':SortSt):Prop where
 kd:kindOf st'=kindOf st
 ar:arrOf st'=arrOf st
 pd:pendingOf st'=pendingOf st
 fl:failedOf st'=failedOf st
section
variable {σ α:Type} {M:Model} {A:Around} {E:Value->Shared->Prop} {s:Shared} {st:σ} {Q:α->σ->Prop}
theorem uR{m:StateT σ Sem α}(h:∀Q':α->σ->Prop,(∀c s',Q c s'->Q' c s')->wpS M A E s m Q' st):wpS M A E s m Q st:=h Q λ_ _ x=>x
variable {p q:StateT σ Sem α}
theorem fH{c:Prop}[Decidable c](h1:c->wpS M A E s p Q st)(h2:¬c->wpS M A E s q Q st):wpS M A E s (if c then p else q) Q st:=if h:c then (if_pos h).symm▸h1 h else (if_neg h).symm▸h2 h
theorem dX{x y:Nat}(h1:x=y->wpS M A E s p Q st)(h2:x≠y->wpS M A E s q Q st):wpS M A E s (if (x==y)=true then p else q) Q st:=fH (λh=>h1 (eq_of_beq h)) λh=>h2 λe=>h (beq_iff_eq.mpr e)
end
section
variable {prog:Program} {w:World} {A:Around} {E:Value->Shared->Prop} {s:Shared} {kd:SortKind} {U:Keyed->Prop} {blt:Keyed->Keyed->Bool}
theorem KZ(O:Ord U blt)(hL:S7 prog w A E s kd U blt){a b:Array Keyed}{st:SortSt}{Q:Array Keyed->SortSt->Prop}(hk:kindOf st=kd)(hUa:qZ U a)(hUb:qZ U b)(hsa:Srt blt a 0 a.size)(hsb:Srt blt b 0 b.size)
 (ha:0<a.size)(hb:0<b.size)(hf:blt (gt b 0) (gt a 0)=true)(hl:∀i,i<b.size->blt (gt b i) (gt a (a.size-1))=true)
 (h:∀r st',Sim st st'->r.toList=mrg blt a.toList b.toList->Q r st'):wpS (model prog w) A E s (aBb a b) Q st:=by
 have lastAt:∀{j:Nat},j+1=a.size->∀i,i<b.size->blt (gt b i) (gt a j)=true:=λ{j} hj i hi=>by
  have:=hl i hi;rwa [show a.size-1=j by lia] at this
 with_unfolding_all refine wpS_bind (wpS_lift (wpAny_rule ⟨rfl,?_⟩))
 refine wpS_bind (bU hb ?_);have J0:J blt a b #[gt b 0] 0 1:=J.pb (out:=#[]) (by unfold J;simp) ha hb hf;have sim0:Sim st st:=⟨rfl,rfl,rfl,rfl⟩
 refine dX (λe=>wpS_pure (h _ _ sim0 (J0.S9 e))) λe1=>dX (λe=>wpS_pure (h _ _ sim0 (J0.last e (lastAt e)))) λe2=>wpS_bind (wpS_get (wpS_bind (wpS_mono (wpS_forRange
  (I:=λx c st'=>Sim st st'/\∃out ia ib mg,c=(none,out,ia,ib,mg)/\J blt a b out ia ib/\ia+1<a.size/\ib<b.size/\x<=ia+ib)
  (Q:=λc st'=>Sim st st'/\∃r,c.1=some r/\r.toList=mrg blt a.toList b.toList) ?step ?fin ?init) ?post)))
 case init=>exact⟨sim0,_,_,_,_,rfl,J0,by lia,by lia,by lia⟩
 case fin=>
  rintro c st' ⟨_,out,ia,ib,mg,rfl,_,h1,h2,h3⟩;lia
 case post=>
  rintro⟨c1,c2⟩ st' ⟨sim,r,rfl,hr⟩;exact wpS_pure (h r st' sim hr)
 case step=>
  rintro x₀ c st1 _ hx0 ⟨sim,out,ia,ib,mg,rfl,j1,h1,h2,h3⟩;refine wpS_bind (wpS_mono (wpS_forRange
   (I:=λx c st'=>Sim st st'/\∃out ia ib ac bc,c=(none,out,ia,ib,ac,bc)/\J blt a b out ia ib/\ia+1<a.size/\ib<b.size/\x₀<=ia+ib/\x<=ia+ib)
   (Q:=λc st'=>Sim st st'/\((∃r,c.1=some r/\r.toList=mrg blt a.toList b.toList)\/∃out ia ib ac bc,c=(none,out,ia,ib,ac,bc)/\J blt a b out ia ib/\ia+1<a.size/\ib<b.size/\x₀+1<=ia+ib)) ?step2 ?fin2 ?init2) ?post2)
  case init2=>exact⟨sim,out,ia,ib,_,_,rfl,j1,h1,h2,h3,by lia⟩
  case fin2=>
   rintro c st' ⟨_,out,ia,ib,ac,bc,rfl,_,h1,h2,_,h3⟩;lia
  case step2=>
   rintro x c st2 _ hx ⟨sim,out,ia,ib,ac,bc,rfl,j2,h1,h2,h3,h4⟩;refine uR λQ hQ=>?_
   have hd:∀r d,r.toList=mrg blt a.toList b.toList->Q (.done (some r,d)) st2:=λr d e=>hQ _ _ ⟨sim,.inl ⟨r,rfl,e⟩⟩
   have hb':∀out ia ib ac bc,J blt a b out ia ib->ia+1<a.size/\ib<b.size/\x₀+1<=ia+ib->Q (.done (none,out,ia,ib,ac,bc)) st2:=λ_ _ _ _ _ j q=>hQ _ _ ⟨sim,.inr ⟨_,_,_,_,_,rfl,j,q⟩⟩
   have hy:∀out ia ib ac bc,J blt a b out ia ib->ia+1<a.size/\ib<b.size/\x₀<=ia+ib/\x+1<=ia+ib->Q (.yield (none,out,ia,ib,ac,bc)) st2:=λ_ _ _ _ _ j q=>hQ _ _ ⟨sim,_,_,_,_,_,rfl,j,q⟩
   clear hQ;dsimp only;refine wpS_bind (bU h2 (wpS_bind (bU (i:=ia) (by lia) (wpS_bind (hL _ _ _ _ (hUb _ h2) (hUa _ (by lia)) (sim.1.trans hk) ?_)))));refine fH (λq=>wpS_bind (bU h2 ?_)) λq=>wpS_bind (bU (i:=ia) (by lia) ?_)
   ·have j3:=J.pb j2 (by lia) h2 q;exact dX (λe=>wpS_pure (hd _ _ (j3.S9 e))) λe=>fH (λ_=>wpS_pure (hb' _ _ _ _ _ j3 (by lia))) λ_=>wpS_pure (hy _ _ _ _ _ j3 (by lia))
   ·have j3:=J.pa j2 (by lia) h2 (eq_false_of_ne_true q);exact dX (λe=>wpS_pure (hd _ _ (j3.last e (lastAt e)))) λe=>fH (λ_=>wpS_pure (hb' _ _ _ _ _ j3 (by lia))) λ_=>wpS_pure (hy _ _ _ _ _ j3 (by lia))
  case post2=>
   rintro⟨c1,c2⟩ st2 ⟨sim,⟨r,e,hr⟩|⟨out,ia,ib,ac,bc,e,j2,h1,h2,h3⟩⟩
   ·subst e;exact wpS_pure ⟨sim,r,rfl,hr⟩
   ·cases e;refine wpS_bind (wpS_lift (wpAny_rule ⟨rfl,wpS_bind (wpS_mono (wpS_forRange
     (I:=λx c st'=>Sim st st'/\∃out ia ib mg ac bc,c=(none,out,ia,ib,mg,ac,bc)/\J blt a b out ia ib/\ia+1<a.size/\ib<b.size/\x₀+1<=ia+ib/\x<=ia+ib)
     (Q:=λc st'=>Sim st st'/\((∃r,c.1=some r/\r.toList=mrg blt a.toList b.toList)\/∃out ia ib mg ac bc,c=(none,out,ia,ib,mg,ac,bc)/\J blt a b out ia ib/\ia+1<a.size/\ib<b.size/\x₀+1<=ia+ib)) ?step3 ?fin3 ?init3) ?post3)⟩))
    case init3=>exact⟨sim,out,ia,ib,_,_,_,rfl,j2,h1,h2,h3,by lia⟩
    case fin3=>
     rintro c st' ⟨_,out,ia,ib,mg,ac,bc,rfl,_,h1,h2,_,h3⟩;lia
    case post3=>
     rintro⟨c1,c2⟩ st3 ⟨sim,⟨r,e,hr⟩|⟨out,ia,ib,mg,ac,bc,e,j3,h1,h2,h3⟩⟩
     ·subst e;exact wpS_pure ⟨sim,r,rfl,hr⟩
     ·cases e;refine wpS_bind (nT (wpS_pure ⟨⟨sim.1,sim.2,sim.3,sim.4⟩,_,_,_,_,rfl,j3,h1,h2,by lia⟩))
    case step3=>
     rintro x c st3 _ hx ⟨sim,out,ia,ib,mg,ac,bc,rfl,j3,h1,h2,h3,h4⟩;refine uR λQ hQ=>?_
     have hd:∀r d st',Sim st st'->r.toList=mrg blt a.toList b.toList->Q (.done (some r,d)) st':=λr d st' m e=>hQ _ _ ⟨m,.inl ⟨r,rfl,e⟩⟩
     have hb':∀out ia ib mg ac bc st',Sim st st'->J blt a b out ia ib->ia+1<a.size/\ib<b.size/\x₀+1<=ia+ib->Q (.done (none,out,ia,ib,mg,ac,bc)) st':=λ_ _ _ _ _ _ _ m j q=>hQ _ _ ⟨m,.inr ⟨_,_,_,_,_,_,rfl,j,q⟩⟩
     have hy:∀out ia ib mg ac bc st',Sim st st'->J blt a b out ia ib->ia+1<a.size/\ib<b.size/\x₀+1<=ia+ib/\x+1<=ia+ib->Q (.yield (none,out,ia,ib,mg,ac,bc)) st':=λ_ _ _ _ _ _ _ m j q=>hQ _ _ ⟨m,_,_,_,_,_,_,rfl,j,q⟩
     clear hQ
     extract_lets -underBinder s0 o1 s1 a1 s2 b1 s3 m1 s4 c1 d1 jp m2
     have K1:∀m,wpS (model prog w) A E s (jp () m) Q st3:=λm=>by
      dsimp -zeta only [jp,s0,o1,s1,a1,s2,b1,s3,m1,s4,c1,d1];refine wpS_bind (nT ?_);have sim':Sim st (SortSt.mk' (kindOf st3) (arrOf st3) (pendingOf st3) m (failedOf st3)):=⟨sim.1,sim.2,sim.3,sim.4⟩
      generalize SortSt.mk' (kindOf st3) (arrOf st3) (pendingOf st3) m (failedOf st3)=st4 at sim' ⊢;have hk':=sim'.1.trans hk;refine wpS_bind (bU (by lia) (wpS_bind (tE O hL hk' (by lia) hUa (hUb _ (by lia)) (λi j i1 i2 i3=>hsa i j (by lia) i2 (by lia)) (by lia) λk hk1 y1 y2=>?_)));dsimp -zeta only
      extract_lets -underBinder n1 jp2 n2 n3
      have K2:∀out ia,J blt a b out ia ib->ia+1<a.size->x₀+1<=ia+ib->x<=ia+ib->blt (gt b ib) (gt a ia)=true->wpS (model prog w) A E s (jp2 () out ia) Q st4:=λout ia j1 h1 h3 h4 hz=>by
       dsimp -zeta only [jp2];refine wpS_bind (bU h2 ?_);have j2:=J.pb j1 (by lia) h2 hz;refine dX (λe=>wpS_pure (hd _ _ _ sim' (j2.S9 e))) λe=>wpS_bind (bU (by lia) (wpS_bind (tE O hL hk' (by lia) hUb (hUa _ (by lia)) (λi j i1 i2 i3=>hsb i j (by lia) i2 (by lia)) (by lia) λk1 hk1 y1 y2=>?_)))
       dsimp -zeta only
       extract_lets -underBinder n1 jp3 n2 n3
       have K3:∀out ib',J blt a b out ia ib'->ib'<b.size->ib<=ib'->blt (gt b ib') (gt a ia)=false->wpS (model prog w) A E s (jp3 () out ib') Q st4:=λout ib' j3 h2 h5 hz=>by
        dsimp -zeta only [jp3];refine wpS_bind (bU (by lia) ?_);have j4:=J.pa j3 (by lia) h2 hz;refine dX (λe=>wpS_pure (hd _ _ _ sim' (j4.last e (lastAt e)))) λe=>fH (λ_=>wpS_pure (hb' _ _ _ _ _ _ _ sim' j4 (by lia))) λ_=>wpS_pure (hy _ _ _ _ _ _ _ sim' j4 (by lia))
       refine fH (λkp=>dX (λe3=>wpS_pure (hd _ _ _ sim' ((J.gb j2 (by lia) k1 (by lia) λi hi=>by have:=y1 i hi;simpa[gp] using this).S9 e3))) λe3=>K3 _ _ (J.gb j2 (by lia) k1 (by lia) λi hi=>by have:=y1 i hi;simpa[gp] using this) (by lia) (by lia) (by have:=y2 k1 (Nat.le_refl _) (by lia);simpa[gp] using this)) λkp=>K3 _ _ j2 (by lia) (by lia) (by have:=y2 0 (by lia) (by lia);simpa[gp] using this)
      have j5:∀i,i<k->blt (gt b ib) (gt a (ia+i))=false:=λi hi=>by have:=y1 i hi;simpa[gp] using this
      refine fH (λkp=>?_) λkp=>K2 _ _ j3 h1 h3 h4 (by have:=y2 0 (by lia) (by lia);simpa[gp] using this)
      have j1:=J.ga j3 h2 k (by lia) j5;refine dX (λe=>wpS_pure (hd _ _ _ sim' (j1.last e (lastAt e)))) λe=>dX (λe=>wpS_pure (hd _ _ _ sim' (j1.S_ e))) λe'=>K2 _ _ j1 (by lia) (by lia) (by lia) (by have:=y2 k (Nat.le_refl _) (by lia);simpa[gp] using this)
     exact fH (λ_=>K1 _) λ_=>K1 _
end
section
variable {blt:Keyed->Keyed->Bool}
theorem K4{a:Array Keyed}{n:Nat}(h:n<a.size):a.toList.take (n+1)=a.toList.take n++[gt a n]:=by
 rw[List.take_add_one];have:a.toList[n]?=some (gt a n):=by rw[Array.getElem?_toList];exact mH h
 rw[this];rfl
theorem u5{a:Array Keyed}{n:Nat}{z:Keyed}(h:z∈a.toList.take n):∃i,i<n/\i<a.size/\z=gt a i:= by
  obtain⟨i,hi,e⟩:= List.getElem_of_mem h;rw[List.length_take] at hi;have h2:i<a.size:= by simpa using (show i<a.toList.length by lia)
  refine⟨i,by lia,h2,?_⟩;rw[<-e,List.getElem_take];unfold gt;simp[Array.getD,h2]
theorem u_(x:Keyed):∀(xs zs:List Keyed),(∀z∈zs,blt z x=true)->mrg blt (xs++[x]) zs=mrg blt xs zs++[x]
 |[],zs,h=>by rw[List.nil_append,yN x zs h,oY]
 |x0::xs,[],_=>by rw[mK,mK]
 |x0::xs,z::zs,h=>by
  rw[List.cons_append,gU,gU];by_cases q:blt z x0=true
  ·rw[if_pos q,if_pos q,<-List.cons_append,u_ x (x0::xs) zs λy hy=>h y (List.mem_cons_of_mem _ hy)];rfl
  ·rw[if_neg q,if_neg q,u_ x xs (z::zs) h];rfl
 termination_by xs zs=>xs.length+zs.length
theorem GD(y:Keyed):∀zs:List Keyed,(∀z∈zs,blt y z=false)->mrg blt zs [y]=zs++[y]
 |[],_=>oY _
 |z::zs,h=>by
  rw[gU,if_neg (by simp[h z (List.mem_cons_self ..)]),GD y zs λu hu=>h u (List.mem_cons_of_mem _ hu)];rfl
theorem vA(y:Keyed):∀(zs ys:List Keyed),(∀z∈zs,blt y z=false)->mrg blt zs (ys++[y])=mrg blt zs ys++[y]
 |zs,[],h=>by rw[List.nil_append,GD y zs h,mK]
 |[],y0::ys,_=>by rw[oY,oY]
 |z::zs,y0::ys,h=>by
  rw[List.cons_append,gU,gU];by_cases q:blt y0 z=true
  ·rw[if_pos q,if_pos q,vA y (z::zs) ys h];rfl
  ·rw[if_neg q,if_neg q,<-List.cons_append,vA y zs (y0::ys) λu hu=>h u (List.mem_cons_of_mem _ hu)];rfl
 termination_by zs ys=>zs.length+ys.length
def JH(blt:Keyed->Keyed->Bool)(a b:Array Keyed)(out:Array Keyed)(na nb:Nat):Prop:=
 mrg blt (a.toList.take na) (b.toList.take nb)++out.toList.reverse=mrg blt a.toList b.toList
variable {a b out:Array Keyed} {na nb:Nat}
theorem JH.pa(h:JH blt a b out na nb)(ha:0<na)(h1:na<=a.size)(h2:nb<=b.size)(q:∀i,i<nb->blt (gt b i) (gt a (na-1))=true):JH blt a b (out.push (gt a (na-1))) (na-1) nb:=by
 unfold JH at h ⊢;obtain⟨n,rfl⟩:∃n,na=n+1:=⟨na-1,by lia⟩
 rw[K4 (by lia),u_ _ _ _ (λz hz=>by obtain⟨i,i1,i2,rfl⟩:=u5 hz;exact q i i1)] at h;rw[<-h];simp
theorem JH.pb(h:JH blt a b out na nb)(hb:0<nb)(h1:na<=a.size)(h2:nb<=b.size)(q:∀i,i<na->blt (gt b (nb-1)) (gt a i)=false):JH blt a b (out.push (gt b (nb-1))) na (nb-1):=by
 unfold JH at h ⊢;obtain⟨n,rfl⟩:∃n,nb=n+1:=⟨nb-1,by lia⟩
 rw[K4 (by lia),vA _ _ _ (λz hz=>by obtain⟨i,i1,i2,rfl⟩:=u5 hz;exact q i i1)] at h;rw[<-h];simp
theorem WK{a:Array Keyed}{i n:Nat}(h:i<n)(hn:n<=a.size)(out:Array Keyed):out++(a.extract i n).reverse=(out.push (gt a (n-1)))++(a.extract i (n-1)).reverse:=by
 apply Array.toList_inj.mp;simp only[Array.toList_append,Array.toList_reverse,Array.toList_extract,List.extract_eq_take_drop,Array.toList_push];obtain⟨m,rfl⟩:∃m,n=m+1:=⟨n-1,by lia⟩
 rw[show m+1-i=(m-i)+1 by lia,List.take_add_one,List.getElem?_drop,show i+(m-i)=m by lia];have:a.toList[m]?=some (gt a m):=by rw[Array.getElem?_toList];exact mH (by lia)
 rw[this];simp
theorem uT{a:Array Keyed}{i:Nat}(out:Array Keyed):out++(a.extract i i).reverse=out:=by
 apply Array.toList_inj.mp;simp
theorem JH.ga:∀{na:Nat}{out:Array Keyed},JH blt a b out na nb->na<=a.size->nb<=b.size->∀at_,at_<=na->(∀i,at_<=i->i<na->∀z,z<nb->blt (gt b z) (gt a i)=true)->JH blt a b (out++(a.extract at_ na).reverse) at_ nb
 |0,out,h,_,_,at_,h0,_=>by
  obtain rfl:at_=0:=by lia
  rw[uT];exact h
 |n+1,out,h,h1,h2,at_,h0,q=>by
  by_cases e:at_=n+1
  ·subst e;rw[uT];exact h
  ·rw[WK (by lia) h1];exact JH.ga (na:=n) (JH.pa h (by lia) h1 h2 (q n (by lia) (by lia))) (by lia) h2 at_ (by lia) λi i1 i2=>q i i1 (by lia)
theorem JH.gb:∀{nb:Nat}{out:Array Keyed},JH blt a b out na nb->na<=a.size->nb<=b.size->∀at_,at_<=nb->(∀i,at_<=i->i<nb->∀z,z<na->blt (gt b i) (gt a z)=false)->JH blt a b (out++(b.extract at_ nb).reverse) na at_
 |0,out,h,_,_,at_,h0,_=>by
  obtain rfl:at_=0:=by lia
  rw[uT];exact h
 |n+1,out,h,h1,h2,at_,h0,q=>by
  by_cases e:at_=n+1
  ·subst e;rw[uT];exact h
  ·rw[WK (by lia) h2];exact JH.gb (nb:=n) (JH.pb h (by lia) h1 h2 (q n (by lia) (by lia))) h1 (by lia) at_ (by lia) λi i1 i2=>q i i1 (by lia)
theorem nW(a:Array Keyed)(n:Nat):(a.extract 0 n).toList=a.toList.take n:=by
 simp[Array.toList_extract,List.extract_eq_take_drop]
theorem JH.S_(h:JH blt a b out na nb)(e:na=0):(a.extract 0 na++b.extract 0 nb++out.reverse).toList=mrg blt a.toList b.toList:=by
 subst e;rw[<-h,Array.toList_append,Array.toList_append,nW,nW,Array.toList_reverse,List.take_zero,oY];rfl
theorem JH.S9(h:JH blt a b out na nb)(e:nb=0):(a.extract 0 na++b.extract 0 nb++out.reverse).toList=mrg blt a.toList b.toList:=by
 subst e;rw[<-h,Array.toList_append,Array.toList_append,nW,nW,Array.toList_reverse,List.take_zero,mK,List.append_nil]
theorem JH.first(h:JH blt a b out na nb)(e:nb=1)(ha:0<a.size)(hb:0<b.size)(hf:blt (gt b 0) (gt a 0)=true)(hn:0<na):(b.extract 0 nb++a.extract 0 na++out.reverse).toList=mrg blt a.toList b.toList:=by
 subst e;rw[<-h,Array.toList_append,Array.toList_append,nW,nW,Array.toList_reverse];have e1:b.toList.take 1=[gt b 0]:=by rw[K4 (a:=b) (n:=0) hb];rfl
 obtain⟨m,rfl⟩:∃m,na=m+1:=⟨na-1,by lia⟩
 have e2:a.toList.take (m+1)=gt a 0::(a.toList.drop 1).take m:=by
  have:=mJ (a:=a) (i:=0) ha;rw[List.drop_zero] at this;rw[this];rfl
 rw[e1,e2,gU,if_pos hf,mK];rfl
variable {U:Keyed->Prop}
theorem leA(O:Ord U blt)(hUa:qZ U a)(hUb:qZ U b)(hsa:Srt blt a 0 a.size){n i z:Nat}(hn:n<=a.size)(hi:i<b.size)(hz:z<n)(q:blt (gt b i) (gt a (n-1))=false):blt (gt b i) (gt a z)=false:=by
 cases e:blt (gt b i) (gt a z) with
 |false=>rfl
 |true=>
  rcases O.ntr _ (gt a (n-1)) _ (hUb i hi) (hUa _ (by lia)) (hUa z (by lia)) e with p|p
  ·rw[q] at p;cases p
  ·rw[hsa z (n-1) (by lia) (by lia) (by lia)] at p;cases p
theorem aMf(O:Ord U blt)(hUa:qZ U a)(hUb:qZ U b)(hsb:Srt blt b 0 b.size){n i z:Nat}(hn:n<=b.size)(hi:i<a.size)(hz:z<n)(q:blt (gt b (n-1)) (gt a i)=true):blt (gt b z) (gt a i)=true:=by
 rcases O.ntr _ (gt b z) _ (hUb (n-1) (by lia)) (hUb z (by lia)) (hUa i hi) q with p|p
 ·rw[hsb z (n-1) (by lia) (by lia) (by lia)] at p;cases p
 ·exact p
end
section
variable {prog:Program} {w:World} {A:Around} {E:Value->Shared->Prop} {s:Shared} {kd:SortKind} {U:Keyed->Prop} {blt:Keyed->Keyed->Bool}
theorem K5(O:Ord U blt)(hL:S7 prog w A E s kd U blt){a b:Array Keyed}{st:SortSt}{Q:Array Keyed->SortSt->Prop}(hk:kindOf st=kd)(hUa:qZ U a)(hUb:qZ U b)(hsa:Srt blt a 0 a.size)(hsb:Srt blt b 0 b.size)
 (ha:0<a.size)(hb:0<b.size)(hf:blt (gt b 0) (gt a 0)=true)(hl:∀i,i<b.size->blt (gt b i) (gt a (a.size-1))=true)
 (h:∀r st',Sim st st'->r.toList=mrg blt a.toList b.toList->Q r st'):wpS (model prog w) A E s (aBc a b) Q st:=by
 with_unfolding_all refine wpS_bind (wpS_lift (wpAny_rule ⟨rfl,?_⟩))
 refine wpS_bind (bU (by lia) ?_);have J0:JH blt a b #[gt a (a.size-1)] (a.size-1) b.size:=JH.pa (out:=#[]) (na:=a.size) (by unfold JH;simp[List.take_of_length_le]) ha (Nat.le_refl _) (Nat.le_refl _) hl;have sim0:Sim st st:=⟨rfl,rfl,rfl,rfl⟩
 refine dX (λe=>wpS_pure (h _ _ sim0 (J0.S_ e))) λe1=>dX (λe=>wpS_pure (h _ _ sim0 (J0.first e ha hb hf (by lia)))) λe2=>wpS_bind (wpS_get (wpS_bind (wpS_mono (wpS_forRange
  (I:=λx c st'=>Sim st st'/\∃out na nb mg,c=(none,na,nb,out,mg)/\JH blt a b out na nb/\0<na/\1<nb/\na<a.size/\nb<=b.size/\x+na+nb<=a.size+b.size)
  (Q:=λc st'=>Sim st st'/\∃r,c.1=some r/\r.toList=mrg blt a.toList b.toList) ?step ?fin ?init) ?post)))
 case init=>exact⟨sim0,_,_,_,_,rfl,J0,by lia,by lia,by lia,by lia,by lia⟩
 case fin=>
  rintro c st' ⟨_,out,na,nb,mg,rfl,_,h1,h2,h3,h4,h5⟩;lia
 case post=>
  rintro⟨c1,c2⟩ st' ⟨sim,r,rfl,hr⟩;exact wpS_pure (h r st' sim hr)
 case step=>
  rintro x₀ c st1 _ hx0 ⟨sim,out,na,nb,mg,rfl,j1,h1,h2,h3,h4,h5⟩;dsimp -zeta only;refine wpS_bind (wpS_mono (wpS_forRange
   (I:=λx c st'=>Sim st st'/\∃out na nb ac bc,c=(none,na,nb,out,ac,bc)/\JH blt a b out na nb/\0<na/\1<nb/\na<a.size/\nb<=b.size/\x₀+na+nb<=a.size+b.size/\x+na+nb<=a.size+b.size)
   (Q:=λc st'=>Sim st st'/\((∃r,c.1=some r/\r.toList=mrg blt a.toList b.toList)\/∃out na nb ac bc,c=(none,na,nb,out,ac,bc)/\JH blt a b out na nb/\0<na/\1<nb/\na<a.size/\nb<=b.size/\x₀+1+na+nb<=a.size+b.size)) ?step2 ?fin2 ?init2) ?post2)
  case init2=>exact⟨sim,out,na,nb,_,_,rfl,j1,h1,h2,h3,h4,h5,by lia⟩
  case fin2=>
   rintro c st' ⟨_,out,na,nb,ac,bc,rfl,_,h1,h2,h3,h4,_,h5⟩;lia
  case step2=>
   rintro x c st2 _ hx ⟨sim,out,na,nb,ac,bc,rfl,j2,h1,h2,h3,h4,h5,h6⟩;refine uR λQ hQ=>?_
   have hd:∀r d,r.toList=mrg blt a.toList b.toList->Q (.done (some r,d)) st2:=λr d e=>hQ _ _ ⟨sim,.inl ⟨r,rfl,e⟩⟩
   have hb':∀out na nb ac bc,JH blt a b out na nb->0<na/\1<nb/\na<a.size/\nb<=b.size/\x₀+1+na+nb<=a.size+b.size->Q (.done (none,na,nb,out,ac,bc)) st2:=λ_ _ _ _ _ j q=>hQ _ _ ⟨sim,.inr ⟨_,_,_,_,_,rfl,j,q⟩⟩
   have hy:∀out na nb ac bc,JH blt a b out na nb->0<na/\1<nb/\na<a.size/\nb<=b.size/\x₀+na+nb<=a.size+b.size/\x+1+na+nb<=a.size+b.size->Q (.yield (none,na,nb,out,ac,bc)) st2:=λ_ _ _ _ _ j q=>hQ _ _ ⟨sim,_,_,_,_,_,rfl,j,q⟩
   clear hQ;dsimp only;refine wpS_bind (bU (i:=nb-1) (by lia) (wpS_bind (bU (i:=na-1) (by lia) (wpS_bind (hL _ _ _ _ (hUb _ (by lia)) (hUa _ (by lia)) (sim.1.trans hk) ?_)))));refine fH (λq=>wpS_bind (bU (i:=na-1) (by lia) ?_)) λq=>wpS_bind (bU (i:=nb-1) (by lia) ?_)
   ·have j3:=JH.pa j2 (by lia) (by lia) h4 (λi hi=>aMf O hUa hUb hsb h4 (by lia) hi q);exact dX (λe=>wpS_pure (hd _ _ (j3.S_ e))) λe=>fH (λ_=>wpS_pure (hb' _ _ _ _ _ j3 (by lia))) λ_=>wpS_pure (hy _ _ _ _ _ j3 (by lia))
   ·have j3:=JH.pb j2 (by lia) (by lia) h4 (λi hi=>leA O hUa hUb hsa (by lia) (by lia) hi (eq_false_of_ne_true q));exact dX (λe=>wpS_pure (hd _ _ (j3.first e ha hb hf (by lia)))) λe=>fH (λ_=>wpS_pure (hb' _ _ _ _ _ j3 (by lia))) λ_=>wpS_pure (hy _ _ _ _ _ j3 (by lia))
  case post2=>
   rintro⟨c1,c2⟩ st2 ⟨sim,⟨r,rfl,hr⟩|⟨out,na,nb,ac,bc,e,j2,h1,h2,h3,h4,h5⟩⟩
   ·exact wpS_pure ⟨sim,r,rfl,hr⟩
   ·cases e;dsimp -zeta only;refine wpS_bind (wpS_lift (wpAny_rule ⟨rfl,wpS_bind (wpS_mono (wpS_forRange
     (I:=λx c st'=>Sim st st'/\∃out na nb mg ac bc,c=(none,na,nb,out,mg,ac,bc)/\JH blt a b out na nb/\0<na/\1<nb/\na<a.size/\nb<=b.size/\x₀+1+na+nb<=a.size+b.size/\x+na+nb<=a.size+b.size)
     (Q:=λc st'=>Sim st st'/\((∃r,c.1=some r/\r.toList=mrg blt a.toList b.toList)\/∃out na nb mg ac bc,c=(none,na,nb,out,mg,ac,bc)/\JH blt a b out na nb/\0<na/\1<nb/\na<a.size/\nb<=b.size/\x₀+1+na+nb<=a.size+b.size)) ?step3 ?fin3 ?init3) ?post3)⟩))
    case init3=>exact⟨sim,out,na,nb,_,_,_,rfl,j2,h1,h2,h3,h4,h5,by lia⟩
    case fin3=>
     rintro c st' ⟨_,out,na,nb,mg,ac,bc,rfl,_,h1,h2,h3,h4,_,h5⟩;lia
    case post3=>
     rintro⟨c1,c2⟩ st3 ⟨sim,⟨r,rfl,hr⟩|⟨out,na,nb,mg,ac,bc,e,j3,h1,h2,h3,h4,h5⟩⟩
     ·exact wpS_pure ⟨sim,r,rfl,hr⟩
     ·cases e;exact wpS_bind (nT (wpS_pure ⟨⟨sim.1,sim.2,sim.3,sim.4⟩,_,_,_,_,rfl,j3,h1,h2,h3,h4,by lia⟩))
    case step3=>
     rintro x c st3 _ hx ⟨sim,out,na,nb,mg,ac,bc,rfl,j3,h1,h2,h3,h4,h5,h6⟩;refine uR λQ hQ=>?_
     have hd:∀r d st',Sim st st'->r.toList=mrg blt a.toList b.toList->Q (.done (some r,d)) st':=λr d _ m e=>hQ _ _ ⟨m,.inl ⟨r,rfl,e⟩⟩
     have hb':∀out na nb mg ac bc st',Sim st st'->JH blt a b out na nb->0<na/\1<nb/\na<a.size/\nb<=b.size/\x₀+1+na+nb<=a.size+b.size->Q (.done (none,na,nb,out,mg,ac,bc)) st':=λ_ _ _ _ _ _ _ m j q=>hQ _ _ ⟨m,.inr ⟨_,_,_,_,_,_,rfl,j,q⟩⟩
     have hy:∀out na nb mg ac bc st',Sim st st'->JH blt a b out na nb->0<na/\1<nb/\na<a.size/\nb<=b.size/\x₀+1+na+nb<=a.size+b.size/\x+1+na+nb<=a.size+b.size->Q (.yield (none,na,nb,out,mg,ac,bc)) st':=λ_ _ _ _ _ _ _ m j q=>hQ _ _ ⟨m,_,_,_,_,_,_,rfl,j,q⟩
     clear hQ
     extract_lets -underBinder s0 o1 s1 a1 s2 b1 s3 m1 s4 c1 d1 jp m2
     have K1:∀m,wpS (model prog w) A E s (jp () m) Q st3:=λm=>by
      dsimp -zeta only [jp,s0,o1,s1,a1,s2,b1,s3,m1,s4,c1,d1];refine wpS_bind (nT ?_);have sim':Sim st (SortSt.mk' (kindOf st3) (arrOf st3) (pendingOf st3) m (failedOf st3)):=⟨sim.1,sim.2,sim.3,sim.4⟩
      generalize SortSt.mk' (kindOf st3) (arrOf st3) (pendingOf st3) m (failedOf st3)=st4 at sim' ⊢;have hk':=sim'.1.trans hk;refine wpS_bind (bU (by lia) (wpS_bind (tE O hL hk' (by lia) hUa (hUb _ (by lia)) (λi j i1 i2 i3=>hsa i j (by lia) i2 (by lia)) (by lia) λat_ hk1 y1 y2=>?_)));dsimp -zeta only;have y1':∀i,i<at_->blt (gt b (nb-1)) (gt a i)=false:=λi hi=>by have:=y1 i hi;simpa[gp] using this
      have y2':∀i,at_<=i->i<na->blt (gt b (nb-1)) (gt a i)=true:=λi i1 i2=>by have:=y2 i i1 i2;simpa[gp] using this
      clear y1 y2
      extract_lets -underBinder n1 n2 jp2 n3
      have K2:∀na out,JH blt a b out na nb->0<na->na<a.size->x₀+1+na+nb<=a.size+b.size->x+na+nb<=a.size+b.size->(∀z,z<na->blt (gt b (nb-1)) (gt a z)=false)->wpS (model prog w) A E s (jp2 () na out) Q st4:=λna out j1 h1 h3 h5 h6 hz=>by
       dsimp -zeta only [jp2];refine wpS_bind (bU (by lia) ?_);have j2:=JH.pb j1 (by lia) (by lia) (by lia) hz;refine dX (λe=>wpS_pure (hd _ _ _ sim' (j2.first e ha hb hf (by lia)))) λe=>wpS_bind (bU (by lia) (wpS_bind (tE O hL hk' (by lia) hUb (hUa _ (by lia)) (λi j i1 i2 i3=>hsb i j (by lia) i2 (by lia)) (by lia) λk1 hk1 y1 y2=>?_)))
       dsimp -zeta only;have y1':∀i,i<k1->blt (gt b i) (gt a (na-1))=true:=λi hi=>by have:=y1 i hi;simpa[gp] using this
       have y2':∀i,k1<=i->i<nb-1->blt (gt b i) (gt a (na-1))=false:=λi i1 i2=>by have:=y2 i i1 i2;simpa[gp] using this
       clear y1 y2
       extract_lets -underBinder n1 n2 jp3 n3
       have K3:∀nb' out,JH blt a b out na nb'->1<nb'->nb'<nb->(∀z,z<nb'->blt (gt b z) (gt a (na-1))=true)->wpS (model prog w) A E s (jp3 () nb' out) Q st4:=λnb' out j3 q1 q2 hz=>by
        dsimp -zeta only [jp3];refine wpS_bind (bU (by lia) ?_);have j4:=JH.pa j3 (by lia) (by lia) (by lia) hz;exact dX (λe=>wpS_pure (hd _ _ _ sim' (j4.S_ e))) λe=>fH (λ_=>wpS_pure (hb' _ _ _ _ _ _ _ sim' j4 (by lia))) λ_=>wpS_pure (hy _ _ _ _ _ _ _ sim' j4 (by lia))
       refine fH (λkp=>?_) λkp=>K3 _ _ j2 (by lia) (by lia) λz hz=>y1' z (by lia)
       have j3:=JH.gb j2 (by lia) (by lia) k1 (by lia) (λi i1 i2 z hz=>leA O hUa hUb hsa (by lia) (by lia) hz (y2' i i1 i2));exact dX (λe=>wpS_pure (hd _ _ _ sim' (j3.first e ha hb hf (by lia)))) λe=>dX (λe=>wpS_pure (hd _ _ _ sim' (j3.S9 e))) λe'=>K3 _ _ j3 (by lia) (by lia) y1'
      refine fH (λkp=>?_) λkp=>K2 _ _ j3 h1 h3 h5 h6 λz hz=>y1' z (by lia)
      have j1:=JH.ga j3 (by lia) (by lia) at_ (by lia) (λi i1 i2 z hz=>aMf O hUa hUb hsb (by lia) (by lia) hz (y2' i i1 i2));exact dX (λe=>wpS_pure (hd _ _ _ sim' (j1.S_ e))) λe=>K2 _ _ j1 (by lia) (by lia) (by lia) (by lia) y1'
     exact fH (λ_=>K1 _) λ_=>K1 _
end
section
variable {blt:Keyed->Keyed->Bool} {U:Keyed->Prop}
def SL(blt:Keyed->Keyed->Bool)(l:List Keyed):Prop:=l.Pairwise λu v=>blt v u=false
theorem yO(xs ys:List Keyed):(mrg blt xs ys).Perm (xs++ys):=List.merge_perm_append _
theorem K6{xs ys:List Keyed}{z:Keyed}:z∈mrg blt xs ys↔z∈xs\/z∈ys:=by
 rw[(yO xs ys).mem_iff,List.mem_append]
theorem Ord.le_trans(O:Ord U blt){x y z:Keyed}(hx:U x)(hy:U y)(hz:U z)(h1:blt y x=false)(h2:blt z y=false):blt z x=false:=by
 cases e:blt z x with
 |false=>rfl
 |true=>
  rcases O.ntr _ y _ hz hy hx e with p|p
  ·rw[h2] at p;cases p
  ·rw[h1] at p;cases p
theorem Ord.aAl(O:Ord U blt){x y:Keyed}(hx:U x)(hy:U y)(h:blt x y=true):blt y x=false:=by
 cases e:blt y x with
 |false=>rfl
 |true=>
  have:=O.tr _ _ _ hx hy hx h e;rw[O.irr x hx] at this;cases this
theorem WL(O:Ord U blt):∀(xs ys:List Keyed),(∀z∈xs,U z)->(∀z∈ys,U z)->SL blt xs->SL blt ys->SL blt (mrg blt xs ys)
 |[],ys,_,_,_,h=>by rw[oY];exact h
 |x::xs,[],_,_,h,_=>by rw[mK];exact h
 |x::xs,y::ys,ux,uy,sx,sy=>by
  rw[gU];have ux0:=ux x (List.mem_cons_self ..);have uy0:=uy y (List.mem_cons_self ..);have sx':=List.pairwise_cons.mp sx;have sy':=List.pairwise_cons.mp sy;by_cases q:blt y x=true
  ·rw[if_pos q];refine List.pairwise_cons.mpr ⟨λz hz=>?_,WL O (x::xs) ys ux (λz hz=>uy z (List.mem_cons_of_mem _ hz)) sx sy'.2⟩;rcases K6.mp hz with hz|hz
   ·rcases List.mem_cons.mp hz with rfl|hz
    ·exact O.aAl uy0 ux0 q
    ·exact O.le_trans uy0 ux0 (ux z (List.mem_cons_of_mem _ hz)) (O.aAl uy0 ux0 q) (sx'.1 z hz)
   ·exact sy'.1 z hz
  ·rw[if_neg q];have q':blt y x=false:=by simpa using q
   refine List.pairwise_cons.mpr ⟨λz hz=>?_,WL O xs (y::ys) (λz hz=>ux z (List.mem_cons_of_mem _ hz)) uy sx'.2 sy⟩;rcases K6.mp hz with hz|hz
   ·exact sx'.1 z hz
   ·rcases List.mem_cons.mp hz with rfl|hz
    ·exact q'
    ·exact O.le_trans ux0 uy0 (uy z (List.mem_cons_of_mem _ hz)) q' (sy'.1 z hz)
 termination_by xs ys=>xs.length+ys.length
noncomputable def str(a:Array Keyed)(lo n:Nat):List Keyed:=(a.toList.drop lo).take n
theorem kI{a:Array Keyed}{lo n i:Nat}(hi:i<n)(h:lo+n<=a.size):(str a lo n)[i]?=some (gt a (lo+i)):=by
 unfold str;rw[List.getElem?_take_of_lt hi,List.getElem?_drop,Array.getElem?_toList];exact mH (by lia)
theorem str_len{a:Array Keyed}{lo n:Nat}(h:lo+n<=a.size):(str a lo n).length=n:=by
 unfold str;rw[List.length_take,List.length_drop,Array.length_toList];lia
theorem Srt.sl{a:Array Keyed}{lo n:Nat}(h:Srt blt a lo (lo+n))(hn:lo+n<=a.size):SL blt (str a lo n):=by
 unfold SL;rw[List.pairwise_iff_getElem];intro i j hi hj hij;rw[str_len hn] at hi hj;have e1:=kI (a:=a) (lo:=lo) hi hn;have e2:=kI (a:=a) (lo:=lo) hj hn;rw[List.getElem?_eq_getElem (by rw[str_len hn];exact hi)] at e1;rw[List.getElem?_eq_getElem (by rw[str_len hn];exact hj)] at e2;rw[Option.some.inj e1,Option.some.inj e2];exact h _ _ (by lia) (by lia) (by lia)
theorem SL.srt{a:Array Keyed}{lo n:Nat}(O:Ord U blt)(hU:qZ U a)(h:SL blt (str a lo n))(hn:lo+n<=a.size):Srt blt a lo (lo+n):=by
 intro i j h1 h2 h3;by_cases e:i=j
 ·subst e;exact O.irr _ (hU _ (by lia))
 ·unfold SL at h;rw[List.pairwise_iff_getElem] at h;have q:=h (i-lo) (j-lo) (by rw[str_len hn];lia) (by rw[str_len hn];lia) (by lia);have e1:=kI (a:=a) (lo:=lo) (i:=i-lo) (n:=n) (by lia) hn;have e2:=kI (a:=a) (lo:=lo) (i:=j-lo) (n:=n) (by lia) hn;rw[List.getElem?_eq_getElem (by rw[str_len hn];lia)] at e1 e2;rw[Option.some.inj e1,Option.some.inj e2,show lo+(i-lo)=i by lia,show lo+(j-lo)=j by lia] at q;exact q
theorem K7(a:Array Keyed)(lo m n:Nat):str a lo (m+n)=str a lo m++str a (lo+m) n:=by
 unfold str;rw[List.take_add,List.drop_drop]
theorem yP{a:Array Keyed}{lo n:Nat}{z:Keyed}(h:z∈str a lo n):∃i,lo<=i/\i<lo+n/\i<a.size/\z=gt a i:=by
 obtain⟨i,hi,e⟩:=List.getElem_of_mem h;unfold str at hi;rw[List.length_take,List.length_drop,Array.length_toList] at hi;refine⟨lo+i,by lia,by lia,by lia,?_⟩;have h2:(str a lo n)[i]?=some z:=by rw[<-e];exact List.getElem?_eq_getElem _
 unfold str at h2;rw[List.getElem?_take_of_lt (by lia),List.getElem?_drop,Array.getElem?_toList,mH (by lia)] at h2;exact(Option.some.inj h2).symm
theorem WM(a:Array Keyed)(i j:Nat):(a.extract i j).toList=str a i (j-i):=by
 unfold str;rw[Array.toList_extract,List.extract_eq_take_drop]
noncomputable def put(a:Array Keyed)(off:Nat)(l:List Keyed):Array Keyed:=l.zipIdx.foldl (λa (p,j)=>a.setIfInBounds (off+j) p) a
theorem aD3(off:Nat):∀(l:List Keyed)(k:Nat)(a:Array Keyed),off+k+l.length<=a.size->
  ((l.zipIdx k).foldl (λa (p,j)=>a.setIfInBounds (off+j) p) a).toList=a.toList.take (off+k)++l++a.toList.drop (off+k+l.length)
 |[],k,a,_=>by simp
 |x::l,k,a,h=>by
  rw[List.zipIdx_cons,List.foldl_cons];rw[List.length_cons] at h;rw[aD3 off l (k+1) _ (by rw[Array.size_setIfInBounds];lia)];rw[Array.toList_setIfInBounds];have e1:(a.toList.set (off+k) x).take (off+(k+1))=a.toList.take (off+k)++[x]:=by
   rw[show off+(k+1)=(off+k)+1 by lia,List.take_add_one,List.take_set_of_le (Nat.le_refl _),List.getElem?_set_self (by rw[Array.length_toList];lia)];rfl
  have e2:(a.toList.set (off+k) x).drop (off+(k+1)+l.length)=a.toList.drop (off+k+(x::l).length):=by
   rw[List.drop_set_of_lt (by lia),List.length_cons]
   congr 1
   lia
  rw[e1,e2];simp
theorem yQ{a:Array Keyed}{off:Nat}{l:List Keyed}(h:off+l.length<=a.size):(put a off l).toList=a.toList.take off++l++a.toList.drop (off+l.length):=by
 have:=aD3 off l 0 a (by lia);rw[Nat.add_zero] at this;exact this
theorem K8{a:Array Keyed}{i:Nat}:gt a i=a.toList.getD i dk:=by
 unfold gt;by_cases h:i<a.size
 ·simp[Array.getD,h]
 ·simp[Array.getD,h]
structure Stp(lo hi:Nat)(st st':SortSt):Prop where
 kd:kindOf st'=kindOf st
 fl:failedOf st'=failedOf st
 pm:(arrOf st').Perm (arrOf st)
 out:∀j,j<lo\/hi<=j->gt (arrOf st') j=gt (arrOf st) j
theorem Stp.sz{lo hi:Nat}{st st':SortSt}(h:Stp lo hi st st'):(arrOf st').size=(arrOf st).size:=h.pm.size_eq
theorem bD{a b:Array Keyed}(hU:qZ U a)(p:b.Perm a):qZ U b:=λi hi=>by
 have:gt b i∈b.toList:=by
  rw[K8,List.getD_eq_getElem?_getD,List.getElem?_eq_getElem (by simpa using hi)];exact List.getElem_mem _
 obtain⟨j,hj,e⟩:=aD2 ((Array.perm_iff_toList_perm.mp p).mem_iff.mp this);rw[e];exact hU j hj
theorem Srt.mono{a:Array Keyed}{lo hi lo' hi':Nat}(h:Srt blt a lo hi)(h1:lo<=lo')(h2:hi'<=hi):Srt blt a lo' hi':=λi j a1 a2 a3=>h i j (by lia) a2 (by lia)
theorem Srt.out{a b:Array Keyed}{lo hi:Nat}(h:Srt blt a lo hi)(e:∀j,lo<=j->j<hi->gt b j=gt a j):Srt blt b lo hi:=λi j a1 a2 a3=>by
 rw[e i (by lia) (by lia),e j (by lia) a3];exact h i j a1 a2 a3
theorem TF(a:Array Keyed)(i m n:Nat):a.toList=a.toList.take i++(str a i m++str a (i+m) n)++a.toList.drop (i+(m+n)):=by
 rw[<-K7];unfold str;rw[List.append_assoc,<-List.drop_drop,List.take_append_drop,List.take_append_drop]
theorem aEt{a:Array Keyed}{off:Nat}{l:List Keyed}(h:off+l.length<=a.size):str (put a off l) off l.length=l:=by
 unfold str;rw[yQ h,List.append_assoc,List.drop_left' (by rw[List.length_take,Array.length_toList];lia),List.take_left' rfl]
theorem vB{a:Array Keyed}{off:Nat}{l:List Keyed}(h:off+l.length<=a.size){j:Nat}(hj:j<off\/off+l.length<=j):gt (put a off l) j=gt a j:=by
 rw[K8,K8,yQ h,List.getD_eq_getElem?_getD,List.getD_eq_getElem?_getD]
 congr 1
 have hl:(a.toList.take off).length=off:=by rw[List.length_take,Array.length_toList];lia
 rcases hj with hj|hj
 ·rw[List.append_assoc,List.getElem?_append_left (by lia),List.getElem?_take_of_lt hj]
 ·rw[List.getElem?_append_right (by rw[List.length_append];lia),List.length_append,hl,List.getElem?_drop]
  congr 1
  lia
end
section
variable {prog:Program} {w:World} {A:Around} {E:Value->Shared->Prop} {s:Shared} {kd:SortKind} {U:Keyed->Prop} {blt:Keyed->Keyed->Bool}
theorem aEu{σ:Type}{M:Model}{st st':σ}{Q:PUnit->σ->Prop}(h:Q ⟨⟩ st'):wpS M A E s (set st':StateT σ Sem PUnit) Q st:=by
 unfold wpS;rw[StateT.run_set];exact wpAny_pure ⟨rfl,h⟩
theorem K9(O:Ord U blt)(hL:S7 prog w A E s kd U blt){i:Nat}{st:SortSt}{Q:Bool->SortSt->Prop}(hk:kindOf st=kd)(hU:qZ U (arrOf st))(hF:failedOf st=none){sa na pw sb nb pw2:Nat}
 (p1:(pendingOf st)[i]?=some (sa,na,pw))(p2:(pendingOf st)[i+1]?=some (sb,nb,pw2))(hsb:sb=sa+na)(hsz:sb+nb<=(arrOf st).size)(hna:0<na)(hnb:0<nb)
 (s1:Srt blt (arrOf st) sa (sa+na))(s2:Srt blt (arrOf st) sb (sb+nb))
 (h:∀st',Stp sa (sb+nb) st st'->Srt blt (arrOf st') sa (sb+nb)->pendingOf st'=((pendingOf st).setIfInBounds i (sa,na+nb,pw)).eraseIdxIfInBounds (i+1)->Q true st') :
  wpS (model prog w) A E s (mergeAt' i) Q st:=by
 subst hsb
 with_unfolding_all refine wpS_bind (wpS_get ?_)
 dsimp only;rw[p1,p2];dsimp only;refine wpS_bind (aEu ?_);have hk':kindOf (setPending st (((pendingOf st).setIfInBounds i (sa,na+nb,pw)).eraseIdxIfInBounds (i+1)))=kd:=hk;refine wpS_bind (bU (arr:=arrOf st) (by lia) ?_);refine wpS_bind (tE (arr:=arrOf st) O hL hk' (by lia) hU (hU _ (by lia)) (s1.mono (Nat.le_refl _) (by lia)) (by lia) λk hk1 y1 y2=>?_);dsimp only;have y1':∀i,i<k->blt (gt (arrOf st) (sa+na)) (gt (arrOf st) (sa+i))=false:=λi hi=>by have:=y1 i hi;simpa[gp] using this
 have y2':∀i,k<=i->i<na->blt (gt (arrOf st) (sa+na)) (gt (arrOf st) (sa+i))=true:=λi i1 i2=>by have:=y2 i i1 i2;simpa[gp] using this
 -- the whole stretch is sorted as soon as the first part's last is no more than the second's first
 have whole:(∀i j,sa<=i->i<sa+na->sa+na<=j->j<sa+na+nb->blt (gt (arrOf st) j) (gt (arrOf st) i)=false)->Srt blt (arrOf st) sa (sa+na+nb):=λq i j a1 a2 a3=>by
  by_cases c1:j<sa+na
  ·exact s1 i j a1 a2 c1
  ·by_cases c2:sa+na<=i
   ·exact s2 i j c2 a2 a3
   ·exact q i j a1 (by lia) (by lia) a3
 have stp0:Stp sa (sa+na+nb) st (setPending st (((pendingOf st).setIfInBounds i (sa,na+nb,pw)).eraseIdxIfInBounds (i+1))):=⟨rfl,rfl,Array.Perm.refl _,λ_ _=>rfl⟩
 by_cases e1:na-k=0
 ·rw[if_pos (by simpa using e1)];refine wpS_pure (h _ stp0 (whole λi j i1 i2 j1 j2=>?_) rfl);have q:=y1' (i-sa) (by lia);rw[show sa+(i-sa)=i by lia] at q;exact O.le_trans (hU _ (by lia)) (hU _ (by lia)) (hU _ (by lia)) q (s2 _ _ (Nat.le_refl _) j1 j2)
 rw[if_neg (by simpa using e1)];refine wpS_bind (bU (arr:=arrOf st) (by lia) ?_);refine wpS_bind (tE (arr:=arrOf st) O hL hk' (by lia) hU (hU _ (by lia)) (s2.mono (Nat.le_refl _) (by lia)) (by lia) λnb' hnb1 z1 z2=>?_);dsimp only;have ez:sa+k+(na-k)-1=sa+na-1:=by lia
 have z1':∀i,i<nb'->blt (gt (arrOf st) (sa+na+i)) (gt (arrOf st) (sa+na-1))=true:=λi hi=>by have:=z1 i hi;rw[ez] at this;simpa[gp] using this
 have z2':∀i,nb'<=i->i<nb->blt (gt (arrOf st) (sa+na+i)) (gt (arrOf st) (sa+na-1))=false:=λi i1 i2=>by have:=z2 i i1 i2;rw[ez] at this;simpa[gp] using this
 by_cases e2:nb'=0
 ·rw[if_pos (by simpa using e2)];refine wpS_pure (h _ stp0 (whole λi j i1 i2 j1 j2=>?_) rfl);have q:=z2' (j-(sa+na)) (by lia) (by lia);rw[show sa+na+(j-(sa+na))=j by lia] at q;exact O.le_trans (hU _ (by lia)) (hU (sa+na-1) (by lia)) (hU _ (by lia)) (s1 i (sa+na-1) i1 (by lia) (by lia)) q
 rw[if_neg (by simpa using e2)];have ex:((arrOf st).extract (sa+k) (sa+na)).toList=str (arrOf st) (sa+k) (na-k):=by rw[WM];congr 1;lia
 have ey:((arrOf st).extract (sa+na) (sa+na+nb')).toList=str (arrOf st) (sa+na) nb':=by rw[WM];congr 1;lia
 have zx:((arrOf st).extract (sa+k) (sa+na)).size=na-k:=by rw[Array.size_extract];lia
 have zy:((arrOf st).extract (sa+na) (sa+na+nb')).size=nb':=by rw[Array.size_extract];lia
 have gx:∀i,i<na-k->gt ((arrOf st).extract (sa+k) (sa+na)) i=gt (arrOf st) (sa+k+i):=λi hi=>by
  have e:=kI (a:=arrOf st) (lo:=sa+k) (i:=i) (n:=na-k) hi (by lia);rw[<-ex,Array.getElem?_toList,mH (by lia)] at e;exact Option.some.inj e
 have gy:∀i,i<nb'->gt ((arrOf st).extract (sa+na) (sa+na+nb')) i=gt (arrOf st) (sa+na+i):=λi hi=>by
  have e:=kI (a:=arrOf st) (lo:=sa+na) (i:=i) (n:=nb') hi (by lia);rw[<-ey,Array.getElem?_toList,mH (by lia)] at e;exact Option.some.inj e
 have fin:∀(r:Array Keyed)(st2:SortSt),Sim (setPending st (((pendingOf st).setIfInBounds i (sa,na+nb,pw)).eraseIdxIfInBounds (i+1))) st2->
   r.toList=mrg blt ((arrOf st).extract (sa+k) (sa+na)).toList ((arrOf st).extract (sa+na) (sa+na+nb')).toList->
   wpS (model prog w) A E s (do
    modify λs=>setArr s (r.toList.zipIdx.foldl (λa (p,j)=>a.setIfInBounds (sa+k+j) p) (arrOf s))
    return (failedOf (<- get)).isNone) Q st2:=by
  intro r st2 sim hr;rw[ex,ey] at hr;have hlen:r.toList.length=(na-k)+nb':=by
   rw[hr,(yO _ _).length_eq,List.length_append,str_len (by lia),str_len (by lia)]
  have hfit:sa+k+r.toList.length<=(arrOf st).size:=by lia
  have ear:arrOf st2=arrOf st:=sim.ar;refine wpS_bind (wpS_modify (wpS_bind (wpS_get (wpS_pure ?_))));show Q (failedOf st2).isNone (setArr st2 (put (arrOf st2) (sa+k) r.toList));rw[sim.fl,show failedOf (setPending st _)=none from hF,ear];have hp:(put (arrOf st) (sa+k) r.toList).Perm (arrOf st):=by
   rw[Array.perm_iff_toList_perm,yQ hfit,hlen];have sp:=TF (arrOf st) (sa+k) (na-k) nb';rw[show sa+k+(na-k)=sa+na by lia] at sp
   conv=>rhs;rw[sp]
   rw[hr];exact(((yO _ _).append_left _).append_right _)
  have hU':=bD hU hp;refine h _ ⟨sim.kd,sim.fl,hp,λj hj=>?_⟩ ?_ ?_
  ·show gt (put (arrOf st) (sa+k) r.toList) j=gt (arrOf st) j;exact vB hfit (by lia)
  ·show Srt blt (put (arrOf st) (sa+k) r.toList) sa (sa+na+nb);have hsz':(put (arrOf st) (sa+k) r.toList).size=(arrOf st).size:=hp.size_eq;have e0:str (put (arrOf st) (sa+k) r.toList) (sa+k) ((na-k)+nb')=mrg blt (str (arrOf st) (sa+k) (na-k)) (str (arrOf st) (sa+na) nb'):=by
    rw[<-hlen,aEt hfit,hr]
   have ux:∀z∈str (arrOf st) (sa+k) (na-k),U z:=λz hz=>by obtain⟨i,_,_,i3,rfl⟩:=yP hz;exact hU i i3
   have uy:∀z∈str (arrOf st) (sa+na) nb',U z:=λz hz=>by obtain⟨i,_,_,i3,rfl⟩:=yP hz;exact hU i i3
   have sm:SL blt (mrg blt (str (arrOf st) (sa+k) (na-k)) (str (arrOf st) (sa+na) nb')):=
    WL O _ _ ux uy (Srt.sl (s1.mono (by lia) (by lia)) (by lia)) (Srt.sl (s2.mono (Nat.le_refl _) (by lia)) (by lia))
   have mid:Srt blt (put (arrOf st) (sa+k) r.toList) (sa+k) (sa+k+((na-k)+nb')):=SL.srt O hU' (by rw[e0];exact sm) (by lia);have inmid:∀j,sa+k<=j->j<sa+na+nb'->∃q,gt (put (arrOf st) (sa+k) r.toList) j=gt (arrOf st) q/\((sa+k<=q/\q<sa+na)\/(sa+na<=q/\q<sa+na+nb')):=by
    intro j j1 j2;have e:=kI (a:=put (arrOf st) (sa+k) r.toList) (lo:=sa+k) (i:=j-(sa+k)) (n:=(na-k)+nb') (by lia) (by lia);rw[e0,show sa+k+(j-(sa+k))=j by lia] at e;have hm:=List.mem_of_getElem? e;rcases K6.mp hm with hm|hm
    ·obtain⟨q,q1,q2,q3,q4⟩:=yP hm;exact⟨q,q4,.inl ⟨q1,by lia⟩⟩
    ·obtain⟨q,q1,q2,q3,q4⟩:=yP hm;exact⟨q,q4,.inr ⟨q1,q2⟩⟩
   intro i j a1 a2 a3
   -- three zones
   by_cases ci:i<sa+k
   ·have ei:gt (put (arrOf st) (sa+k) r.toList) i=gt (arrOf st) i:=vB hfit (by lia);by_cases cj:j<sa+k
    ·have ej:gt (put (arrOf st) (sa+k) r.toList) j=gt (arrOf st) j:=vB hfit (by lia);rw[ei,ej];exact s1 i j a1 a2 (by lia)
    ·have yi:=y1' (i-sa) (by lia);rw[show sa+(i-sa)=i by lia] at yi;have leB:∀q,sa+na<=q->q<sa+na+nb->blt (gt (arrOf st) q) (gt (arrOf st) i)=false:=λq q1 q2=>
      O.le_trans (hU _ (by lia)) (hU _ (by lia)) (hU _ (by lia)) yi (s2 _ _ (Nat.le_refl _) q1 q2)
     by_cases cj2:j<sa+na+nb'
     ·obtain⟨q,eq,hq⟩:=inmid j (by lia) cj2;rw[ei,eq];rcases hq with ⟨q1,q2⟩|⟨q1,q2⟩
      ·exact s1 i q a1 (by lia) q2
      ·exact leB q q1 (by lia)
     ·have ej:gt (put (arrOf st) (sa+k) r.toList) j=gt (arrOf st) j:=vB hfit (by lia);rw[ei,ej];exact leB j (by lia) a3
   ·by_cases ci2:i<sa+na+nb'
    ·by_cases cj2:j<sa+na+nb'
     ·exact mid i j (by lia) a2 (by lia)
     ·have ej:gt (put (arrOf st) (sa+k) r.toList) j=gt (arrOf st) j:=vB hfit (by lia);obtain⟨q,eq,hq⟩:=inmid i (by lia) ci2;rw[eq,ej];rcases hq with ⟨q1,q2⟩|⟨q1,q2⟩
      ·have zj:=z2' (j-(sa+na)) (by lia) (by lia);rw[show sa+na+(j-(sa+na))=j by lia] at zj;exact O.le_trans (hU _ (by lia)) (hU (sa+na-1) (by lia)) (hU _ (by lia)) (s1 q (sa+na-1) (by lia) (by lia) (by lia)) zj
      ·exact s2 q j q1 (by lia) a3
    ·have ei:gt (put (arrOf st) (sa+k) r.toList) i=gt (arrOf st) i:=vB hfit (by lia);have ej:gt (put (arrOf st) (sa+k) r.toList) j=gt (arrOf st) j:=vB hfit (by lia);rw[ei,ej];exact s2 i j (by lia) a2 a3
  ·show pendingOf st2=_;exact sim.pd
 have hUx:qZ U ((arrOf st).extract (sa+k) (sa+na)):=λi hi=>by rw[zx] at hi;rw[gx i hi];exact hU _ (by lia)
 have hUy:qZ U ((arrOf st).extract (sa+na) (sa+na+nb')):=λi hi=>by rw[zy] at hi;rw[gy i hi];exact hU _ (by lia)
 have hsx:Srt blt ((arrOf st).extract (sa+k) (sa+na)) 0 ((arrOf st).extract (sa+k) (sa+na)).size:=λi j a1 a2 a3=>by
  rw[zx] at a3;rw[gx i (by lia),gx j a3];exact s1 _ _ (by lia) (by lia) (by lia)
 have hsy:Srt blt ((arrOf st).extract (sa+na) (sa+na+nb')) 0 ((arrOf st).extract (sa+na) (sa+na+nb')).size:=λi j a1 a2 a3=>by
  rw[zy] at a3;rw[gy i (by lia),gy j a3];exact s2 _ _ (by lia) (by lia) (by lia)
 have hfst:blt (gt ((arrOf st).extract (sa+na) (sa+na+nb')) 0) (gt ((arrOf st).extract (sa+k) (sa+na)) 0)=true:=by
  rw[gx 0 (by lia),gy 0 (by lia)];exact y2' k (Nat.le_refl _) (by lia)
 have hlst:∀i,i<((arrOf st).extract (sa+na) (sa+na+nb')).size->blt (gt ((arrOf st).extract (sa+na) (sa+na+nb')) i) (gt ((arrOf st).extract (sa+k) (sa+na)) (((arrOf st).extract (sa+k) (sa+na)).size-1))=true:=λi hi=>by
  rw[zy] at hi;rw[zx,gx (na-k-1) (by lia),gy i hi,show sa+k+(na-k-1)=sa+na-1 by lia];exact z1' i hi
 by_cases ce:na-k<=nb'
 ·rw[if_pos ce];exact wpS_bind (KZ (a:=(arrOf st).extract (sa+k) (sa+na)) (b:=(arrOf st).extract (sa+na) (sa+na+nb')) O hL hk' hUx hUy hsx hsy (by lia) (by lia) hfst hlst fin)
 ·rw[if_neg ce];exact wpS_bind (K5 (a:=(arrOf st).extract (sa+k) (sa+na)) (b:=(arrOf st).extract (sa+na) (sa+na+nb')) O hL hk' hUx hUy hsx hsy (by lia) (by lia) hfst hlst fin)
end
section
variable {blt:Keyed->Keyed->Bool} {U:Keyed->Prop}
def Eqv(blt:Keyed->Keyed->Bool)(x y:Keyed):Prop:=blt x y=false/\blt y x=false
theorem Eqv.aAm(O:Ord U blt){x:Keyed}(h:U x):Eqv blt x x:=⟨O.irr x h,O.irr x h⟩
theorem Eqv.symm{x y:Keyed}(h:Eqv blt x y):Eqv blt y x:=⟨h.2,h.1⟩
theorem Eqv.trans(O:Ord U blt){x y z:Keyed}(hx:U x)(hy:U y)(hz:U z)(h:Eqv blt x y)(g:Eqv blt y z):Eqv blt x z:=⟨O.le_trans hz hy hx g.1 h.1,O.le_trans hx hy hz h.2 g.2⟩
def NonInc(blt:Keyed->Keyed->Bool)(a:Array Keyed)(lo n:Nat):Prop:=∀i j,lo<=i->i<=j->j<lo+n->blt (gt a i) (gt a j)=false
theorem aKe(a:Array Keyed)(i:Nat):gt a i=(a[i]?).getD dk:=by
 unfold gt;by_cases h:i<a.size
 ·simp[Array.getD,h]
 ·simp[Array.getD,h]
theorem mL{a:Array Keyed}{i j:Nat}(hj:j<=a.size)(k:Nat):gt (mirror a i j ((j-i) / 2)) k=if i<=k/\k<j then gt a (i+j-1-k) else gt a k:=by
 rw[aKe,getElem?_mirror_all hj];split<;>rw[aKe]
theorem Stp.mir{lo hi:Nat}{st st':SortSt}(h:Stp lo hi st st'){i j:Nat}(hi':lo<=i)(hj:j<=hi)(hs:j<=(arrOf st').size):Stp lo hi st (setArr st' (mirror (arrOf st') i j ((j-i) / 2))):=
 ⟨h.kd,h.fl,(mirror_perm _ _ _ _).trans h.pm,λk hk=>by
  show gt (mirror (arrOf st') i j ((j-i) / 2)) k=_;rw[mL hs,if_neg (by lia)];exact h.out k hk⟩
theorem q_(O:Ord U blt){a:Array Keyed}{lo x:Nat}(hU:qZ U a)(hx:lo+x<a.size)(h0:1<=x)(h:Srt blt a lo (lo+x))(e:blt (gt a (lo+x)) (gt a (lo+x-1))=false):Srt blt a lo (lo+(x+1)):=λi j a1 a2 a3=>by
 by_cases c:j<lo+x
 ·exact h i j a1 a2 c
 ·obtain rfl:j=lo+x:=by lia
  by_cases d:i=lo+x
  ·rw[d];exact O.irr _ (hU _ hx)
  ·exact O.le_trans (hU _ (by lia)) (hU _ (by lia)) (hU _ hx) (h i (lo+x-1) a1 (by lia) (by lia)) e
theorem tG(O:Ord U blt){a:Array Keyed}{lo x:Nat}(hU:qZ U a)(hx:lo+x<a.size)(h0:1<=x)(h:NonInc blt a lo x)(e:blt (gt a (lo+x-1)) (gt a (lo+x))=false):NonInc blt a lo (x+1):=λi j a1 a2 a3=>by
 by_cases c:j<lo+x
 ·exact h i j a1 a2 c
 ·obtain rfl:j=lo+x:=by lia
  by_cases d:i=lo+x
  ·rw[d];exact O.irr _ (hU _ hx)
  ·exact O.le_trans (hU _ hx) (hU _ (by lia)) (hU _ (by lia)) e (h i (lo+x-1) a1 (by lia) (by lia))
theorem yR{a:Array Keyed}{lo m:Nat}(hs:lo+m<=a.size)(h:NonInc blt a lo m):Srt blt (mirror a lo (lo+m) ((lo+m-lo) / 2)) lo (lo+m):=λi j a1 a2 a3=>by
 rw[mL hs,mL hs,if_pos (by lia),if_pos (by lia)];exact h _ _ (by lia) (by lia) (by lia)
theorem yS(O:Ord U blt){a:Array Keyed}{lo m neq:Nat}(hU:qZ U a)(hs:lo+m<=a.size)(hq:neq+1<=m)(h:∀i,lo+m-(neq+1)<=i->i<lo+m->Eqv blt (gt a i) (gt a (lo+m-1))) :
  ∀k,k<a.size->Eqv blt (gt (mirror a (lo+m-(neq+1)) (lo+m) ((lo+m-(lo+m-(neq+1))) / 2)) k) (gt a k):=λk hk=>by
 rw[mL hs];by_cases c:lo+m-(neq+1)<=k/\k<lo+m
 ·rw[if_pos c];exact(h _ (by lia) (by lia)).trans O (hU _ (by lia)) (hU _ (by lia)) (hU _ (by lia)) (h k c.1 c.2).symm
 ·rw[if_neg c];exact Eqv.aAm O (hU _ hk)
theorem GF(O:Ord U blt){a b:Array Keyed}{lo n:Nat}(hU:qZ U a)(hV:qZ U b)(hs:lo+n<=a.size)(ht:lo+n<=b.size)(h:NonInc blt a lo n)(e:∀k,k<a.size->Eqv blt (gt b k) (gt a k)):NonInc blt b lo n:=λi j a1 a2 a3=>
 O.le_trans (hV j (by lia)) (hU j (by lia)) (hV i (by lia)) (e j (by lia)).2 (O.le_trans (hU j (by lia)) (hU i (by lia)) (hV i (by lia)) (h i j a1 a2 a3) (e i (by lia)).1)
end
section
variable {prog:Program} {w:World} {A:Around} {E:Value->Shared->Prop} {s:Shared} {kd:SortKind} {U:Keyed->Prop} {blt:Keyed->Keyed->Bool}
theorem wpS_ltAt(hL:S7 prog w A E s kd U blt){i j:Nat}{st:SortSt}{Q:Option Bool->SortSt->Prop}(hk:kindOf st=kd)(hU:qZ U (arrOf st))(hi:i<(arrOf st).size)(hj:j<(arrOf st).size)
 (h:Q (some (blt (gt (arrOf st) i) (gt (arrOf st) j))) st):wpS (model prog w) A E s (ltAt' i j) Q st:=by
 rw[ltAt'_eq];exact wpS_bind (wpS_get (wpS_bind (bU hi (wpS_bind (bU hj (hL _ _ _ _ (hU _ hi) (hU _ hj) hk h))))))
noncomputable abbrev mrA(st3:SortSt)(lo m neq:Nat):SortSt:=setArr st3 (mirror (arrOf st3) (lo+m-(neq+1)) (lo+m) ((lo+m-(lo+m-(neq+1))) / 2))
noncomputable abbrev mrB(st3:SortSt)(lo m:Nat):SortSt:=setArr st3 (mirror (arrOf st3) lo (lo+m) ((lo+m-lo) / 2))
theorem wpS_countRun(O:Ord U blt)(hL:S7 prog w A E s kd U blt){lo nrem:Nat}{st:SortSt}{Q:Option Nat->SortSt->Prop}(hk:kindOf st=kd)(hU:qZ U (arrOf st))(hn:lo+nrem<=(arrOf st).size)(h1:1<=nrem)
 (h:∀m st',Stp lo (lo+nrem) st st'->pendingOf st'=pendingOf st->1<=m->m<=nrem->Srt blt (arrOf st') lo (lo+m)->Q (some m) st'):wpS (model prog w) A E s (countRun' lo nrem) Q st:=by
 rw[countRun'_eq];have stp0:Stp lo (lo+nrem) st st:=⟨rfl,rfl,Array.Perm.refl _,λ_ _=>rfl⟩
 refine wpS_bind (wpS_mono (wpS_forRange
  (I:=λx c st'=>st'=st/\c=(none,x)/\Srt blt (arrOf st) lo (lo+x))
  (Q:=λc st'=>st'=st/\∃m,c=(none,m)/\1<=m/\m<=nrem/\Srt blt (arrOf st) lo (lo+m)/\(m=nrem\/(m<nrem/\blt (gt (arrOf st) (lo+m)) (gt (arrOf st) (lo+m-1))=true))) ?step ?fin ?init) ?post)
 case init=>exact⟨rfl,rfl,λi j a1 a2 a3=>by rw[show i=lo by lia,show j=lo by lia];exact O.irr _ (hU _ (by lia))⟩
 case fin=>
  rintro c st' ⟨rfl,rfl,q⟩;rw[show max 1 nrem=nrem by lia] at q ⊢;exact⟨rfl,nrem,rfl,h1,Nat.le_refl _,q,.inl rfl⟩
 case step=>
  rintro x c st' x1 x2 ⟨rfl,rfl,q⟩;dsimp only;refine wpS_bind (wpS_ltAt hL hk hU (by lia) (by lia) ?_);dsimp only;cases e:blt (gt (arrOf st') (lo+x)) (gt (arrOf st') (lo+x-1)) with
  |true=>
   simp only[if_true];exact wpS_pure ⟨rfl,x,rfl,x1,by lia,q,.inr ⟨x2,e⟩⟩
  |false=>
   simp only[Bool.false_eq_true,if_false];exact wpS_pure ⟨rfl,rfl,q_ O hU (by lia) x1 q e⟩
 case post=>
  rintro c st ⟨hst,n,rfl,n1,n2,q,hor⟩;have hst:=hst.symm;subst hst;dsimp only;by_cases hnn:n=nrem
  ·rw[if_pos (by simpa using hnn)];exact wpS_pure (h n _ stp0 rfl n1 n2 q)
  rw[if_neg (by simpa using hnn)];obtain⟨n3,hlt⟩:=hor.resolve_left hnn;by_cases hgt:n > 1
  ·rw[if_pos hgt];refine wpS_bind (wpS_ltAt hL hk hU (by lia) (by lia) ?_);dsimp only;cases e:blt (gt (arrOf st) lo) (gt (arrOf st) (lo+n-1)) with
   |true=>
    simp only[if_true];exact wpS_pure (h n _ stp0 rfl n1 n2 q)
   |false=>
    simp only[Bool.false_eq_true,if_false];refine wpS_bind (wpS_reverse ?_);have stp2:Stp lo (lo+nrem) st (setArr st (mirror (arrOf st) lo (lo+n) ((lo+n-lo) / 2))):=stp0.mir (Nat.le_refl _) (by lia) (by lia);have pd2:pendingOf (setArr st (mirror (arrOf st) lo (lo+n) ((lo+n-lo) / 2)))=pendingOf st:=rfl;have ev:∀i,lo<=i->i<lo+n->Eqv blt (gt (arrOf st) i) (gt (arrOf st) (lo+n-1)):=λi i1 i2=>by
     refine⟨?_,q i (lo+n-1) i1 (by lia) (by lia)⟩
     ·cases z:blt (gt (arrOf st) i) (gt (arrOf st) (lo+n-1)) with
      |false=>rfl
      |true=>
       rcases O.ntr _ (gt (arrOf st) lo) _ (hU i (by lia)) (hU lo (by lia)) (hU (lo+n-1) (by lia)) z with p|p
       ·rw[q lo i (Nat.le_refl _) i1 i2] at p;cases p
       ·rw[e] at p;cases p
    have hm:∀k,k<(arrOf st).size->Eqv blt (gt (mirror (arrOf st) lo (lo+n) ((lo+n-lo) / 2)) k) (gt (arrOf st) k):=λk hk'=>by
     rw[mL (by lia)];by_cases c:lo<=k/\k<lo+n
     ·rw[if_pos c];exact(ev _ (by lia) (by lia)).trans O (hU _ (by lia)) (hU _ (by lia)) (hU _ (by lia)) (ev k c.1 c.2).symm
     ·rw[if_neg c];exact Eqv.aAm O (hU _ hk')
    have ni1:NonInc blt (arrOf st) lo n:=λi j a1 a2 a3=>((ev i a1 (by lia)).trans O (hU _ (by lia)) (hU _ (by lia)) (hU _ (by lia)) (ev j (by lia) a3).symm).1
    have ni2:NonInc blt (arrOf (setArr st (mirror (arrOf st) lo (lo+n) ((lo+n-lo) / 2)))) lo (n+1):=
     GF O hU (bD hU (mirror_perm _ _ _ _)) (by lia) (by show lo+(n+1)<=(mirror _ _ _ _).size;rw[mirror_size];lia) (tG O hU (by lia) n1 ni1 (O.aAl (hU _ (by lia)) (hU _ (by lia)) hlt)) hm
    refine wpS_bind (wpS_lift (wpAny_rule ⟨rfl,?_⟩));refine wpS_bind (wpS_mono (wpS_forRange
     (I:=λx c st'=>∃neq,c=(none,x,neq)/\Stp lo (lo+nrem) st st'/\pendingOf st'=pendingOf st/\NonInc blt (arrOf st') lo x/\neq+1<=x/\∀i,lo+x-(neq+1)<=i->i<lo+x->Eqv blt (gt (arrOf st') i) (gt (arrOf st') (lo+x-1)))
     (Q:=λc st'=>∃m neq,c=(none,m,neq)/\n+1<=m/\m<=nrem/\Stp lo (lo+nrem) st st'/\pendingOf st'=pendingOf st/\NonInc blt (arrOf st') lo m/\neq+1<=m/\∀i,lo+m-(neq+1)<=i->i<lo+m->Eqv blt (gt (arrOf st') i) (gt (arrOf st') (lo+m-1))) ?dstep ?dfin ?dinit) ?dpost)
    case dinit=>exact⟨0,rfl,stp2,pd2,ni2,by lia,λi i1 i2=>by rw[show i=lo+(n+1)-1 by lia];exact Eqv.aAm O (bD hU stp2.pm _ (by rw[stp2.sz];lia))⟩
    case dfin=>
     rintro c st' ⟨neq,rfl,q1,q2,q3,q4,q5⟩;rw[show max (n+1) nrem=nrem by lia] at q3 q4 q5 ⊢;exact⟨nrem,neq,rfl,by lia,Nat.le_refl _,q1,q2,q3,q4,q5⟩
    case dstep=>
     rintro x c st' x1 x2 ⟨neq,rfl,q1,q2,q3,q4,q5⟩;dsimp only;have hUx:=bD hU q1.pm;have hzx:lo+nrem<=(arrOf st').size:=by rw[q1.sz];lia
     refine wpS_bind (wpS_ltAt hL (q1.kd.trans hk) hUx (by lia) (by lia) ?_);dsimp only;cases e:blt (gt (arrOf st') (lo+x)) (gt (arrOf st') (lo+x-1)) with
     |true=>
      simp only[if_true];have ni':NonInc blt (arrOf st') lo (x+1):=tG O hUx (by lia) (by lia) q3 (O.aAl (hUx _ (by lia)) (hUx _ (by lia)) e);by_cases hq:neq > 0
      ·rw[if_pos hq];refine wpS_bind (wpS_reverse (wpS_pure ⟨0,rfl,q1.mir (by lia) (by lia) (by lia),q2,?_,by lia,λi i1 i2=>?_⟩))
       ·exact GF O hUx (bD hUx (mirror_perm _ _ _ _)) (by lia) (by rw[mirror_size];lia) ni' (yS O hUx (by lia) (by lia) q5)
       ·rw[show i=lo+(x+1)-1 by lia];exact Eqv.aAm O (bD hUx (mirror_perm _ _ _ _) _ (by rw[mirror_size];lia))
      ·rw[if_neg hq];exact wpS_pure ⟨0,rfl,q1,q2,ni',by lia,λi i1 i2=>by rw[show i=lo+(x+1)-1 by lia];exact Eqv.aAm O (hUx _ (by lia))⟩
     |false=>
      simp only[Bool.false_eq_true,if_false];refine wpS_bind (wpS_ltAt hL (q1.kd.trans hk) hUx (by lia) (by lia) ?_);dsimp only;cases e2:blt (gt (arrOf st') (lo+x-1)) (gt (arrOf st') (lo+x)) with
      |true=>
       simp only[if_true];exact wpS_pure ⟨x,neq,rfl,x1,by lia,q1,q2,q3,q4,q5⟩
      |false=>
       simp only[Bool.false_eq_true,if_false];refine wpS_pure ⟨neq+1,rfl,q1,q2,tG O hUx (by lia) (by lia) q3 e2,by lia,λi i1 i2=>?_⟩;rw[show lo+(x+1)-1=lo+x by lia];by_cases c:i=lo+x
       ·rw[c];exact Eqv.aAm O (hUx _ (by lia))
       ·exact(q5 i (by lia) (by lia)).trans O (hUx _ (by lia)) (hUx _ (by lia)) (hUx _ (by lia)) ⟨e2,e⟩
    case dpost=>
     rintro c st3 ⟨m,neq,rfl,m1,m2,q1,q2,q3,q4,q5⟩;dsimp only;have hU3:=bD hU q1.pm;have hz3:lo+nrem<=(arrOf st3).size:=by rw[q1.sz];lia
     by_cases hq:neq > 0
     ·rw[if_pos hq];refine wpS_bind (wpS_reverse ?_);have stp4:=q1.mir (i:=lo+m-(neq+1)) (j:=lo+m) (by lia) (by lia) (by lia);have ni4:NonInc blt (mirror (arrOf st3) (lo+m-(neq+1)) (lo+m) ((lo+m-(lo+m-(neq+1))) / 2)) lo m:=
       GF O hU3 (bD hU3 (mirror_perm _ _ _ _)) (by lia) (by rw[mirror_size];lia) q3 (yS O hU3 (by lia) (by lia) q5)
      refine wpS_bind (wpS_reverse ?_);have stpA:Stp lo (lo+nrem) st (setArr (mrA st3 lo m neq) (mirror (arrOf (mrA st3 lo m neq)) lo (lo+m) ((lo+m-lo) / 2))):=stp4.mir (Nat.le_refl _) (by lia) (by rw[stp4.sz];lia);have pdA:pendingOf (setArr (mrA st3 lo m neq) (mirror (arrOf (mrA st3 lo m neq)) lo (lo+m) ((lo+m-lo) / 2)))=pendingOf st:=q2;have hsA:Srt blt (arrOf (setArr (mrA st3 lo m neq) (mirror (arrOf (mrA st3 lo m neq)) lo (lo+m) ((lo+m-lo) / 2)))) lo (lo+m):=yR (by rw[stp4.sz];lia) ni4;refine wpS_bind (wpS_mono (wpS_forRange
       (I:=λx c st'=>st'=(setArr (mrA st3 lo m neq) (mirror (arrOf (mrA st3 lo m neq)) lo (lo+m) ((lo+m-lo) / 2)))/\c=(none,x)/\Srt blt (arrOf (setArr (mrA st3 lo m neq) (mirror (arrOf (mrA st3 lo m neq)) lo (lo+m) ((lo+m-lo) / 2)))) lo (lo+x))
       (Q:=λc st'=>st'=(setArr (mrA st3 lo m neq) (mirror (arrOf (mrA st3 lo m neq)) lo (lo+m) ((lo+m-lo) / 2)))/\∃mm,c=(none,mm)/\m<=mm/\mm<=nrem/\Srt blt (arrOf (setArr (mrA st3 lo m neq) (mirror (arrOf (mrA st3 lo m neq)) lo (lo+m) ((lo+m-lo) / 2)))) lo (lo+mm)) ?stepA ?finA ?initA) ?postA)
      case initA=>exact⟨rfl,rfl,hsA⟩
      case finA=>
       rintro c st' ⟨rfl,rfl,q⟩;rw[show max m nrem=nrem by lia] at q ⊢;exact⟨rfl,nrem,rfl,by lia,Nat.le_refl _,q⟩
      case postA=>
       rintro c st' ⟨rfl,mm,rfl,mm1,mm2,q⟩;exact wpS_pure (h mm _ stpA pdA (by lia) mm2 q)
      case stepA=>
       rintro x c st' x1 x2 ⟨rfl,rfl,q⟩;dsimp only;refine wpS_bind (wpS_ltAt hL (stpA.kd.trans hk) (bD hU stpA.pm) (by rw[stpA.sz];lia) (by rw[stpA.sz];lia) ?_);dsimp only;cases e:blt (gt (arrOf (setArr (mrA st3 lo m neq) (mirror (arrOf (mrA st3 lo m neq)) lo (lo+m) ((lo+m-lo) / 2)))) (lo+x)) (gt (arrOf (setArr (mrA st3 lo m neq) (mirror (arrOf (mrA st3 lo m neq)) lo (lo+m) ((lo+m-lo) / 2)))) (lo+x-1)) with
       |true=>
        simp only[if_true];exact wpS_pure ⟨rfl,x,rfl,x1,by lia,q⟩
       |false=>
        simp only[Bool.false_eq_true,if_false];exact wpS_pure ⟨rfl,rfl,q_ O (bD hU stpA.pm) (by rw[stpA.sz];lia) (by lia) q e⟩
     ·rw[if_neg hq];refine wpS_bind (wpS_reverse ?_);have stpB:Stp lo (lo+nrem) st (mrB st3 lo m):=q1.mir (Nat.le_refl _) (by lia) (by rw[q1.sz];lia);have pdB:pendingOf (mrB st3 lo m)=pendingOf st:=q2;have hsB:Srt blt (arrOf (mrB st3 lo m)) lo (lo+m):=yR (by rw[q1.sz];lia) q3;refine wpS_bind (wpS_mono (wpS_forRange
       (I:=λx c st'=>st'=(mrB st3 lo m)/\c=(none,x)/\Srt blt (arrOf (mrB st3 lo m)) lo (lo+x))
       (Q:=λc st'=>st'=(mrB st3 lo m)/\∃mm,c=(none,mm)/\m<=mm/\mm<=nrem/\Srt blt (arrOf (mrB st3 lo m)) lo (lo+mm)) ?stepB ?finB ?initB) ?postB)
      case initB=>exact⟨rfl,rfl,hsB⟩
      case finB=>
       rintro c st' ⟨rfl,rfl,q⟩;rw[show max m nrem=nrem by lia] at q ⊢;exact⟨rfl,nrem,rfl,by lia,Nat.le_refl _,q⟩
      case postB=>
       rintro c st' ⟨rfl,mm,rfl,mm1,mm2,q⟩;exact wpS_pure (h mm _ stpB pdB (by lia) mm2 q)
      case stepB=>
       rintro x c st' x1 x2 ⟨rfl,rfl,q⟩;dsimp only;refine wpS_bind (wpS_ltAt hL (stpB.kd.trans hk) (bD hU stpB.pm) (by rw[stpB.sz];lia) (by rw[stpB.sz];lia) ?_);dsimp only;cases e:blt (gt (arrOf (mrB st3 lo m)) (lo+x)) (gt (arrOf (mrB st3 lo m)) (lo+x-1)) with
       |true=>
        simp only[if_true];exact wpS_pure ⟨rfl,x,rfl,x1,by lia,q⟩
       |false=>
        simp only[Bool.false_eq_true,if_false];exact wpS_pure ⟨rfl,rfl,q_ O (bD hU stpB.pm) (by rw[stpB.sz];lia) (by lia) q e⟩
  ·rw[if_neg hgt];obtain rfl:n=1:=by lia
   have stp2:=stp0;have pd2:pendingOf st=pendingOf st:=rfl;have ni2:NonInc blt (arrOf st) lo (1+1):=tG O hU (by lia) (Nat.le_refl _) (λi j a1 a2 a3=>by rw[show i=lo by lia,show j=lo by lia];exact O.irr _ (hU _ (by lia))) (O.aAl (hU _ (by lia)) (hU _ (by lia)) hlt);refine wpS_bind (wpS_lift (wpAny_rule ⟨rfl,?_⟩));refine wpS_bind (wpS_mono (wpS_forRange
    (I:=λx c st'=>∃neq,c=(none,x,neq)/\Stp lo (lo+nrem) st st'/\pendingOf st'=pendingOf st/\NonInc blt (arrOf st') lo x/\neq+1<=x/\∀i,lo+x-(neq+1)<=i->i<lo+x->Eqv blt (gt (arrOf st') i) (gt (arrOf st') (lo+x-1)))
    (Q:=λc st'=>∃m neq,c=(none,m,neq)/\1+1<=m/\m<=nrem/\Stp lo (lo+nrem) st st'/\pendingOf st'=pendingOf st/\NonInc blt (arrOf st') lo m/\neq+1<=m/\∀i,lo+m-(neq+1)<=i->i<lo+m->Eqv blt (gt (arrOf st') i) (gt (arrOf st') (lo+m-1))) ?dstep ?dfin ?dinit) ?dpost)
   case dinit=>exact⟨0,rfl,stp2,pd2,ni2,by lia,λi i1 i2=>by rw[show i=lo+(1+1)-1 by lia];exact Eqv.aAm O (bD hU stp2.pm _ (by rw[stp2.sz];lia))⟩
   case dfin=>
    rintro c st' ⟨neq,rfl,q1,q2,q3,q4,q5⟩;rw[show max (1+1) nrem=nrem by lia] at q3 q4 q5 ⊢;exact⟨nrem,neq,rfl,by lia,Nat.le_refl _,q1,q2,q3,q4,q5⟩
   case dstep=>
    rintro x c st' x1 x2 ⟨neq,rfl,q1,q2,q3,q4,q5⟩;dsimp only;have hUx:=bD hU q1.pm;have hzx:lo+nrem<=(arrOf st').size:=by rw[q1.sz];lia
    refine wpS_bind (wpS_ltAt hL (q1.kd.trans hk) hUx (by lia) (by lia) ?_);dsimp only;cases e:blt (gt (arrOf st') (lo+x)) (gt (arrOf st') (lo+x-1)) with
    |true=>
     simp only[if_true];have ni':NonInc blt (arrOf st') lo (x+1):=tG O hUx (by lia) (by lia) q3 (O.aAl (hUx _ (by lia)) (hUx _ (by lia)) e);by_cases hq:neq > 0
     ·rw[if_pos hq];refine wpS_bind (wpS_reverse (wpS_pure ⟨0,rfl,q1.mir (by lia) (by lia) (by lia),q2,?_,by lia,λi i1 i2=>?_⟩))
      ·exact GF O hUx (bD hUx (mirror_perm _ _ _ _)) (by lia) (by rw[mirror_size];lia) ni' (yS O hUx (by lia) (by lia) q5)
      ·rw[show i=lo+(x+1)-1 by lia];exact Eqv.aAm O (bD hUx (mirror_perm _ _ _ _) _ (by rw[mirror_size];lia))
     ·rw[if_neg hq];exact wpS_pure ⟨0,rfl,q1,q2,ni',by lia,λi i1 i2=>by rw[show i=lo+(x+1)-1 by lia];exact Eqv.aAm O (hUx _ (by lia))⟩
    |false=>
     simp only[Bool.false_eq_true,if_false];refine wpS_bind (wpS_ltAt hL (q1.kd.trans hk) hUx (by lia) (by lia) ?_);dsimp only;cases e2:blt (gt (arrOf st') (lo+x-1)) (gt (arrOf st') (lo+x)) with
     |true=>
      simp only[if_true];exact wpS_pure ⟨x,neq,rfl,x1,by lia,q1,q2,q3,q4,q5⟩
     |false=>
      simp only[Bool.false_eq_true,if_false];refine wpS_pure ⟨neq+1,rfl,q1,q2,tG O hUx (by lia) (by lia) q3 e2,by lia,λi i1 i2=>?_⟩;rw[show lo+(x+1)-1=lo+x by lia];by_cases c:i=lo+x
      ·rw[c];exact Eqv.aAm O (hUx _ (by lia))
      ·exact(q5 i (by lia) (by lia)).trans O (hUx _ (by lia)) (hUx _ (by lia)) (hUx _ (by lia)) ⟨e2,e⟩
   case dpost=>
    rintro c st3 ⟨m,neq,rfl,m1,m2,q1,q2,q3,q4,q5⟩;dsimp only;have hU3:=bD hU q1.pm;have hz3:lo+nrem<=(arrOf st3).size:=by rw[q1.sz];lia
    by_cases hq:neq > 0
    ·rw[if_pos hq];refine wpS_bind (wpS_reverse ?_);have stp4:=q1.mir (i:=lo+m-(neq+1)) (j:=lo+m) (by lia) (by lia) (by lia);have ni4:NonInc blt (mirror (arrOf st3) (lo+m-(neq+1)) (lo+m) ((lo+m-(lo+m-(neq+1))) / 2)) lo m:=
      GF O hU3 (bD hU3 (mirror_perm _ _ _ _)) (by lia) (by rw[mirror_size];lia) q3 (yS O hU3 (by lia) (by lia) q5)
     refine wpS_bind (wpS_reverse ?_);have stpA:Stp lo (lo+nrem) st (setArr (mrA st3 lo m neq) (mirror (arrOf (mrA st3 lo m neq)) lo (lo+m) ((lo+m-lo) / 2))):=stp4.mir (Nat.le_refl _) (by lia) (by rw[stp4.sz];lia);have pdA:pendingOf (setArr (mrA st3 lo m neq) (mirror (arrOf (mrA st3 lo m neq)) lo (lo+m) ((lo+m-lo) / 2)))=pendingOf st:=q2;have hsA:Srt blt (arrOf (setArr (mrA st3 lo m neq) (mirror (arrOf (mrA st3 lo m neq)) lo (lo+m) ((lo+m-lo) / 2)))) lo (lo+m):=yR (by rw[stp4.sz];lia) ni4;refine wpS_bind (wpS_mono (wpS_forRange
      (I:=λx c st'=>st'=(setArr (mrA st3 lo m neq) (mirror (arrOf (mrA st3 lo m neq)) lo (lo+m) ((lo+m-lo) / 2)))/\c=(none,x)/\Srt blt (arrOf (setArr (mrA st3 lo m neq) (mirror (arrOf (mrA st3 lo m neq)) lo (lo+m) ((lo+m-lo) / 2)))) lo (lo+x))
      (Q:=λc st'=>st'=(setArr (mrA st3 lo m neq) (mirror (arrOf (mrA st3 lo m neq)) lo (lo+m) ((lo+m-lo) / 2)))/\∃mm,c=(none,mm)/\m<=mm/\mm<=nrem/\Srt blt (arrOf (setArr (mrA st3 lo m neq) (mirror (arrOf (mrA st3 lo m neq)) lo (lo+m) ((lo+m-lo) / 2)))) lo (lo+mm)) ?stepA ?finA ?initA) ?postA)
     case initA=>exact⟨rfl,rfl,hsA⟩
     case finA=>
      rintro c st' ⟨rfl,rfl,q⟩;rw[show max m nrem=nrem by lia] at q ⊢;exact⟨rfl,nrem,rfl,by lia,Nat.le_refl _,q⟩
     case postA=>
      rintro c st' ⟨rfl,mm,rfl,mm1,mm2,q⟩;exact wpS_pure (h mm _ stpA pdA (by lia) mm2 q)
     case stepA=>
      rintro x c st' x1 x2 ⟨rfl,rfl,q⟩;dsimp only;refine wpS_bind (wpS_ltAt hL (stpA.kd.trans hk) (bD hU stpA.pm) (by rw[stpA.sz];lia) (by rw[stpA.sz];lia) ?_);dsimp only;cases e:blt (gt (arrOf (setArr (mrA st3 lo m neq) (mirror (arrOf (mrA st3 lo m neq)) lo (lo+m) ((lo+m-lo) / 2)))) (lo+x)) (gt (arrOf (setArr (mrA st3 lo m neq) (mirror (arrOf (mrA st3 lo m neq)) lo (lo+m) ((lo+m-lo) / 2)))) (lo+x-1)) with
      |true=>
       simp only[if_true];exact wpS_pure ⟨rfl,x,rfl,x1,by lia,q⟩
      |false=>
       simp only[Bool.false_eq_true,if_false];exact wpS_pure ⟨rfl,rfl,q_ O (bD hU stpA.pm) (by rw[stpA.sz];lia) (by lia) q e⟩
    ·rw[if_neg hq];refine wpS_bind (wpS_reverse ?_);have stpB:Stp lo (lo+nrem) st (mrB st3 lo m):=q1.mir (Nat.le_refl _) (by lia) (by rw[q1.sz];lia);have pdB:pendingOf (mrB st3 lo m)=pendingOf st:=q2;have hsB:Srt blt (arrOf (mrB st3 lo m)) lo (lo+m):=yR (by rw[q1.sz];lia) q3;refine wpS_bind (wpS_mono (wpS_forRange
      (I:=λx c st'=>st'=(mrB st3 lo m)/\c=(none,x)/\Srt blt (arrOf (mrB st3 lo m)) lo (lo+x))
      (Q:=λc st'=>st'=(mrB st3 lo m)/\∃mm,c=(none,mm)/\m<=mm/\mm<=nrem/\Srt blt (arrOf (mrB st3 lo m)) lo (lo+mm)) ?stepB ?finB ?initB) ?postB)
     case initB=>exact⟨rfl,rfl,hsB⟩
     case finB=>
      rintro c st' ⟨rfl,rfl,q⟩;rw[show max m nrem=nrem by lia] at q ⊢;exact⟨rfl,nrem,rfl,by lia,Nat.le_refl _,q⟩
     case postB=>
      rintro c st' ⟨rfl,mm,rfl,mm1,mm2,q⟩;exact wpS_pure (h mm _ stpB pdB (by lia) mm2 q)
     case stepB=>
      rintro x c st' x1 x2 ⟨rfl,rfl,q⟩;dsimp only;refine wpS_bind (wpS_ltAt hL (stpB.kd.trans hk) (bD hU stpB.pm) (by rw[stpB.sz];lia) (by rw[stpB.sz];lia) ?_);dsimp only;cases e:blt (gt (arrOf (mrB st3 lo m)) (lo+x)) (gt (arrOf (mrB st3 lo m)) (lo+x-1)) with
      |true=>
       simp only[if_true];exact wpS_pure ⟨rfl,x,rfl,x1,by lia,q⟩
      |false=>
       simp only[Bool.false_eq_true,if_false];exact wpS_pure ⟨rfl,rfl,q_ O (bD hU stpB.pm) (by rw[stpB.sz];lia) (by lia) q e⟩
end
section
theorem vC{a:Array Keyed}{src d:Nat}(hs:src<a.size)(hd:d<=src)(k:Nat) :
  gt (bubble a src d) k=if k=src-d then gt a src else if src-d<k/\k<=src then gt a (k-1) else gt a k:=by
 rw[aKe,getElem?_bubble hs d hd]
 repeat' split
 all_goals rw[aKe]
end
section
variable {prog:Program} {w:World} {A:Around} {E:Value->Shared->Prop} {s:Shared} {kd:SortKind} {U:Keyed->Prop} {blt:Keyed->Keyed->Bool}
theorem wpS_binarySort(O:Ord U blt)(hL:S7 prog w A E s kd U blt){lo n ok:Nat}{st:SortSt}{Q:Bool->SortSt->Prop}(hk:kindOf st=kd)(hU:qZ U (arrOf st))(hn:lo+n<=(arrOf st).size)(hok:ok<=n)
 (hs:Srt blt (arrOf st) lo (lo+ok))
 (h:∀st',Stp lo (lo+n) st st'->pendingOf st'=pendingOf st->Srt blt (arrOf st') lo (lo+n)->Q true st'):wpS (model prog w) A E s (binarySort' lo n ok) Q st:=by
 rw[binarySort'_eq];have stp0:Stp lo (lo+n) st st:=⟨rfl,rfl,Array.Perm.refl _,λ_ _=>rfl⟩
 refine wpS_bind (wpS_mono (wpS_forRange (I:=λk c st'=>c=(none,())/\Stp lo (lo+n) st st'/\pendingOf st'=pendingOf st/\Srt blt (arrOf st') lo (lo+min k n))
  (Q:=λc st'=>c=(none,())/\Stp lo (lo+n) st st'/\pendingOf st'=pendingOf st/\Srt blt (arrOf st') lo (lo+n)) ?step ?fin ?init) ?post)
 case post=>
  rintro c st' ⟨rfl,q1,q2,q3⟩;exact wpS_pure (h st' q1 q2 q3)
 case init=>
  refine⟨rfl,stp0,rfl,λi j a1 a2 a3=>?_⟩;by_cases h1:ok=0
  ·rw[show i=j by lia];exact O.irr _ (hU _ (by lia))
  ·exact hs i j a1 a2 (by lia)
 case fin=>
  rintro c st' ⟨hc,q1,q2,q3⟩;rw[show min (max (max ok 1) n) n=n by lia] at q3;exact⟨hc,q1,q2,q3⟩
 case step=>
  rintro k c st' k1 k2 ⟨rfl,q1,q2,q3⟩;rw[show min k n=k by lia] at q3;have hU':=bD hU q1.pm;have hz:lo+n<=(arrOf st').size:=by rw[q1.sz];exact hn
  refine wpS_bind (wpS_mono (wpS_forRange (I:=λx c st''=>st''=st'/\∃l r,c=(none,l,r)/\l<=r/\r<=k/\r-l<=k-x/\
    (∀i,lo<=i->i<lo+l->blt (gt (arrOf st') (lo+k)) (gt (arrOf st') i)=false)/\(∀i,lo+r<=i->i<lo+k->blt (gt (arrOf st') (lo+k)) (gt (arrOf st') i)=true))
   (Q:=λc st''=>st''=st'/\∃l r,c=(none,l,r)/\l<=k/\
    (∀i,lo<=i->i<lo+l->blt (gt (arrOf st') (lo+k)) (gt (arrOf st') i)=false)/\(∀i,lo+l<=i->i<lo+k->blt (gt (arrOf st') (lo+k)) (gt (arrOf st') i)=true)) ?istep ?ifin ?iinit) ?ipost)
  case iinit=>exact⟨rfl,0,k,rfl,by lia,by lia,by lia,λi i1 i2=>by lia,λi i1 i2=>by lia⟩
  case ifin=>
   rintro c st'' ⟨rfl,l,r,rfl,b1,b2,b3,b4,b5⟩;obtain rfl:l=r:=by lia
   exact⟨rfl,l,l,rfl,b2,b4,b5⟩
  case istep=>
   rintro x c st'' _ hx ⟨rfl,l,r,rfl,b1,b2,b3,b4,b5⟩;dsimp only;by_cases hge:l >= r
   ·rw[if_pos hge];obtain rfl:l=r:=by lia
    exact wpS_pure ⟨rfl,l,l,rfl,b2,b4,b5⟩
   ·rw[if_neg hge];refine wpS_bind (wpS_ltAt hL (q1.kd.trans hk) hU' (by lia) (by lia) ?_);dsimp only;cases e:blt (gt (arrOf st'') (lo+k)) (gt (arrOf st'') (lo+(l+r) / 2)) with
    |true=>
     simp only[if_true];refine wpS_pure ⟨rfl,l,(l+r) / 2,rfl,by lia,by lia,by lia,b4,λi i1 i2=>?_⟩;rcases O.ntr _ (gt (arrOf st'') i) _ (hU' _ (by lia)) (hU' i (by lia)) (hU' _ (by lia)) e with p|p
     ·exact p
     ·rw[q3 _ i (by lia) i1 (by lia)] at p;cases p
    |false=>
     simp only[Bool.false_eq_true,if_false];refine wpS_pure ⟨rfl,(l+r) / 2+1,r,rfl,by lia,by lia,by lia,λi i1 i2=>?_,b5⟩;exact O.le_trans (hU' _ (by lia)) (hU' (lo+(l+r) / 2) (by lia)) (hU' _ (by lia)) (q3 i (lo+(l+r) / 2) i1 (by lia) (by lia)) e
  case ipost=>
   rintro c st'' ⟨rfl,l,r,rfl,b1,b4,b5⟩;show wpS _ _ _ _ (moveDown' (lo+k) (lo+l) >>= λ_=>pure (ForInStep.yield (none,()))) _ _;rw[moveDown'_eq];refine wpS_bind (wpS_modify (wpS_pure ⟨rfl,⟨q1.kd,q1.fl,(bubble_perm _ _ _).trans q1.pm,λj hj=>?_⟩,q2,?_⟩))
   ·show gt (bubble (arrOf st'') (lo+k) (lo+k-(lo+l))) j=_;rw[vC (by lia) (by lia),if_neg (by lia),if_neg (by lia)];exact q1.out j hj
   ·rw[show min (k+1) n=k+1 by lia];intro i j a1 a2 a3;show blt (gt (bubble (arrOf st'') (lo+k) (lo+k-(lo+l))) j) (gt (bubble (arrOf st'') (lo+k) (lo+k-(lo+l))) i)=false;rw[vC (by lia) (by lia),vC (by lia) (by lia),show lo+k-(lo+k-(lo+l))=lo+l by lia]
    repeat' split
    all_goals first
     | (exfalso;lia)
     |exact O.irr _ (hU' _ (by lia))
     |exact b4 _ (by lia) (by lia)
     |exact O.aAl (hU' _ (by lia)) (hU' _ (by lia)) (b5 _ (by lia) (by lia))
     |exact q3 _ _ (by lia) (by lia) (by lia)
end
section
variable {blt:Keyed->Keyed->Bool}
def Runs(blt:Keyed->Keyed->Bool)(a:Array Keyed):List (Nat×Nat×Nat)->Nat->Nat->Prop
 |[],b,e=>b=e
 | (s,n,_)::r,b,e=>s=b/\0<n/\Srt blt a b (b+n)/\Runs blt a r (b+n) e
theorem Runs.le{a:Array Keyed}:∀{l:List (Nat×Nat×Nat)}{b e:Nat},Runs blt a l b e->b+l.length<=e
 |[],b,e,h=>by have:b=e:=h;simp;lia
 | (s,n,p)::r,b,e,h=>by
  obtain⟨_,h1,_,h2⟩:=h;have:=Runs.le h2;rw[List.length_cons];lia
theorem Runs.app{a:Array Keyed}:∀{l r:List (Nat×Nat×Nat)}{b e:Nat},Runs blt a (l++r) b e↔∃m,Runs blt a l b m/\Runs blt a r m e
 |[],r,b,e=>⟨λh=>⟨b,rfl,h⟩,λz0=>by obtain⟨m,h1,h2⟩:=z0;have:b=m:=h1;subst this;exact h2⟩
 | (s,n,p)::l,r,b,e=>by
  constructor
  ·rintro⟨h1,h2,h3,h4⟩;obtain⟨m,h5,h6⟩:=Runs.app.mp h4;exact⟨m,⟨h1,h2,h3,h5⟩,h6⟩
  ·rintro⟨m,⟨h1,h2,h3,h5⟩,h6⟩;exact⟨h1,h2,h3,Runs.app.mpr ⟨m,h5,h6⟩⟩
theorem Runs.out{a a':Array Keyed}:∀{l:List (Nat×Nat×Nat)}{b e:Nat},Runs blt a l b e->(∀j,b<=j->j<e->gt a' j=gt a j)->Runs blt a' l b e
 |[],b,e,h,_=>h
 | (s,n,p)::l,b,e,⟨h1,h2,h3,h4⟩,q=>by
  have:=h4.le;exact⟨h1,h2,h3.out λj j1 j2=>q j j1 (by lia),Runs.out h4 λj j1 j2=>q j (by lia) j2⟩
theorem Runs.two{a : Array Keyed}{l1 l2 : List (Nat × Nat × Nat)}{sa na p sb nb q b e : Nat}(h : Runs blt a (l1 ++ (sa,na,p) :: (sb,nb,q) :: l2) b e) :
  b<=sa/\sb=sa+na/\0<na/\0<nb/\sb+nb<=e/\Srt blt a sa (sa+na)/\Srt blt a sb (sb+nb):=by
 obtain⟨m,h1,h2,h3,h4,h5,h6,h7,h8⟩:=Runs.app.mp h;subst h2 h5;have e1:=h1.le;have e2:=h8.le;exact⟨by lia,rfl,h3,h6,by lia,h4,h7⟩
theorem Runs.merge{a a':Array Keyed}{l1 l2:List (Nat×Nat×Nat)}{sa na p sb nb q b e:Nat}(h:Runs blt a (l1++(sa,na,p)::(sb,nb,q)::l2) b e)
 (ho:∀j,j<sa\/sb+nb<=j->gt a' j=gt a j)(hs:Srt blt a' sa (sb+nb)):Runs blt a' (l1++(sa,na+nb,p)::l2) b e:=by
 obtain⟨m,h1,h2,h3,h4,h5,h6,h7,h8⟩:=Runs.app.mp h;subst h2 h5;have e1:=h1.le;have e2:=h8.le;refine Runs.app.mpr ⟨sa,h1.out λj _ j2=>ho j (by lia),rfl,by lia,?_,?_⟩
 ·rw[<-Nat.add_assoc];exact hs
 ·rw[<-Nat.add_assoc];exact h8.out λj j1 _=>ho j (by lia)
theorem ers{p:Array (Nat×Nat×Nat)}{i:Nat}{x y v:Nat×Nat×Nat}{l1 l2:List (Nat×Nat×Nat)}(h:p.toList=l1++x::y::l2)(hi:l1.length=i) :
  ((p.setIfInBounds i v).eraseIdxIfInBounds (i+1)).toList=l1++v::l2:=by
 have hz:p.size=l1.length+(l2.length+2):=by
  have:=congrArg List.length h;simpa using this
 have:i+1<(p.setIfInBounds i v).size:=by rw[Array.size_setIfInBounds];lia
 rw[Array.eraseIdxIfInBounds,dif_pos this,Array.toList_eraseIdx,Array.toList_setIfInBounds,h,List.set_append_right _ _ (by lia),show i-l1.length=0 by lia,List.set_cons_zero,
  List.eraseIdx_append_of_length_le (by lia),show i+1-l1.length=1 by lia]
 rfl
theorem aI1{p:Array (Nat×Nat×Nat)}{i:Nat}(h:i+1<p.size):∃x y l1 l2,p.toList=l1++x::y::l2/\l1.length=i/\p[i]?=some x/\p[i+1]?=some y:=by
 refine⟨p[i],p[i+1],p.toList.take i,p.toList.drop (i+2),?_,?_,by simp,by simp⟩
 ·conv=>lhs;rw[<-List.take_append_drop i p.toList]
  rw[List.drop_eq_getElem_cons (by simp;lia),List.drop_eq_getElem_cons (i:=i+1) (by simp;lia)];rfl
 ·simp;lia
end
section
variable {prog:Program} {w:World} {A:Around} {E:Value->Shared->Prop} {s:Shared} {kd:SortKind} {U:Keyed->Prop} {blt:Keyed->Keyed->Bool}
structure Bs(U:Keyed->Prop)(kd:SortKind)(a₀:Array Keyed)(st:SortSt):Prop where
 kd:kindOf st=kd
 fl:failedOf st=none
 pm:(arrOf st).Perm a₀
theorem Bs.stp{a₀:Array Keyed}{st st':SortSt}{lo hi:Nat}(b:Bs U kd a₀ st)(h:Stp lo hi st st'):Bs U kd a₀ st':=⟨h.kd.trans b.kd,h.fl.trans b.fl,h.pm.trans b.pm⟩
theorem yU{a:Array Keyed}(pw:Nat):∀(i:Nat){l:List (Nat×Nat×Nat)}{b e:Nat},Runs blt a l b e->Runs blt a (l.modify i λx=>(x.1,x.2.1,pw)) b e
 |_,[],_,_,h=>by
  rw[List.modify_nil];exact h
 |0,(s,n,p)::l,b,e,h=>h
 |i+1,(s,n,p)::l,b,e,⟨h1,h2,h3,h4⟩=>⟨h1,h2,h3,yU pw i h4⟩
theorem vD(O:Ord U blt)(hL:S7 prog w A E s kd U blt){a₀:Array Keyed}(hU:qZ U a₀){st:SortSt}{e i:Nat}{Q:Bool->SortSt->Prop}(B:Bs U kd a₀ st)(he:e<=a₀.size)(R:Runs blt (arrOf st) (pendingOf st).toList 0 e)
 (hi:i+1<(pendingOf st).size)
 (h:∀st',Bs U kd a₀ st'->Runs blt (arrOf st') (pendingOf st').toList 0 e->(pendingOf st').size+1=(pendingOf st).size->(∀j,e<=j->gt (arrOf st') j=gt (arrOf st) j)->Q true st'):wpS (model prog w) A E s (mergeAt' i) Q st:=by
 obtain⟨⟨sa,na,p⟩,⟨sb,nb,q⟩,l1,l2,e1,e2,e3,e4⟩:=aI1 hi;rw[e1] at R;obtain⟨r1,r2,r3,r4,r5,r6,r7⟩:=R.two;have hz:(arrOf st).size=a₀.size:=B.pm.size_eq;refine K9 O hL B.kd (bD hU B.pm) B.fl e3 e4 r2 (by lia) r3 r4 r6 r7 λst' S Z P=>?_
 have P':(pendingOf st').toList=l1++(sa,na+nb,p)::l2:=by rw[P];exact ers e1 e2
 refine h st' (B.stp S) ?_ ?_ λj hj=>S.out j (by lia)
 ·rw[P'];exact R.merge S.out Z
 ·have h1:=congrArg List.length P';have h2:=congrArg List.length e1;simp at h1 h2;lia
theorem wpS_sortRuns(O:Ord U blt)(hL:S7 prog w A E s kd U blt){a₀:Array Keyed}(hU:qZ U a₀){st:SortSt}{Q:Unit->SortSt->Prop}(B:Bs U kd a₀ st)(hp:pendingOf st=#[])(hz:0<a₀.size)
 (h:∀st',Bs U kd a₀ st'->Srt blt (arrOf st') 0 a₀.size->Q () st'):wpS (model prog w) A E s sortRuns' Q st:=by
 have sz:∀{st':SortSt},Bs U kd a₀ st'->(arrOf st').size=a₀.size:=λb=>b.pm.size_eq
 rw[sortRuns'_eq];refine wpS_bind (wpS_get ?_);dsimp only;rw[sz B];generalize minRun' a₀.size a₀.size 0=minrun;refine wpS_bind (wpS_mono (wpS_forRange
  (I:=λx c st'=>∃lo,c=(none,lo)/\lo<=a₀.size/\(x<=lo\/lo=a₀.size)/\Bs U kd a₀ st'/\Runs blt (arrOf st') (pendingOf st').toList 0 lo)
  (Q:=λc st'=>c=(none,a₀.size)/\Bs U kd a₀ st'/\Runs blt (arrOf st') (pendingOf st').toList 0 a₀.size) ?step ?fin ?init) ?post)
 case init=>exact⟨0,rfl,Nat.zero_le _,.inl (Nat.le_refl _),B,by rw[hp];rfl⟩
 case fin=>
  rintro c st' ⟨lo,rfl,a1,a2,b,r⟩;obtain rfl:lo=a₀.size:=by lia
  exact⟨rfl,b,r⟩
 case step=>
  rintro x c st1 _ hx ⟨lo,rfl,a1,a2,b,r⟩;dsimp only;by_cases hge:lo >= a₀.size
  ·rw[if_pos hge];obtain rfl:lo=a₀.size:=by lia
   exact wpS_pure ⟨rfl,b,r⟩
  rw[if_neg hge];refine wpS_bind (wpS_countRun O hL b.kd (bD hU b.pm) (by rw[sz b];lia) (by lia) λm st2 S2 P2 m1 m2 Z2=>?_);dsimp only;have b2:=b.stp S2;have r2:Runs blt (arrOf st2) (pendingOf st2).toList 0 lo:=by rw[P2];exact r.out λj _ j2=>S2.out j (.inl j2)
  have rest:∀(n:Nat),1<=n->lo+n<=a₀.size->∀(st4:SortSt),Bs U kd a₀ st4->∀l,(pendingOf st4).toList=l++[(lo,n,0)]->Runs blt (arrOf st4) l 0 lo->Srt blt (arrOf st4) lo (lo+n)->
    ∃lo',((none,lo+n):Option Unit×Nat)=(none,lo')/\lo'<=a₀.size/\(x+1<=lo'\/lo'=a₀.size)/\Bs U kd a₀ st4/\Runs blt (arrOf st4) (pendingOf st4).toList 0 lo':=by
   intro n n1 n2 st4 b4 l e r4 z4;refine⟨lo+n,rfl,n2,?_,b4,?_⟩
   ·rcases a2 with a2|a2
    ·exact .inl (by lia)
    ·lia
   ·rw[e];exact Runs.app.mpr ⟨lo,r4,rfl,by lia,z4,rfl⟩
  by_cases hm:m<minrun
  ·rw[if_pos hm];refine wpS_bind (wpS_lift (wpAny_rule ⟨rfl,?_⟩));refine wpS_bind (wpS_binarySort O hL b2.kd (bD hU b2.pm) (by rw[sz b2];lia) (by lia) Z2 λst3 S3 P3 Z3=>?_);simp only[Bool.not_true,Bool.false_eq_true,if_false];have b3:=b2.stp S3;have r3:Runs blt (arrOf st3) (pendingOf st3).toList 0 lo:=by rw[P3];exact r2.out λj _ j2=>S3.out j (.inl j2)
   have hmm:1<=min (a₀.size-lo) minrun/\lo+min (a₀.size-lo) minrun<=a₀.size:=⟨by lia,by lia⟩
   refine wpS_bind (wpS_get ?_);cases hbk:(pendingOf st3).back? with
   |none=>
    dsimp only;refine wpS_bind (wpS_modify (wpS_pure (rest (min (a₀.size-lo) minrun) (by lia) (by lia) _ ⟨b3.kd,b3.fl,b3.pm⟩ _ ?_ r3 Z3)));show((pendingOf st3).push (lo,(min (a₀.size-lo) minrun),0)).toList=_;rw[Array.toList_push]
   |some t=>
    obtain⟨s1,n1',pw1⟩:=t;dsimp only;refine wpS_bind (wpS_mono (wpS_forRange
     (I:=λy c st'=>c=(none,())/\Bs U kd a₀ st'/\Runs blt (arrOf st') (pendingOf st').toList 0 lo/\∀j,lo<=j->gt (arrOf st') j=gt (arrOf st3) j)
     (Q:=λc st'=>c=(none,())/\Bs U kd a₀ st'/\Runs blt (arrOf st') (pendingOf st').toList 0 lo/\∀j,lo<=j->gt (arrOf st') j=gt (arrOf st3) j) ?mstep (λc st' q=>q) ⟨rfl,b3,r3,λ_ _=>rfl⟩) ?mpost)
    case mpost=>
     rintro c st4 ⟨rfl,b4,r4,o4⟩;dsimp only;refine wpS_bind (wpS_modify (wpS_bind (wpS_modify (wpS_pure (rest (min (a₀.size-lo) minrun) (by lia) (by lia) _ ⟨b4.kd,b4.fl,b4.pm⟩ _ ?_ (yU (power' a₀.size (2*s1+n1') (2*s1+n1'+n1'+min (a₀.size-lo) minrun) a₀.size) ((pendingOf st4).size-1) r4) (Z3.out λj j1 j2=>o4 j j1))))));show(((pendingOf st4).modify _ _).push (lo,(min (a₀.size-lo) minrun),0)).toList=_;rw[Array.toList_push,Array.toList_modify]
    case mstep=>
     rintro y c st4 _ hy ⟨rfl,b4,r4,o4⟩;refine wpS_bind (wpS_get ?_);by_cases hp:(pendingOf st4).size > 1
     ·rw[if_pos hp];obtain⟨t,ht⟩:∃t,(pendingOf st4)[(pendingOf st4).size-2]?=some t:=⟨_,getElem?_pos _ _ (by lia)⟩
      rw[ht];obtain⟨t1,t2,older⟩:=t;dsimp only;split
      ·exact wpS_pure ⟨rfl,b4,r4,o4⟩
      ·refine wpS_bind (vD O hL hU b4 (by lia) r4 (by lia) λst5 b5 r5 _ o5=>?_);simp only[Bool.not_true,Bool.false_eq_true,if_false];exact wpS_pure ⟨rfl,b5,r5,λj hj=>(o5 j hj).trans (o4 j hj)⟩
     ·rw[if_neg hp];exact wpS_pure ⟨rfl,b4,r4,o4⟩
  ·rw[if_neg hm];refine wpS_bind (wpS_get ?_);cases hbk:(pendingOf st2).back? with
   |none=>
    dsimp only;refine wpS_bind (wpS_modify (wpS_pure (rest m (by lia) (by lia) _ ⟨b2.kd,b2.fl,b2.pm⟩ _ ?_ r2 Z2)));show((pendingOf st2).push (lo,m,0)).toList=_;rw[Array.toList_push]
   |some t=>
    obtain⟨s1,n1',pw1⟩:=t;dsimp only;refine wpS_bind (wpS_mono (wpS_forRange
     (I:=λy c st'=>c=(none,())/\Bs U kd a₀ st'/\Runs blt (arrOf st') (pendingOf st').toList 0 lo/\∀j,lo<=j->gt (arrOf st') j=gt (arrOf st2) j)
     (Q:=λc st'=>c=(none,())/\Bs U kd a₀ st'/\Runs blt (arrOf st') (pendingOf st').toList 0 lo/\∀j,lo<=j->gt (arrOf st') j=gt (arrOf st2) j) ?mstep (λc st' q=>q) ⟨rfl,b2,r2,λ_ _=>rfl⟩) ?mpost)
    case mpost=>
     rintro c st4 ⟨rfl,b4,r4,o4⟩;dsimp only;refine wpS_bind (wpS_modify (wpS_bind (wpS_modify (wpS_pure (rest m (by lia) (by lia) _ ⟨b4.kd,b4.fl,b4.pm⟩ _ ?_ (yU (power' a₀.size (2*s1+n1') (2*s1+n1'+n1'+m) a₀.size) ((pendingOf st4).size-1) r4) (Z2.out λj j1 j2=>o4 j j1))))));show(((pendingOf st4).modify _ _).push (lo,m,0)).toList=_;rw[Array.toList_push,Array.toList_modify]
    case mstep=>
     rintro y c st4 _ hy ⟨rfl,b4,r4,o4⟩;refine wpS_bind (wpS_get ?_);by_cases hp:(pendingOf st4).size > 1
     ·rw[if_pos hp];obtain⟨t,ht⟩:∃t,(pendingOf st4)[(pendingOf st4).size-2]?=some t:=⟨_,getElem?_pos _ _ (by lia)⟩
      rw[ht];obtain⟨t1,t2,older⟩:=t;dsimp only;split
      ·exact wpS_pure ⟨rfl,b4,r4,o4⟩
      ·refine wpS_bind (vD O hL hU b4 (by lia) r4 (by lia) λst5 b5 r5 _ o5=>?_);simp only[Bool.not_true,Bool.false_eq_true,if_false];exact wpS_pure ⟨rfl,b5,r5,λj hj=>(o5 j hj).trans (o4 j hj)⟩
     ·rw[if_neg hp];exact wpS_pure ⟨rfl,b4,r4,o4⟩
 case post=>
  rintro c st1 ⟨rfl,b,r⟩;dsimp only;have hle:=r.le;rw[Array.length_toList] at hle;refine wpS_bind (wpS_mono (wpS_forRange
   (I:=λx c st'=>c=(none,())/\Bs U kd a₀ st'/\Runs blt (arrOf st') (pendingOf st').toList 0 a₀.size/\((pendingOf st').size+x<=a₀.size\/(pendingOf st').size<=1))
   (Q:=λc st'=>c=(none,())/\Bs U kd a₀ st'/\Runs blt (arrOf st') (pendingOf st').toList 0 a₀.size/\(pendingOf st').size<=1) ?fstep ?ffin ?finit) ?fpost)
  case finit=>exact⟨rfl,b,r,.inl (by lia)⟩
  case ffin=>
   rintro c st' ⟨rfl,q1,q2,q3⟩;exact⟨rfl,q1,q2,by lia⟩
  case fpost=>
   rintro c st' ⟨rfl,q1,q2,q3⟩;refine wpS_pure (h st' q1 ?_)
   match hl:(pendingOf st').toList with
   |[]=>rw[hl] at q2;have:0=a₀.size:=q2;lia
   |[(s0,n0,p0)]=>
    rw[hl] at q2;obtain⟨_,_,z,e⟩:=q2;have e:0+n0=a₀.size:=e;rw[e] at z;exact z
   |_::_::_=>
    have:=congrArg List.length hl;rw[Array.length_toList] at this;simp at this;lia
  case fstep=>
   rintro x c st4 _ hx ⟨rfl,b4,r4,o4⟩;refine wpS_bind (wpS_get ?_);by_cases hp1:(pendingOf st4).size<=1
   ·rw[if_pos hp1];exact wpS_pure ⟨rfl,b4,r4,hp1⟩
   rw[if_neg hp1];refine wpS_bind (vD O hL hU b4 (Nat.le_refl _) r4 ?hi λst5 b5 r5 e5 _=>?_)
   case hi=>
    repeat' split
    all_goals lia
   simp only[Bool.not_true,Bool.false_eq_true,if_false];exact wpS_pure ⟨rfl,b5,r5,by lia⟩
end
end TS
namespace Mi
open PySem
inductive D where
 |uD|non|bl (b:Bool)|int (i:Int)|str (x:Str)
 |tup (xs:List D)|lst (xs:List D)|dct (kvs:List (D×D))|scr (xs:List D)|fdc (kvs:List (D×D))|cel (a:Nat) (xs:List D)|exc (c:Str) (fs:List (Str×Str))|ins (c:Str) (fs:List (Str×D))|adr (a:Nat)|dcl (a:Nat) (kvs:List (D×D))
 deriving Inhabited
mutual
noncomputable def D.pure:D->Bool
 |.tup xs=>D.aY xs
 |.lst _=>false
 |.dct _=>false
 |.uD=>false
 |.scr xs=>D.aY xs
 |.fdc _=>false
 |.cel _ _=>false
 |.exc _ _=>false
 |.ins _ _=>false
 |.adr _=>false
 |.dcl _ _=>false
 |_=>true
noncomputable def D.aY:List D->Bool
 |[]=>true
 |x::xs=>x.pure&&D.aY xs
end
mutual
noncomputable def eqD:D->D->Bool
 |.non,.non=>true
 |.bl a,.bl b=>a==b
 |.int a,.int b=>a==b
 |.bl a,.int b=>(if a then (1:Int) else 0)==b
 |.int a,.bl b=>a==(if b then (1:Int) else 0)
 |.str a,.str b=>a==b
 |.tup xs,.tup ys=>vG xs ys
 |.lst xs,.lst ys=>vG xs ys
 |_,_=>false
noncomputable def vG:List D->List D->Bool
 |[],[]=>true
 |x::xs,y::ys=>eqD x y&&vG xs ys
 |_,_=>false
end
theorem aI2(a b:Int):eqD (.int a) (.int b)=(a==b):=id rfl
theorem aI3(a b:Str):eqD (.str a) (.str b)=(a==b):=id rfl
theorem aI4(a:Int)(b:Str):eqD (.int a) (.str b)=false:=id rfl
theorem aI5(a:Str)(b:Int):eqD (.str a) (.int b)=false:=id rfl
theorem aI6(a b:List D):eqD (.tup a) (.tup b)=vG a b:=id rfl
mutual
noncomputable def D.fJ:Nat->D->Bool
 |n+1,.tup xs=>D.dJ n xs
 |n+1,.lst xs=>D.dJ n xs
 |0,.tup _=>false
 |0,.lst _=>false
 |_,.dct _=>false
 |_,.uD=>false
 |_,.scr _=>false
 |_,.fdc _=>false
 |_,.cel _ _=>false
 |_,.exc _ _=>false
 |_,.ins _ _=>false
 |_,.adr _=>false
 |_,.dcl _ _=>false
 |_,_=>true
noncomputable def D.dJ:Nat->List D->Bool
 |_,[]=>true
 |n,x::xs=>D.fJ n x&&D.dJ n xs
end
inductive gW where|lt|le|gt|ge
 deriving DecidableEq
def gW.int:gW->Int->Int->Bool
 |.lt,a,b=>decide (a<b)|.le,a,b=>decide (a<=b)|.gt,a,b=>decide (b<a)|.ge,a,b=>decide (b<=a)
def gW.nat:gW->Nat->Nat->Bool
 |.lt,a,b=>decide (a<b)|.le,a,b=>decide (a<=b)|.gt,a,b=>decide (b<a)|.ge,a,b=>decide (b<=a)
noncomputable def WN(a b:Str):Bool:=decide (a.cps.toList<b.cps.toList)
def gW.str:gW->Str->Str->Bool
 |.lt,a,b=>WN a b|.le,a,b=>!WN b a|.gt,a,b=>WN b a|.ge,a,b=>!WN a b
mutual
noncomputable def iU(o:gW):D->D->Option Bool
 |.int a,.int b=>some (o.int a b)
 |.str a,.str b=>some (o.str a b)
 |.tup xs,.tup ys=>jP o xs ys
 |_,_=>none
noncomputable def jP(o:gW):List D->List D->Option Bool
 |[],ys=>some (o.nat 0 ys.length)
 |x::xs,[]=>some (o.nat (x::xs).length 0)
 |x::xs,y::ys=>if eqD x y then jP o xs ys else iU o x y
end
inductive Res(α:Type) where
 |ok (a:α)|err (c:Str) (as:List D)|bad
noncomputable def Res.bind{α β:Type}:Res α->(α->Res β)->Res β
 |.ok a,f=>f a
 |.err c as,_=>.err c as
 |.bad,_=>.bad
noncomputable instance:Monad Res where
 pure:=.ok
 bind:=Res.bind
@[simp] theorem Res.aV(a:α)(f:α->Res β):((Res.ok a) >>= f)=f a:=rfl
@[simp] theorem Res.aKf(c:Str)(as:List D)(f:α->Res β):((Res.err c as:Res α) >>= f)=.err c as:=rfl
@[simp] theorem Res.aKg(f:α->Res β):((Res.bad:Res α) >>= f)=.bad:=rfl
@[simp] theorem Res.pure_eq(a:α):(pure a:Res α)=.ok a:=rfl
theorem Res.aEv{f:α->Res β}(h:(m >>= f)=.ok b):∃a,m=.ok a/\f a=.ok b:=by
 cases m with
 |ok a=>exact⟨a,rfl,h⟩
 |err c as=>cases h
 |bad=>cases h
theorem bx{P:Prop}(h:(Res.bad:Res α)=.ok d):P:=by cases h
theorem fx0{P:Prop}(h:false=true):P:=by cases h
theorem nx0{P:Prop}(h:(none:Option α)=some d):P:=by cases h
noncomputable def Res.ofOpt{α:Type}:Option α->Res α
 |some a=>.ok a
 |none=>.bad
@[simp] theorem Res.aGt(a:α):Res.ofOpt (some a)=.ok a:=rfl
theorem Res.kJ(h:Res.ofOpt o=.ok a):o=some a:=by
 cases o with
 |none=>cases h
 |some b=>cases h;rfl
noncomputable def lim:Nat:=1000000
inductive Bop where|add|sub|mul|fdiv|mod|pow
 deriving DecidableEq
inductive Cop where|eq|ne|ord (o:gW)|isin|notin|isN|notN
 deriving DecidableEq
noncomputable def jX(i:Int):Bool:=decide (-(2 ^ 64)<i)&&decide (i<2 ^ 64)
def aW:Bop->D->D->Res D
 |.add,.int a,.int b=>.ok (.int (a+b))
 |.sub,.int a,.int b=>.ok (.int (a-b))
 |.mul,.int a,.int b=>if jX a||jX b then .ok (.int (a*b)) else .bad
 |.fdiv,.int a,.int b=>if decide (0<b)&&decide (b<1073741824) then .ok (.int (a / b)) else .bad
 |.mod,.int a,.int b=>if decide (0<b) then .ok (.int (a % b)) else .bad
 |.pow,.int a,.int b=>if decide (0<=b)&&decide (b<=1000000)&&decide (a.natAbs<2 ^ 64) then .ok (.int (a ^ b.toNat)) else .bad
 |.add,.str a,.str b=>if decide (a.length+b.length<=lim) then .ok (.str (a++b)) else .bad
 |.add,.lst a,.lst b=>if decide (a.length+b.length<=lim)&&D.aY a&&D.aY b then .ok (.lst (a++b)) else .bad
 |_,_,_=>.bad
def aMg:D->Res Bool
 |.non=>.ok false
 |.bl b=>.ok b
 |.int i=>.ok (i !=0)
 |.str x=>if decide (x.length<=lim) then .ok ((x.length:Int)!=0) else .bad
 |.tup xs=>.ok (!xs.isEmpty)
 |.lst xs=>.ok (!xs.isEmpty)
 |.dct kvs=>.ok (!kvs.isEmpty)
 |.uD=>.bad
 |.fdc _=>.bad
 |.cel _ _=>.bad
 |.exc _ _=>.bad
 |.ins _ _=>.bad
 |.adr _=>.bad
 |.dcl _ _=>.bad
 |.scr xs=>.ok (!xs.isEmpty)
def yV:D->Bool
 |.int _=>true
 |.str _=>true
 |_=>false
def keyOk:D->Bool
 |.int _=>true
 |.str _=>true
 |.tup xs=>xs.all yV
 |_=>false
noncomputable def isTup:D->Bool
 |.tup _=>true
 |_=>false
def cL:List (D×D)->D->Option D
 |[],_=>none
 | (k,v)::r,q=>if eqD k q then some v else cL r q
def putD:List (D×D)->D->D->List (D×D)
 |[],q,w=>[(q,w)]
 | (k,v)::r,q,w=>if eqD k q then (k,w)::r else (k,v)::putD r q w
def t_(kvs:List (D×D))(k:D):Bool:=keyOk k&&kvs.all (λp=>isTup p.1==isTup k)
noncomputable def aN:Nat:=12
def bR:Cop->D->D->Res D
 |.eq,a,b=>if a.fJ aN&&b.fJ aN then .ok (.bl (eqD a b)) else .bad
 |.ne,a,b=>if a.fJ aN&&b.fJ aN then .ok (.bl (!eqD a b)) else .bad
 |.ord o,a,b=>if a.fJ aN&&b.fJ aN then (match iU o a b with|some k=>.ok (.bl k)|none=>.bad) else .bad
 |.isin,a,.tup ys=>if a.fJ aN&&D.dJ aN ys then .ok (.bl (ys.any λy=>eqD y a)) else .bad
 |.isin,a,.lst ys=>if a.fJ aN&&D.dJ aN ys then .ok (.bl (ys.any λy=>eqD y a)) else .bad
 |.isin,a,.dct kvs=>if t_ kvs a then .ok (.bl (cL kvs a).isSome) else .bad
 |.notin,a,.tup ys=>if a.fJ aN&&D.dJ aN ys then .ok (.bl (!(ys.any λy=>eqD y a))) else .bad
 |.notin,a,.lst ys=>if a.fJ aN&&D.dJ aN ys then .ok (.bl (!(ys.any λy=>eqD y a))) else .bad
 |.notin,a,.dct kvs=>if t_ kvs a then .ok (.bl (!(cL kvs a).isSome)) else .bad
 |.isN,.scr _,.non=>.bad
 |.notN,.scr _,.non=>.bad
 |.isN,.fdc _,.non=>.bad
 |.notN,.fdc _,.non=>.bad
 |.isN,.cel _ _,.non=>.bad
 |.notN,.cel _ _,.non=>.bad
 |.isN,.non,.non=>.ok (.bl true)
 |.isN,a,.non=>.ok (.bl false)
 |.notN,.non,.non=>.ok (.bl false)
 |.notN,a,.non=>.ok (.bl true)
 |_,_,_=>.bad
noncomputable def ixD(n:Nat)(i:Int):Option Nat:=if 0<=i then (if i<n then some i.toNat else none) else if -(n:Int)<=i then some (i+n).toNat else none
def getD(d i:D):Res D:=
 match d,i with
 |.tup xs,.int i=>Res.ofOpt ((ixD xs.length i).bind λj=>xs[j]?)
 |.lst xs,.int i=>Res.ofOpt ((ixD xs.length i).bind λj=>xs[j]?)
 |.scr xs,.int i=>Res.ofOpt ((ixD xs.length i).bind λj=>xs[j]?)
 |.cel _ xs,.int i=>Res.ofOpt ((ixD xs.length i).bind λj=>xs[j]?)
 |.str x,.int i=>if decide (x.length<=lim) then Res.ofOpt (((ixD x.cps.toList.length i).bind λj=>x.cps.toList[j]?).map λc=>D.str ⟨#[c]⟩) else .bad
 |.dct kvs,k=>if keyOk k then Res.ofOpt (cL kvs k) else .bad
 |.fdc kvs,k=>if keyOk k then Res.ofOpt (cL kvs k) else .bad
 |_,_=>.bad
noncomputable def aAn(n d:Nat):Option Int->Nat
 |none=>d
 |some v=>if v<0 then (max (v+(n:Int)) 0).toNat else (min v (n:Int)).toNat
def cutD{α:Type}(xs:List α)(lo hi:Option Int):List α:=(xs.drop (aAn xs.length 0 lo)).take (aAn xs.length xs.length hi-aAn xs.length 0 lo)
inductive Ty where|int|str|bool|list|tuple|dict
 deriving DecidableEq
def aL4:Ty->D->Res Bool
 |_,.uD=>.bad
 |_,.scr _=>.bad
 |_,.fdc _=>.bad
 |_,.cel _ _=>.bad
 |_,.exc _ _=>.bad
 |_,.ins _ _=>.bad
 |_,.adr _=>.bad
 |_,.dcl _ _=>.bad
 |.int,.int _=>.ok true
 |.int,.bl _=>.ok true
 |.bool,.bl _=>.ok true
 |.str,.str _=>.ok true
 |.tuple,.tup _=>.ok true
 |.list,.lst _=>.ok true
 |.dict,.dct _=>.ok true
 |_,_=>.ok false
mutual
noncomputable def D.plain:D->Bool
 |.int _=>true
 |.str _=>true
 |.tup xs=>D.jA xs
 |_=>false
noncomputable def D.jA:List D->Bool
 |[]=>true
 |x::xs=>x.plain&&D.jA xs
end
mutual
noncomputable def enc:D->List Int
 |.int i=>[0,i]
 |.str x=>1::(x.cps.toList.map (λ(c:Nat)=>(c:Int)+1)++[0])
 |.tup xs=>2::J6 xs
 |_=>[]
noncomputable def J6:List D->List Int
 |[]=>[0]
 |x::xs=>1::(enc x++J6 xs)
end
def eV:D->Nat
 |.int _=>1
 |.str _=>2
 |.tup (.int _::_)=>3
 |.tup (.str _::_)=>4
 |.tup (.tup _::_)=>5
 |_=>0
def bJ(xs:List D):Bool:=xs.all λa=>a.plain&&a.fJ aN&&eV a !=0&&eV a==eV (xs.headD .non)&&xs.all λb=>(iU .lt a b).isSome
def leE(a b:D):Bool:=!decide (enc b<enc a)
def jY(xs:List D):List D:=xs.mergeSort leE
noncomputable def vH(i:Int):Bool:=decide (-(2 ^ 62)<=i)&&decide (i<2 ^ 62)
noncomputable def asB:D->Res Bool
 |.bl b=>.ok b
 |_=>.bad
noncomputable def asI:D->Res Int
 |.int i=>.ok i
 |_=>.bad
inductive Fl where
 |nx (ρ:List D)|rt (d:D)|bk (ρ:List D)|ct (ρ:List D)
noncomputable def aD4:Fl->Res D
 |.rt d=>.ok d
 |.nx _=>.ok .non
 |_=>.bad
noncomputable abbrev FE:=List D->Res D
noncomputable abbrev FT:=List D->Res Bool
noncomputable abbrev FA:=List D->Res (List D)
noncomputable def iV(i:Nat):FE:=λρ=>match ρ.getD i .uD with|.uD=>.bad|d=>.ok d
noncomputable def bC(d:D):FE:=λ_=>.ok d
abbrev d_:FE:= iV 1
abbrev cA:FE:= iV 0
abbrev cT:FE:= iV 3
abbrev rA:FE:= iV 8
abbrev mO:FE:= iV 4
abbrev oZ:FE:= iV 7
abbrev eF:FE:= iV 2
abbrev mQ:FE:= iV 6
abbrev jW:FE:= iV 9
abbrev iH:FE:= iV 5
abbrev iB:FE:= iV 10
abbrev jZ:FE:= iV 13
abbrev kO:FE:= iV 11
abbrev gP:FE:= iV 12
abbrev dI:FE:= bC (.int 0)
abbrev eO:FE:= bC (.int 1)
abbrev xU:FE:= bC (.int 8)
abbrev WP:FE:= bC (.int 192)
abbrev rB:FE:= bC (.int 2)
abbrev GJ:FE:= bC (.int 384)
abbrev WQ:FE:= bC (.int 26)
abbrev aEw:FE:= bC (.int 7)
abbrev aI7:FE:= bC (.int 5)
abbrev aGu:FE:= bC (.int 4)
abbrev aEx:FE:= bC (.int 30)
abbrev WR:FE:= bC (.int 10)
abbrev aKh:FE:= bC (.int 9)
abbrev aI8:FE:= bC (.int 6)
noncomputable def b2(f:D->D->Res D)(a b:FE):FE:=λρ=>do let x <- a ρ;let y <- b ρ;f x y
noncomputable def b1(f:D->Res D)(a:FE):FE:=λρ=>do let x <- a ρ;f x
def bTB(a:FE):FT:=λρ=>do let x <- a ρ;asB x
noncomputable def U6(a:FT):FT:=λρ=>do let x <- a ρ;pure (!x)
noncomputable def DR(a b:FT):FT:=λρ=>do let x <- a ρ;if x then b ρ else pure false
noncomputable def bOr(a b:FT):FT:=λρ=>do let x <- a ρ;if x then pure true else b ρ
def WT(a:FE):FE:=λρ=>do let x <- a ρ;let k <- asB x;pure (.bl (!k))
def vI(a b:FE):FE:=λρ=>do let x <- a ρ;let k <- asB x;if k then b ρ else pure (.bl false)
def bCh(f g:D->D->Res D)(a b c:FE):FE:=λρ=>do let x <- a ρ;let y <- b ρ;let z <- f x y;let k <- asB z;if k then (do let u <- c ρ;g y u) else pure (.bl false)
noncomputable def aR:FA:=λ_=>.ok []
noncomputable def aD(a:FE)(b:FA):FA:=λρ=>do let x <- a ρ;let xs <- b ρ;pure (x::xs)
def eQ(a:FA):FE:=λρ=>do let xs <- a ρ;if decide (xs.length<=lim) then pure (.tup xs) else .bad
def aD5(a:FA):FE:=λρ=>do let xs <- a ρ;if decide (xs.length<=lim) then pure (.lst xs) else .bad
noncomputable def aQ(f:List D->Res D)(a:FA):FE:=λρ=>do let xs <- a ρ;f xs
noncomputable def bM(f:D->List D->Res D)(o:FE)(a:FA):FE:=λρ=>do let x <- o ρ;let xs <- a ρ;f x xs
def vJ(a:FE):List D->Res (Option Int):=λρ=>do let x <- a ρ;let i <- asI x;pure (some i)
def aMh:D->Res Bool
 |.dct _=>.bad
 |.scr _=>.bad
 |.fdc _=>.bad
 |d=>aMg d
def bTr(a:FE):FT:=λρ=>do let x <- a ρ;aMh x
noncomputable def aI9:D->Res D
 |.int i=>.ok (.int (-i))
 |_=>.bad
def aAo:D->Option Int->Option Int->Res D
 |.lst xs,lo,hi=>if D.aY xs then .ok (.lst (cutD xs lo hi)) else .bad
 |.scr xs,lo,hi=>if D.aY xs then .ok (.lst (cutD xs lo hi)) else .bad
 |.tup xs,lo,hi=>if !D.aY xs||decide (aAn xs.length 0 lo=0/\aAn xs.length xs.length hi=xs.length) then .bad else .ok (.tup (cutD xs lo hi))
 |_,_,_=>.bad
def aBd(a:FE)(lo hi:List D->Res (Option Int)):FE:=λρ=>do let x <- a ρ;let l <- lo ρ;let h <- hi ρ;aAo x l h
def mR(o:gW):List D->Res D
 |[]=>.bad
 |x::xs=>if ((x::xs).all λa=>a.fJ aN&&(x::xs).all λb=>(iU o a b).isSome) then .ok (xs.foldl (λm y=>if (iU o y m).getD false then y else m) x) else .bad
def btD(o:gW)(ds:List D)(i j:Nat):Bool:=(iU o (ds.getD i .non) (ds.getD j .non)).getD false
def fO(o:gW):List D->Res D
 |[.lst xs]=>mR o xs
 |[.tup xs]=>mR o xs
 |[a,b]=>mR o [a,b]
 |_=>.bad
def gH:List D->Res D
 |[.tup xs]=>.ok (.int xs.length)
 |[.lst xs]=>.ok (.int xs.length)
 |[.scr xs]=>.ok (.int xs.length)
 |[.cel _ xs]=>.ok (.int xs.length)
 |[.str x]=>if decide (x.length<=lim) then .ok (.int x.length) else .bad
 |_=>.bad
noncomputable def iJ(kvs:List (D×D)):List D:=kvs.map (·.1)
def K_:List D->Res D
 |[.tup xs]=>if D.aY xs then .ok (.lst xs) else .bad
 |[.lst xs]=>if D.aY xs then .ok (.lst xs) else .bad
 |[.dct kvs]=>if kvs.all (λp=>!isTup p.1) then .ok (.lst (iJ kvs)) else .bad
 |_=>.bad
noncomputable def vK:List D->Res D
 |[.tup xs]=>.ok (.tup xs)
 |[.lst xs]=>.ok (.tup xs)
 |_=>.bad
def mU:List D->Res D
 |[.lst xs]=>if bJ xs then .ok (.lst (jY xs)) else .bad
 |_=>.bad
def Ty.nm:Ty->String
 |.int=>"int" | .str=>"str" | .bool=>"bool" | .list=>"list" | .tuple=>"tuple" | .dict=>"dict"
def rC(t:Ty)(d:D):Res D:=do let k <- aL4 t d;pure (.bl k)
noncomputable def cR(n:Nat)(f:List D->Res D):List D->Res D:=λds=>if decide (ds.length=n) then f ds else .bad
noncomputable abbrev FI:=List D->Res (List D×Bool)
noncomputable def vL:D->Res (List D)
 |.lst xs=>.ok xs
 |.tup xs=>.ok xs
 |_=>.bad
def dM(a:FE)(fr:Bool):FI:=λρ=>do let x <- a ρ;let xs <- vL x;pure (xs,fr||x.pure)
def mC:List D->Res (List D×Bool)
 |[.int n]=>if vH n then .ok ((List.range n.toNat).map λ(k:Nat)=>D.int (0+(k:Int)),true) else .bad
 |_=>.bad
noncomputable def mV(f:FA)(g:List D->Res (List D×Bool)):FI:=λρ=>do let xs <- f ρ;g xs
noncomputable def P_(n:Nat)(ρ:List D):List D:=(List.range n).map λi=>ρ.getD i .uD
noncomputable def lZ:D->Res (List D):=λd=>.ok [d]
noncomputable def U7(m:Nat):D->Res (List D)
 |.tup ds=>if decide (ds.length=m) then .ok ds else .bad
 |_=>.bad
def kW(n:Nat)(t:D->Res (List D))(c:FT)(f:FE)(k:Bool)(ρ:List D)(acc:List D)(x:D):Res (List D):=do
 let bs <- t x
 let ok <- c (P_ n ρ++bs)
 if ok then (do
  let y <- f (P_ n ρ++bs)
  if k||y.pure then pure (acc++[y]) else .bad)
 else pure acc
noncomputable def iK(g:List D->D->Res (List D)):List D->List D->Res (List D)
 |acc,[]=>.ok acc
 |acc,x::xs=>do let a <- g acc x;iK g a xs
def dU(n:Nat)(it:FI)(t:D->Res (List D))(c:FT)(f:FE)(k:Bool):FE:=λρ=>do
 let xs <- it ρ
 if decide (xs.1.length<=lim) then (do
  let ys <- iK (kW n t c f k ρ) [] xs.1
  pure (.lst ys)) else .bad
noncomputable def jQ:FT:=λ_=>.ok true
noncomputable abbrev FS:=List D->Res Fl
def inner:D->Bool
 |.lst xs=>D.aY xs
 |.dct kvs=>D.aY (kvs.map (·.2))
 |.cel _ xs=>D.aY xs
 |.dcl _ kvs=>D.aY (kvs.map (·.2))
 |_=>false
noncomputable def j_:FS:=λρ=>.ok (.nx ρ)
noncomputable def bK(f g:FS):FS:=λρ=>do
 let r <- f ρ
 match r with
 |.nx ρ'=>g ρ'
 |r=>.ok r
def cC(o:Bool)(i:Nat)(f:FE)(k:Bool):FS:=λρ=>do
 let d <- f ρ
 if (if o then k&&inner d else k||d.pure) then .ok (.nx (ρ.set i d)) else .bad
def sAl(i j:Nat):FS:=λρ=>do
 let d <- iV j ρ
 .ok (.nx (ρ.set i d))
noncomputable def sIf(c:FT)(f g:FS):FS:=λρ=>do
 let k <- c ρ
 if k then f ρ else g ρ
noncomputable def j6(f:FE)(k:Bool):FS:=λρ=>do
 let d <- f ρ
 if k||d.pure then .ok (.rt d) else .bad
def LC(i:Nat):FS:=λρ=>do
 let d <- iV i ρ
 .ok (.rt d)
noncomputable def rtX:Nat:=1000000
noncomputable def aIa(f:FE)(k:Bool):FS:=λρ=>do
 let d <- f ρ
 if k||d.pure then .ok (.rt (.tup (d::ρ))) else .bad
def xV(i:Nat)(f:FE):FS:=λρ=>do
 let d <- f ρ
 match ρ.getD i .uD with
 |.lst xs=>if decide (xs.length<lim)&&d.pure then .ok (.nx (ρ.set i (.lst (xs++[d])))) else .bad
 |_=>.bad
def aIb(i:Nat)(f:FE)(g:FE):FS:=λρ=>do
 let j <- f ρ
 let d <- g ρ
 match ρ.getD i .uD,j with
 |.lst xs,.int j=>if decide (xs.length<lim)&&d.pure&&decide (0<=j)&&decide (j<=xs.length) then .ok (.nx (ρ.set i (.lst (xs.take j.toNat++d::xs.drop j.toNat)))) else .bad
 |_,_=>.bad
def yW(i:Nat)(f:FE)(g:FE):FS:=λρ=>do
 let d <- g ρ
 let k <- f ρ
 match ρ.getD i .uD with
 |.dct kvs=>if decide (kvs.length<lim)&&t_ kvs k&&d.pure then .ok (.nx (ρ.set i (.dct (putD kvs k d)))) else .bad
 |_=>.bad
noncomputable def tg1(i:Nat):D->List D->Res (List D):=λd ρ=>.ok (ρ.set i d)
noncomputable def WW:List Nat->List D->List D->List D
 |i::is,d::ds,ρ=>WW is ds (ρ.set i d)
 |_,_,ρ=>ρ
def tgN(is:List Nat):D->List D->Res (List D)
 |.tup ds,ρ=>if decide (ds.length=is.length) then .ok (WW is ds ρ) else .bad
 |_,_=>.bad
noncomputable def nY(t:D->List D->Res (List D))(body:FS):List D->List D->Res Fl
 |[],ρ=>.ok (.nx ρ)
 |x::xs,ρ=>do
  let ρ1 <- t x ρ
  let r <- body ρ1
  match r with
  |.nx ρ'=>nY t body xs ρ'
  |.ct ρ'=>nY t body xs ρ'
  |.bk ρ'=>.ok (.nx ρ')
  |.rt d=>.ok (.rt d)
def GK(it:FI)(t:D->List D->Res (List D))(body:FS):FS:=λρ=>do
 let xs <- it ρ
 if xs.2 then nY t body xs.1 ρ else .bad
def LK(i:Nat)(t:D->List D->Res (List D))(body:FS):FS:=λρ=>do
 let d <- iV i ρ
 let xs <- vL d
 nY t body xs ρ
def fnS(n m:Nat)(f:FS):List D->Res D:=λds=>do
 let r <- f (ds++List.replicate (m-n) .uD)
 aD4 r
mutual
theorem aD6(a b:D)(h1:a.plain=true)(h2:b.plain=true)(h:eqD a b=true):a=b:=by
 cases a with
 |int i=>
  cases b with
  |int j=>rw[eq_of_beq (show(i==j)=true from h)]
  |str _=>exact fx0 h
  |tup _=>exact fx0 h
  |_=>exact fx0 h2
 |str i=>
  cases b with
  |str j=>rw[eq_of_beq (show(i==j)=true from h)]
  |int _=>exact fx0 h
  |tup _=>exact fx0 h
  |_=>exact fx0 h2
 |tup xs=>
  cases b with
  |tup ys=>rw[WX xs ys h1 h2 h]
  |int _=>exact fx0 h
  |str _=>exact fx0 h
  |_=>exact fx0 h2
 |_=>exact fx0 h1
theorem WX:∀(a b:List D),D.jA a=true->D.jA b=true->vG a b=true->a=b
 |[],[],_,_,_=>rfl
 |x::xs,y::ys,h1,h2,h=>by
  rw[D.jA,Bool.and_eq_true] at h1 h2;rw[vG,Bool.and_eq_true] at h;rw[aD6 x y h1.1 h2.1 h.1,WX xs ys h1.2 h2.2 h.2]
 |[],_::_,_,_,h=>by exact fx0 h
 |_::_,[],_,_,h=>by exact fx0 h
end
mutual
theorem QB(a:D)(h:a.plain=true):eqD a a=true:=by
 cases a with
 |int i=>exact beq_self_eq_true i
 |str i=>exact beq_self_eq_true i
 |tup xs=>exact GP xs h
 |_=>exact fx0 h
theorem GP:∀(a:List D),D.jA a=true->vG a a=true
 |[],_=>rfl
 |x::xs,h=>by
  rw[D.jA,Bool.and_eq_true] at h;rw[vG,QB x h.1,GP xs h.2];rfl
end
theorem WY:∀(a b:List Nat)(r t:List Int),(a.map (λ(c:Nat)=>(c:Int)+1)++[0])++r=(b.map (λ(c:Nat)=>(c:Int)+1)++[0])++t->a=b/\r=t
 |[],[],r,t,h=>by simpa using h
 |[],c::b,r,t,h=>by
  simp only[List.map_nil,List.nil_append,List.cons_append,List.map_cons,List.cons.injEq] at h;lia
 |c::a,[],r,t,h=>by
  simp only[List.map_nil,List.nil_append,List.cons_append,List.map_cons,List.cons.injEq] at h;lia
 |c::a,d::b,r,t,h=>by
  simp only[List.cons_append,List.map_cons,List.cons.injEq] at h;obtain⟨e1,e2⟩:=WY a b r t h.2;exact⟨by rw[e1,show c=d by lia],e2⟩
mutual
theorem yX:∀(a b:D)(r t:List Int),a.plain=true->b.plain=true->enc a++r=enc b++t->a=b/\r=t
 |.int i,b,r,t,_,h2,h=>by
  cases b<;>simp only[enc,D.plain,Bool.false_eq_true,List.cons_append,List.cons.injEq,List.nil_append] at h h2<;>try omega
  ·exact⟨by rw[h.2.1],h.2.2⟩
 |.str x,b,r,t,_,h2,h=>by
  cases b with
  |str y=>
   simp only[enc,List.cons_append,List.cons.injEq,true_and] at h;obtain⟨e1,e2⟩:=WY _ _ _ _ h;refine⟨?_,e2⟩;cases x;cases y;simp only[] at e1
   congr 2
   exact Array.toList_inj.mp e1
  |_=>simp[enc,D.plain] at h h2
 |.tup xs,b,r,t,h1,h2,h=>by
  cases b with
  |tup ys=>
   rw[D.plain] at h1 h2;simp only[enc,List.cons_append,List.cons.injEq,true_and] at h;obtain⟨e1,e2⟩:=QC xs ys r t h1 h2 h;exact⟨by rw[e1],e2⟩
  |_=>simp[enc,D.plain] at h h2
 |.uD,_,_,_,h,_,_=>by simp[D.plain] at h
 |.scr _,_,_,_,h,_,_=>by simp[D.plain] at h
 |.non,_,_,_,h,_,_=>by simp[D.plain] at h
 |.bl _,_,_,_,h,_,_=>by simp[D.plain] at h
 |.lst _,_,_,_,h,_,_=>by simp[D.plain] at h
 |.dct _,_,_,_,h,_,_=>by simp[D.plain] at h
theorem QC:∀(a b:List D)(r t:List Int),D.jA a=true->D.jA b=true->J6 a++r=J6 b++t->a=b/\r=t
 |[],[],r,t,_,_,h=>by simpa[J6] using h
 |[],_::_,r,t,_,_,h=>by simp[J6] at h
 |_::_,[],r,t,_,_,h=>by simp[J6] at h
 |x::xs,y::ys,r,t,h1,h2,h=>by
  rw[D.jA,Bool.and_eq_true] at h1 h2;simp only[J6,List.cons_append,List.cons.injEq,true_and,List.append_assoc] at h;obtain⟨e1,e2⟩:=yX x y _ _ h1.1 h2.1 h;obtain⟨e3,e4⟩:=QC xs ys r t h1.2 h2.2 e2;exact⟨by rw[e1,e3],e4⟩
end
theorem aEy(h1:a.plain=true)(h2:b.plain=true)(h:enc a=enc b):a=b:=(yX a b [] [] h1 h2 (by rw[h])).1
theorem LQ(p:List Int)(r t:List Int):p++r<p++t↔r<t:=by
 induction p with
 |nil=>rfl
 |cons x p ih=>rw[List.cons_append,List.cons_append,List.cons_lt_cons_iff];simp[ih]
theorem aD7:∀(u v r t:List Int),(∀z,u++z≠v)->(∀z,v++z≠u)->(u++r<v++t↔u<v)
 |[],v,_,_,h,_=>absurd rfl (h v)
 |u,[],_,_,_,h=>absurd rfl (h u)
 |x::u,y::v,r,t,h1,h2=>by
  rw[List.cons_append,List.cons_append,List.cons_lt_cons_iff,List.cons_lt_cons_iff];by_cases e:x=y
  ·subst e;have:=aD7 u v r t (λz hz=>h1 z (by rw[List.cons_append,hz])) (λz hz=>h2 z (by rw[List.cons_append,hz]));simp[this]
  ·simp[e]
theorem W0:∀(a b:List Nat),(a.map (λ(c:Nat)=>(c:Int)+1)++[0]<b.map (λ(c:Nat)=>(c:Int)+1)++[0])↔a<b
 |[],[]=>by simp
 |[],c::b=>by
  simp only[List.map_nil,List.nil_append,List.map_cons,List.cons_append,List.cons_lt_cons_iff,List.nil_lt_cons,iff_true]
  left;lia
 |c::a,[]=>by
  simp only[List.map_nil,List.nil_append,List.map_cons,List.cons_append,List.cons_lt_cons_iff,List.not_lt_nil,iff_false,not_or,not_and];exact⟨by lia,λh=>by lia⟩
 |c::a,d::b=>by
  simp only[List.map_cons,List.cons_append,List.cons_lt_cons_iff,W0 a b];constructor
  ·rintro(h|⟨h,k⟩)
   ·left;lia
   ·right;exact⟨by lia,k⟩
  ·rintro(h|⟨h,k⟩)
   ·left;lia
   ·right;exact⟨by lia,k⟩
mutual
theorem yZ:∀(a b:D)(k:Bool),a.plain=true->b.plain=true->iU .lt a b=some k->k=decide (enc a<enc b)
 |.int i,.int j,k,_,_,h=>by
  rw[iU] at h;rw[<-Option.some.inj h];simp[enc,gW.int,List.cons_lt_cons_iff]
 |.str x,.str y,k,_,_,h=>by
  rw[iU] at h;rw[<-Option.some.inj h];have:=W0 x.cps.toList y.cps.toList;simp only[enc,gW.str,WN,List.cons_lt_cons_iff,true_and];simp[this]
 |.tup xs,.tup ys,k,h1,h2,h=>by
  rw[D.plain] at h1 h2;rw[iU] at h;rw[QD xs ys k h1 h2 h];simp[enc,List.cons_lt_cons_iff]
 |.int _,.str _,_,_,_,h=>by exact nx0 h
 |.int _,.tup _,_,_,_,h=>by exact nx0 h
 |.int _,.uD,_,_,_,h=>by exact nx0 h
 |.int _,.scr _,_,_,_,h=>by exact nx0 h
 |.int _,.non,_,_,_,h=>by exact nx0 h
 |.int _,.bl _,_,_,_,h=>by exact nx0 h
 |.int _,.lst _,_,_,_,h=>by exact nx0 h
 |.int _,.dct _,_,_,_,h=>by exact nx0 h
 |.str _,.int _,_,_,_,h=>by exact nx0 h
 |.str _,.tup _,_,_,_,h=>by exact nx0 h
 |.str _,.uD,_,_,_,h=>by exact nx0 h
 |.str _,.scr _,_,_,_,h=>by exact nx0 h
 |.str _,.non,_,_,_,h=>by exact nx0 h
 |.str _,.bl _,_,_,_,h=>by exact nx0 h
 |.str _,.lst _,_,_,_,h=>by exact nx0 h
 |.str _,.dct _,_,_,_,h=>by exact nx0 h
 |.tup _,.int _,_,_,_,h=>by exact nx0 h
 |.tup _,.str _,_,_,_,h=>by exact nx0 h
 |.tup _,.uD,_,_,_,h=>by exact nx0 h
 |.tup _,.scr _,_,_,_,h=>by exact nx0 h
 |.tup _,.non,_,_,_,h=>by exact nx0 h
 |.tup _,.bl _,_,_,_,h=>by exact nx0 h
 |.tup _,.lst _,_,_,_,h=>by exact nx0 h
 |.tup _,.dct _,_,_,_,h=>by exact nx0 h
 |.uD,_,_,h,_,_=>by simp[D.plain] at h
 |.scr _,_,_,h,_,_=>by simp[D.plain] at h
 |.non,_,_,h,_,_=>by simp[D.plain] at h
 |.bl _,_,_,h,_,_=>by simp[D.plain] at h
 |.lst _,_,_,h,_,_=>by simp[D.plain] at h
 |.dct _,_,_,h,_,_=>by simp[D.plain] at h
theorem QD:∀(a b:List D)(k:Bool),D.jA a=true->D.jA b=true->jP .lt a b=some k->k=decide (J6 a<J6 b)
 |[],[],k,_,_,h=>by rw[jP] at h;rw[<-Option.some.inj h];simp[J6,gW.nat]
 |[],y::ys,k,_,_,h=>by rw[jP] at h;rw[<-Option.some.inj h];simp[J6,gW.nat,List.cons_lt_cons_iff]
 |x::xs,[],k,_,_,h=>by rw[jP] at h;rw[<-Option.some.inj h];simp[J6,gW.nat,List.cons_lt_cons_iff]
 |x::xs,y::ys,k,h1,h2,h=>by
  rw[D.jA,Bool.and_eq_true] at h1 h2;rw[jP] at h;simp only[J6,List.cons_lt_cons_iff,true_and,Int.lt_irrefl,false_or];cases e:eqD x y with
  |true=>
   rw[e,if_pos rfl] at h;have:=aD6 x y h1.1 h2.1 e;subst this;rw[QD xs ys k h1.2 h2.2 h];simp[LQ]
  |false=>
   rw[e,if_neg (by simp)] at h;rw[yZ x y k h1.1 h2.1 h];have hne:x≠y:=λz=>by subst z;rw[QB x h1.1] at e;cases e
   have:=aD7 (enc x) (enc y) (J6 xs) (J6 ys) (λz hz=>hne (yX x y z [] h1.1 h2.1 (by simpa using hz)).1) (λz hz=>hne (yX y x z [] h2.1 h1.1 (by simpa using hz)).1.symm);simp[this]
end
theorem W3(a b c:D)(h1:leE a b=true)(h2:leE b c=true):leE a c=true:=by
 simp only[leE,Bool.not_eq_true',decide_eq_false_iff_not] at *;exact λh=>by
  rcases(inferInstance:Std.Trichotomous (α:=List Int) (·<·)) with _
  exact h1 (List.lt_of_le_of_lt (List.not_lt.mp h2) h)
theorem W4(a b:D):(leE a b||leE b a)=true:=by
 simp only[leE,Bool.or_eq_true,Bool.not_eq_true',decide_eq_false_iff_not];by_cases h:enc b<enc a
 ·right;exact List.lt_asymm h
 ·left;exact h
theorem eG(ds:List D):(jY ds).Perm ds:=List.mergeSort_perm ds leE
theorem jK(ds:List D):(jY ds).Pairwise λa b=>leE a b=true:=List.pairwise_mergeSort (λa b c=>W3 a b c) (λa b=>W4 a b) ds
theorem vM{ds es:List D}(hp:∀d∈ds,d.plain=true)(h:ds.Perm es)(h1:ds.Pairwise λa b=>leE a b=true)(h2:es.Pairwise λa b=>leE a b=true):ds=es:=by
 refine List.Perm.eq_of_pairwise (λa b ha hb h1 h2=>?_) h1 h2 h;simp only[leE,Bool.not_eq_true',decide_eq_false_iff_not] at h1 h2;exact aEy (hp a ha) (hp b (h.mem_iff.mpr hb)) (List.le_antisymm h1 h2)
open L2
class KFrag where
 K:PySem.W.Frag
variable [KFrag]
def aBe(H:Hp)(a:Addr)(xs:List V):Prop:=(∃o,H a=some (.frz o (.lst xs)))\/
 ∃(o:Obj)(its:Array Value)(n:Nat),KFrag.K.lookup a=some o/\o.cls=.type "list"/\o.dict=none/\o.data=.seq its n/\its.size<=sizeLine/\Vals xs its.toList
theorem aBe.sq(h:aBe H a xs)(hK:KFrag.K=K):SqL K H a xs:=by
 subst hK;rcases h with ⟨o,h⟩|h
 ·exact .inl (.inr ⟨o,h⟩)
 ·exact .inr h
def kD:Key->D
 |.inl i=>.int i
 |.inr x=>.str x
noncomputable def GQ:HO->Bool
 |.lst _=>true
 |.dK _=>true
 |.dT _=>true
 |_=>false
def XO(a C:Addr)(dx:Option Addr)(h:Heap):Prop:=∃o,h.get? a=some o/\o.cls=.ref C/\o.dict=dx/\∃vs,o.data=.fields vs
def XD(dx:Addr)(fs:List (Str×Str))(h:Heap):Prop:=∃mA,h.Ns1 dx mA/\PySem.Within mA (fs.map (·.1))/\∀f,match fs.lookup f with
 |some t=>∃tk,mA f=some (.str t tk)
 |none=>mA f=none
def XDs(H:Hp)(fs:List (Str×Str)):Option Addr->Prop
 |none=>fs=[]
 |some d=>H d=some (.ext (XD d fs))
mutual
inductive Rep(P:Addr->Prop)(H:Hp):V->D->Prop
 |non:Rep P H .non .non
 |bl (b:Bool):Rep P H (.bl b) (.bl b)
 |int (i:Int):Rep P H (.int i) (.int i)
 |str (x:Str):Rep P H (.str x) (.str x)
 |tup {a:Addr} {xs:List V} {ds:List D}:H a=some (.tup xs)->bT P H xs ds->Rep P H (.ref a) (.tup ds)
 |lst {a:Addr} {xs:List V} {ds:List D}:H a=some (.lst xs)->P a->bT P H xs ds->Rep P H (.ref a) (.lst ds)
 |cel {a:Addr} {xs:List V} {ds:List D}:H a=some (.lst xs)->P a->bT P H xs ds->Rep P H (.ref a) (.cel a ds)
 |frz {a:Addr} {xs:List V} {ds:List D}:aBe H a xs->bT P H xs ds->Rep P H (.ref a) (.scr ds)
 |dK {a:Addr} {kvs:List (Key×V)} {ds:List (D×D)}:H a=some (.dK kvs)->P a->qR P H kvs ds->(kvs.map (·.1)).Nodup->Rep P H (.ref a) (.dct ds)
 |dT {a:Addr} {kvs:List (List Key×V)} {ds:List (D×D)}:H a=some (.dT kvs)->P a->o6 P H kvs ds->(kvs.map (·.1)).Nodup->Rep P H (.ref a) (.dct ds)
 |fdK {a:Addr} {o:Obj} {kvs:List (Key×V)} {ds:List (D×D)}:H a=some (.frz o (.dK kvs))->qR P H kvs ds->(kvs.map (·.1)).Nodup->Rep P H (.ref a) (.fdc ds)
 |fdT {a:Addr} {o:Obj} {kvs:List (List Key×V)} {ds:List (D×D)}:H a=some (.frz o (.dT kvs))->o6 P H kvs ds->(kvs.map (·.1)).Nodup->Rep P H (.ref a) (.fdc ds)
 |exc {a C:Addr} {dx:Option Addr} {c:Str} {fs:List (Str×Str)}:PySem.W.nsIn KFrag.K mainGlobals c=some (some (.ref C))->H a=some (.ext (XO a C dx))->XDs H fs dx->Rep P H (.ref a) (.exc c fs)
 |ins {a C dx:Addr} {c:Str} {vs:List (Str×V)} {fs:List (Str×D)}:PySem.W.nsIn KFrag.K mainGlobals c=some (some (.ref C))->H a=some (.ins C dx vs)->aAp P H vs fs->Rep P H (.ref a) (.ins c fs)
 |adr {a:Addr}:Rep P H (.ref a) (.adr a)
 |dlK {a:Addr} {kvs:List (Key×V)} {ds:List (D×D)}:H a=some (.dK kvs)->P a->qR P H kvs ds->(kvs.map (·.1)).Nodup->Rep P H (.ref a) (.dcl a ds)
 |dlT {a:Addr} {kvs:List (List Key×V)} {ds:List (D×D)}:H a=some (.dT kvs)->P a->o6 P H kvs ds->(kvs.map (·.1)).Nodup->Rep P H (.ref a) (.dcl a ds)
inductive aAp(P:Addr->Prop)(H:Hp):List (Str×V)->List (Str×D)->Prop
 |nil:aAp P H [] []
 |cons {f:Str} {v:V} {d:D} {r:List (Str×V)} {ds:List (Str×D)}:Rep P H v d->aAp P H r ds->aAp P H ((f,v)::r) ((f,d)::ds)
inductive bT(P:Addr->Prop)(H:Hp):List V->List D->Prop
 |nil:bT P H [] []
 |cons {v:V} {d:D} {vs:List V} {ds:List D}:Rep P H v d->bT P H vs ds->bT P H (v::vs) (d::ds)
inductive qR(P:Addr->Prop)(H:Hp):List (Key×V)->List (D×D)->Prop
 |nil:qR P H [] []
 |cons {k:Key} {v:V} {d:D} {r:List (Key×V)} {ds:List (D×D)}:Rep P H v d->qR P H r ds->qR P H ((k,v)::r) ((kD k,d)::ds)
inductive o6(P:Addr->Prop)(H:Hp):List (List Key×V)->List (D×D)->Prop
 |nil:o6 P H [] []
 |cons {k:List Key} {v:V} {d:D} {r:List (List Key×V)} {ds:List (D×D)}:Rep P H v d->o6 P H r ds->o6 P H ((k,v)::r) ((.tup (k.map kD),d)::ds)
end
def DW(P:Addr->Prop)(H H':Hp):Prop:=∀a o,H a=some o->(P a\/GQ o=false)->H' a=some o
theorem DW.same(h:dG H H'):DW P H H':=λa o e _=>h a o e
theorem XDs.keep{P:Addr->Prop}{H H':Hp}(k:DW P H H')(q:XDs H fs dx):XDs H' fs dx:=by
 cases dx with
 |none=>exact q
 |some _=>exact k _ _ q (.inr rfl)
mutual
theorem Rep.fW{P P':Addr->Prop}{H H':Hp}(k:DW P H H')(m:∀a o,H a=some o->P a->P' a){v:V}{d:D}(q:Rep P H v d):Rep P' H' v d:=by
 cases q with
 |non=>exact .non
 |bl b=>exact .bl b
 |int i=>exact .int i
 |str x=>exact .str x
 |tup e r=>exact .tup (k _ _ e (.inr rfl)) (bT.fW k m r)
 |lst e p r=>exact .lst (k _ _ e (.inl p)) (m _ _ e p) (bT.fW k m r)
 |cel e p r=>exact .cel (k _ _ e (.inl p)) (m _ _ e p) (bT.fW k m r)
 |frz e r=>exact .frz (e.imp (λz=>z.imp λo e=>k _ _ e (.inr rfl)) id) (bT.fW k m r)
 |dK e p r n=>exact .dK (k _ _ e (.inl p)) (m _ _ e p) (qR.fW k m r) n
 |dT e p r n=>exact .dT (k _ _ e (.inl p)) (m _ _ e p) (o6.fW k m r) n
 |fdK e r n=>exact .fdK (k _ _ e (.inr rfl)) (qR.fW k m r) n
 |fdT e r n=>exact .fdT (k _ _ e (.inr rfl)) (o6.fW k m r) n
 |exc n e q=>exact .exc n (k _ _ e (.inr rfl)) (XDs.keep k q)
 |ins n e r=>exact .ins n (k _ _ e (.inr rfl)) (aAp.fW k m r)
 |adr=>exact .adr
 |dlK e p r n=>exact .dlK (k _ _ e (.inl p)) (m _ _ e p) (qR.fW k m r) n
 |dlT e p r n=>exact .dlT (k _ _ e (.inl p)) (m _ _ e p) (o6.fW k m r) n
theorem bT.fW{P P':Addr->Prop}{H H':Hp}(k:DW P H H')(m:∀a o,H a=some o->P a->P' a){v:List V}{d:List D}(q:bT P H v d):bT P' H' v d:=by
 cases q with
 |nil=>exact .nil
 |cons r t=>exact .cons (Rep.fW k m r) (bT.fW k m t)
theorem aAp.fW{P P':Addr->Prop}{H H':Hp}(k:DW P H H')(m:∀a o,H a=some o->P a->P' a){v:List (Str×V)}{d:List (Str×D)}(q:aAp P H v d):aAp P' H' v d:=by
 cases q with
 |nil=>exact .nil
 |cons r t=>exact .cons (Rep.fW k m r) (aAp.fW k m t)
theorem qR.fW{P P':Addr->Prop}{H H':Hp}(k:DW P H H')(m:∀a o,H a=some o->P a->P' a){v:List (Key×V)}{d:List (D×D)}(q:qR P H v d):qR P' H' v d:=by
 cases q with
 |nil=>exact .nil
 |cons r t=>exact .cons (Rep.fW k m r) (qR.fW k m t)
theorem o6.fW{P P':Addr->Prop}{H H':Hp}(k:DW P H H')(m:∀a o,H a=some o->P a->P' a){v:List (List Key×V)}{d:List (D×D)}(q:o6 P H v d):o6 P' H' v d:=by
 cases q with
 |nil=>exact .nil
 |cons r t=>exact .cons (Rep.fW k m r) (o6.fW k m t)
end
theorem Rep.keep(k:DW P H H')(m:∀a,P a->P' a)(q:Rep P H v d):Rep P' H' v d:=q.fW k λa _ _=>m a
theorem bT.keep(k:DW P H H')(m:∀a,P a->P' a)(q:bT P H v d):bT P' H' v d:=q.fW k λa _ _=>m a
theorem qR.keep(k:DW P H H')(m:∀a,P a->P' a)(q:qR P H v d):qR P' H' v d:=q.fW k λa _ _=>m a
theorem o6.keep(k:DW P H H')(m:∀a,P a->P' a)(q:o6 P H v d):o6 P' H' v d:=q.fW k λa _ _=>m a
theorem Rep.mono(r:Rep P H v d)(m:∀a,P a->P' a):Rep P' H v d:=r.keep (λ_ _ e _=>e) m
theorem bT.mono(r:bT P H v d)(m:∀a,P a->P' a):bT P' H v d:=r.keep (λ_ _ e _=>e) m
theorem Rep.same(r:Rep P H v d)(s:dG H H'):Rep P H' v d:=r.keep (.same s) λ_ h=>h
theorem bT.same(r:bT P H v d)(s:dG H H'):bT P H' v d:=r.keep (.same s) λ_ h=>h
noncomputable def aGv:HO->Bool
 |.tup _=>false
 |.frz _ (.lst _)=>false
 |_=>true
mutual
theorem Rep.GR{P P':Addr->Prop}{H H':Hp}(k:∀a o,H a=some o->aGv o=false->H' a=some o){v:V}{d:D}(q:Rep P H v d)(h:d.pure=true):Rep P' H' v d:=by
 cases q with
 |non=>exact .non
 |bl b=>exact .bl b
 |int i=>exact .int i
 |str x=>exact .str x
 |tup e r=>exact .tup (k _ _ e rfl) (bT.GR k r h)
 |frz e r=>exact .frz (e.imp (λz=>z.imp λo e=>k _ _ e rfl) id) (bT.GR k r h)
 |_=>exact fx0 h
theorem bT.GR{P P':Addr->Prop}{H H':Hp}(k:∀a o,H a=some o->aGv o=false->H' a=some o){v:List V}{d:List D}(q:bT P H v d)(h:D.aY d=true):bT P' H' v d:=by
 cases q with
 |nil=>exact .nil
 |cons r t=>
  rw[D.aY,Bool.and_eq_true] at h;exact .cons (Rep.GR k r h.1) (bT.GR k t h.2)
end
theorem Rep.bN(r:Rep P H v d)(h:d.pure=true):Rep P' H v d:=r.GR (λ_ _ e _=>e) h
theorem bT.bN(r:bT P H v d)(h:D.aY d=true):bT P' H v d:=r.GR (λ_ _ e _=>e) h
theorem bT.length:∀{v:List V}{d:List D},bT P H v d->v.length=d.length
 |_,_,.nil=>rfl
 |_,_,.cons _ t=>by rw[List.length_cons,List.length_cons,bT.length t]
theorem bT.get:∀{vs:List V}{ds:List D}{i:Nat}{d:D},bT P H vs ds->ds[i]?=some d->∃v,vs[i]?=some v/\Rep P H v d
 |_,_,_,_,.nil,e=>by simp at e
 |_,_,0,_,.cons r _,e=>by simp at e;subst e;exact⟨_,rfl,r⟩
 |_,_,i+1,d,.cons _ t,e=>by
  obtain⟨v,h1,h2⟩:=bT.get t (by simpa using e);exact⟨v,by simpa using h1,h2⟩
theorem bT.append:∀{vs ws:List V}{ds es:List D},bT P H vs ds->bT P H ws es->bT P H (vs++ws) (ds++es)
 |_,_,_,_,.nil,s=>s
 |_,_,_,_,.cons r t,s=>.cons r (bT.append t s)
theorem bT.take:∀{vs:List V}{ds:List D}(n:Nat),bT P H vs ds->bT P H (vs.take n) (ds.take n)
 |_,_,0,_=>.nil
 |_,_,_+1,.nil=>.nil
 |_,_,n+1,.cons r t=>.cons r (bT.take n t)
theorem bT.drop:∀{vs:List V}{ds:List D}(n:Nat),bT P H vs ds->bT P H (vs.drop n) (ds.drop n)
 |_,_,0,r=>r
 |_,_,_+1,.nil=>.nil
 |_,_,n+1,.cons _ t=>bT.drop n t
theorem bT.snoc(t:bT P H vs ds)(r:Rep P H v d):bT P H (vs++[v]) (ds++[d]):=t.append (.cons r .nil)
theorem Rep.uD:¬Rep P H v .uD:=λh=>by cases h
abbrev All:Addr->Prop:=λ_=>True
abbrev New(H:Hp):Addr->Prop:=λa=>H a=none
theorem Rep.all(r:Rep P H v d):Rep All H v d:=r.mono λ_ _=>trivial
theorem bT.all(r:bT P H v d):bT All H v d:=r.mono λ_ _=>trivial
theorem dG.new(s:dG H H'):∀a,New H' a->New H a:=λa h=>s.free h
theorem dG.upd(h:H a=none):dG H (upd H a o):=λb u e=>by rw[bL (fM e h)];exact e
def ER(H:Hp)(σ:St)(ρ:List D):Prop:=∀i,ρ.getD i .uD≠.uD->∃v,σ[i]?=some (some v)/\Rep All H v (ρ.getD i .uD)
theorem ER.same(e:ER H σ ρ)(s:dG H H'):ER H' σ ρ:=λi h=>by
 obtain⟨v,h1,h2⟩:=e i h;exact⟨v,h1,h2.same s⟩
theorem PE.imp(h:PE X e t)(i:∀σ H Q,t' σ H Q->t σ H Q):PE X e t':=λpins s σ H Q I q=>h pins s σ H Q I (i σ H Q q)
theorem PT.imp(h:PT X e t)(i:∀σ H Q,t' σ H Q->t σ H Q):PT X e t':=λpins s σ H Q I q=>h pins s σ H Q I (i σ H Q q)
theorem PA.imp(h:PA X e t)(i:∀σ H Q,t' σ H Q->t σ H Q):PA X e t':=λpos pins s σ H Q I q=>h pos pins s σ H Q I (i σ H Q q)
theorem Rep.dom(r:Rep P H v d):Rep (λa=>P a/\H a≠none) H v d:=r.fW (λ_ _ e _=>e) λa o e p=>⟨p,by rw[e];simp⟩
theorem Rep.aBf(r:Rep P H v d)(k:DW P H H')(m:∀a o,H a=some o->P a->P' a):Rep P' H' v d:=r.fW k m
def aNg(P:Addr->Prop)(H:Hp)(v:V):D->Prop
 |.non=>v=.non
 |.bl b=>v=.bl b
 |.int i=>v=.int i
 |.str x=>v=.str x
 |.tup ds=>∃a xs,v=.ref a/\H a=some (.tup xs)/\bT P H xs ds
 |.lst ds=>∃a xs,v=.ref a/\H a=some (.lst xs)/\P a/\bT P H xs ds
 |.cel b ds=>∃xs,v=.ref b/\H b=some (.lst xs)/\P b/\bT P H xs ds
 |.scr ds=>∃a xs,v=.ref a/\aBe H a xs/\bT P H xs ds
 |.ins c fs=>∃a C dx vs,v=.ref a/\PySem.W.nsIn KFrag.K mainGlobals c=some (some (.ref C))/\H a=some (.ins C dx vs)/\aAp P H vs fs
 |.exc c fs=>∃a C dx,v=.ref a/\PySem.W.nsIn KFrag.K mainGlobals c=some (some (.ref C))/\H a=some (.ext (XO a C dx))/\XDs H fs dx
 |.uD=>False
 |.adr b=>v=.ref b
 |.dcl b ds=>v=.ref b/\Rep P H v (.dct ds)
 |_=>True
theorem Rep.inv(r:Rep P H v d):aNg P H v d:=by
 cases r with
 |non=>rfl
 |bl=>rfl
 |int=>rfl
 |str=>rfl
 |tup e r=>exact⟨_,_,rfl,e,r⟩
 |lst e p r=>exact⟨_,_,rfl,e,p,r⟩
 |cel e p r=>exact⟨_,rfl,e,p,r⟩
 |frz e r=>exact⟨_,_,rfl,e,r⟩
 |ins n e r=>exact⟨_,_,_,_,rfl,n,e,r⟩
 |exc n e r=>exact⟨_,_,_,rfl,n,e,r⟩
 |adr=>rfl
 |dlK e p r n=>exact⟨rfl,.dK e p r n⟩
 |dlT e p r n=>exact⟨rfl,.dT e p r n⟩
 |_=>trivial
end Mi
namespace L2
open PySem PySem.Spec PyProof.Rows
noncomputable def gJ(own:List Str)(x:Str):Str:=if own.contains x then x++(" " : Str) else x
def clF(env:Env):List (Str×NameKind)->List (Str×Addr)->List (Str×Addr)
 |[],acc=>acc
 | (n,k)::r,acc=>clF env r (if k==.free then (n,(env.cells.lookup n).getD 0)::acc else acc)
theorem tH:∀(names:List (Str×NameKind))(acc:List (Str×Addr)),(∀y∈names,y.2=.free->∃c,env.cells.lookup y.1=some c)->
  (forIn names acc λx cs=>(match x with
   | (name,kind)=>if (kind==.free)=true then cellOf env name >>= λc=>pure (ForInStep.yield ((name,c)::cs)) else pure (ForInStep.yield cs):Sem (ForInStep (List (Str×Addr)))))=(pure (clF env names acc):Sem _)
 |[],acc,_=>by rw[List.forIn_nil];rfl
 | (n,k)::r,acc,h=>by
  rw[List.forIn_cons];by_cases hk:(k==.free)=true
  ·have hk':k=.free:=by simpa using hk
   obtain⟨c,e⟩:=h (n,k) (List.mem_cons_self ..) hk';have e':cellOf env n=pure c:=by
    unfold cellOf;have e2:env.cells.lookup n=some c:=e;rw[e2]
   dsimp only;rw[if_pos hk,e',pure_bind,pure_bind];dsimp only;rw[tH r _ λy hy=>h y (List.mem_cons_of_mem _ hy)];have e2:env.cells.lookup n=some c:=e;simp only[clF,hk,if_true,e2,Option.getD_some]
  ·dsimp only;rw[if_neg hk,pure_bind];dsimp only;rw[tH r _ λy hy=>h y (List.mem_cons_of_mem _ hy)];simp only[clF,hk,Bool.false_eq_true,if_false]
theorem TJ(h:∀y∈scope.names,y.2=.free->∃c,env.cells.lookup y.1=some c):closureFor scope env=pure (clF env scope.names []):=by
 unfold closureFor;have:=tH scope.names [] h;simp only[bind_pure] at *;exact this
theorem LR:∀{names:List (Str×NameKind)}{acc:List (Str×Addr)}{x:Str}{c:Addr},(∀y∈names,y.2=.free->∃c,env.cells.lookup y.1=some c)->(∀x c,acc.lookup x=some c->env.cells.lookup x=some c)->
  (clF env names acc).lookup x=some c->env.cells.lookup x=some c
 |[],acc,x,c,_,h,e=>h x c e
 | (n,k)::r,acc,x,c,q,h,e=>by
  unfold clF at e;refine LR (λy hy=>q y (List.mem_cons_of_mem _ hy)) (λy d hy=>?_) e;by_cases hk:(k==.free)=true
  ·rw[if_pos hk,List.lookup_cons] at hy;obtain⟨c',e'⟩:=q (n,k) (List.mem_cons_self ..) (by simpa using hk);have e2:env.cells.lookup n=some c':=e';cases hyn:y==n with
   |true=>
    rw[hyn] at hy;have:y=n:=by simpa using hyn
    subst this;rw[e2] at hy;simp only[Option.getD_some] at hy;rw[e2];exact hy
   |false=>rw[hyn] at hy;exact h y d hy
  ·rw[if_neg hk] at hy;exact h y d hy
theorem W5:∀{names:List (Str×NameKind)}{acc:List (Str×Addr)}{x:Str},(∃c,acc.lookup x=some c)->∃c,(clF env names acc).lookup x=some c
 |[],_,_,h=>h
 | (n,k)::r,acc,x,⟨c,h⟩=>by
  unfold clF;refine W5 ?_;by_cases hk:(k==.free)=true
  ·rw[if_pos hk,List.lookup_cons];cases x==n with
   |true=>exact⟨_,rfl⟩
   |false=>exact⟨c,h⟩
  ·rw[if_neg hk];exact⟨c,h⟩
theorem L_:∀{names:List (Str×NameKind)}{acc:List (Str×Addr)}{x:Str},(x,NameKind.free)∈names->∃c,(clF env names acc).lookup x=some c
 | (n,k)::r,acc,x,h=>by
  unfold clF;rcases List.mem_cons.mp h with e|h
  ·cases e;refine W5 ?_;rw[if_pos (by decide),List.lookup_cons];simp
  ·exact L_ h
structure cQ(N:List Str)(sc scope:Scope)(own:List Str):Prop where
 kind:scope.kind=.function
 nocell:∀y∈scope.names,y.2≠.cell
 names:∀y∈scope.names,y.2=.local->scope.names.lookup y.1=some .local
 free:∀y∈scope.names,y.2=.free->sc.names.lookup y.1=some .cell\/sc.names.lookup y.1=some .free
 ownl:∀x∈own,scope.names.lookup x=some .local
 hid:∀x∈own,scope.names.lookup (x++(" " : Str))=none
 loc:∀y∈scope.names,y.2=.local->y.1∈own\/y.1∉N
structure cW(X X':Cx)(scope:Scope)(own:List Str):Prop where
 prog:X'.prog=X.prog
 w:X'.w=X.w
 K:X'.K=X.K
 mg:X'.mg=X.mg
 base:X'.base=X.base
 A:X'.A=X.A
 N:X'.N=X.N.map (gJ own)++own
 scope:X'.env.scope=relabel scope X.env
 calm:X'.calm=X.calm
 xe:X'.xe=λ_ _=>False
def QF(X:Cx)(scope:Scope)(cl:List (Str×Addr))(C:Addr)(own:List Str)(s₂:Shared)(H₂:Hp)(fp:List Addr):Cx:=
 {X with N:=X.N.map (gJ own)++own,s₀:=s₂,H₀:=H₂,env:=compEnvC scope cl C X.env,outer:=X.stack,stack:=X.stack,ex:=fp,fn:=λ_=>false,pn:=[],xe:=λ_ _=>False}
theorem W6:cW X (QF X scope cl C own s₂ H₂ fp) scope own:=
 ⟨rfl,rfl,rfl,rfl,rfl,rfl,rfl,rfl,rfl,rfl⟩
def Ext(σ σ2:St):Prop:=σ2.length=σ.length/\∀(i:Nat) v,σ[i]?=some (some v)->σ2[i]?=some (some v)
def MF(wi:TI)(g:TG)(tc:TT)(te:TE)(m:Nat):TE:=λσ H Q=>wi σ H λJ H1=>∀p,H1 p=none->
 ∃W:Nat->Nat->List V->Hp->Prop,(∃n,W 0 n [] (upd H1 p (.lst [])))/\∀i n ys H,W i n ys H->H p=some (.lst ys)/\((J.stop i H/\Q (.ref p) H)\/(J.go i H/\ys.length<sizeLine/\
  ∀x H2,J.yld i H x H2->g x (σ++List.replicate m none) H2 λσ2 H3=>Ext (σ++List.replicate m none) σ2/\tc σ2 H3 λb H4=>if b=true then te σ2 H4 λy H5=>H5 p=some (.lst ys)/\∃n',n'<n/\W (i+1) n' (ys++[y]) (upd H5 p (.lst (ys++[y])))
   else ∃n',n'<n/\W (i+1) n' ys H4))
section
theorem Inv.comp(I:Inv X pins σ H2 s2)(S:cQ X.N X.env.scope scope own)(hf:∀b∈fp,VJ X pins H2 b)
 (hfx:∀b∈fp,b<s2.heap.objs.size)(hns:h1.Ns (s2.heap.objs.size+1) (λ_=>none))
 (hk:∀b o,s2.heap.get? b=some o->h1.get? b=some o)(hacc:h1.get? s2.heap.objs.size=some {cls:=.type "list",data:=.seq #[]}) :
  Inv (QF X scope (clF X.env scope.names []) (s2.heap.objs.size+1) own s2 H2 fp) [] (σ++List.replicate own.length none) (upd H2 s2.heap.objs.size (.lst [])) {s2 with heap:=h1,toks:=t1}:=by
 have hD:H2 s2.heap.objs.size=none:=I.hok.fresh (Nat.le_refl _);have hC:H2 (s2.heap.objs.size+1)=none:=I.hok.fresh (Nat.le_succ _);have cells:∀y∈scope.names,y.2=.free->∃c,X.env.cells.lookup y.1=some c:=λy hy hk=>I.ok.has y.1 (S.free y hy hk)
 have sub:∀x c,(clF X.env scope.names []).lookup x=some c->X.env.cells.lookup x=some c:=λx c e=>LR cells (λ_ _ h=>by simp at h) e
 have relk:∀x,(relabel scope X.env).names.lookup x=some .cell\/(relabel scope X.env).names.lookup x=some .free->(x,NameKind.free)∈scope.names:=by
  intro x hx;have go:∀(l:List (Str×NameKind)),(∀y∈l,y.2≠.cell)->((l.map λ(n,k)=>if (k==NameKind.free&&X.env.scope.kind==.function&&X.env.kindOf n==some .cell) then (n,NameKind.cell) else (n,k)).lookup x=some .cell\/(l.map λ(n,k)=>if (k==NameKind.free&&X.env.scope.kind==.function&&X.env.kindOf n==some .cell) then (n,NameKind.cell) else (n,k)).lookup x=some .free)->(x,NameKind.free)∈l:=by
   intro l;induction l with
   |nil=>intro _ h;rcases h with h|h<;>simp at h
   |cons p l ih=>
    obtain⟨n,k⟩:=p;intro nc h;rw[List.map_cons] at h;dsimp only at h;by_cases hc:(k==NameKind.free&&X.env.scope.kind==.function&&X.env.kindOf n==some .cell)=true
    ·rw[if_pos hc] at h;rw[List.lookup_cons] at h;cases e:x==n with
     |true=>
      have:x=n:=by simpa using e
      subst this;simp only[Bool.and_eq_true] at hc;have:k=.free:=by simpa using hc.1.1
      subst this;exact List.mem_cons_self ..
     |false=>
      rw[e] at h;exact List.mem_cons_of_mem _ (ih (λy hy=>nc y (List.mem_cons_of_mem _ hy)) h)
    ·rw[if_neg hc] at h;rw[List.lookup_cons] at h;cases e:x==n with
     |true=>
      have:x=n:=by simpa using e
      subst this;rw[e] at h;dsimp only at h;rcases h with h|h
      ·exact absurd (Option.some.inj h) (nc (x,k) (List.mem_cons_self ..))
      ·have:=Option.some.inj h;subst this;exact List.mem_cons_self ..
     |false=>
      rw[e] at h;exact List.mem_cons_of_mem _ (ih (λy hy=>nc y (List.mem_cons_of_mem _ hy)) h)
  exact go scope.names S.nocell hx
 have hne:s2.heap.objs.size≠s2.heap.objs.size+1:=Nat.ne_of_lt (Nat.lt_succ_self _);have hlt:∀b o,s2.heap.get? b=some o->b<s2.heap.objs.size:=λb o e=>Heap.lt_size e
 have hstk:∀b∈frs X.stack,b<s2.heap.objs.size:=λb hb=>by
  obtain⟨_,o,ho,_⟩:=I.stack.mem hb;exact hlt b o ho
 refine⟨⟨I.mod,?_,I.ok.glob,I.ok.blt,Nat.le_succ _,λx y c e1 e2=>I.ok.inj x y c (sub x c e1) (sub y c e2),λx hx=>?_,λ_ _ h=>(by cases h),I.ok.hd,I.ok.frames,.inl rfl,λb hb=>?_,λb o e=>I.bs b o e,?_,λb o e hb=>?_,λb hb hz=>?_,I.stack,I.VD⟩,
  rfl,I.bare,Un.laid hk (Nat.le_refl _) hD,?_,λx c e=>?_,?_,λx c e=>?_,λp hp=>(by simp[QF] at hp),?_,?_⟩
 ·exact S.kind
 ·have hx':(relabel scope X.env).names.lookup x=some .cell\/(relabel scope X.env).names.lookup x=some .free:=hx;exact L_ (relk x hx')
 ·refine⟨Nat.ne_of_lt (Nat.lt_succ_of_lt (hfx b hb)),λx c e z=>?_⟩;exact(hf b hb).2.2.2.2.1 x c (sub x c e) z
 ·exact Nat.le_trans I.ok.bsz I.sz
 ·rcases(hf b hb).2.2.2.1 with z|z
  ·exact I.ok.noex b o e z
  ·exact absurd (Nat.lt_of_lt_of_le (Heap.lt_size e) (Nat.le_trans I.ok.bsz z)) (Nat.lt_irrefl _)
 ·rcases List.mem_cons.mp (I.PL b hz) with z'|z'
  ·exact(hf b hb).2.1 z'
  ·exact(hf b hb).2.2.1 z'
 ·refine⟨_,hns,λi x v e1 e2 e3=>?_⟩;have hi:i<σ.length:=by
   rcases Nat.lt_or_ge i σ.length with h|h
   ·exact h
   ·rw[List.getElem?_append_right h,List.getElem?_replicate] at e2;split at e2<;>cases e2
  rw[List.getElem?_append_left hi] at e2;have hiN:i<X.N.length:=by rw[<-I.len];exact hi
  have e1':(X.N.map (gJ own))[i]?=some x:=by
   have:(X.N.map (gJ own)++own)[i]?=some x:=e1;rwa [List.getElem?_append_left (by rw[List.length_map];exact hiN)] at this
  rw[List.getElem?_map] at e1';obtain⟨y,hy,ey⟩:=Option.map_eq_some_iff.mp e1';have hyN:y∈X.N:=List.mem_of_getElem? hy;have e3':(relabel scope X.env).names.lookup x=some .local\/(relabel scope X.env).names.lookup x=some .cell\/(relabel scope X.env).names.lookup x=some .free:=e3;have keys:∀z k,(relabel scope X.env).names.lookup z=some k->∃k',scope.names.lookup z=some k'/\(k=.local->k'=.local):=by
   intro z k;show(scope.names.map λ(n,k)=>if (k==NameKind.free&&X.env.scope.kind==.function&&X.env.kindOf n==some .cell) then (n,NameKind.cell) else (n,k)).lookup z=some k->_;generalize scope.names=l;induction l with
   |nil=>intro h;simp at h
   |cons p l ih=>
    obtain⟨n,k0⟩:=p;intro h;rw[List.map_cons] at h;dsimp only at h;by_cases hc:(k0==NameKind.free&&X.env.scope.kind==.function&&X.env.kindOf n==some .cell)=true
    ·rw[if_pos hc,List.lookup_cons] at h;rw[List.lookup_cons];cases e:z==n with
     |true=>
      rw[e] at h;dsimp only at h;cases h;exact⟨k0,rfl,λq=>by cases q⟩
     |false=>rw[e] at h;exact ih h
    ·rw[if_neg hc,List.lookup_cons] at h;rw[List.lookup_cons];cases e:z==n with
     |true=>
      rw[e] at h;dsimp only at h;cases h;exact⟨_,rfl,λq=>q⟩
     |false=>rw[e] at h;exact ih h
  by_cases hown:own.contains y=true
  ·exfalso;have ex:x=y++(" " : Str):=by rw[<-ey];unfold gJ;rw[if_pos hown]
   have hn:=S.hid y (by simpa using hown);rw[<-ex] at hn;rcases e3' with q|q|q
   all_goals
    obtain⟨k',hk',_⟩:=keys _ _ q;rw[hn] at hk';cases hk'
  ·have ex:x=y:=by rw[<-ey];unfold gJ;rw[if_neg hown]
   subst ex;rcases e3' with q|q
   ·exfalso;obtain⟨k',hk',hl⟩:=keys _ _ q;have:=hl rfl;subst this;rcases S.loc _ (PySem.mem_of_lookup hk') rfl with z|z
    ·exact hown (by simpa using z)
    ·exact z hyN
   ·have hfr:=relk x q;have hv:=S.free _ hfr rfl;obtain⟨m,_,hl⟩:=I.loc;obtain⟨u,ru,lk⟩:=hl i x v hy e2 (.inr hv);refine⟨u,ru,.inr ⟨q,?_⟩⟩;rcases lk with ⟨z,_⟩|⟨_,c,hc,o,ho,hd⟩
    ·have z':X.env.scope.names.lookup x=some .local:=z;rcases hv with hv|hv<;>(rw[z'] at hv;cases hv)
    ·obtain⟨c',hc'⟩:=L_ hfr;have:=sub x c' hc';rw[hc] at this;cases this;exact⟨c,hc',o,hk c o ho,hd⟩
 ·obtain⟨v,z⟩:=I.cell x c (sub x c e);obtain⟨o,ho,hd⟩:=z;exact⟨v,o,hk c o ho,hd⟩
 ·show upd H2 _ _ (s2.heap.objs.size+1)=none;rw[bL (Ne.symm hne)];exact hC
 ·obtain⟨v,o,ho,_⟩:=I.cell x c (sub x c e);show upd H2 _ _ c=none;rw[bL (Nat.ne_of_lt (hlt c o ho))];exact I.freeC x c (sub x c e)
 ·exact I.hok.laid hk (Nat.le_refl _) ⟨Nat.zero_le _,[],0,.nil,hacc⟩
 ·show(σ++List.replicate own.length none).length=(X.N.map (gJ own)++own).length;rw[List.length_append,List.length_append,List.length_replicate,List.length_map,I.len]
end
section
variable {X:Cx} {scope:Scope} {own:List Str}
def cI(X':Cx)(σ:St)(fp:List Addr)(tn:Nat->Heap->Prop)(W:Nat->Nat->List V->Hp->Prop)(n:Nat)(s:Shared):Prop:=∃i ys H',Inv X' [] σ H' s/\tn i s.heap/\(∀b∈fp,H' b=none)/\W i n ys H'
abbrev cE(X X':Cx)(use:Option (Value->Sem Unit))(QQ:Value->Shared->Prop)(p:Addr):Value->Shared->Prop:=notedBy (model X.prog X.w) X.A X'.env λe s'=>compPost (model X.prog X.w) X.A X.xe use QQ (.ref p) (p+1) (.error e) s'
def cB(X':Cx)(σ:St)(fp:List Addr)(tn:Nat->Heap->Prop)(W:Nat->Nat->List V->Hp->Prop)(n i:Nat)(h:Heap):Prop:=∀{ys':List V}{H9:Hp}{s9:Shared}{σ9:St},Ext σ σ9->Inv X' ([]++uX fp h) σ9 H9 s9->(∃n',n'<n/\W (i+1) n' ys' H9)->∃m,m<n/\cI X' σ fp tn W m s9
theorem MJ(S:cQ X.N X.env.scope scope own)(hcalm:X.calm=true)(hi:PI X tg iter wi)
 (hg:∀X',cW X X' scope own->PG X' tg g)(hc:(ifs=[]/\tc=λ_ H Q=>Q true H)\/∃c,ifs=[c]/\∀X',cW X X' scope own->PT X' c tc)(he:∀X',cW X X' scope own->PE X' elt te)
 (hs:∀x,foldedSetIterable iter X.env x=pure x)(I:Inv X pins σ H s)(h:MF wi g tc te own.length σ H R)
 (last:∀{p C:Addr} {H5:Hp} {s6:Shared} {m6:Str->Option Value},Inv X pins σ H5 s6->VJ X pins H5 C->s6.heap.Ns C m6->R (.ref p) H5->compPost (model X.prog X.w) X.A X.xe use QQ (.ref p) C (.ok .next) s6) :
  wpAny (model X.prog X.w) X.A (comprehension (.ListComp elt [⟨tg,iter,ifs,0⟩] scope pos) scope X.env ps (newList []) false (eval iter X.env) use) QQ X.xe s:=by
 have cells:∀y∈scope.names,y.2=.free->∃c,X.env.cells.lookup y.1=some c:=λy hy hk=>I.ok.has y.1 (S.free y hy hk)
 refine wpAny_comprehension_free rfl hs (TJ cells) S.kind S.names (thn (hi pins s σ H _ I h) λxv s1 h1=>thn h1 λitv s2 h2=>?_);obtain⟨it,fp,tn,J,H2,e,I2,T,st2,f2,hW⟩:=h2;subst e;have hD:H2 s2.heap.objs.size=none:=I2.hok.fresh (Nat.le_refl _);obtain⟨W,⟨n0,w0⟩,turn⟩:=hW _ hD;have hfx:∀b∈fp,b<s2.heap.objs.size:=λb hb=>by
  obtain⟨o,ho,_⟩:=T.obj 0 _ st2 b hb;exact Heap.lt_size ho
 refine wpAny_newObj_type (wpAny_newFunctionEnv S.nocell (by intro y hy;simp at hy) (λh₁ hns₁ hsb₁=>?_) S.kind);dsimp only at hns₁ hsb₁ ⊢;have hC:(s2.heap.push {cls:=.type "list",dict:=none,data:=.seq ([]:List Value).toArray}).objs.size=s2.heap.objs.size+1:=Heap.size_push ..;have hne:s2.heap.objs.size≠s2.heap.objs.size+1:=Nat.ne_of_lt (Nat.lt_succ_self _);rw[hC] at hns₁ hsb₁ ⊢;have old:∀b o,s2.heap.get? b=some o->h₁.get? b=some o:=λb o e=>hsb₁.extBut b o (Nat.ne_of_lt (Nat.lt_succ_of_lt (Heap.lt_size e))) (Heap.get?_push_of_some _ (Heap.get?_push_of_some _ e))
 have hacc:h₁.get? s2.heap.objs.size=some {cls:=.type "list",data:=.seq #[]}:=hsb₁.extBut _ _ hne (Heap.get?_push_of_some _ (Heap.get?_push_size _ rfl));have I4:=Inv.comp (t1:=s2.toks+([]:List (Str×Value)).length) I2 S f2 hfx hns₁ old hacc;generalize hX':QF X scope (clF X.env scope.names []) (s2.heap.objs.size+1) own s2 H2 fp=X' at I4;have cc:cW X X' scope own:=by rw[<-hX'];exact W6
 have eenv:X'.env=compEnvC scope (clF X.env scope.names []) (s2.heap.objs.size+1) X.env:=by rw[<-hX'];rfl
 have eA:X'.A=X.A:=cc.A;have ep:X'.prog=X.prog:=cc.prog;have ew:X'.w=X.w:=cc.w;have efs:X'.fs=frs X.stack:=by rw[<-hX'];rfl
 have eex:X'.ex=fp:=by rw[<-hX'];rfl
 have es0:X'.s₀=s2:=by rw[<-hX'];rfl
 have eH0:X'.H₀=H2:=by rw[<-hX'];rfl
 have epn:X'.pn=[]:=by rw[<-hX'];rfl
 have eK:X'.K=X.K:=cc.K;have exe:=cc.xe;have ecalm:X'.calm=true:=cc.calm.trans hcalm
 -- the iterator's records within the block
 have fpok:∀{H':Hp},(∀b∈fp,H' b=none)->∀b∈fp,VJ X' [] H' b:=λ{H'} hn b hb=>by
  obtain⟨_,f1,f3,_,f5,_⟩:=f2 b hb;refine⟨hn b hb,?_,?_,.inl (by rw[eex];exact hb),λx c e=>?_,λp hp=>by rw[epn] at hp;simp at hp⟩
  ·rw[eenv];exact Nat.ne_of_lt (Nat.lt_succ_of_lt (hfx b hb))
  ·rw[efs];intro z;rcases List.mem_cons.mp (I2.PL b z) with z|z
   ·exact f1 z
   ·exact f3 z
  ·rw[eenv] at e;exact f5 x c (LR cells (λ_ _ h=>by simp at h) e)
 have st4:tn 0 h₁:=T.keep _ _ _ st2 λb _ o e=>old b o e
 have fr4:∀b∈fp,(upd H2 s2.heap.objs.size (.lst [])) b=none:=λb hb=>by rw[bL (Nat.ne_of_lt (hfx b hb))];exact(f2 b hb).1
 have loop:∀s4:Shared,s4={s2 with heap:=h₁,toks:=s2.toks+([]:List (Str×Value)).length}->
   codeAny (model X.prog X.w) X.A (.compLoop (.ListComp elt [⟨tg,iter,ifs,0⟩] scope pos) 0 (.ref it) (.ref s2.heap.objs.size) X'.env)
    (compPost (model X.prog X.w) X.A X.xe use QQ (.ref s2.heap.objs.size) (s2.heap.objs.size+1)) s4:=by
  rintro s4 rfl;have put:∀(n i:Nat)(ys:List V)(s7:Shared)(σ8:St)(H8:Hp)(s8:Shared),cB X' (σ++List.replicate own.length none) fp tn W n i s7.heap->Inv X' ([]++uX fp s7.heap) σ8 H8 s8->Ext (σ++List.replicate own.length none) σ8->ys.length<sizeLine->(te σ8 H8 λy H5=>H5 s2.heap.objs.size=some (.lst ys)/\∃n',n'<n/\W (i+1) n' (ys++[y]) (upd H5 s2.heap.objs.size (.lst (ys++[y]))))->
    wpAny (model X.prog X.w) X.A (eval elt X'.env) (λx s₄=>wpAny (model X.prog X.w) X.A (call (.builtin "list.append") [.ref s2.heap.objs.size,x]) (λ_ s₅=>∃m,m<n/\cI X' (σ++List.replicate own.length none) fp tn W m s₅) (cE X X' use QQ s2.heap.objs.size) s₄) (cE X X' use QQ s2.heap.objs.size) s8:=by
   intro n i ys s7 σ8 H8 s8 back I8 ext8 hlen q8;have he':=he X' cc _ s8 _ H8 _ I8 q8;rw[ep,ew,eA,exe] at he';refine wpAny_mono he' (λyv s10 ⟨y,H10,I10,r10,p10,q10⟩=>?_) λ_ _ z=>False.elim z
   have hm:=FQ _ s10 σ8 H10 (.ref s2.heap.objs.size) [y] (.ref s2.heap.objs.size) [yv] (λ_ H11=>∃n',n'<n/\W (i+1) n' (ys++[y]) H11) I10 rfl (.cons r10 .nil) ⟨s2.heap.objs.size,ys,y,rfl,rfl,p10,hlen,q10⟩;rw[ep,ew,eA,exe] at hm;exact wpAny_mono hm (λ_ s11 ⟨_,H11,I11,_,q11⟩=>back ext8 I11 q11) λ_ _ z=>False.elim z
  have key:∀(PO:Nat->Shared->Prop),(∀(n i:Nat)(ys:List V)(s7:Shared)(σ8:St)(H8:Hp)(s8:Shared),cB X' (σ++List.replicate own.length none) fp tn W n i s7.heap->Inv X' ([]++uX fp s7.heap) σ8 H8 s8->Ext (σ++List.replicate own.length none) σ8->ys.length<sizeLine->(tc σ8 H8 λb H4=>if b=true then te σ8 H4 λy H5=>H5 s2.heap.objs.size=some (.lst ys)/\∃n',n'<n/\W (i+1) n' (ys++[y]) (upd H5 s2.heap.objs.size (.lst (ys++[y]))) else ∃n',n'<n/\W (i+1) n' ys H4)->PO n s8)->
    ∀n s5,(cI X' (σ++List.replicate own.length none) fp tn W n s5)->wpAny (model X.prog X.w) X.A (pyNext (.ref it)) (λr s₁=>match r with
     |none=>compPost (model X.prog X.w) X.A X.xe use QQ (.ref s2.heap.objs.size) (s2.heap.objs.size+1) (.ok .next) s₁
     |some v=>wpAny (model X.prog X.w) X.A (letOwnedTupleGo tg (.ref it) v) (λ_ s₀=>wpAny (model X.prog X.w) X.A (assign tg X'.env v) (λ_ s₂=>PO n s₂) (cE X X' use QQ s2.heap.objs.size) s₀) (cE X X' use QQ s2.heap.objs.size) s₁) (cE X X' use QQ s2.heap.objs.size) s5:=by
   intro PO hPO;rintro n s5 ⟨i,ys,H5,I5,st5,fr5,w5⟩;obtain⟨hacc5,tr⟩:=turn i n ys H5 w5;rcases tr with ⟨stop,q⟩|⟨go,hlen,step⟩
   ·have done:=T.done X' ep ew eK ecalm i [] s5 _ H5 (cE X X' use QQ s2.heap.objs.size) I5 (fpok fr5) st5 stop;rw[eA] at done;refine thn done λr s6 ⟨hr,I6⟩=>?_
    subst hr;obtain⟨m6,hn6,_⟩:=id I6.loc;rw[eenv] at hn6;have u6:Un (frs X.stack) fp H2 H5 s2.heap s6.heap:=by
     have:=I6.base;rw[efs,eex,eH0,es0] at this;exact this
    have hCn:H5 (s2.heap.objs.size+1)=none:=by
     have:=I6.free;rw[eenv] at this;exact this
    have hok6:HOk X.prog X.w H5 s6.heap:=by
     have:=I6.hok;rw[ep,ew] at this;exact this
    have hos:s6.os=s2.os:=by have:=I6.os;rw[es0] at this;exact this
    obtain⟨hh,gg,dd,tt,oo⟩:=s6;obtain rfl:oo=s2.os:=hos;have fin:=Inv.call (g':=gg) (d':=dd) (t':=tt) (ch:=fp) I2 u6 hok6 I6.bare λb hb=>⟨(f2 b hb).2.2.2.1,(f2 b hb).2.1,(f2 b hb).2.2.2.2.1,(f2 b hb).2.2.2.2.2⟩
    refine last fin ⟨hCn,Nat.ne_of_gt (Nat.lt_succ_of_lt I2.lt),I2.aM8 (Nat.le_succ _),.inr (Nat.le_trans I2.sz (Nat.le_succ _)),λx c e z=>?_,λp hp z=>?_⟩ hn6 q
    ·obtain⟨v,qq⟩:=I2.cell x c e;exact absurd (Nat.lt_succ_of_lt qq.lt) (by rw[z];exact Nat.lt_irrefl _)
    ·exact absurd (Nat.lt_succ_of_lt (Heap.lt_size (I2.pin p hp).1)) (by rw[z];exact Nat.lt_irrefl _)
   ·have item:=T.item X' ep ew eK ecalm i [] s5 _ H5 (cE X X' use QQ s2.heap.objs.size) I5 (fpok fr5) st5 go;rw[eA] at item;refine thn item λr s6 ⟨u,hr,h6⟩=>?_
    subst hr;refine thn h6 λ_ s7 ⟨x,H7,I7,r7,y7,st7,fr7⟩=>?_
    have I7':=I7.pinned (fpok fr7) (T.obj _ _ st7);have hg':=hg X' cc _ s7 _ H7 x u _ I7' r7 (step x H7 y7);rw[ep,ew,eA,exe] at hg';refine wpAny_mono hg' (λ_ s8 ⟨σ8,H8,I8,ext8,q8⟩=>?_) λ_ _ z=>False.elim z
    have back:cB X' (σ++List.replicate own.length none) fp tn W n i s7.heap:=by
     rintro ys' H9 s9 σ9 ex9 I9 ⟨n',hn',w9⟩;refine⟨n',hn',i+1,ys',H9,(I9.weak ex9.1.symm ex9.2).qT,T.keep _ _ _ st7 λb hb o e=>(I9.pin (b,o) (List.mem_append_right _ (List.mem_append_right _ (nR hb e)))).1,λb hb=>?_,w9⟩;obtain⟨o,e,d⟩:=T.obj _ _ st7 b hb;exact(I9.pin (b,o) (List.mem_append_right _ (List.mem_append_right _ (nR hb e)))).2.1
    exact hPO n i ys s7 σ8 H8 s8 back I8 ext8 hlen q8
  rcases hc with ⟨rfl,rfl⟩|⟨c,rfl,hc⟩
  ·refine PySem.W.kcp_loop _ (key _ λn i ys s7 σ8 H8 s8 back I8 ext8 hlen q8=>?_) n0 ⟨0,[],_,I4,st4,fr4,w0⟩;simp only[if_true] at q8;exact put n i ys s7 σ8 H8 s8 back I8 ext8 hlen q8
  ·refine PySem.W.kct_loop _ (key _ λn i ys s7 σ8 H8 s8 back I8 ext8 hlen q8=>?_) n0 ⟨0,[],_,I4,st4,fr4,w0⟩;have hc':=hc X' cc _ s8 _ H8 _ I8 q8;rw[ep,ew,eA,exe] at hc';refine wpAny_mono hc' (λb s9 ⟨H9,I9,q9⟩=>?_) λ_ _ z=>False.elim z
   cases b with
   |false=>
    simp only[Bool.false_eq_true,if_false] at q9 ⊢;exact back ext8 I9 q9
   |true=>
    simp only[if_true] at q9 ⊢;exact put n i ys s7 σ8 H9 s9 back I9 ext8 hlen q9
 have l4:=loop _ rfl;rw[eenv] at l4;exact codeAny_compStart_list l4 (T.self X.A 0 _ _ _ st4 l4)
theorem QG(f:Inv X pins σ H5 s6)(k:VJ X pins H5 C)(n:s6.heap.Ns C m6)(q:Q (.ref p) H5):compPost (model X.prog X.w) X.A X.xe none (EP X pins σ Q) (.ref p) C (.ok .next) s6:=
 ⟨m6,n,λh' sb=>⟨.ref p,H5,Inv.turned f (λb o hb e=>sb.extBut b o hb e) k.1 k.2.1 k.2.2.2.1 k.2.2.2.2.1 k.2.2.2.2.2,rfl,q⟩⟩
theorem W7(S:cQ X.N X.env.scope scope own)(hcalm:X.calm=true)(hi:PI X tg iter wi)
 (hg:∀X',cW X X' scope own->PG X' tg g)(hc:∀X',cW X X' scope own->PT X' c tc)(he:∀X',cW X X' scope own->PE X' elt te)
 (hs:∀x,foldedSetIterable iter X.env x=pure x):PE X (.ListComp elt [⟨tg,iter,[c],0⟩] scope pos) (MF wi g tc te own.length):=by
 intro pins s σ H Q I h;rw[eval_ListComp];exact MJ S hcalm hi hg (.inr ⟨c,rfl,hc⟩) he hs I h QG
theorem aBg(S:cQ X.N X.env.scope scope own)(hcalm:X.calm=true)(hi:PI X tg iter wi)
 (hg:∀X',cW X X' scope own->PG X' tg g)(he:∀X',cW X X' scope own->PE X' elt te)
 (hs:∀x,foldedSetIterable iter X.env x=pure x):PE X (.ListComp elt [⟨tg,iter,[],0⟩] scope pos) (MF wi g (λ_ H Q=>Q true H) te own.length):=by
 intro pins s σ H Q I h;rw[eval_ListComp];exact MJ S hcalm hi hg (.inl ⟨rfl,rfl⟩) he hs I h QG
end
end L2
namespace Mi
open PySem L2 PySem.SeqAt
section
variable [KFrag]
theorem gM(I:Inv X pins σ H s)(e:H a=some (.tup xs)):∃its:List Value,Vals xs its/\s.heap.IsTuple a its.toArray:=by
 obtain⟨_,its,r,p⟩:xs.length<=sizeLine/\∃its:List Value,Vals xs its/\lY s.heap a its.toArray:=I.hok a _ e;exact⟨its,r,p.tup⟩
theorem mW(I:Inv X pins σ H s)(e:SqL X.K H a xs):∃its:List Value,Vals xs its/\s.heap.IsList a its.toArray:=by
 obtain⟨its,r,p,_⟩:=I.list e;exact⟨its,r,p.isList⟩
theorem Rep.jR(r:Rep P H v (.lst ds)):∃a xs,v=.ref a/\SqL K H a xs/\bT P H xs ds:=by
 obtain⟨_,_,rfl,e,p,r⟩:=r.inv;exact⟨_,_,rfl,.inl (.inl e),r⟩
theorem Rep.gQ(r:Rep P H v (.tup ds)):∃a xs,v=.ref a/\H a=some (.tup xs)/\bT P H xs ds:=by
 obtain⟨_,_,rfl,e,r⟩:=r.inv;exact⟨_,_,rfl,e,r⟩
mutual
theorem y_:∀(n:Nat)(d:D),d.fJ n=true->eqD d d=true
 |_,.non,_=>rfl
 |_,.bl b,_=>by exact beq_self_eq_true b
 |_,.int i,_=>by exact beq_self_eq_true i
 |_,.str x,_=>by exact beq_self_eq_true x
 |n+1,.tup xs,h=>by exact vN n xs h
 |n+1,.lst xs,h=>by exact vN n xs h
 |0,.tup xs,h=>by exact fx0 h
 |0,.lst xs,h=>by exact fx0 h
 |n,.dct _,h=>by cases n<;>exact fx0 h
 |n,.uD,h=>by cases n<;>exact fx0 h
 |n,.scr _,h=>by cases n<;>exact fx0 h
 |n,.fdc _,h=>by cases n<;>exact fx0 h
 |n,.exc _ _,h=>by cases n<;>exact fx0 h
 |n,.ins _ _,h=>by cases n<;>exact fx0 h
 |n,.adr _,h=>by cases n<;>exact fx0 h
 |n,.dcl _ _,h=>by cases n<;>exact fx0 h
 |n,.cel _ _,h=>by cases n<;>exact fx0 h
theorem vN:∀(n:Nat)(ds:List D),D.dJ n ds=true->vG ds ds=true
 |_,[],_=>rfl
 |n,d::ds,h=>by
  rw[D.dJ,Bool.and_eq_true] at h;rw[vG,y_ n d h.1,vN n ds h.2];rfl
end
theorem bT.aMi{n:Nat}{P P':Addr->Prop}{H:Hp}(ih:∀{v:V} {d e:D},d.fJ n=true->e.fJ n=true->Rep P H v d->Rep P' H v e->d=e){vs:List V}:∀{ds es:List D},D.dJ n ds=true->D.dJ n es=true->bT P H vs ds->bT P' H vs es->ds=es:=by
 induction vs with
 |nil=>intro ds es h h' r q;cases r;cases q;rfl
 |cons v vs ih2=>
  intro ds es h h' r q;cases r with
  |cons r t=>
   cases q with
   |cons r' t'=>
    rw[D.dJ,Bool.and_eq_true] at h h';rw[ih h.1 h'.1 r r',ih2 h.2 h'.2 t t']
theorem Rep.inj{P P':Addr->Prop}{H:Hp}(n:Nat):∀{v:V}{d e:D},d.fJ n=true->e.fJ n=true->Rep P H v d->Rep P' H v e->d=e:=by
 induction n with
 |zero=>
  intro v d e h h' r q;cases d with
  |non=>obtain rfl:=r.inv;cases q;rfl
  |bl b=>obtain rfl:=r.inv;cases q;rfl
  |int i=>obtain rfl:=r.inv;cases q;rfl
  |str x=>obtain rfl:=r.inv;cases q;rfl
  |_=>exact fx0 h
 |succ n ih=>
  intro v d e h h' r q;cases d with
  |non=>obtain rfl:=r.inv;cases q;rfl
  |bl b=>obtain rfl:=r.inv;cases q;rfl
  |int i=>obtain rfl:=r.inv;cases q;rfl
  |str x=>obtain rfl:=r.inv;cases q;rfl
  |tup ds=>
   obtain⟨a,xs,rfl,e1,r1⟩:=r.inv;cases q with
   |tup e2 r2=>
    rw[e1] at e2;cases e2;rw[bT.aMi ih h h' r1 r2]
   |lst e2 _ _=>rw[e1] at e2;cases e2
   |dK e2 _ _ _=>rw[e1] at e2;cases e2
   |dT e2 _ _ _=>rw[e1] at e2;cases e2
   |_=>exact fx0 h'
  |lst ds=>
   obtain⟨a,xs,rfl,e1,_,r1⟩:=r.inv;cases q with
   |tup e2 r2=>rw[e1] at e2;cases e2
   |lst e2 _ r2=>
    rw[e1] at e2;cases e2;rw[bT.aMi ih h h' r1 r2]
   |dK e2 _ _ _=>rw[e1] at e2;cases e2
   |dT e2 _ _ _=>rw[e1] at e2;cases e2
   |_=>exact fx0 h'
  |_=>exact fx0 h
theorem tK:∀(xs ys:List D),vG xs ys=((List.range (min xs.length ys.length)).all (λj=>eqD (xs.getD j .non) (ys.getD j .non))&&xs.length==ys.length)
 |[],[]=>by simp[vG]
 |[],y::ys=>by simp[vG]
 |x::xs,[]=>by simp[vG]
 |x::xs,y::ys=>by
  have e:min (x::xs).length (y::ys).length=min xs.length ys.length+1:=by simp only[List.length_cons];lia
  rw[vG,tK xs ys,e,List.range_succ_eq_map,List.all_cons,List.all_map,Bool.and_assoc]
  congr 1
  simp[Function.comp_def]
theorem gZ:∀{ds:List D}{j:Nat},D.dJ n ds=true->j<ds.length->(ds.getD j .non).fJ n=true
 |[],j,_,h=>by simp at h
 |d::ds,0,h,_=>by rw[D.dJ,Bool.and_eq_true] at h;exact h.1
 |d::ds,j+1,h,hj=>by
  rw[D.dJ,Bool.and_eq_true] at h;simpa using gZ h.2 (by simpa using hj)
theorem bT.getD(r:bT P H vs ds)(hj:j<ds.length):∃v,vs[j]?=some v/\Rep P H v (ds.getD j .non):=by
 obtain⟨v,h1,h2⟩:=r.get (i:=j) (d:=ds.getD j .non) (by simp[hj]);exact⟨v,h1,h2⟩
section
theorem vO(ha:a.fJ 0=true)(hb:b.fJ 0=true)(rx:Rep All H x a)(ry:Rep All H y b)(ru:RelV x u)(rv:RelV y v):RcAt A s u v (eqD a b)/\RcNeAt A s u v (!eqD a b)/\EqAt A s u v (eqD a b):=by
 cases rx with
 |non=>
  cases ru;cases ry with
  |non=>cases rv;exact⟨RcAt.none_none,RcNeAt.none_none,EqAt.same _⟩
  |bl _=>cases rv;exact⟨RcAt.none_bool _,RcNeAt.none_bool _,EqAt.none_bool _⟩
  |int _=>obtain⟨t,rfl⟩:=rv;exact⟨RcAt.none_int _ _,RcNeAt.none_int _ _,EqAt.none_int _ _⟩
  |str _=>obtain⟨t,rfl⟩:=rv;exact⟨RcAt.none_str _ _,RcNeAt.none_str _ _,EqAt.none_str _ _⟩
  |_=>exact fx0 hb
 |bl _=>
  cases ru;cases ry with
  |non=>cases rv;exact⟨RcAt.bool_none _,RcNeAt.bool_none _,EqAt.bool_none _⟩
  |bl _=>cases rv;exact⟨RcAt.bool_bool _ _,RcNeAt.bool_bool _ _,EqAt.bool_bool _ _⟩
  |int _=>obtain⟨t,rfl⟩:=rv;exact⟨RcAt.bool_int _ _ _,RcNeAt.bool_int _ _ _,EqAt.bool_int _ _ _⟩
  |str _=>obtain⟨t,rfl⟩:=rv;exact⟨RcAt.bool_str _ _ _,RcNeAt.bool_str _ _ _,EqAt.bool_str _ _ _⟩
  |_=>exact fx0 hb
 |int _=>
  obtain⟨t,rfl⟩:=ru;cases ry with
  |non=>cases rv;exact⟨RcAt.int_none _ _,RcNeAt.int_none _ _,EqAt.int_none _ _⟩
  |bl _=>cases rv;exact⟨RcAt.int_bool _ _ _,RcNeAt.int_bool _ _ _,EqAt.int_bool _ _ _⟩
  |int _=>obtain⟨t',rfl⟩:=rv;exact⟨RcAt.int_int _ _ _ _,RcNeAt.int_int _ _ _ _,EqAt.int_int _ _ _ _⟩
  |str _=>obtain⟨t',rfl⟩:=rv;exact⟨RcAt.int_str _ _ _ _,RcNeAt.int_str _ _ _ _,EqAt.int_str _ _ _ _⟩
  |_=>exact fx0 hb
 |str _=>
  obtain⟨t,rfl⟩:=ru;cases ry with
  |non=>cases rv;exact⟨RcAt.str_none _ _,RcNeAt.str_none _ _,EqAt.str_none _ _⟩
  |bl _=>cases rv;exact⟨RcAt.str_bool _ _ _,RcNeAt.str_bool _ _ _,EqAt.str_bool _ _ _⟩
  |int _=>obtain⟨t',rfl⟩:=rv;exact⟨RcAt.str_int _ _ _ _,RcNeAt.str_int _ _ _ _,EqAt.str_int _ _ _ _⟩
  |str _=>obtain⟨t',rfl⟩:=rv;exact⟨RcAt.str_str _ _ _ _,RcNeAt.str_str _ _ _ _,EqAt.str_str _ _ _ _⟩
  |_=>exact fx0 hb
 |_=>exact fx0 ha
theorem GX(I:Inv X pins σ H s):∀(n:Nat)(A:Around){x y:V}{a b:D}{u v:Value},A.units+n<cLine->a.fJ n=true->b.fJ n=true->Rep All H x a->Rep All H y b->RelV x u->RelV y v->
  RcAt A s u v (eqD a b)/\RcNeAt A s u v (!eqD a b)/\EqAt A s u v (eqD a b):=by
 intro n;induction n with
 |zero=>exact λA=>λ_ ha hb rx ry ru rv=>vO ha hb rx ry ru rv
 |succ n ih=>
  intro A x y a b u v hu ha hb rx ry ru rv;have hu0:A.units<cLine:=by lia
  have hu1:A.in1.units+n<cLine:=by show A.units+1+n<cLine;lia
  have itm:∀{xs ys:List V}{ds es:List D}{i1 i2:List Value},D.dJ n ds=true->D.dJ n es=true->bT All H xs ds->bT All H ys es->Vals xs i1->Vals ys i2->∀j (g1:j<i1.toArray.size) (g2:j<i2.toArray.size),EqAt A.in1 s i1.toArray[j] i2.toArray[j] (eqD (ds.getD j .non) (es.getD j .non)):=by
   intro xs ys ds es i1 i2 ha hb r1 r2 vr1 vr2 j g1 g2;have z1:i1.toArray.size=ds.length:=by rw[List.size_toArray,<-vr1.length,r1.length]
   have z2:i2.toArray.size=es.length:=by rw[List.size_toArray,<-vr2.length,r2.length]
   obtain⟨v1,w1,rr1⟩:=r1.getD (j:=j) (by lia);obtain⟨v2,w2,rr2⟩:=r2.getD (j:=j) (by lia);obtain⟨u1,k1,l1⟩:=vr1.get w1;obtain⟨u2,k2,l2⟩:=vr2.get w2;have m1:i1.toArray[j]=u1:=by
    rw[List.getElem?_eq_getElem (by simpa using g1)] at k1;simpa using Option.some.inj k1
   have m2:i2.toArray[j]=u2:=by
    rw[List.getElem?_eq_getElem (by simpa using g2)] at k2;simpa using Option.some.inj k2
   rw[m1,m2];exact(ih A.in1 hu1 (gZ ha (by lia)) (gZ hb (by lia)) rr1 rr2 l1 l2).2.2
  cases a with
  |non=>
   cases b with
   |tup es=>
    cases rx.inv;cases ru;obtain⟨q,ys,rfl,e2,r2⟩:=ry.gQ;cases rv;obtain⟨its2,vr2,h2⟩:=gM I e2;exact⟨RcAt.none_tuple h2 hu0,RcNeAt.none_tuple h2 hu0,EqAt.none_tuple h2 hu0⟩
   |lst es=>
    cases rx.inv;cases ru;obtain⟨q,ys,rfl,e2,r2⟩:=ry.jR (K:=X.K);cases rv;obtain⟨its2,vr2,h2⟩:=mW I e2;exact⟨RcAt.none_list h2 hu0,RcNeAt.none_list h2 hu0,EqAt.none_list h2 hu0⟩
   |_=>first|exact vO rfl rfl rx ry ru rv|exact absurd ry Rep.uD|exact fx0 hb
  |bl _=>
   cases b with
   |tup es=>
    cases rx.inv;cases ru;obtain⟨q,ys,rfl,e2,r2⟩:=ry.gQ;cases rv;obtain⟨its2,vr2,h2⟩:=gM I e2;exact⟨RcAt.bool_tuple _ h2 hu0,RcNeAt.bool_tuple _ h2 hu0,EqAt.bool_tuple _ h2 hu0⟩
   |lst es=>
    cases rx.inv;cases ru;obtain⟨q,ys,rfl,e2,r2⟩:=ry.jR (K:=X.K);cases rv;obtain⟨its2,vr2,h2⟩:=mW I e2;exact⟨RcAt.bool_list _ h2 hu0,RcNeAt.bool_list _ h2 hu0,EqAt.bool_list _ h2 hu0⟩
   |_=>first|exact vO rfl rfl rx ry ru rv|exact absurd ry Rep.uD|exact fx0 hb
  |int _=>
   cases b with
   |tup es=>
    cases rx.inv;obtain⟨t1,rfl⟩:=ru;obtain⟨q,ys,rfl,e2,r2⟩:=ry.gQ;cases rv;obtain⟨its2,vr2,h2⟩:=gM I e2;exact⟨RcAt.int_tuple _ _ h2 hu0,RcNeAt.int_tuple _ _ h2 hu0,EqAt.int_tuple _ _ h2 hu0⟩
   |lst es=>
    cases rx.inv;obtain⟨t1,rfl⟩:=ru;obtain⟨q,ys,rfl,e2,r2⟩:=ry.jR (K:=X.K);cases rv;obtain⟨its2,vr2,h2⟩:=mW I e2;exact⟨RcAt.int_list _ _ h2 hu0,RcNeAt.int_list _ _ h2 hu0,EqAt.int_list _ _ h2 hu0⟩
   |_=>first|exact vO rfl rfl rx ry ru rv|exact absurd ry Rep.uD|exact fx0 hb
  |str _=>
   cases b with
   |tup es=>
    cases rx.inv;obtain⟨t1,rfl⟩:=ru;obtain⟨q,ys,rfl,e2,r2⟩:=ry.gQ;cases rv;obtain⟨its2,vr2,h2⟩:=gM I e2;exact⟨RcAt.str_tuple _ _ h2 hu0,RcNeAt.str_tuple _ _ h2 hu0,EqAt.str_tuple _ _ h2 hu0⟩
   |lst es=>
    cases rx.inv;obtain⟨t1,rfl⟩:=ru;obtain⟨q,ys,rfl,e2,r2⟩:=ry.jR (K:=X.K);cases rv;obtain⟨its2,vr2,h2⟩:=mW I e2;exact⟨RcAt.str_list _ _ h2 hu0,RcNeAt.str_list _ _ h2 hu0,EqAt.str_list _ _ h2 hu0⟩
   |_=>first|exact vO rfl rfl rx ry ru rv|exact absurd ry Rep.uD|exact fx0 hb
  |tup ds=>
   obtain⟨p,xs,rfl,e1,r1⟩:=rx.gQ;cases ru;obtain⟨its1,vr1,h1⟩:=gM I e1;replace ha:D.dJ _ _=true:=ha;cases b with
   |non=>cases ry.inv;cases rv;exact⟨RcAt.tuple_none h1 hu0,RcNeAt.tuple_none h1 hu0,EqAt.tuple_none h1 hu0⟩
   |bl _=>cases ry.inv;cases rv;exact⟨RcAt.tuple_bool _ h1 hu0,RcNeAt.tuple_bool _ h1 hu0,EqAt.tuple_bool _ h1 hu0⟩
   |int _=>cases ry.inv;obtain⟨t2,rfl⟩:=rv;exact⟨RcAt.tuple_int _ _ h1 hu0,RcNeAt.tuple_int _ _ h1 hu0,EqAt.tuple_int _ _ h1 hu0⟩
   |str _=>cases ry.inv;obtain⟨t2,rfl⟩:=rv;exact⟨RcAt.tuple_str _ _ h1 hu0,RcNeAt.tuple_str _ _ h1 hu0,EqAt.tuple_str _ _ h1 hu0⟩
   |tup es=>
    obtain⟨q,ys,rfl,e2,r2⟩:=ry.gQ;cases rv;obtain⟨its2,vr2,h2⟩:=gM I e2;replace hb:D.dJ _ _=true:=hb;have z1:its1.toArray.size=ds.length:=by rw[List.size_toArray,<-vr1.length,r1.length]
    have z2:its2.toArray.size=es.length:=by rw[List.size_toArray,<-vr2.length,r2.length]
    have he:=itm ha hb r1 r2 vr1 vr2;have ee:eqD (.tup ds) (.tup es)=((List.range (min its1.toArray.size its2.toArray.size)).all (λj=>eqD (ds.getD j .non) (es.getD j .non))&&its1.toArray.size==its2.toArray.size):=by
     rw[show eqD (.tup _) (.tup _)=vG _ _ from rfl,tK,z1,z2]
    have r0:=RcAt.tuples h1 h2 hu0 he;have r0':=RcNeAt.tuples h1 h2 hu0 he;rw[<-ee] at r0 r0';refine⟨r0,r0',?_⟩;by_cases hpq:p=q
    ·subst hpq;have hab:(D.tup ds)=(.tup es):=Rep.inj (n+1) ha hb rx ry;rw[<-hab,y_ (n+1) (.tup ds) ha];exact EqAt.same _
    ·exact EqAt.of_refs hpq r0
   |lst es=>
    obtain⟨q,ys,rfl,e2,r2⟩:=ry.jR (K:=X.K);cases rv;obtain⟨its2,vr2,h2⟩:=mW I e2;exact⟨RcAt.tuple_list h1 h2 hu0,RcNeAt.tuple_list h1 h2 hu0,EqAt.tuple_list h1 h2 hu0⟩
   |_=>first|exact absurd ry Rep.uD|exact fx0 hb
  |lst ds=>
   obtain⟨p,xs,rfl,e1,r1⟩:=rx.jR (K:=X.K);cases ru;obtain⟨its1,vr1,h1⟩:=mW I e1;replace ha:D.dJ _ _=true:=ha;cases b with
   |non=>cases ry.inv;cases rv;exact⟨RcAt.list_none h1 hu0,RcNeAt.list_none h1 hu0,EqAt.list_none h1 hu0⟩
   |bl _=>cases ry.inv;cases rv;exact⟨RcAt.list_bool _ h1 hu0,RcNeAt.list_bool _ h1 hu0,EqAt.list_bool _ h1 hu0⟩
   |int _=>cases ry.inv;obtain⟨t2,rfl⟩:=rv;exact⟨RcAt.list_int _ _ h1 hu0,RcNeAt.list_int _ _ h1 hu0,EqAt.list_int _ _ h1 hu0⟩
   |str _=>cases ry.inv;obtain⟨t2,rfl⟩:=rv;exact⟨RcAt.list_str _ _ h1 hu0,RcNeAt.list_str _ _ h1 hu0,EqAt.list_str _ _ h1 hu0⟩
   |tup es=>
    obtain⟨q,ys,rfl,e2,r2⟩:=ry.gQ;cases rv;obtain⟨its2,vr2,h2⟩:=gM I e2;exact⟨RcAt.list_tuple h1 h2 hu0,RcNeAt.list_tuple h1 h2 hu0,EqAt.list_tuple h1 h2 hu0⟩
   |lst es=>
    obtain⟨q,ys,rfl,e2,r2⟩:=ry.jR (K:=X.K);cases rv;obtain⟨its2,vr2,h2⟩:=mW I e2;replace hb:D.dJ _ _=true:=hb;have z1:its1.toArray.size=ds.length:=by rw[List.size_toArray,<-vr1.length,r1.length]
    have z2:its2.toArray.size=es.length:=by rw[List.size_toArray,<-vr2.length,r2.length]
    have he:=itm ha hb r1 r2 vr1 vr2;have r00:RcAt A s (.ref p) (.ref q) (eqD (.lst ds) (.lst es))/\RcNeAt A s (.ref p) (.ref q) (!eqD (.lst ds) (.lst es)):=by
     rw[show eqD (.lst _) (.lst _)=vG _ _ from rfl,tK];by_cases hz:ds.length=es.length
     ·have r0:=RcAt.lists h1 h2 (by lia) hu0 he;have r0':=RcNeAt.lists h1 h2 (by lia) hu0 he;rw[z1] at r0 r0';rw[show min ds.length es.length=ds.length by lia,show(ds.length==es.length)=true by simpa using hz,Bool.and_true];exact⟨r0,r0'⟩
     ·have hz':(its1.toArray.size !=its2.toArray.size)=true:=by rw[z1,z2];simpa using hz
      rw[show(ds.length==es.length)=false by simpa using hz,Bool.and_false];exact⟨RcAt.lists_lengths h1 h2 hz' hu0,RcNeAt.lists_lengths h1 h2 hz' hu0⟩
    obtain⟨r0,r0'⟩:=r00;refine⟨r0,r0',?_⟩;by_cases hpq:p=q
    ·subst hpq;have hab:(D.lst ds)=(.lst es):=Rep.inj (n+1) ha hb rx ry;rw[<-hab,y_ (n+1) (.lst ds) ha];exact EqAt.same _
    ·exact EqAt.of_refs hpq r0
   |_=>first|exact absurd ry Rep.uD|exact fx0 hb
  |_=>first|exact absurd rx Rep.uD|exact fx0 ha
end
end
open PySem.AutoSeq1 (wpAny_loadPart')
open PySem.MeetsSeq PySem.MeetsSeq2 PySem.MeetsSeq3
variable [KFrag]
def gW.op:gW->CmpOp
 |.lt=>.Lt|.le=>.LtE|.gt=>.Gt|.ge=>.GtE
def aGw(op:CmpOp)(A:Around)(s:Shared)(u v:Value)(b:Bool):Prop:=
 ∀(prog:Program)(w:World)(E:Value->Shared->Prop)(Q:Value->Shared->Prop),Q (.bool b) s->wpAny (model prog w) A (richCompare op u v) Q E s
def C2(o:gW)(A:Around)(s:Shared)(vs ws:List Value)(xs ys:List D):Prop:=
 vs.length=xs.length/\ws.length=ys.length/\∀(j:Nat)(v w:Value)(x y:D),vs[j]?=some v->ws[j]?=some w->xs[j]?=some x->ys[j]?=some y->
  EqAt A s v w (eqD x y)/\(eqD x y=false->∀k,iU o x y=some k->aGw o.op A s v w k)
theorem C2.tail(h:C2 o A s (v::vs) (w::ws) (x::xs) (y::ys)):C2 o A s vs ws xs ys:=
 ⟨by simpa using h.1,by simpa using h.2.1,λj a b c d e1 e2 e3 e4=>h.2.2 (j+1) a b c d (by simpa using e1) (by simpa using e2) (by simpa using e3) (by simpa using e4)⟩
def gW.bt:gW->Builtin
 |.lt=>Builtin.«tuple.__lt__»|.le=>Builtin.«tuple.__le__»|.gt=>Builtin.«tuple.__gt__»|.ge=>Builtin.«tuple.__ge__»
theorem MK(o q:gW)(eq:q=o)(l b:Addr)(items items2:Array Value)(n n2:Nat)(dd dd2:Option Addr)(sl sl2:Array (Option Value))(xs ys:List D)(res:Bool)(hr:jP q xs ys=some res) :
  Meets (o.bt ⟨[.ref l,.ref b],[]⟩)
   (λA R s=>s.heap.get? l=some {cls:=.type "tuple",dict:=dd,data:=.seq items n,slots:=sl}/\s.heap.get? b=some {cls:=.type "tuple",dict:=dd2,data:=.seq items2 n2,slots:=sl2}/\
    C2 q A.in1 s items.toList items2.toList xs ys/\R (.ok (.ret (.bool res))) s):=by
 cases o<;>exact .of_wp λprog w A R s h=>by
  obtain⟨hp,g,d,tk,os⟩:=s;obtain⟨hl,hb,hC,h⟩:=h;have f2:=AutoSeq1.sub_tuple_tuple;have z1:items.size=xs.length:=by rw[<-hC.1];simp
  have z2:items2.size=ys.length:=by rw[<-hC.2.1];simp
  wp_walk using wpAny_loadPart' hl,wpAny_loadPart' hb,wpAny_forIn_list _ (λrest b s'=>b.1=none/\s'=⟨hp,g,d,tk,os⟩/\∃(vs ws:List Value)(xs' ys':List D),rest=vs.zip ws/\
   C2 q A.in1 ⟨hp,g,d,tk,os⟩ vs ws xs' ys'/\xs'.length+items2.size=ys'.length+items.size/\jP q xs' ys'=some res) _
  case turn=>
   subst eq;rintro⟨y,x⟩ rest b s' ⟨hb',rfl,vs,ws,xs',ys',hz,hC',hlen,hR⟩;cases vs with
   |nil=>rw[List.zip_nil_left] at hz;cases hz
   |cons v vs=>
    cases ws with
    |nil=>rw[List.zip_nil_right] at hz;cases hz
    |cons w' ws=>
     rw[List.zip_cons_cons] at hz;injection hz with hyx hrest
     injection hyx with hy hx
     subst hy hx;cases xs' with
     |nil=>exact absurd hC'.1 (by simp)
     |cons x0 xs'=>
      cases ys' with
      |nil=>exact absurd hC'.2.1 (by simp)
      |cons y0 ys'=>
       rw[jP] at hR;simp only[List.length_cons] at hlen;obtain⟨he,hlt⟩:=hC'.2.2 0 _ _ _ _ rfl rfl rfl rfl;refine wpAny_bind (he prog w _ _ ?_);cases e:eqD x0 y0 with
       |true=>
        rw[e] at hR;simp only[if_true] at hR
        wp_walk
        exact⟨rfl,rfl,_,_,_,_,hrest,hC'.tail,by lia,hR⟩
       |false=>
        rw[e] at hR;simp only[Bool.false_eq_true,if_false] at hR;have hri:=hlt e res hR prog w;dsimp only[gW.op] at hri
        wp_walk using hri
        exact⟨_,rfl,by simpa using h⟩
  case fin=>
   rintro⟨b1,b2⟩ s' ⟨hb',rfl,vs,ws,xs',ys',hz,hC',hlen,hR⟩;simp only at hb';subst hb';have hv:res=gW.nat q items.size items2.size:=by
    subst eq;cases xs' with
    |nil=>
     rw[jP] at hR;have:=Option.some.inj hR;rw[<-this];simp only[List.length_nil] at hlen;simp only[gW.nat]
     congr 1
     simp only[eq_iff_iff];lia
    |cons x0 xs'=>
     cases ys' with
     |nil=>
      rw[jP] at hR;have:=Option.some.inj hR;rw[<-this];simp only[List.length_nil,List.length_cons] at hlen;simp only[gW.nat,List.length_cons]
      congr 1
      simp only[eq_iff_iff];lia
     |cons y0 ys'=>
      exfalso;cases vs with
      |nil=>exact absurd hC'.1 (by simp)
      |cons v vs=>
       cases ws with
       |nil=>exact absurd hC'.2.1 (by simp)
       |cons w' ws=>rw[List.zip_cons_cons] at hz;cases hz
   rw[hv] at h;subst eq
   wp_walk
   exact⟨_,rfl,by simpa[Builtin.Tuple.tupleCompareSizes,gW.nat] using h⟩
  case h=>
   exact⟨rfl,rfl,items.toList,items2.toList,xs,ys,rfl,hC,by lia,hr⟩
theorem aGw.tup(o:gW)(hl:s.heap.IsTuple l items)(hb:s.heap.IsTuple b items2)(hC:C2 o A.in1 s items.toList items2.toList xs ys)(hr:jP o xs ys=some res)(hu:A.units<cLine) :
  aGw o.op A s (.ref l) (.ref b) res:=λprog w E Q h=>by
 obtain⟨⟨cls,dd,data,sl⟩,ho,hc,n,hd⟩:=id hl;obtain⟨⟨cls2,dd2,data2,sl2⟩,ho2,hc2,n2,hd2⟩:=id hb;simp only at hc hd hc2 hd2;subst hc hd hc2 hd2;have M:=MK o o rfl l b items items2 n n2 dd dd2 sl sl2 xs ys res hr;have G:_/\_/\C2 o A.in1 s items.toList items2.toList xs ys/\(Value.bool res≠Value.notImplemented/\Q (.bool res) s):=⟨ho,ho2,hC,(λx=>nomatch x),h⟩
 cases o
 ·exact richCompare_meets_room ⟨_,ho,rfl⟩ ⟨_,ho2,rfl⟩ PySem.F.slot_tuple_lt PySem.F.entry_tuple_lt (PySem.F.args_tuple_lt_2 _ _) M G hu
 ·exact richCompare_meets_room ⟨_,ho,rfl⟩ ⟨_,ho2,rfl⟩ PySem.F.slot_tuple_le PySem.F.entry_tuple_le (PySem.F.args_tuple_le_2 _ _) M G hu
 ·exact richCompare_meets_room ⟨_,ho,rfl⟩ ⟨_,ho2,rfl⟩ PySem.F.slot_tuple_gt PySem.F.entry_tuple_gt (PySem.F.args_tuple_gt_2 _ _) M G hu
 ·exact richCompare_meets_room ⟨_,ho,rfl⟩ ⟨_,ho2,rfl⟩ PySem.F.slot_tuple_ge PySem.F.entry_tuple_ge (PySem.F.args_tuple_ge_2 _ _) M G hu
section
theorem QH(o:gW)(na:∀ds,a≠.tup ds)(rx:Rep All H x a)(ry:Rep All H y b)(ru:RelV x u)(rv:RelV y v)(hk:iU o a b=some k):aGw o.op A s u v k:=by
 cases a with
 |int i=>
  cases b with
  |int j=>
   cases rx;cases ry;obtain⟨t,rfl⟩:=ru;obtain⟨t',rfl⟩:=rv;rw[iU] at hk;have:=Option.some.inj hk;subst this;cases o with
   |lt=>exact λprog w E Q h=>(PyProof.Rows.lt_int h:wpAny (model prog w) A (compareOp .Lt (.int i t) (.int j t')) Q E s)
   |le=>exact λprog w E Q h=>(PyProof.Rows.le_int h:wpAny (model prog w) A (compareOp .LtE (.int i t) (.int j t')) Q E s)
   |gt=>exact λprog w E Q h=>(PyProof.Rows.gt_int h:wpAny (model prog w) A (compareOp .Gt (.int i t) (.int j t')) Q E s)
   |ge=>exact λprog w E Q h=>(PyProof.Rows.ge_int h:wpAny (model prog w) A (compareOp .GtE (.int i t) (.int j t')) Q E s)
  |_=>exact nx0 hk
 |str i=>
  cases b with
  |str j=>
   cases rx;cases ry;obtain⟨t,rfl⟩:=ru;obtain⟨t',rfl⟩:=rv;rw[iU] at hk;have:=Option.some.inj hk;subst this;cases o with
   |lt=>exact λprog w E Q h=>(PyProof.Rows.lt_str h:wpAny (model prog w) A (compareOp .Lt (.str i t) (.str j t')) Q E s)
   |le=>exact λprog w E Q h=>(PySem.P.le_str h:wpAny (model prog w) A (compareOp .LtE (.str i t) (.str j t')) Q E s)
   |gt=>exact λprog w E Q h=>(PySem.P.gt_str h:wpAny (model prog w) A (compareOp .Gt (.str i t) (.str j t')) Q E s)
   |ge=>exact λprog w E Q h=>(PySem.P.ge_str h:wpAny (model prog w) A (compareOp .GtE (.str i t) (.str j t')) Q E s)
  |_=>exact nx0 hk
 |tup ds=>exact absurd rfl (na ds)
 |_=>cases b<;>exact nx0 hk
theorem MN(I:Inv X pins σ H s)(o:gW):∀(n:Nat)(A:Around){x y:V}{a b:D}{u v:Value}{k:Bool},A.units+n<cLine->a.fJ n=true->b.fJ n=true->Rep All H x a->Rep All H y b->RelV x u->RelV y v->
  iU o a b=some k->aGw o.op A s u v k:=by
 intro n;induction n with
 |zero=>
  intro A x y a b u v k hu ha hb rx ry ru rv hk;cases a with
  |tup _=>exact fx0 ha
  |_=>exact QH o (by intro ds z;cases z) rx ry ru rv hk
 |succ n ih=>
  intro A x y a b u v k hu ha hb rx ry ru rv hk;have hu0:A.units<cLine:=by lia
  have hu1:A.in1.units+n<cLine:=by show A.units+1+n<cLine;lia
  cases a with
  |tup ds=>
   cases b with
   |tup es=>
    obtain⟨p,xs,rfl,e1,r1⟩:=rx.gQ;cases ru;obtain⟨its1,vr1,h1⟩:=gM I e1;obtain⟨q,ys,rfl,e2,r2⟩:=ry.gQ;cases rv;obtain⟨its2,vr2,h2⟩:=gM I e2;rw[D.fJ] at ha hb;rw[iU] at hk;have hC:∀o',o'=o->C2 o' A.in1 s its1.toArray.toList its2.toArray.toList ds es:=by
     rintro o' rfl;refine⟨by rw[List.toList_toArray,<-vr1.length,r1.length],by rw[List.toList_toArray,<-vr2.length,r2.length],λj v w x y a1 a2 a3 a4=>?_⟩;rw[List.toList_toArray] at a1 a2;obtain⟨v1,w1,rr1⟩:=r1.get a3;obtain⟨v2,w2,rr2⟩:=r2.get a4;obtain⟨u1,k1,l1⟩:=vr1.get w1;obtain⟨u2,k2,l2⟩:=vr2.get w2;rw[a1] at k1;cases k1;rw[a2] at k2;cases k2;have g1:x.fJ n=true:=by
      have:=gZ ha (List.getElem?_eq_some_iff.mp a3).1;rwa [List.getD_eq_getElem?_getD,a3] at this
     have g2:y.fJ n=true:=by
      have:=gZ hb (List.getElem?_eq_some_iff.mp a4).1;rwa [List.getD_eq_getElem?_getD,a4] at this
     exact⟨(GX I n A.in1 hu1 g1 g2 rr1 rr2 l1 l2).2.2,λ_ k hk=>ih A.in1 hu1 g1 g2 rr1 rr2 l1 l2 hk⟩
    exact aGw.tup o h1 h2 (hC o rfl) hk hu0
   |_=>exact nx0 hk
  |_=>exact QH o (by intro ds z;cases z) rx ry ru rv hk
end
end Mi
namespace TS
open PySem PyProof.Rows
theorem zA(ho:s.heap.get? a=some (seqObj "list" vs.toArray n))(hn:vs.length<=sizeLine)
 (hk:2<=vs.length->∃κ U blt,Ord U blt/\qZ U (pairsOf vs)/\
   (∀Q:SortKind->Shared->Prop,Q κ {s with heap:=((s.heap.update a (Obj.mapSeq λ_=>(#[]:Array Value))).push (seqObj "tuple" vs.toArray 0)).push (seqObj "list" #[] 0)}->wpAny (model prog w) A (keyKind' vs.toArray) Q E {s with heap:=((s.heap.update a (Obj.mapSeq λ_=>(#[]:Array Value))).push (seqObj "tuple" vs.toArray 0)).push (seqObj "list" #[] 0)})/\
   S7 prog w A E {s with heap:=((s.heap.update a (Obj.mapSeq λ_=>(#[]:Array Value))).push (seqObj "tuple" vs.toArray 0)).push (seqObj "list" #[] 0)} κ U blt/\
   ∀arr:Array Keyed,arr.Perm (pairsOf vs)->Srt blt arr 0 (pairsOf vs).size->P (.done (.ret .none)) {s with heap:=sortedHeap s.heap a vs (arr.map (·.2))})
 (h1:vs.length<2->P (.done (.ret .none)) {s with heap:=sortedHeap s.heap a vs ((pairsOf vs).map (·.2))}) :
  wpAny (model prog w) A (Builtin.«list.sort» ⟨[.ref a],[]⟩) P E s:=by
 rw[list_sort_plain];have ha:a<s.heap.objs.size:=Heap.lt_size ho;refine wpAny_bind (listItems_at ho rfl ?_);refine wpAny_bind (listUpdate_at ho rfl ?_ (by rw[List.size_toArray];exact hn) (Nat.zero_le _));obtain⟨e1,ho1⟩:∃e1,(s.heap.update a (Obj.mapSeq λ_=>(#[]:Array Value))).get? a=some (seqObj "list" #[] e1):=⟨_,get?_update_seq ho (λ_=>#[])⟩
 refine wpAny_bind (seqEpoch_at ho1 rfl ?_);refine wpAny_bind (wpAny_newTuple ?_ (by show vs.length<=_;exact hn));refine wpAny_bind (wpAny_newList ?_ (Nat.zero_le _));refine wpAny_holding ?_;have ho6:(((s.heap.update a (Obj.mapSeq λ_=>(#[]:Array Value))).push (seqObj "tuple" vs.toArray 0)).push (seqObj "list" #[] 0)).get? a=some (seqObj "list" #[] e1):=by
  rw[Heap.get?_push_ne _ _ _ (by rw[size_push',Heap.size_update];exact Nat.ne_of_lt (Nat.lt_succ_of_lt ha)),Heap.get?_push_ne _ _ _ (by rw[Heap.size_update];exact Nat.ne_of_lt ha)];exact ho1
 show wpAny (model prog w) A _ P E {s with heap:=((s.heap.update a (Obj.mapSeq λ_=>(#[]:Array Value))).push (seqObj "tuple" vs.toArray 0)).push (seqObj "list" #[] 0)};dsimp only;have hsz:vs.toArray.size=vs.length:=by simp
 by_cases h2:vs.toArray.size<2
 ·rw[if_pos h2,if_pos h2];refine wpAny_bind (wpAny_pure ?_);rw[StateT.run_pure];refine wpAny_bind (wpAny_pure ?_);dsimp only;refine wpAny_bind (seqEpoch_at ho6 rfl ?_);refine wpAny_bind (listUpdate_at ho6 rfl ?_ (Nat.zero_le _) (hsz2:=by rw[Array.size_map];show(pairsOf vs).size<=_;rw[pairsOf_size];exact Nat.le_succ_of_le hn));simp only[bne_self_eq_false,Bool.false_eq_true,if_false];exact wpAny_pure (h1 (by lia))
 ·rw[if_neg h2,if_neg h2];obtain⟨κ,U,blt,O,hU,hkk,hL,fin⟩:=hk (by lia);refine wpAny_bind (hkk _ ?_);refine wpAny_bind (wpAny_mono (wpS_sortRuns
   (Q:=λ_ st'=>(arrOf st').Perm (pairsOf vs)/\failedOf st'=none/\Srt blt (arrOf st') 0 (pairsOf vs).size) O hL hU ⟨rfl,rfl,Array.Perm.refl _⟩ rfl (by rw[pairsOf_size];lia) λst' b z=>⟨b.pm,b.fl,z⟩) ?_ λ_ _ e=>e)
  rintro⟨⟨⟩,st'⟩ s' ⟨rfl,hp,hf,hs⟩;dsimp only;refine wpAny_bind (seqEpoch_at ho6 rfl ?_);refine wpAny_bind (listUpdate_at ho6 rfl ?_ (Nat.zero_le _) (hsz2:=by refine Nat.le_trans (Nat.le_of_eq ((Array.size_map ..).trans (hp.size_eq.trans (pairsOf_size _)))) ?_;exact Nat.le_succ_of_le hn));rw[hf];simp only[bne_self_eq_false,Bool.false_eq_true,if_false];exact wpAny_pure (fin (arrOf st') hp hs)
noncomputable def aGx(h:Heap)(vs:List Value):Heap:=
 (((h.push (seqObj "list" vs.toArray 0)).update h.objs.size (Obj.mapSeq λ_=>(#[]:Array Value))).push (seqObj "tuple" vs.toArray 0)).push (seqObj "list" #[] 0)
theorem aBh(hb:h.get? b=some o):(aGx h vs).get? b=some o:=by
 have hlt:b<h.objs.size:=Heap.lt_size hb;unfold aGx;refine Heap.get?_push_of_some _ (Heap.get?_push_of_some _ ?_);rw[Heap.get?_update_ne _ _ _ _ (Nat.ne_of_lt hlt)];exact Heap.get?_push_of_some _ hb
noncomputable def aGy(h:Heap)(vs:List Value)(out:Array Value):Heap:=sortedHeap (h.push (seqObj "list" vs.toArray 0)) h.objs.size vs out
theorem aBi(hb:h.get? b=some o):(aGy h vs out).get? b=some o:=by
 have hlt:b<h.objs.size:=Heap.lt_size hb;unfold aGy;rw[sortedHeap_old (Nat.ne_of_lt hlt) (by rw[size_push'];exact Nat.lt_succ_of_lt hlt)];exact Heap.get?_push_of_some _ hb
theorem aEz(h:Heap)(vs:List Value)(out:Array Value):∃e,(aGy h vs out).get? h.objs.size=some (seqObj "list" out e):=sortedHeap_at (Heap.get?_push_size _ rfl)
theorem TQ(hn:vs.length<=sizeLine)
 (hcol:∀(Q':List Value->Shared->Prop) (E':Value->Shared->Prop),(∀h1 tk,(∀b o,s.heap.get? b=some o->h1.get? b=some o)->s.heap.objs.size<=h1.objs.size->Q' vs {s with heap:=h1,toks:=tk})->wpAny (model prog w) A.in1 (collect v) Q' E' s)
 (hk:∀h1 tk,(∀b o,s.heap.get? b=some o->h1.get? b=some o)->s.heap.objs.size<=h1.objs.size->2<=vs.length->∃κ U blt,Ord U blt/\qZ U (pairsOf vs)/\
   (∀Q:SortKind->Shared->Prop,Q κ {s with heap:=aGx h1 vs,toks:=tk}->wpAny (model prog w) A.in1.in1 (keyKind' vs.toArray) Q (λ_ _=>False) {s with heap:=aGx h1 vs,toks:=tk})/\
   S7 prog w A.in1.in1 (λ_ _=>False) {s with heap:=aGx h1 vs,toks:=tk} κ U blt/\
   ∀arr:Array Keyed,arr.Perm (pairsOf vs)->Srt blt arr 0 (pairsOf vs).size->Q (.ref h1.objs.size) {s with heap:=aGy h1 vs (arr.map (·.2)),toks:=tk})
 (h1:∀h1 tk,(∀b o,s.heap.get? b=some o->h1.get? b=some o)->s.heap.objs.size<=h1.objs.size->vs.length<2->Q (.ref h1.objs.size) {s with heap:=aGy h1 vs ((pairsOf vs).map (·.2)),toks:=tk}) :
  wpAny (model prog w) A (call (.builtin "sorted") [v]) Q E s:=by
 refine Calls.call_function_entry kind_sorted plain_sorted entry_sorted (args_sorted1 _) ?_;unfold Builtin.«sorted»;refine wpAny_bind (wpAny_pure ?_);refine wpAny_bind (hcol _ _ λhh tk kp hle=>?_);refine wpAny_bind (wpAny_newList ?_ hn);have hoL:(hh.push (seqObj "list" vs.toArray 0)).get? hh.objs.size=some (seqObj "list" vs.toArray 0):=Heap.get?_push_size _ rfl;show wpAny _ _ _ _ _ {s with heap:=hh.push (seqObj "list" vs.toArray 0),toks:=tk};refine wpAny_bind (wpAny_holding (wpAny_call_entry slot_list_sort ⟨_,hoL,rfl⟩ entry_list_sort ?body (args_list_sort _)))
 case body=>
  refine wpAny_mono (zA (E:=λ_ _=>False) (P:=λf s'=>∃v,f=.done (.ret v)/\v=Value.none/\Q (.ref hh.objs.size) s') hoL hn (λh2=>?_) (λh2=>⟨_,rfl,rfl,h1 hh tk kp hle h2⟩)) (λf s' h=>?_) λ_ _ z=>False.elim z
  ·obtain⟨κ,U,blt,O,hU,hkk,hL,fin⟩:=hk hh tk kp hle h2;exact⟨κ,U,blt,O,hU,hkk,hL,λarr p z=>⟨_,rfl,rfl,fin arr p z⟩⟩
  ·obtain⟨v,rfl,rfl,q⟩:=h;exact⟨_,rfl,wpAny_pure ⟨_,rfl,q⟩⟩
end TS
namespace Mi
open PySem L2 PySem.SeqAt
open PyProof.Rows (Keyed lt' keyLt' oneLt' SortKind SortSt kindOf tuples' oneType' pairsOf wpS wpS_bind wpS_pure wpS_get wpS_lift keyKind')
section
variable [KFrag]
def mD(H:Hp)(u:Value):D:=by
 classical
 exact if h:∃d,d.plain=true/\d.fJ aN=true/\∃v,RelV v u/\Rep All H v d then Classical.choose h else .non
theorem uU(hp:d.plain=true)(hq:d.fJ aN=true)(rv:RelV v u)(r:Rep All H v d):mD H u=d:=by
 unfold mD;have h:∃d,d.plain=true/\d.fJ aN=true/\∃v,RelV v u/\Rep All H v d:=⟨d,hp,hq,v,rv,r⟩
 rw[dif_pos h];obtain⟨h1,h2,v',rv',r'⟩:=Classical.choose_spec h;have:=rv'.inj rv;subst this;exact Rep.inj aN h2 hq r' r
theorem eU(h:bJ ds=true)(ha:a∈ds):a.plain=true/\a.fJ aN=true/\eV a≠0/\eV a=eV (ds.headD .non)/\∀b∈ds,∃k,iU .lt a b=some k:=by
 unfold bJ at h;have:=List.all_eq_true.mp h a ha;simp only[Bool.and_eq_true,bne_iff_ne,beq_iff_eq] at this;obtain⟨⟨⟨⟨h1,h2⟩,h3⟩,h4⟩,h5⟩:=this;refine⟨h1,h2,h3,h4,λb hb=>Option.isSome_iff_exists.mp (List.all_eq_true.mp h5 b hb)⟩
theorem aIc(h:bJ ds=true)(ha:a∈ds)(hb:b∈ds):iU .lt a b=some (decide (enc a<enc b)):=by
 obtain⟨p1,_,_,_,q⟩:=eU h ha;obtain⟨p2,_⟩:=eU h hb;obtain⟨k,hk⟩:=q b hb;rw[hk,yZ a b k p1 p2 hk]
def sU(H:Hp)(ds:List D)(k:Keyed):Prop:=∃v d,RelV v k.1/\Rep All H v d/\d∈ds
def sLt(H:Hp)(x y:Keyed):Bool:=decide (enc (mD H x.1)<enc (mD H y.1))
theorem aNh(H:Hp)(ds:List D):TS.Ord (sU H ds) (sLt H):=by
 refine⟨λx _=>?_,λx y z _ _ _ h1 h2=>?_,λx y z _ _ _ h=>?_⟩
 ·simp[sLt,List.lt_irrefl]
 ·simp only[sLt,decide_eq_true_eq] at *;exact List.lt_trans h1 h2
 ·simp only[sLt,decide_eq_true_eq] at *;by_cases q:enc (mD H x.1)<enc (mD H y.1)
  ·exact .inl q
  ·exact .inr (List.lt_of_le_of_lt (List.not_lt.mp q) h)
section
variable {X:Cx} {pins:List (Addr×Obj)} {σ:L2.St} {H:Hp} {s:Shared}
open PySem.W in
theorem zB:∀(vs ws:List Value)(xs ys:List D)(i:Nat),(b&&i==0)=false->C2 .lt A s vs ws xs ys->jP .lt xs ys=some k->xs.length+n2=ys.length+n1->Q k s->
  KatLex prog w A b (decide (n1<n2)) Q (vs.zip ws) i s
 |[],ws,xs,ys,i,_,hC,hk,hf,q=>by
  have:xs=[]:=List.eq_nil_of_length_eq_zero hC.1.symm;subst this;rw[List.zip_nil_left];rw[jP] at hk;have e:k=decide (n1<n2):=by
   rw[<-Option.some.inj hk];simp only[gW.nat,List.length_nil] at hf ⊢
   congr 1
   simp only[eq_iff_iff];lia
  rw[<-e];exact q
 |v::vs,[],xs,ys,i,_,hC,hk,hf,q=>by
  have:ys=[]:=List.eq_nil_of_length_eq_zero hC.2.1.symm;subst this;rw[List.zip_nil_right];cases xs with
  |nil=>exact absurd hC.1 (by simp)
  |cons x xs=>
   rw[jP] at hk;have e:k=decide (n1<n2):=by
    rw[<-Option.some.inj hk];simp only[gW.nat,List.length_nil,List.length_cons] at hf ⊢
    congr 1
    simp only[eq_iff_iff];lia
   rw[<-e];exact q
 |v::vs,w'::ws,[],ys,i,_,hC,hk,hf,q=>absurd hC.1 (by simp)
 |v::vs,w'::ws,x::xs,[],i,_,hC,hk,hf,q=>absurd hC.2.1 (by simp)
 |v::vs,w'::ws,x::xs,y::ys,i,hi,hC,hk,hf,q=>by
  rw[List.zip_cons_cons];obtain⟨he,hlt⟩:=hC.2.2 0 _ _ _ _ rfl rfl rfl rfl;rw[jP] at hk;refine kat_cons (he prog w _ _ ?_);cases e:eqD x y with
  |true=>
   rw[e,if_pos rfl] at hk;exact kat_yes (zB vs ws xs ys (i+1) (by simp) hC.tail hk (by simp only[List.length_cons] at hf;lia) q)
  |false=>
   rw[e,if_neg (by simp)] at hk;refine kat_no ?_;rw[hi];exact kat_one _ _ (hlt e k hk prog w _ _ q)
theorem aL5(I:Inv X pins σ H s)(hu:A.units+n<cLine)(ha:D.dJ n ds=true)(hb:D.dJ n es=true)(r1:bT All H xs ds)(r2:bT All H ys es)(vr1:Vals xs its1)(vr2:Vals ys its2) :
  C2 .lt A s its1 its2 ds es:=by
 refine⟨by rw[<-vr1.length,r1.length],by rw[<-vr2.length,r2.length],λj v w x y a1 a2 a3 a4=>?_⟩;obtain⟨v1,w1,rr1⟩:=r1.get a3;obtain⟨v2,w2,rr2⟩:=r2.get a4;obtain⟨u1,k1,l1⟩:=vr1.get w1;obtain⟨u2,k2,l2⟩:=vr2.get w2;rw[a1] at k1;cases k1;rw[a2] at k2;cases k2;have g1:x.fJ n=true:=by
  have:=gZ ha (List.getElem?_eq_some_iff.mp a3).1;rwa [List.getD_eq_getElem?_getD,a3] at this
 have g2:y.fJ n=true:=by
  have:=gZ hb (List.getElem?_eq_some_iff.mp a4).1;rwa [List.getD_eq_getElem?_getD,a4] at this
 exact⟨(GX I n A hu g1 g2 rr1 rr2 l1 l2).2.2,λ_ k hk=>MN I .lt n A hu g1 g2 rr1 rr2 l1 l2 hk⟩
theorem kind_le(d:D):eV d<=5:=by
 unfold eV;split<;>lia
theorem aF0(h:eV d=1):∃i,d=.int i:=by
 unfold eV at h;split at h<;>first|lia|exact⟨_,rfl⟩
theorem aF1(h:eV d=2):∃i,d=.str i:=by
 unfold eV at h;split at h<;>first|lia|exact⟨_,rfl⟩
theorem aBj(h:eV d=3):∃i r,d=.tup (.int i::r):=by
 unfold eV at h;split at h<;>first|lia|exact⟨_,_,rfl⟩
theorem aBk(h:eV d=4):∃i r,d=.tup (.str i::r):=by
 unfold eV at h;split at h<;>first|lia|exact⟨_,_,rfl⟩
theorem aIe(h:eV d=5):∃i r,d=.tup (.tup i::r):=by
 unfold eV at h;split at h<;>first|lia|exact⟨_,_,rfl⟩
theorem QJ(r:bT All H xs ds)(vr:Vals xs its)(hu:u∈its):∃v d,RelV v u/\Rep All H v d/\d∈ds:=by
 obtain⟨j,hj,e⟩:=List.getElem_of_mem hu;have hj':j<ds.length:=by rw[<-r.length,vr.length];exact hj
 obtain⟨v,h1,h2⟩:=r.get (i:=j) (d:=ds[j]) (by simp[hj']);obtain⟨u',h3,h4⟩:=vr.get h1;rw[List.getElem?_eq_getElem hj,e] at h3;cases h3;exact⟨v,_,h4,h2,List.getElem_mem _⟩
open PySem.W in
theorem zE(I:Inv X pins σ H s){F:D->Prop}(hF:∀(d:D) (v:V) (u:Value),F d->RelV v u->Rep All H v d->Looks (model X.prog X.w) s.heap (typeOf u) T) :
  ∀{xs:List V}{ds:List D}{its:List Value},bT All H xs ds->Vals xs its->(∀d∈ds,∃f r,d=.tup (f::r)/\F f)->∃fs,KatTups s.heap its fs/\fs.length=its.length/\∀f∈fs,Looks (model X.prog X.w) s.heap (typeOf f) T
 |_,_,_,.nil,.nil,_=>⟨[],.nil,rfl,λ_ h=>by simp at h⟩
 |_,_,_,.cons r t,.cons v vt,h=>by
  obtain⟨fs,h1,h2,h3⟩:=zE I hF t vt λd hd=>h d (List.mem_cons_of_mem _ hd)
  obtain⟨f,rr,rfl,hf⟩:=h _ (List.mem_cons_self ..);obtain⟨a,ys,rfl,e,rs⟩:=r.gQ;cases v;obtain⟨its2,vr2,o,ho,hc,n,hd⟩:=gM I e;cases rs with
  |cons r0 rs=>
   cases vr2 with
   |cons v0 vr2=>
    refine⟨_::fs,.cons ho hc hd rfl h1,by simp[h2],λg hg=>?_⟩;rcases List.mem_cons.mp hg with rfl|hg
    ·exact hF _ _ _ hf v0 r0
    ·exact h3 g hg
open PySem.W in
theorem W8(I:Inv X pins σ H s)(hu:A.units+aN<cLine)(hc:bJ ds=true)(r:bT All H xs ds)(vr:Vals xs its)(h2:2<=its.length) :
  ∃κ:SortKind,(∀Q:SortKind->Shared->Prop,Q κ s->wpAny (model X.prog X.w) A (keyKind' its.toArray) Q (λ_ _=>False) s)/\
   ∀(x y:Keyed)(Q:Bool->Shared->Prop),sU H ds x->sU H ds y->Q (sLt H x y) s->wpAny (model X.prog X.w) A (keyLt' κ x.1 y.1) Q (λ_ _=>False) s:=by
 have hlen:ds.length=its.length:=by rw[<-r.length,vr.length]
 have hkind:∀d∈ds,eV d=eV (ds.headD .non):=λd hd=>(eU hc hd).2.2.2.1
 have hne:eV (ds.headD .non)≠0:=by
  have hd:ds.headD .non∈ds:=by
   cases ds with
   |nil=>simp at hlen;lia
   |cons d ds=>simp
  exact(eU hc hd).2.2.1
 have lty:∀{x y:Keyed}{v v':V}{d d':D},RelV v x.1->Rep All H v d->d∈ds->RelV v' y.1->Rep All H v' d'->d'∈ds->iU .lt d d'=some (sLt H x y):=λ{x y v v' d d'} rv rp hd rv' rp' hd'=>by
  have e1:=uU (eU hc hd).1 (eU hc hd).2.1 rv rp;have e2:=uU (eU hc hd').1 (eU hc hd').2.1 rv' rp';rw[aIc hc hd hd'];unfold sLt;rw[e1,e2]
 -- two tuples whose first items are told by a rule of their own,or by the common one
 have tupl:∀(b:Bool)(x y:Keyed)(Q:Bool->Shared->Prop),sU H ds x->sU H ds y->(∀d∈ds,∃f r,d=.tup (f::r))->
   (b=true->∀(f g:D)(v v':V)(u u':Value)(k:Bool)(Q:Bool->Shared->Prop),(∃r,D.tup (f::r)∈ds)->(∃r,D.tup (g::r)∈ds)->RelV v u->Rep All H v f->RelV v' u'->Rep All H v' g->iU .lt f g=some k->Q k s->wpAny (model X.prog X.w) A (oneLt' true u u') Q (λ_ _=>False) s)->
   Q (sLt H x y) s->wpAny (model X.prog X.w) A (keyLt' (tuples' b) x.1 y.1) Q (λ_ _=>False) s:=by
  rintro b ⟨x1,x2⟩ ⟨y1,y2⟩ Q ⟨v,d,rv,rp,hd⟩ ⟨v',d',rv',rp',hd'⟩ htup hone q;have hk:=lty rv rp hd rv' rp' hd';have q1:=(eU hc hd).2.1;have q2:=(eU hc hd').2.1;obtain⟨f,rr,rfl⟩:=htup d hd;obtain⟨g,rr',rfl⟩:=htup d' hd';obtain⟨a,ys,rfl,e,rs⟩:=rp.gQ;obtain⟨a',ys',rfl,e',rs'⟩:=rp'.gQ;cases rv;cases rv';obtain⟨i1,vr1,o1,ho1,hc1,n1,hd1⟩:=gM I e;obtain⟨i2,vr2,o2,ho2,hc2,n2,hd2⟩:=gM I e';rw[iU] at hk;have q1':D.dJ 11 (f::rr)=true:=q1;have q2':D.dJ 11 (g::rr')=true:=q2;have hu':A.units+11<cLine:=by have:A.units+12<cLine:=hu;lia
  have C:=aL5 I hu' q1' q2' rs rs' vr1 vr2;refine kat_lt ho1 hd1 ho2 hd2 ?_;have z1:i1.toArray.size=(f::rr).length:=by rw[List.size_toArray,<-vr1.length,rs.length]
  have z2:i2.toArray.size=(g::rr').length:=by rw[List.size_toArray,<-vr2.length,rs'.length]
  rw[List.toList_toArray,List.toList_toArray,z1,z2];cases b with
  |false=>exact zB i1 i2 (f::rr) (g::rr') 0 rfl C hk (by lia) q
  |true=>
   cases rs with
   |cons r0 rs=>
    cases rs' with
    |cons r0' rs'=>
     cases vr1 with
     |cons v0 vr1=>
      cases vr2 with
      |cons v0' vr2=>
       rw[List.zip_cons_cons];obtain⟨he,_⟩:=C.2.2 0 _ _ _ _ rfl rfl rfl rfl;rw[jP] at hk;refine kat_cons (he X.prog X.w _ _ ?_);cases e0:eqD f g with
       |true=>
        rw[e0,if_pos rfl] at hk;exact kat_yes (zB _ _ rr rr' 1 (by simp) C.tail hk (by simp only[List.length_cons];lia) q)
       |false=>
        rw[e0,if_neg (by simp)] at hk;refine kat_no ?_;exact hone rfl f g _ _ _ _ _ Q ⟨_,hd⟩ ⟨_,hd'⟩ v0 r0 v0' r0' hk q
 have h5:=kind_le (ds.headD .non);have cases5:eV (ds.headD .non)=1\/eV (ds.headD .non)=2\/eV (ds.headD .non)=3\/eV (ds.headD .non)=4\/eV (ds.headD .non)=5:=by lia
 rcases cases5 with c|c|c|c|c
 ·refine⟨oneType',λQ q=>kas_kind (T:=.type "int") h2 (λu hm=>?_) (by decide) (by decide) q,λx y Q hx hy q=>?_⟩
  ·obtain⟨v,d,rv,rp,hd⟩:=QJ r vr hm;obtain⟨i,rfl⟩:=aF0 ((hkind d hd).trans c);cases rp.inv;obtain⟨t,rfl⟩:=rv;exact Looks.of_pure rfl
  ·obtain⟨v,d,rv,rp,hd⟩:=hx;obtain⟨v',d',rv',rp',hd'⟩:=hy;have hk:=lty rv rp hd rv' rp' hd';obtain⟨i,rfl⟩:=aF0 ((hkind d hd).trans c);obtain⟨j,rfl⟩:=aF0 ((hkind d' hd').trans c);cases rp.inv;cases rp'.inv;obtain⟨t,e1⟩:=rv;obtain⟨t',e2⟩:=rv';rw[iU] at hk;rw[<-Option.some.inj hk] at q;rw[e1,e2,PyProof.Rows.keyLt'_oneType];exact PyProof.Rows.oneLt_int q
 ·refine⟨oneType',λQ q=>kas_kind (T:=.type "str") h2 (λu hm=>?_) (by decide) (by decide) q,λx y Q hx hy q=>?_⟩
  ·obtain⟨v,d,rv,rp,hd⟩:=QJ r vr hm;obtain⟨i,rfl⟩:=aF1 ((hkind d hd).trans c);cases rp.inv;obtain⟨t,rfl⟩:=rv;exact Looks.of_pure rfl
  ·obtain⟨v,d,rv,rp,hd⟩:=hx;obtain⟨v',d',rv',rp',hd'⟩:=hy;have hk:=lty rv rp hd rv' rp' hd';obtain⟨i,rfl⟩:=aF1 ((hkind d hd).trans c);obtain⟨j,rfl⟩:=aF1 ((hkind d' hd').trans c);cases rp.inv;cases rp'.inv;obtain⟨t,e1⟩:=rv;obtain⟨t',e2⟩:=rv';rw[iU] at hk;rw[<-Option.some.inj hk] at q;rw[e1,e2,PyProof.Rows.keyLt'_oneType];exact PyProof.Rows.oneLt_str q
 ·obtain⟨fs,t1,t2,t3⟩:=zE I (T:=.type "int") (F:=λf=>∃i,f=.int i) (λd v u hf rv rp=>by
   obtain⟨i,rfl⟩:=hf;cases rp.inv;obtain⟨t,rfl⟩:=rv;exact Looks.of_pure rfl) r vr (λd hd=>by
   obtain⟨i,rr,rfl⟩:=aBj ((hkind d hd).trans c);exact⟨_,_,rfl,i,rfl⟩)
  refine⟨tuples' true,λQ q=>kat_kind (T:=.type "int") t1 (by lia) t3 (by decide) q,λx y Q hx hy q=>tupl true x y Q hx hy (λd hd=>?_) (λ_ f g v v' u u' k Q hf hg rv rp rv' rp' hk q=>?_) q⟩
  ·obtain⟨i,rr,rfl⟩:=aBj ((hkind d hd).trans c);exact⟨_,_,rfl⟩
  ·obtain⟨r1,hf⟩:=hf;obtain⟨r2,hg⟩:=hg;obtain⟨i,rr,e1⟩:=aBj ((hkind _ hf).trans c);obtain⟨j,rr',e2⟩:=aBj ((hkind _ hg).trans c);cases e1;cases e2;cases rp.inv;cases rp'.inv;obtain⟨t,rfl⟩:=rv;obtain⟨t',rfl⟩:=rv';rw[iU] at hk;rw[<-Option.some.inj hk] at q;exact PyProof.Rows.oneLt_int q
 ·obtain⟨fs,t1,t2,t3⟩:=zE I (T:=.type "str") (F:=λf=>∃i,f=.str i) (λd v u hf rv rp=>by
   obtain⟨i,rfl⟩:=hf;cases rp.inv;obtain⟨t,rfl⟩:=rv;exact Looks.of_pure rfl) r vr (λd hd=>by
   obtain⟨i,rr,rfl⟩:=aBk ((hkind d hd).trans c);exact⟨_,_,rfl,i,rfl⟩)
  refine⟨tuples' true,λQ q=>kat_kind (T:=.type "str") t1 (by lia) t3 (by decide) q,λx y Q hx hy q=>tupl true x y Q hx hy (λd hd=>?_) (λ_ f g v v' u u' k Q hf hg rv rp rv' rp' hk q=>?_) q⟩
  ·obtain⟨i,rr,rfl⟩:=aBk ((hkind d hd).trans c);exact⟨_,_,rfl⟩
  ·obtain⟨r1,hf⟩:=hf;obtain⟨r2,hg⟩:=hg;obtain⟨i,rr,e1⟩:=aBk ((hkind _ hf).trans c);obtain⟨j,rr',e2⟩:=aBk ((hkind _ hg).trans c);cases e1;cases e2;cases rp.inv;cases rp'.inv;obtain⟨t,rfl⟩:=rv;obtain⟨t',rfl⟩:=rv';rw[iU] at hk;rw[<-Option.some.inj hk] at q;exact PyProof.Rows.oneLt_str q
 ·obtain⟨fs,t1,t2,t3⟩:=zE I (T:=.type "tuple") (F:=λf=>∃i,f=.tup i) (λd v u hf rv rp=>by
   obtain⟨i,rfl⟩:=hf;obtain⟨a,ys,rfl,e,rs⟩:=rp.gQ;cases rv;obtain⟨i1,vr1,o1,ho1,hc1,n1,hd1⟩:=gM I e;have:=(show Looks (model X.prog X.w) s.heap (typeOf (.ref a)) o1.cls from (Looks.ld ho1).andThen .now)
   rwa [hc1] at this) r vr (λd hd=>by
   obtain⟨i,rr,rfl⟩:=aIe ((hkind d hd).trans c);exact⟨_,_,rfl,i,rfl⟩)
  refine⟨tuples' false,λQ q=>kat_kind (T:=.type "tuple") t1 (by lia) t3 (by decide) q,λx y Q hx hy q=>tupl false x y Q hx hy (λd hd=>?_) (λh=>by cases h) q⟩;obtain⟨i,rr,rfl⟩:=aIe ((hkind d hd).trans c);exact⟨_,_,rfl⟩
theorem aF2(I:Inv X pins σ H s)(h:∀(x y:Keyed) (Q:Bool->Shared->Prop),sU H ds x->sU H ds y->Q (sLt H x y) s->wpAny (model X.prog X.w) A (keyLt' κ x.1 y.1) Q (λ_ _=>False) s) :
  TS.S7 X.prog X.w A (λ_ _=>False) s κ (sU H ds) (sLt H):=by
 intro x y st Q hx hy hk q;rw[PyProof.Rows.lt'_eq];refine wpS_bind (wpS_get ?_);rw[hk];refine wpS_bind (wpS_lift (wpAny_attempt (wpAny_mono (h x y (λb s'=>s'=s/\b=sLt H x y) hx hy ⟨rfl,rfl⟩) (λb s' ⟨e1,e2⟩=>⟨e1,?_⟩) λ_ _ z=>False.elim z)));subst e2;exact wpS_pure q
theorem kY(I:Inv X pins σ H s)(hu:X.A.units+20<cLine)(vr:Vals xs its)(hn:its.length<=sizeLine)(r:bT All H xs ds)(hc:bJ ds=true)
 (hcol:∀(Q':List Value->Shared->Prop) (E':Value->Shared->Prop),(∀h1 tk,(∀b o,s.heap.get? b=some o->h1.get? b=some o)->s.heap.objs.size<=h1.objs.size->Q' its {s with heap:=h1,toks:=tk})->wpAny (model X.prog X.w) X.A.in1 (collect v) Q' E' s)
 (q:∀p xs',H p=none->bT All H xs' (jY ds)->Q (.ref p) (upd H p (.lst xs'))):wpAny (model X.prog X.w) X.A (call (.builtin "sorted") [v]) (EP X pins σ Q) X.xe s:=by
 have hz:xs.length<=sizeLine:=by rw[vr.length];exact hn
 -- what comes,told by its data
 have fin:∀(h1:Heap)(tk:Nat),(∀b o,s.heap.get? b=some o->h1.get? b=some o)->s.heap.objs.size<=h1.objs.size->∀arr:Array Keyed,arr.Perm (pairsOf its)->(∀i j,i<=j->j<arr.size->leE (mD H (TS.gt arr i).1) (mD H (TS.gt arr j).1)=true)->EP X pins σ Q (.ref h1.objs.size) {s with heap:=TS.aGy h1 its (arr.map (·.2)),toks:=tk}:=by
  intro h1' tk kp hle arr hp hs;have hpl:arr.toList.Perm (its.zip its):=by rw[<-PyProof.Rows.pairsOf_toList];exact Array.perm_iff_toList_perm.mp hp
  have hmem:∀p∈arr.toList,p.1=p.2/\p.1∈its:=λp hp'=>PyProof.Rows.mem_zip_self (hpl.mem_iff.mp hp')
  have e1:(arr.map (·.2)).toList=arr.toList.map (·.1):=by
   rw[Array.toList_map];exact List.map_congr_left λp hp'=>(hmem p hp').1.symm
  -- the values and their data
  have all:∀l:List Keyed,(∀p∈l,p∈arr.toList)->∃ys,Vals ys (l.map (·.1))/\bT All H ys (l.map λp=>mD H p.1):=by
   intro l;induction l with
   |nil=>intro _;exact⟨[],.nil,.nil⟩
   |cons p l ih=>
    intro h;obtain⟨ys,h1,h2⟩:=ih λp hp'=>h p (List.mem_cons_of_mem _ hp')
    obtain⟨v,d,rv,rp,hd⟩:=QJ r vr (hmem p (h p (List.mem_cons_self ..))).2;refine⟨v::ys,.cons rv h1,?_⟩;rw[List.map_cons,uU (eU hc hd).1 (eU hc hd).2.1 rv rp];exact .cons rp h2
  obtain⟨ys,h1,h2⟩:=all arr.toList λ_ h=>h
  have dats:its.map (mD H)=ds:=by
   clear all h1 h2 hp hs hpl hmem e1;have:∀{xs:List V}{es:List D}{us:List Value},bT All H xs es->Vals xs us->(∀d∈es,d∈ds)->us.map (mD H)=es:=by
    intro xs es us r;induction us generalizing xs es with
    |nil=>intro v _;cases v;cases r;rfl
    |cons u us ih=>
     intro v hsub;cases v with
     |cons v0 vt=>
      cases r with
      |cons r0 rt=>
       have hd:=hsub _ (List.mem_cons_self ..);rw[List.map_cons,ih rt vt λd hd=>hsub d (List.mem_cons_of_mem _ hd),uU (eU hc hd).1 (eU hc hd).2.1 v0 r0]
   exact this r vr λ_ h=>h
  have hperm:(arr.toList.map λp=>mD H p.1).Perm ds:=by
   have:=hpl.map λp=>mD H p.1
   have e2:(its.zip its).map (λp=>mD H p.1)=ds:=by
    have:(its.zip its).map (λp=>mD H p.1)=((its.zip its).map Prod.fst).map (mD H):=by rw[List.map_map];rfl
    rw[this,List.map_fst_zip (Nat.le_refl _),dats]
   rwa [e2] at this
  have hsorted:(arr.toList.map λp=>mD H p.1).Pairwise λa b=>leE a b=true:=by
   rw[List.pairwise_map,List.pairwise_iff_getElem];intro i j hi hj hij;have:=hs i j (Nat.le_of_lt hij) (by simpa using hj);have g:∀k (hk:k<arr.toList.length),TS.gt arr k=arr.toList[k]:=λk hk=>by
    unfold TS.gt;have hk':k<arr.size:=by simpa using hk
    simp[Array.getD,hk']
   rwa [g i hi,g j hj] at this
  have eq:(arr.toList.map λp=>mD H p.1)=jY ds:=by
   refine vM (λd hd=>?_) (hperm.trans (eG ds).symm) hsorted (jK ds);exact(eU hc (hperm.mem_iff.mp hd)).1
  rw[eq] at h2;rw[<-e1] at h1;have hfr:H h1'.objs.size=none:=I.hok.fresh hle;obtain⟨ee,he⟩:=TS.aEz h1' its (arr.map (·.2));refine⟨.ref h1'.objs.size,_,I.laid (λb o e=>TS.aBi (kp b o e)) hle ?_,rfl,q _ ys hfr h2⟩;refine⟨?_,(arr.map (·.2)).toList,ee,h1,by rw[he]⟩;rw[h2.length,(eG ds).length_eq,<-r.length];exact hz
 refine TS.TQ hn hcol (λhh tk kp hle h2=>?_) (λhh tk kp hle h2=>?_)
 ·have I':Inv X pins σ H {s with heap:=TS.aGx hh its,toks:=tk}:=I.kept λb o e=>TS.aBh (kp b o e)
  have hu2:X.A.in1.in1.units+aN<cLine:=by show X.A.units+1+1+12<cLine;lia
  obtain⟨κ,k1,k2⟩:=W8 I' hu2 hc r vr h2;refine⟨κ,sU H ds,sLt H,aNh H ds,λi hi=>?_,k1,aF2 I' k2,λarr p z=>fin hh tk kp hle arr p λi j a1 a2=>?_⟩
  ·rw[PyProof.Rows.pairsOf_size] at hi;have e:TS.gt (pairsOf its) i=(its[i],its[i]):=by
    unfold TS.gt pairsOf;simp[Array.getD,hi]
   rw[e];exact QJ r vr (List.getElem_mem hi)
  ·have:=z i j (Nat.zero_le _) a1 (by rw[<-p.size_eq];exact a2);unfold leE;unfold sLt at this;rw[this];rfl
 ·refine fin hh tk kp hle _ (Array.Perm.refl _) λi j a1 a2=>?_
  rw[PyProof.Rows.pairsOf_size] at a2;rw[show i=j by lia];simp[leE,List.lt_irrefl]
theorem TV(I:Inv X pins σ H s)(hu:X.A.units+20<cLine)(hl:SqL X.K H l xs)(r:bT All H xs ds)(hc:bJ ds=true)
 (q:∀p xs',H p=none->bT All H xs' (jY ds)->Q (.ref p) (upd H p (.lst xs'))):wpAny (model X.prog X.w) X.A (call (.builtin "sorted") [.ref l]) (EP X pins σ Q) X.xe s:=by
 obtain⟨its,vr,pl,hz⟩:=I.list hl;have hn:its.length<=sizeLine:=by rw[<-vr.length];exact hz
 refine kY I hu vr hn r hc (λQ' E' h=>PyProof.Rows.collect_list pl.isList (h _ s.toks (λb o e=>?_) ?_) hn) q
 ·rw[Heap.get?_update_ne _ _ _ _ (Nat.ne_of_lt (Heap.lt_size e))];exact Heap.get?_push_of_some _ e
 ·rw[Heap.size_update,PyProof.Rows.size_push'];exact Nat.le_succ _
end
end
open PySem.Spec PyProof.Rows
section
variable [KFrag]
def kR(H:Hp)(d:D)(fr:Bool)(Q:VK):Prop:=∀v H',dG H H'->Rep All H' v d->(fr=true->Rep (New H) H' v d)->Q v H'
noncomputable def gE(f:FE)(fr:Bool):TE:=λσ H Q=>∃ρ d,ER H σ ρ/\f ρ=.ok d/\kR H d fr Q
noncomputable def gT(f:FT):TT:=λσ H Q=>∃ρ b,ER H σ ρ/\f ρ=.ok b/\∀H',dG H H'->Q b H'
noncomputable def gA(f:FA)(fr:Bool):TA:=λσ H Q=>∃ρ ds,ER H σ ρ/\f ρ=.ok ds/\∀vs H',dG H H'->bT All H' vs ds->(fr=true->bT (New H) H' vs ds)->Q vs H'
theorem kR.self{fr:Bool}(q:kR H d fr Q)(r:Rep All H v d)(r2:fr=true->Rep (New H) H v d):Q v H:=q v H (dG.refl H) r r2
theorem kR.imp{fr fr':Bool}(q:kR H d fr Q)(s:dG H H')(h:fr=true->fr'=true):kR H' d fr' Q:=λv H2 s2 r n=>q v H2 (s.trans s2) r λhf=>(n (h hf)).mono (dG.new s)
theorem kR.int{fr:Bool}{Q:VK}(q:kR H (.int i) fr Q):Q (.int i) H:=q.self (.int i) λ_=>.int i
theorem kR.bl{fr:Bool}{Q:VK}(q:kR H (.bl i) fr Q):Q (.bl i) H:=q.self (.bl i) λ_=>.bl i
theorem kR.str{fr:Bool}{Q:VK}(q:kR H (.str i) fr Q):Q (.str i) H:=q.self (.str i) λ_=>.str i
noncomputable def r2(f:D->D->Res D)(fr:Bool):R2:=λx y H Q=>∃a b d,Rep All H x a/\Rep All H y b/\f a b=.ok d/\kR H d fr Q
def r1(f:D->Res D)(fr:Bool):V->Hp->VK->Prop:=λx H Q=>∃a d,Rep All H x a/\f a=.ok d/\kR H d fr Q
def rs(f:List D->Res D)(fr:Bool):List V->Hp->VK->Prop:=λxs H Q=>∃ds d,bT All H xs ds/\f ds=.ok d/\kR H d fr Q
def rm(f:D->List D->Res D)(fr:Bool):V->List V->Hp->VK->Prop:=λx xs H Q=>∃a ds d,Rep All H x a/\bT All H xs ds/\f a ds=.ok d/\kR H d fr Q
theorem aX{f:α->Res β}(h:(do let x <- m;f x)=.ok b):∃a,m=.ok a/\f a=.ok b:=Res.aEv h
section
variable {X:Cx} {a b e:Expr} {pos:Pos} {fa fb fe:FE} {ra rb re:Bool} {ga:FT}
theorem ER.var(E:ER H σ ρ)(h:iV i ρ=.ok d):∃v,σ[i]?=some (some v)/\Rep All H v d/\ρ.getD i .uD=d:=by
 have:ρ.getD i .uD=d/\d≠.uD:=by
  unfold iV at h;split at h
  ·exact bx h
  ·cases h;refine⟨rfl,λz=>?_⟩;rename_i q;exact q z
 obtain⟨e1,e2⟩:=this;obtain⟨v,h1,h2⟩:=E i (by rw[e1];exact e2);exact⟨v,h1,by rw[e1] at h2;exact h2,e1⟩
theorem aA(hN:X.N[i]?=some x:=by exact rfl)(hv:Vis X.env.scope x:=by trivial)(hd:nDb x:=by decide)(hcd:nCd x:=by decide):PE X (.Name x pos) (gE (iV i) false):=
 PE.imp (jH hN hv hd hcd) λσ H Q z0=>by
  obtain⟨ρ,d,E,h,q⟩:=z0;obtain⟨v,h1,h2,_⟩:=E.var h;exact⟨v,h1,q.self h2 (λz=>by cases z)⟩
theorem aH{i j}:PE X (.Constant (.int i) j pos) (gE (bC (.int i)) true):=PE.imp aH5 λσ H Q z0=>by obtain⟨ρ,d,E,h,q⟩:=z0;cases h;exact q.int
theorem MP{i j}:PE X (.Constant (.bool i) j pos) (gE (bC (.bl i)) true):=PE.imp aKk λσ H Q z0=>by obtain⟨ρ,d,E,h,q⟩:=z0;cases h;exact q.bl
theorem aD8{i j}:PE X (.Constant (.str i) j pos) (gE (bC (.str i)) true):=PE.imp aH6 λσ H Q z0=>by obtain⟨ρ,d,E,h,q⟩:=z0;cases h;exact q.str
theorem two{fr:Bool}{σ:L2.St}{H:Hp}{Q:VK}(h:gE (b2 f fa fb) fr σ H Q):tOp (r2 f fr) (gE fa ra) (gE fb rb) σ H Q:=by
 obtain⟨ρ,d,E,h,q⟩:=h;obtain⟨x,h1,h⟩:=aX h;obtain⟨y,h2,h⟩:=aX h;refine⟨ρ,x,E,h1,λv H1 s1 rp1 _=>⟨ρ,y,E.same s1,h2,λu H2 s2 rp2 _=>⟨x,y,d,rp1.same s2,rp2,h,q.imp (s1.trans s2) id⟩⟩⟩
theorem bF{o:Operator}{f:D->D->Res D}{fr:Bool}(ho:OpR X (binaryOp o) (r2 f fr))(ha:PE X a (gE fa ra))(hb:PE X b (gE fb rb)):PE X (.BinOp a o b pos) (gE (b2 f fa fb) fr):=PE.imp (aKu ho ha hb) λ_ _ _=>two
theorem W9{o:CmpOp}{f:D->D->Res D}{fr:Bool}(ho:OpR X (compareOp o) (r2 f fr))(ha:PE X a (gE fa ra))(hb:PE X b (gE fb rb))(hm:behindInMarks o b=false):PE X (.Compare a [o] [b] pos) (gE (b2 f fa fb) fr):=PE.imp (aEi ho ha hb hm) λ_ _ _=>two
theorem cM{o:CmpOp}{f:D->D->Res D}{fr:Bool}(ho:OpR X (compareOp o) (r2 f fr))(ha:PE X a (gE fa ra))(hb:PE X b (gE fb rb))(hm:behindInMarks o b=false):PT X (.Compare a [o] [b] pos) (gT (bTB (b2 f fa fb))):=
 PT.imp (aEj ho ha hb hm) λσ H Q z0=>by
  obtain⟨ρ,k,E,h,q⟩:=z0;obtain⟨d,h1,h2⟩:=aX h;refine two ⟨ρ,d,E,h1,λv H' s r _=>?_⟩;cases d<;>simp only[asB] at h2<;>cases h2
  cases r.inv;exact⟨_,rfl,q H' s⟩
theorem aIf{f:D->Res D}{fr:Bool}(ho:UnR X (unaryOp o) (r1 f fr))(ha:PE X a (gE fa ra)):PE X (.UnaryOp o a pos) (gE (b1 f fa) fr):=
 PE.imp (aKw ho ha) λσ H Q z0=>by
  obtain⟨ρ,d,E,h,q⟩:=z0;obtain⟨x,h1,h⟩:=aX h;exact⟨ρ,x,E,h1,λv H1 s1 rp1 _=>⟨x,d,rp1,h,q.imp s1 id⟩⟩
theorem aL6{f:D->D->Res D}{fr:Bool}(ho:IxR X (r2 f fr))(ha:PE X a (gE fa ra))(hb:PE X b (gE fb rb))(hs:KJ b):PE X (.Subscript a b pos) (gE (b2 f fa fb) fr):=PE.imp (aL3 ho ha hb hs) λ_ _ _=>two
theorem aNi(r:Rep All H v d)(h:aMg d=.ok k)(hd:∀kvs,d≠.dct kvs)(hs:∀xs,d≠.scr xs):aKy X.K v H k:=by
 cases r with
 |non=>cases h;rfl
 |bl b=>cases h;rfl
 |int i=>cases h;rfl
 |str x=>
  replace h:(if decide (x.length<=lim) then Res.ok ((x.length:Int)!=0) else .bad)=.ok k:=h;split at h
  ·rename_i hl;cases h;exact⟨Nat.le_trans (of_decide_eq_true hl) (by rw[sizeLine_eq];decide),rfl⟩
  ·exact bx h
 |tup e rr=>cases h;exact .inr (.inl ⟨_,.of e,by cases rr<;>rfl⟩)
 |lst e p rr=>cases h;exact .inl ⟨_,.of e,by cases rr<;>rfl⟩
 |frz e rr=>exact absurd rfl (hs _)
 |dK e p rr n=>exact absurd rfl (hd _)
 |dT e p rr n=>exact absurd rfl (hd _)
 |fdK e rr n=>exact bx h
 |fdT e rr n=>exact bx h
 |exc n e q=>exact bx h
 |ins n e q=>exact bx h
 |adr=>exact bx h
 |dlK _ _ _ _=>exact bx h
 |dlT _ _ _ _=>exact bx h
 |cel e p rr=>exact bx h
theorem uA(ha:PE X a (gE fa ra))(he:∀whole,isTrue a X.env whole=(do let v <- whole;standAt a.pos;holding [v] (truthy v)):=by intro _;rfl):PT X a (gT (bTr fa)):=
 PT.imp (aAy ha he) λσ H Q z0=>by
  obtain⟨ρ,k,E,h,q⟩:=z0;obtain⟨d,h1,h2⟩:=aX h;refine⟨ρ,d,E,h1,λv H' s r _=>⟨k,aNi r ?_ ?_ ?_,q H' s⟩⟩
  ·cases d<;>first|exact h2|exact bx h2
  ·rintro kvs rfl;exact bx h2
  ·rintro kvs rfl;exact bx h2
theorem GZ(ha:PT X a (gT ga)):PT X (.UnaryOp .Not a pos) (gT (U6 ga)):=PT.imp (aH9 ha) λσ H Q z0=>by
  obtain⟨ρ,k,E,h,q⟩:=z0;obtain⟨d,h1,h2⟩:=aX h;cases h2;exact⟨ρ,d,E,h1,λH' s=>q H' s⟩
theorem QK{op}(ha:PE X a (gE fa ra)):PE X (.BoolOp op [a] pos) (gE fa ra):=aHa ha
theorem QL(h:asB d=.ok k):d=.bl k:=by cases d<;>simp only[asB] at h<;>cases h;rfl
theorem aIg(h:asI d=.ok k):d=.int k:=by cases d<;>simp only[asI] at h<;>cases h;rfl
theorem aD9(ha:PE X a (gE fa ra)):PE X (.UnaryOp .Not a pos) (gE (WT fa) true):=PE.imp (aHc ha) λσ H Q z0=>by
  obtain⟨ρ,k,E,h,q⟩:=z0;obtain⟨d,h1,h⟩:=aX h;obtain⟨z,h2,h⟩:=aX h;cases h;cases QL h2;exact⟨ρ,_,E,h1,λv H' s r _=>by cases r.inv;exact⟨_,rfl,(q.imp s id).bl⟩⟩
theorem vP{rest:List Expr}(ha:PE X a (gE fa ra))(hb:PE X (.BoolOp .And (b::rest) pos) (gE fb rb)):PE X (.BoolOp .And (a::b::rest) pos) (gE (vI fa fb) rb):=PE.imp (aHb ha hb) λσ H Q z0=>by
  obtain⟨ρ,k,E,h,q⟩:=z0;obtain⟨d,h1,h⟩:=aX h;obtain⟨z,h2,h3⟩:=aX h;cases QL h2;refine⟨ρ,_,E,h1,λv H' s r _=>?_⟩;cases r.inv;refine⟨_,rfl,?_⟩;cases z with
  |true=>rw[if_pos rfl];rw[if_pos rfl] at h3;exact⟨ρ,k,E.same s,h3,q.imp s id⟩
  |false=>rw[if_neg (by simp)];rw[if_neg (by simp)] at h3;cases h3;exact(q.imp s id).bl
theorem aG:PA X [] (gA aR true):=PA.imp t7 λσ H Q z0=>by obtain⟨ρ,ds,E,h,q⟩:=z0;cases h;exact q [] H (dG.refl H) .nil λ_=>.nil
theorem aB(he:PE X e (gE fe re))(hes:PA X es (gA f r))(hs:starEach (e::es) X.env=(false,eval e X.env)::starEach es X.env:=by rfl):PA X (e::es) (gA (aD fe f) (re&&r)):=PA.imp (fG he hes hs) λσ H Q z0=>by
  obtain⟨ρ,ds,E,h,q⟩:=z0;obtain⟨x,h1,h⟩:=aX h;obtain⟨xs,h2,h⟩:=aX h;cases h;refine⟨ρ,x,E,h1,λv H1 s1 r1 n1=>⟨ρ,xs,E.same s1,h2,λvs H2 s2 r2 n2=>q _ _ (s1.trans s2) (.cons (r1.same s2) r2) λhf=>?_⟩⟩;obtain⟨f1,f2⟩:=(Bool.and_eq_true _ _▸hf:re=true/\r=true)
  exact .cons ((n1 f1).same s2) ((n2 f2).mono (dG.new s1))
theorem cH{x1}(h:PA X es (gA f r)):PE X (.Tuple es x1 pos) (gE (eQ f) r):=PE.imp (aHp h) λσ H Q z0=>by
  obtain⟨ρ,d,E,h,q⟩:=z0;obtain⟨xs,h1,h⟩:=aX h;split at h
  ·rename_i hl;cases h;refine⟨ρ,xs,E,h1,λvs H1 s1 r1 n1=>⟨?_,λp hp=>?_⟩⟩
   ·rw[r1.length];exact Nat.le_trans (of_decide_eq_true hl) (by rw[sizeLine_eq];decide)
   ·have sp:dG H1 (upd H1 p (.tup vs)):=dG.upd hp;exact q _ _ (s1.trans sp) (.tup aO (r1.same sp)) λhf=>.tup aO ((n1 hf).same sp)
  ·exact bx h
theorem vQ(h:PA X es (gA f r)):PE X (.List es pos) (gE (aD5 f) r):=PE.imp (aHq h) λσ H Q z0=>by
  obtain⟨ρ,d,E,h,q⟩:=z0;obtain⟨xs,h1,h⟩:=aX h;split at h
  ·rename_i hl;cases h;refine⟨ρ,xs,E,h1,λvs H1 s1 r1 n1=>⟨?_,λp hp=>?_⟩⟩
   ·rw[r1.length];exact Nat.le_trans (of_decide_eq_true hl) (by rw[sizeLine_eq];decide)
   ·have sp:dG H1 (upd H1 p (.lst vs)):=dG.upd hp;exact q _ _ (s1.trans sp) (.lst aO trivial (r1.same sp)) λhf=>.lst aO (s1.free hp) ((n1 hf).same sp)
  ·exact bx h
theorem nZ:PE X (.Dict [] [] pos) (gE (bC (.dct [])) true):=PE.imp aB6 λσ H Q z0=>by
  obtain⟨ρ,d,E,h,q⟩:=z0;cases h;exact λp hp=>q _ _ (dG.upd hp) (.dK aO trivial .nil List.nodup_nil) λ_=>.dK aO hp .nil List.nodup_nil
end
section
variable {a b c e:Expr}
theorem uV(h:decide (n<=lim)=true):n<=sizeLine:=Nat.le_trans (of_decide_eq_true h) (by rw[sizeLine_eq];decide)
theorem W_(h:decide (n<lim)=true):n<sizeLine:=Nat.lt_of_lt_of_le (of_decide_eq_true h) (by rw[sizeLine_eq];decide)
theorem Rep.aIh(r:Rep P H v (.lst ds)):∃a xs,v=.ref a/\Rd H a (.lst xs)/\bT P H xs ds:=by
 cases r with
 |lst e p rr=>exact⟨_,_,rfl,.inl e,rr⟩
theorem PW.imp(h:PW X e t)(i:∀σ H Q,t' σ H Q->t σ H Q):PW X e t':=λwh pins s σ H Q I q=>h wh pins s σ H Q I (i σ H Q q)
theorem vR(ha:PT X a (gT ga)):PW X (.BoolOp .And [a] pos) (gT ga):=aEe ha
theorem aIi(ha:PT X a (gT ga)):PW X (.BoolOp .Or [a] pos) (gT ga):=aH7 ha
theorem G3{rest:List Expr}(ha:PT X a (gT ga))(hb:PW X (.BoolOp .And (b::rest) pos) (gT gb)):PW X (.BoolOp .And (a::b::rest) pos) (gT (DR ga gb)):=PW.imp (aH8 ha hb) λσ H Q z0=>by
 obtain⟨ρ,k,E,h,q⟩:=z0;obtain⟨z,h1,h3⟩:=aX h;refine⟨ρ,z,E,h1,λH' s=>?_⟩;cases z with
 |true=>rw[if_pos rfl];rw[if_pos rfl] at h3;exact⟨ρ,k,E.same s,h3,λH2 s2=>q H2 (s.trans s2)⟩
 |false=>rw[if_neg (by simp)];rw[if_neg (by simp)] at h3;cases h3;exact q H' s
theorem aL7{rest:List Expr}(ha:PT X a (gT ga))(hb:PW X (.BoolOp .Or (b::rest) pos) (gT gb)):PW X (.BoolOp .Or (a::b::rest) pos) (gT (bOr ga gb)):=PW.imp (aKl ha hb) λσ H Q z0=>by
 obtain⟨ρ,k,E,h,q⟩:=z0;obtain⟨z,h1,h3⟩:=aX h;refine⟨ρ,z,E,h1,λH' s=>?_⟩;cases z with
 |true=>rw[if_pos rfl];rw[if_pos rfl] at h3;cases h3;exact q H' s
 |false=>rw[if_neg (by simp)];rw[if_neg (by simp)] at h3;exact⟨ρ,k,E.same s,h3,λH2 s2=>q H2 (s.trans s2)⟩
theorem aIj(h:gE (bCh f g fa fb fc) r' σ H Q):aCz (r2 f r) (r2 g r') (gE fa ra) (gE fb rb) (gE fc rc) σ H Q:=by
 obtain⟨ρ,d,E,h,q⟩:=h;obtain⟨x,h1,h⟩:=aX h;obtain⟨y,h2,h⟩:=aX h;obtain⟨z,h3,h⟩:=aX h;obtain⟨k,h4,h7⟩:=aX h;refine⟨ρ,x,E,h1,λv H1 s1 rp1 _=>⟨ρ,y,E.same s1,h2,λu H2 s2 rp2 _=>⟨x,y,z,rp1.same s2,rp2,h3,λt H3 s3 rp3 _=>?_⟩⟩⟩;have e:=QL h4;subst e;cases rp3.inv;refine⟨k,rfl,?_⟩;have s13:=(s1.trans s2).trans s3;cases k with
 |true=>
  rw[if_pos rfl];rw[if_pos rfl] at h7;obtain⟨w,h5,h6⟩:=aX h7;exact⟨ρ,w,E.same s13,h5,λt H4 s4 rp4 _=>⟨y,w,d,(rp2.same s3).same s4,rp4,h6,q.imp (s13.trans s4) id⟩⟩
 |false=>
  rw[if_neg (by simp)];rw[if_neg (by simp)] at h7;cases h7;exact(q.imp s13 id).bl
theorem aBl(ho:OpR X (compareOp o) (r2 f r))(ho':OpR X (compareOp o') (r2 g r'))(ha:PE X a (gE fa ra))(hb:PE X b (gE fb rb))(hc:PE X c (gE fc rc))
 (hm:lastMarks [o,o'] [b,c]=false:=by with_unfolding_all rfl):PT X (.Compare a [o,o'] [b,c] pos) (gT (bTB (bCh f g fa fb fc))):=PT.imp (aAx ho ho' ha hb hc hm) λσ H Q z0=>by
  obtain⟨ρ,k,E,h,q⟩:=z0;obtain⟨d,h1,h2⟩:=aX h;refine aIj ⟨ρ,d,E,h1,λv H' s r _=>?_⟩;have e:=QL h2;subst e;cases r.inv;exact⟨_,rfl,q H' s⟩
theorem cO:OpR X (binaryOp .Add) (r2 (aW .add) true):=by
 intro pins s σ H x y v u Q I rx ry h;obtain⟨a,b,d,p,q,e,k⟩:=h;cases p with
 |int i=>
  cases q with
  |int j=>cases e;exact aHh pins s σ H _ _ v u Q I rx ry ⟨i,j,rfl,rfl,k.int⟩
  |_=>exact bx e
 |str i=>
  cases q with
  |str j=>
   replace e:(if decide (i.length+j.length<=lim) then Res.ok (D.str (i++j)) else .bad)=.ok d:=e;split at e
   ·rename_i hl;cases e;exact SJ pins s σ H _ _ v u Q I rx ry ⟨i,j,rfl,rfl,uV hl,k.str⟩
   ·exact bx e
  |_=>exact bx e
 |non=>exact bx e
 |bl _=>exact bx e
 |tup _ _=>exact bx e
 |dK _ _ _ _=>exact bx e
 |dT _ _ _ _=>exact bx e
 |fdK _ _ _=>exact bx e
 |fdT _ _ _=>exact bx e
 |exc _ _ _=>exact bx e
 |ins _ _ _=>exact bx e
 |adr=>exact bx e
 |dlK _ _ _ _=>exact bx e
 |dlT _ _ _ _=>exact bx e
 |cel _ _ _=>exact bx e
 |@lst a1 xs ds e1 p1 r1=>
  have hR:Rep All H (.ref a1) (.lst ds):=.lst e1 p1 r1;cases b with
  |lst es=>
   replace e:(if decide (ds.length+es.length<=lim)&&D.aY ds&&D.aY es then Res.ok (D.lst (ds++es)) else .bad)=.ok d:=e;split at e
   ·rename_i hl;cases e;rw[Bool.and_eq_true,Bool.and_eq_true] at hl;obtain⟨⟨hl,hp1⟩,hp2⟩:=hl;obtain⟨l1,xs1,e1',rd1,rr1⟩:=hR.aIh;obtain⟨l2,xs2,rfl,rd2,rr2⟩:=q.aIh;cases e1';cases rx;cases ry;obtain⟨z,its,n,vr1,ee1⟩:=rd1.ok I.hok;obtain⟨z2,its2,n2,vr2,ee2⟩:=rd2.ok I.hok;have hz:xs1.length+xs2.length<=sizeLine:=by rw[rr1.length,rr2.length];exact uV hl
    have t1:=vr1.length;have t2:=vr2.length;refine PySem.P.add_list ee1 ee2 ?_ (by rw[List.size_toArray,List.size_toArray];lia);have ea:its.toArray++its2.toArray=(its++its2).toArray:=by simp
    rw[ea];refine⟨.ref _,_,I.aNf (vr1.append vr2) (by rw[List.length_append];lia),rfl,?_⟩;have sp:dG H (upd H s.heap.objs.size (.lst (xs1++xs2))):=dG.upd I.fresh;exact k _ _ sp (.lst aO trivial ((rr1.append rr2).same sp)) λ_=>.lst aO I.fresh (((rr1.bN hp1).append (rr2.bN hp2)).same sp)
   ·exact bx e
  |_=>exact bx e
 |frz _ _=>exact bx e
theorem zF(h:OpR X f (rI C g))
 (hi:∀i j d,op (.int i) (.int j)=.ok d->C i j/\∃k,d=.int k/\g i j=.int k)(hn:∀a b d,op a b=.ok d->(∃i,a=.int i)/\∃j,b=.int j):OpR X f (r2 op true):=by
 rintro pins s σ H x y v u Q I rx ry ⟨a,b,d,p,q,e,k⟩;obtain⟨⟨i,rfl⟩,⟨j,rfl⟩⟩:=hn a b d e;cases p.inv;cases q.inv;obtain⟨hc,m,rfl,hm⟩:=hi i j d e;exact h pins s σ H _ _ v u Q I rx ry ⟨i,j,rfl,rfl,hc,by rw[hm];exact k.int⟩
theorem rD(ho:o≠.add){a b d:D}(e:aW o a b=.ok d):(∃i,a=.int i)/\∃j,b=.int j:=by
 cases a with
 |int i=>
  cases b with
  |int j=>exact⟨⟨i,rfl⟩,j,rfl⟩
  |_=>cases o<;>first|exact bx e|exact absurd rfl ho
 |_=>cases o<;>first|exact bx e|exact absurd rfl ho
theorem aDa:OpR X (binaryOp .Sub) (r2 (aW .sub) true):=by
 rintro pins s σ H x y v u Q I rx ry ⟨a,b,d,p,q,e,k⟩;obtain⟨⟨i,rfl⟩,j,rfl⟩:=rD (by decide) e;cases p.inv;cases q.inv;cases e;exact aHi pins s σ H _ _ v u Q I rx ry ⟨_,_,rfl,rfl,k.int⟩
theorem rF:OpR X (binaryOp .Mult) (r2 (aW .mul) true):=by
 refine zF aHj (λi j d e=>?_) λa b d e=>rD (by decide) e
 ·replace e:(if jX i||jX j then Res.ok (D.int (i*j)) else .bad)=.ok d:=e;split at e
  ·rename_i hl;cases e;refine⟨?_,_,rfl,rfl⟩;simp only[jX,Bool.or_eq_true,Bool.and_eq_true,decide_eq_true_eq] at hl;exact hl
  ·exact bx e
theorem fY:OpR X (binaryOp .FloorDiv) (r2 (aW .fdiv) true):=by
 refine zF aEh (λi j d e=>?_) λa b d e=>rD (by decide) e
 ·replace e:(if decide (0<j)&&decide (j<1073741824) then Res.ok (D.int (i / j)) else .bad)=.ok d:=e;split at e
  ·rename_i hl;cases e;refine⟨?_,_,rfl,rfl⟩;simp only[Bool.and_eq_true,decide_eq_true_eq] at hl;exact hl
  ·exact bx e
theorem fP:OpR X (binaryOp .Mod) (r2 (aW .mod) true):=by
 refine zF aHk (λi j d e=>?_) λa b d e=>rD (by decide) e
 ·replace e:(if decide (0<j) then Res.ok (D.int (i % j)) else .bad)=.ok d:=e;split at e
  ·rename_i hl;cases e;refine⟨?_,_,rfl,rfl⟩;simp only[Bool.and_eq_true,decide_eq_true_eq] at hl;exact hl
  ·exact bx e
theorem aDb:OpR X (binaryOp .Pow) (r2 (aW .pow) true):=by
 refine zF aHl (λi j d e=>?_) λa b d e=>rD (by decide) e
 ·replace e:(if decide (0<=j)&&decide (j<=1000000)&&decide (i.natAbs<2 ^ 64) then Res.ok (D.int (i ^ j.toNat)) else .bad)=.ok d:=e;split at e
  ·rename_i hl;cases e;refine⟨?_,_,rfl,rfl⟩;simp only[Bool.and_eq_true,decide_eq_true_eq] at hl;exact⟨hl.1.1,hl.1.2,hl.2⟩
  ·exact bx e
theorem aDc:UnR X (unaryOp .USub) (r1 aI9 true):=by
 rintro pins s σ H x v Q I rx ⟨a,d,p,e,k⟩;cases a<;>try exact bx e
 cases e;cases p.inv;exact aHm pins s σ H _ v Q I rx ⟨_,rfl,k.int⟩
theorem mF(hu:X.A.units+20<cLine):OpR X (compareOp .Eq) (r2 (bR .eq) true):=by
 rintro pins s σ H x y v u Q I rx ry ⟨a,b,d,p,q,e,k⟩;replace e:(if a.fJ aN&&b.fJ aN then Res.ok (D.bl (eqD a b)) else .bad)=.ok d:=e;split at e
 ·rename_i hl;cases e;rw[Bool.and_eq_true] at hl;exact(GX I aN X.A (by have:aN=12:=rfl;lia) hl.1 hl.2 p q rx ry).1 X.prog X.w X.xe _ ⟨.bl _,H,I,rfl,k.bl⟩
 ·exact bx e
theorem XC(hu:X.A.units+20<cLine):OpR X (compareOp .NotEq) (r2 (bR .ne) true):=by
 rintro pins s σ H x y v u Q I rx ry ⟨a,b,d,p,q,e,k⟩;replace e:(if a.fJ aN&&b.fJ aN then Res.ok (D.bl (!eqD a b)) else .bad)=.ok d:=e;split at e
 ·rename_i hl;cases e;rw[Bool.and_eq_true] at hl;exact(GX I aN X.A (by have:aN=12:=rfl;lia) hl.1 hl.2 p q rx ry).2.1 X.prog X.w X.xe _ ⟨.bl _,H,I,rfl,k.bl⟩
 ·exact bx e
theorem XF(o:gW)(hu:X.A.units+20<cLine):OpR X (compareOp o.op) (r2 (bR (.ord o)) true):=by
 rintro pins s σ H x y v u Q I rx ry ⟨a,b,d,p,q,e,k⟩;replace e:(if a.fJ aN&&b.fJ aN then (match iU o a b with|some k=>Res.ok (D.bl k)|none=>.bad) else .bad)=.ok d:=e;split at e
 ·rename_i hl;rw[Bool.and_eq_true] at hl;split at e
  ·rename_i m hm;cases e;have:=MN I o aN X.A (by have:aN=12:=rfl;lia) hl.1 hl.2 p q rx ry hm X.prog X.w X.xe _ (show EP X pins σ Q (.bool m) s from ⟨.bl _,H,I,rfl,k.bl⟩);cases o<;>exact this
  ·exact bx e
 ·exact bx e
theorem TX(hu:X.A.units+20<cLine):OpR X (compareOp .Lt) (r2 (bR (.ord .lt)) true):=XF .lt hu
theorem aL8(hu:X.A.units+20<cLine):OpR X (compareOp .LtE) (r2 (bR (.ord .le)) true):=XF .le hu
theorem aL9(hu:X.A.units+20<cLine):OpR X (compareOp .Gt) (r2 (bR (.ord .gt)) true):=XF .gt hu
end
end
variable [KFrag]
theorem aBm(k q:Key):eqD (kD k) (kD q)=decide (k=q):=by
 cases k<;>cases q<;>simp[kD,aI2,aI3,aI4,aI5,Bool.beq_eq_decide_eq]
theorem aDd:∀(k q:List Key),vG (k.map kD) (q.map kD)=decide (k=q)
 |[],[]=>by simp[vG]
 |[],_::_=>by simp[vG]
 |_::_,[]=>by simp[vG]
 |a::k,b::q=>by
  rw[List.map_cons,List.map_cons,vG,aBm,aDd k q];by_cases h:a=b<;>by_cases h':k=q<;>simp[h,h']
theorem aF3(k q:List Key):eqD (.tup (k.map kD)) (.tup (q.map kD))=decide (k=q):=by rw[aI6,aDd]
theorem aF4:∀{kvs:List (Key×V)}{ds:List (D×D)},qR P H kvs ds->(∃v d,wW kvs k=some v/\cL ds (kD k)=some d/\Rep P H v d)\/(wW kvs k=none/\cL ds (kD k)=none)
 |_,_,.nil=>.inr ⟨rfl,rfl⟩
 |_,_,.cons (k:=k') r t=>by
  by_cases h:k'=k
  ·subst h;exact .inl ⟨_,_,qW rfl,by rw[cL,aBm,if_pos (by simp)],r⟩
  ·rw[cL,aBm,if_neg (by simpa using h),qX h];exact aF4 t
theorem aBn:∀{kvs:List (List Key×V)}{ds:List (D×D)},o6 P H kvs ds->(∃v d,wW kvs k=some v/\cL ds (.tup (k.map kD))=some d/\Rep P H v d)\/(wW kvs k=none/\cL ds (.tup (k.map kD))=none)
 |_,_,.nil=>.inr ⟨rfl,rfl⟩
 |_,_,.cons (k:=k') r t=>by
  by_cases h:k'=k
  ·subst h;exact .inl ⟨_,_,qW rfl,by rw[cL,aF3,if_pos (by simp)],r⟩
  ·rw[cL,aF3,if_neg (by simpa using h),qX h];exact aBn t
theorem zG(h:yV d=true)(r:Rep All H v d):∃k,v=kV k/\d=kD k:=by
 cases r<;>simp[yV] at h
 ·exact⟨.inl _,rfl,rfl⟩
 ·exact⟨.inr _,rfl,rfl⟩
theorem flat_keys:∀{vs:List V}{ds:List D},ds.all yV=true->bT All H vs ds->∃ks:List Key,vs=ks.map kV/\ds=ks.map kD
 |_,_,_,.nil=>⟨[],rfl,rfl⟩
 |_,_,h,.cons r t=>by
  rw[List.all_cons,Bool.and_eq_true] at h;obtain⟨k,rfl,rfl⟩:=zG h.1 r;obtain⟨ks,rfl,rfl⟩:=flat_keys h.2 t;exact⟨k::ks,rfl,rfl⟩
theorem jB(h:keyOk k=true)(r:Rep All H y k):(∃q,y=kV q/\k=kD q)\/∃(b:Addr)(ks:List Key),y=.ref b/\H b=some (.tup (ks.map kV))/\k=.tup (ks.map kD):=by
 cases k<;>simp[keyOk] at h
 ·exact .inl (zG rfl r)
 ·exact .inl (zG rfl r)
 ·obtain⟨a,xs,rfl,e,rr⟩:=r.gQ;obtain⟨ks,rfl,rfl⟩:=flat_keys (List.all_eq_true.mpr h) rr;exact .inr ⟨a,ks,rfl,e,rfl⟩
theorem fC(k:Key):isTup (kD k)=false:=by cases k<;>rfl
section
variable {a:Addr}
theorem zH(e:H a=some o):upd (upd H a o') a o=H:=by
 rw[J_]
 funext b
 by_cases h:b=a
 ·subst h;rw[aO,e]
 ·rw[bL h]
theorem n6(I:Inv X pins σ H s)(e:H a=some (.dK [])):Inv X pins σ (upd H a (.dT [])) s:=by
 obtain⟨z,hd,vs,rel,o,es,ep,h1,h2,h3,h4,h5,h6⟩:=S5 I.hok e;cases rel;refine I.write (by rw[e];trivial) (.inl rfl) (λ_ _ _ q=>q) ⟨o,h1⟩ ?_;refine⟨Nat.zero_le _,hd,[],.nil,o,es,ep,h1,h2,h3,?_,List.nodup_nil⟩;cases h5':es.toList with
 |nil=>rfl
 |cons _ _=>rw[h5'] at h5;cases h5
theorem n8(I:Inv X pins σ H s)(e:H a=some (.dT [])):Inv X pins σ (upd H a (.dK [])) s:=by
 obtain⟨z,hd,vs,rel,o,es,ep,h1,h2,h3,h4,h5,h6⟩:=aB3 I.hok e;cases rel;refine I.write (by rw[e];trivial) (.inl rfl) (λ_ _ _ q=>q) ⟨o,h1⟩ ?_;have h0:es.toList=[]:=h4;refine⟨Nat.zero_le _,hd,[],.nil,o,es,ep,h1,h2,h3,?_,?_,List.nodup_nil⟩
 ·intro x hx;have:x∈es.toList:=by simpa using hx
  rw[h0] at this;cases this
 ·rw[h0];exact .nil
theorem QM:∀{kvs:List (Key×V)}{ds:List (D×D)},qR P H kvs ds->∀p∈ds,isTup p.1=false
 |_,_,.nil,_,h=>by cases h
 |_,_,.cons r t,p,h=>by
  rcases List.mem_cons.mp h with rfl|h
  ·exact fC _
  ·exact QM t p h
theorem QR:∀{kvs:List (List Key×V)}{ds:List (D×D)},o6 P H kvs ds->∀p∈ds,isTup p.1=true
 |_,_,.nil,_,h=>by cases h
 |_,_,.cons r t,p,h=>by
  rcases List.mem_cons.mp h with rfl|h
  ·rfl
  ·exact QR t p h
theorem aF5(I:Inv X pins σ H s)(rd:Rep All H x (.dct ds))(rk:Rep All H y k)(hk:t_ ds k=true) :
  ∃H1 a o,x=.ref a/\Inv X pins σ H1 s/\(∀s',Inv X pins σ H1 s'->Inv X pins σ H s')/\V6 H1 a y o/\((o=none/\cL ds k=none)\/∃v d,o=some v/\cL ds k=some d/\Rep All H v d):=by
 unfold t_ at hk;rw[Bool.and_eq_true] at hk;obtain⟨h1,h2⟩:=hk;cases rd with
 |@dK a kvs ds e _ r n=>
  rcases jB h1 rk with ⟨q,rfl,rfl⟩|⟨b,ks,rfl,eb,rfl⟩
  ·refine⟨H,a,_,rfl,I,λ_ h=>h,.k e,?_⟩;rcases aF4 r with ⟨v,d,g1,g2,g3⟩|⟨g1,g2⟩
   ·exact .inr ⟨v,d,g1,g2,g3⟩
   ·exact .inl ⟨g1,g2⟩
  ·cases r with
   |nil=>
    have e2:=zH (o':=.dT []) e;refine⟨upd H a (.dT []),a,none,rfl,n6 I e,λs' I'=>?_,.t (k:=ks) aO (by rw[bL (aEa eb e (by intro z;cases z))];exact eb),.inl ⟨rfl,rfl⟩⟩;have:=n8 I' aO;rwa [e2] at this
   |cons r t=>
    rw[List.all_cons,fC] at h2;simp[isTup] at h2
 |@dT a kvs ds e _ r n=>
  rcases jB h1 rk with ⟨q,rfl,rfl⟩|⟨b,ks,rfl,eb,rfl⟩
  ·cases r with
   |nil=>
    have e2:=zH (o':=.dK []) e;refine⟨upd H a (.dK []),a,none,rfl,n8 I e,λs' I'=>?_,.k (k:=q) aO,.inl ⟨rfl,rfl⟩⟩;have:=n6 I' aO;rwa [e2] at this
   |cons r t=>
    rw[List.all_cons,fC] at h2;simp[isTup] at h2
  ·refine⟨H,a,_,rfl,I,λ_ h=>h,.t e eb,?_⟩;rcases aBn (k:=ks) r with ⟨v,d,g1,g2,g3⟩|⟨g1,g2⟩
   ·exact .inr ⟨v,d,g1,g2,g3⟩
   ·exact .inl ⟨g1,g2⟩
theorem aBo(rd:Rep All H x (.dct ds))(hk:keyOk k=true)(h:cL ds k=some d):t_ ds k=true:=by
 have one:∀{ds:List (D×D)},cL ds k=some d->∃p∈ds,eqD p.1 k=true:=by
  intro ds;induction ds with
  |nil=>intro h;cases h
  |cons p ds ih=>
   intro h;obtain⟨p1,p2⟩:=p;rw[cL] at h;by_cases hq:eqD p1 k=true
   ·exact⟨_,List.mem_cons_self ..,hq⟩
   ·rw[if_neg hq] at h;obtain⟨p,hp,e⟩:=ih h;exact⟨p,List.mem_cons_of_mem _ hp,e⟩
 obtain⟨p,hp,he⟩:=one h;unfold t_;rw[hk,Bool.true_and,List.all_eq_true];intro q hq;have same:isTup p.1=isTup k:=by
  obtain⟨p1,p2⟩:=p;cases k with
  |int _=>cases p1<;>first|rfl|exact fx0 he
  |str _=>cases p1<;>first|rfl|exact fx0 he
  |tup _=>cases p1<;>first|rfl|exact fx0 he
  |_=>exact fx0 hk
 cases rd with
 |dK e _ r n=>rw[QM r q hq,<-same,QM r p hp];rfl
 |dT e _ r n=>rw[QR r q hq,<-same,QR r p hp];rfl
end
section
variable {X:Cx} {a b c e:Expr} {pos:Pos} {fa fb fe:FE} {ra rb re:Bool}
def zJ(H:Hp)(u:Value):D:=by
 classical
 exact if h:∃d,d.fJ aN=true/\∃v,RelV v u/\Rep All H v d then Classical.choose h else .non
theorem zK(hq:d.fJ aN=true)(rv:RelV v u)(r:Rep All H v d):zJ H u=d:=by
 unfold zJ;have h:∃d,d.fJ aN=true/\∃v,RelV v u/\Rep All H v d:=⟨d,hq,v,rv,r⟩
 rw[dif_pos h];obtain⟨h2,v',rv',r'⟩:=Classical.choose_spec h;have:=rv'.inj rv;subst this;exact Rep.inj aN h2 hq r' r
theorem vU{a:D}:∀{xs:List V}{ds:List D}{its:List Value},D.dJ aN ds=true->bT All H xs ds->Vals xs its->(its.any λu=>eqD (zJ H u) a)=ds.any λy=>eqD y a
 |_,_,_,_,.nil,.nil=>rfl
 |_,_,_,h,.cons r t,.cons v vt=>by
  rw[D.dJ,Bool.and_eq_true] at h;rw[List.any_cons,List.any_cons,zK h.1 v r,vU h.2 t vt]
theorem vV{s:Shared}(I:Inv X pins σ H s)(hu:X.A.units+20<cLine){a:D}{x:V}{v:Value}(ha:a.fJ aN=true)(rx:Rep All H x a)(rv:RelV x v)
 {xs:List V}{ds:List D}{its:List Value}(h:D.dJ aN ds=true)(r:bT All H xs ds)(vr:Vals xs its)(u:Value)(hm:u∈its):EqAt X.A.in1 s u v (eqD (zJ H u) a):=by
 obtain⟨j,hj,e⟩:=List.getElem_of_mem hm;have hj':j<ds.length:=by rw[<-r.length,vr.length];exact hj
 obtain⟨w,h1,h2⟩:=r.get (i:=j) (d:=ds[j]) (by simp[hj']);obtain⟨u',h3,h4⟩:=vr.get h1;rw[List.getElem?_eq_getElem hj,e] at h3;cases h3;have hd:ds[j].fJ aN=true:=by
  have:=gZ h hj';rwa [List.getD_eq_getElem?_getD,List.getElem?_eq_getElem hj'] at this
 rw[zK hd h4 h2];exact(GX I aN X.A.in1 (by show X.A.units+1+12<cLine;lia) hd ha h2 rx h4 rv).2.2
theorem aLa(hu:X.A.units+20<cLine):OpR X (compareOp .In) (r2 (bR .isin) true):=by
 rintro pins s σ H x y v u Q I rx ry ⟨a,b,d,p,q,e,k⟩;cases b with
 |tup ys=>
  replace e:(if a.fJ aN&&D.dJ aN ys then Res.ok (D.bl (ys.any λy=>eqD y a)) else .bad)=.ok d:=e;split at e
  ·rename_i hl;cases e;rw[Bool.and_eq_true] at hl;obtain⟨l,xs,rfl,ee,rr⟩:=q.gQ;cases ry;obtain⟨its,vr,pl⟩:=gM I ee;refine in_tupleAt (λu=>eqD (zJ H u) a) pl (λw hw=>vV I hu hl.1 p rx hl.2 rr vr w (by simpa using hw)) ⟨.bl _,H,I,rfl,?_⟩;rw[show its.toArray.any (λu=>eqD (zJ H u) a)=its.any (λu=>eqD (zJ H u) a) by simp,vU hl.2 rr vr];exact k.bl
  ·cases e
 |lst ys=>
  replace e:(if a.fJ aN&&D.dJ aN ys then Res.ok (D.bl (ys.any λy=>eqD y a)) else .bad)=.ok d:=e;split at e
  ·rename_i hl;cases e;rw[Bool.and_eq_true] at hl;obtain⟨l,xs,rfl,ee,rr⟩:=q.jR;cases ry;obtain⟨its,vr,pl⟩:=mW I ee;refine in_listAt (λu=>eqD (zJ H u) a) pl (λw hw=>vV I hu hl.1 p rx hl.2 rr vr w (by simpa using hw)) ⟨.bl _,H,I,rfl,?_⟩;rw[show its.toArray.any (λu=>eqD (zJ H u) a)=its.any (λu=>eqD (zJ H u) a) by simp,vU hl.2 rr vr];exact k.bl
  ·cases e
 |dct kvs=>
  replace e:(if t_ kvs a then Res.ok (D.bl ((cL kvs a).isSome)) else .bad)=.ok d:=e;split at e
  ·rename_i hl;cases e;obtain⟨H1,a1,o,rfl,I1,bk,g,hc⟩:=aF5 I q p hl;cases ry;refine aMe (by lia) I1 g rx λs' I'=>⟨.bl _,H,bk s' I',rfl,?_⟩
   rcases hc with ⟨rfl,h2⟩|⟨w,dd,rfl,h2,_⟩
   ·rw[h2] at k;exact k.bl
   ·rw[h2] at k;exact k.bl
  ·cases e
 |_=>exact bx e
theorem n_(hu:X.A.units+20<cLine):OpR X (compareOp .NotIn) (r2 (bR .notin) true):=by
 rintro pins s σ H x y v u Q I rx ry ⟨a,b,d,p,q,e,k⟩;cases b with
 |tup ys=>
  replace e:(if a.fJ aN&&D.dJ aN ys then Res.ok (D.bl (!(ys.any λy=>eqD y a))) else .bad)=.ok d:=e;split at e
  ·rename_i hl;cases e;rw[Bool.and_eq_true] at hl;obtain⟨l,xs,rfl,ee,rr⟩:=q.gQ;cases ry;obtain⟨its,vr,pl⟩:=gM I ee;refine notIn_tupleAt (λu=>eqD (zJ H u) a) pl (λw hw=>vV I hu hl.1 p rx hl.2 rr vr w (by simpa using hw)) ⟨.bl _,H,I,rfl,?_⟩;rw[show its.toArray.any (λu=>eqD (zJ H u) a)=its.any (λu=>eqD (zJ H u) a) by simp,vU hl.2 rr vr];exact k.bl
  ·cases e
 |lst ys=>
  replace e:(if a.fJ aN&&D.dJ aN ys then Res.ok (D.bl (!(ys.any λy=>eqD y a))) else .bad)=.ok d:=e;split at e
  ·rename_i hl;cases e;rw[Bool.and_eq_true] at hl;obtain⟨l,xs,rfl,ee,rr⟩:=q.jR;cases ry;obtain⟨its,vr,pl⟩:=mW I ee;refine notIn_listAt (λu=>eqD (zJ H u) a) pl (λw hw=>vV I hu hl.1 p rx hl.2 rr vr w (by simpa using hw)) ⟨.bl _,H,I,rfl,?_⟩;rw[show its.toArray.any (λu=>eqD (zJ H u) a)=its.any (λu=>eqD (zJ H u) a) by simp,vU hl.2 rr vr];exact k.bl
  ·cases e
 |dct kvs=>
  replace e:(if t_ kvs a then Res.ok (D.bl (!((cL kvs a).isSome))) else .bad)=.ok d:=e;split at e
  ·rename_i hl;cases e;obtain⟨H1,a1,o,rfl,I1,bk,g,hc⟩:=aF5 I q p hl;cases ry;refine aEp (by lia) I1 g rx λs' I'=>⟨.bl _,H,bk s' I',rfl,?_⟩
   rcases hc with ⟨rfl,h2⟩|⟨w,dd,rfl,h2,_⟩
   ·rw[h2] at k;exact k.bl
   ·rw[h2] at k;exact k.bl
  ·cases e
 |_=>exact bx e
theorem aIk(xs:List α)(i:Int):L2.atI xs i=(ixD xs.length i).bind λj=>xs[j]?:=rfl
theorem bT.atI(r:bT P H xs ds)(h:((ixD ds.length i).bind λj=>ds[j]?)=some d):∃v,L2.atI xs i=some v/\Rep P H v d:=by
 rw[aIk,r.length];cases hi:ixD ds.length i with
 |none=>rw[hi] at h;cases h
 |some j=>
  rw[hi] at h;obtain⟨v,h1,h2⟩:=r.get h;exact⟨v,h1,h2⟩
theorem G4{a:Addr}{y v':V}{u:Value}{Q:VK}(hu:X.A.units+20<cLine)(I:Inv X pins σ H s)(g:V6 H a y (some v'))(ry:RelV y u){H':Hp}
 (hs:subscripted slice false (.ref a) u=operate [.ref a,u] (getItem (.ref a) u))(bk:∀s',Inv X pins σ H s'->Inv X pins σ H' s')(q:Q v' H') :
  wpAny (model X.prog X.w) X.A (subscriptTail value slice (.ref a) u) (EP X pins σ Q) X.xe s:=by
 have hT:=KQ I g;unfold subscriptTail;refine wpAny_bind ?_;rw[getitemInPython_of_ne hT.not_modules];refine wpAny_bind (wpAny_specialOf hT PySem.F.slot_dict_getitem.lookup ?_);have fin:wpAny (model X.prog X.w) X.A (subscripted slice false (.ref a) u) (λr s₃=>wpAny (model X.prog X.w) X.A (letTemporaryGo value (.ref a) r >>= λ_=>pure r) (EP X pins σ Q) X.xe s₃) X.xe s:=by
  rw[hs];exact wpAny_operating (V7 (by lia) I g ry λw' s3 I3 rw'=>wpAny_bind (wpAny_letTemporaryGo (wpAny_pure ⟨v',H',bk s3 I3,rw',q⟩)))
 first
  |exact wpAny_pure (wpAny_bind fin)
  |exact wpAny_bind (wpAny_pure (wpAny_bind fin))
  |exact wpAny_bind fin
theorem QS:∀{ds:List (D×D)},keyOk k=true->cL ds k=some d->∃p∈ds,isTup p.1=isTup k
 |[],_,h=>by cases h
 | (p1,p2)::ds,hk,h=>by
  rw[cL] at h;by_cases hq:eqD p1 k=true
  ·refine⟨_,List.mem_cons_self ..,?_⟩;cases k with
   |int _=>cases p1<;>first|rfl|exact fx0 hq
   |str _=>cases p1<;>first|rfl|exact fx0 hq
   |tup _=>cases p1<;>first|rfl|exact fx0 hq
   |_=>exact fx0 hk
  ·rw[if_neg hq] at h;obtain⟨p,hp,e⟩:=QS hk h;exact⟨p,List.mem_cons_of_mem _ hp,e⟩
theorem aLb(rd:Rep All H x (.fdc ds))(rk:Rep All H y k)(hk:keyOk k=true)(h:cL ds k=some d):∃a v,x=.ref a/\V6 H a y (some v)/\Rep All H v d:=by
 obtain⟨p,hp,et⟩:=QS hk h;cases rd with
 |@fdK a o kvs ds e r n=>
  rcases jB hk rk with ⟨q,rfl,rfl⟩|⟨b,ks,rfl,eb,rfl⟩
  ·rcases aF4 r with ⟨v,d',g1,g2,g3⟩|⟨g1,g2⟩
   ·rw[g2] at h;cases h;exact⟨a,v,rfl,.inl ⟨kvs,q,.inr ⟨o,e⟩,rfl,g1.symm⟩,g3⟩
   ·rw[g2] at h;cases h
  ·rw[QM r p hp] at et;cases et
 |@fdT a o kvs ds e r n=>
  rcases jB hk rk with ⟨q,rfl,rfl⟩|⟨b,ks,rfl,eb,rfl⟩
  ·rw[QR r p hp,fC] at et;cases et
  ·rcases aBn r with ⟨v,d',g1,g2,g3⟩|⟨g1,g2⟩
   ·rw[g2] at h;cases h;exact⟨a,v,rfl,.inr ⟨kvs,ks,b,.inr ⟨o,e⟩,rfl,eb,g1.symm⟩,g3⟩
   ·rw[g2] at h;cases h
theorem aLc(hK:KFrag.K=X.K)(hu:X.A.units+20<cLine):IxR X (r2 getD false):=by
 rintro value slice pins s σ H x y v u Q I rx ry ⟨a,b,d,p,q,e,k⟩ hs;cases a with
 |tup ys=>
  cases b<;>try exact bx e
  have e':=Res.kJ e;obtain⟨l,xs,rfl,ee,rr⟩:=p.gQ;cases q;obtain⟨w,h1,h2⟩:=rr.atI e';exact aHu value slice pins s σ H _ _ v u Q I rx ry ⟨l,xs,_,w,rfl,rfl,.of ee,h1,k.self h2 λz=>by cases z⟩ hs
 |lst ys=>
  cases b<;>try exact bx e
  have e':=Res.kJ e;obtain⟨l,xs,rfl,ee,rr⟩:=p.jR;cases q;obtain⟨w,h1,h2⟩:=rr.atI e';exact KN value slice pins s σ H _ _ v u Q I rx ry ⟨l,xs,_,w,rfl,rfl,ee,h1,k.self h2 λz=>by cases z⟩ hs
 |cel ca ys=>
  cases b<;>try exact bx e
  have e':=Res.kJ e;obtain⟨_,rfl,ee,pp,rr⟩:=p.inv;cases q;obtain⟨w,h1,h2⟩:=rr.atI e';exact KN value slice pins s σ H _ _ v u Q I rx ry ⟨_,_,_,w,rfl,rfl,.inl (.inl ee),h1,k.self h2 λz=>by cases z⟩ hs
 |scr ys=>
  cases b<;>try exact bx e
  have e':=Res.kJ e;obtain⟨_,_,rfl,ee,rr⟩:=p.inv;cases q;obtain⟨w,h1,h2⟩:=rr.atI e';exact KN value slice pins s σ H _ _ v u Q I rx ry ⟨_,_,_,w,rfl,rfl,ee.sq hK,h1,k.self h2 λz=>by cases z⟩ hs
 |str z=>
  cases b<;>try exact bx e
  rename_i i;replace e:(if decide (z.length<=lim) then Res.ofOpt (((ixD z.cps.toList.length i).bind λj=>z.cps.toList[j]?).map λc=>D.str ⟨#[c]⟩) else .bad)=.ok d:=e;split at e
  ·rename_i hl;have e':=Res.kJ e;obtain⟨cc,h1,h2⟩:=Option.map_eq_some_iff.mp e';subst h2;cases p;cases q;exact aHv value slice pins s σ H _ _ v u Q I rx ry ⟨z,_,cc,rfl,rfl,uV hl,h1,k.str⟩ hs
  ·cases e
 |dct kvs=>
  have e':keyOk b=true/\cL kvs b=some d:=by
   replace e:(if keyOk b then Res.ofOpt (cL kvs b) else .bad)=.ok d:=by cases b<;>exact e
   split at e
   ·rename_i hl;exact⟨hl,Res.kJ e⟩
   ·exact bx e
  obtain⟨H1,a1,o,rfl,I1,bk,g,hc⟩:=aF5 I p q (aBo p e'.1 e'.2);cases rx;rcases hc with ⟨rfl,h2⟩|⟨w,dd,rfl,h2,h3⟩
  ·rw[h2] at e';cases e'.2
  ·rw[h2] at e';cases e'.2;exact G4 hu I1 g ry hs bk (k.self h3 λz=>by cases z)
 |fdc kvs=>
  have e':keyOk b=true/\cL kvs b=some d:=by
   replace e:(if keyOk b then Res.ofOpt (cL kvs b) else .bad)=.ok d:=by cases b<;>exact e
   split at e
   ·rename_i hl;exact⟨hl,Res.kJ e⟩
   ·exact bx e
  obtain⟨a1,w,rfl,g,h3⟩:=aLb p q e'.1 e'.2;cases rx;exact G4 hu I g ry hs (λ_ h=>h) (k.self h3 λz=>by cases z)
 |_=>cases b<;>exact bx e
theorem bV{X:Cx}{a b:Expr}{pos:Pos}{fa fb:FE}{ra rb:Bool}(ha:PE X a (gE fa ra))(hb:PE X b (gE fb rb))(hK:KFrag.K=X.K:=by assumption)(hu:X.A.units+20<cLine:=by assumption)(hs:KJ b:=by exact λ_ _=>rfl):PE X (.Subscript a b pos) (gE (b2 getD fa fb) false):=aL6 (aLc hK hu) ha hb hs
noncomputable def gO(f:List D->Res (Option Int)):TO:=λσ H Q=>∃ρ i,ER H σ ρ/\f ρ=.ok i/\∀H',dG H H'->Q i H'
theorem PO.imp{X:Cx}{e:Option PySem.Expr}{t t':TO}(h:PO X e t)(i:∀σ H Q,t' σ H Q->t σ H Q):PO X e t':=λpins s σ H Q I q=>h pins s σ H Q I (i σ H Q q)
theorem tL(ha:PE X a (gE fa ra)):PO X (some a) (gO (vJ fa)):=PO.imp (aEk ha) λσ H Q z0=>by
 obtain⟨ρ,i,E,h,q⟩:=z0;obtain⟨x,h1,h⟩:=aX h;obtain⟨j,h2,h⟩:=aX h;cases h;have e:=aIg h2;subst e;exact⟨ρ,_,E,h1,λv H' s r _=>by cases r;exact⟨j,rfl,q H' s⟩⟩
theorem aDe(n d:Nat)(o:Option Int):HT.sIx n d o=aAn n d o:=by
 cases o with
 |none=>rfl
 |some v=>
  show(if v<0 then (v+(n:Int)).toNat else min v.toNat n)=(if v<0 then (max (v+(n:Int)) 0).toNat else (min v (n:Int)).toNat);split<;>lia
theorem bT.cut(r:bT P H xs ds)(lo hi:Option Int):bT P H (V0 xs lo hi) (cutD ds lo hi):=by
 unfold V0 cutD;rw[r.length];simp only[aDe];exact(r.drop _).take _
theorem rG:D.aY ds=true↔∀d∈ds,d.pure=true:=by
 induction ds with
 |nil=>simp[D.aY]
 |cons d ds ih=>rw[D.aY,Bool.and_eq_true,ih];simp
def rSl:V->Option Int->Option Int->Hp->VK->Prop:=λx lo hi H Q=>∃a d,Rep All H x a/\aAo a lo hi=.ok d/\kR H d true Q
theorem aLd(hK:KFrag.K=X.K):SlR X rSl:=by
 rintro pins s σ H x v vl vu lo hi sl Q I rx hs pl pu ⟨a,d,p,e,k⟩;cases a<;>simp only[aAo] at e<;>(try (cases e;done))
 ·split at e
  ·cases e
  ·rename_i hw;cases e;obtain⟨l,xs,rfl,ee,rr⟩:=p.gQ;refine aHt pins s σ H _ v vl vu lo hi sl Q I rx hs pl pu ⟨l,xs,rfl,.of ee,?_,λp hp=>?_⟩
   ·simp only[aDe,rr.length];simp only[Bool.not_eq_true',Bool.or_eq_true,not_or,Bool.not_eq_false',decide_eq_true_eq] at hw;exact hw.2
   ·have sp:dG H (upd H p (.tup (V0 xs lo hi))):=dG.upd hp;have hp2:D.aY ‹List D›=true:=by
     simp only[Bool.or_eq_true,not_or,Bool.not_eq_true'] at hw;simpa using hw.1
    exact k _ _ sp (.tup aO ((rr.cut lo hi).same sp)) λz=>.tup aO (((rr.bN hp2).cut lo hi).same sp)
 ·split at e
  ·rename_i hl;cases e;obtain⟨l,xs,rfl,ee,rr⟩:=p.jR;refine V1 pins s σ H _ v vl vu lo hi sl Q I rx hs pl pu ⟨l,xs,rfl,ee,λp hp=>?_⟩;have sp:dG H (upd H p (.lst (V0 xs lo hi))):=dG.upd hp;exact k _ _ sp (.lst aO trivial ((rr.cut lo hi).same sp)) λz=>.lst aO hp (((rr.bN hl).cut lo hi).same sp)
  ·cases e
 ·split at e
  ·rename_i hl;cases e;cases p with
   |@frz l xs ds ee rr=>
    refine V1 pins s σ H _ v vl vu lo hi sl Q I rx hs pl pu ⟨l,xs,rfl,ee.sq hK,λp hp=>?_⟩;have sp:dG H (upd H p (.lst (V0 xs lo hi))):=dG.upd hp;exact k _ _ sp (.lst aO trivial ((rr.cut lo hi).same sp)) λz=>.lst aO hp (((rr.bN hl).cut lo hi).same sp)
  ·cases e
theorem aF6{lo hi:Option Expr}(hK:KFrag.K=X.K)(he:PE X e (gE fe re))(hl:PO X lo (gO fl))(hh:PO X hi (gO fh)):PE X (.Subscript e (.Slice lo hi none p2) pos) (gE (aBd fe fl fh) true):=
 PE.imp (aB1 (aLd hK) he hl hh) λσ H Q z0=>by
  obtain⟨ρ,d,E,h,q⟩:=z0;obtain⟨x,h1,h⟩:=aX h;obtain⟨l,h2,h⟩:=aX h;obtain⟨u,h3,h⟩:=aX h;exact⟨ρ,x,E,h1,λv H1 s1 r1 _=>⟨ρ,l,E.same s1,h2,λH2 s2=>⟨ρ,u,E.same (s1.trans s2),h3,λH3 s3=>⟨x,d,r1.same (s2.trans s3),h,q.imp ((s1.trans s2).trans s3) id⟩⟩⟩⟩
end
end Mi
namespace PySem.Mm
open PySem
noncomputable def wdL:Bool->String
 |false=>"min.loop"
 |true=>"max.loop"
noncomputable def wdO:Bool->CmpOp
 |false=>.Lt
 |true=>.Gt
section
variable {prog:Program} {w:World} {A:Around} {R:Result->Shared->Prop} {I S:Addr} {fp wr:List Addr} {n:Nat} {P:Nat->Value->Prop} {St:Nat->Heap->Prop} {bt:Nat->Nat->Bool} {Gd:Shared->Prop} {op:CmpOp}
structure aIl(prog:Program)(w:World)(A:Around)(op:CmpOp)(P:Nat->Value->Prop)(bt:Nat->Nat->Bool)(wr:List Addr)(top:Nat)(Gd:Shared->Prop):Prop where
 keep:∀s h' tk,Gd s->(∀b o,b∉wr->b<top->s.heap.get? b=some o->h'.get? b=some o)->Gd {s with heap:=h',toks:=tk}
 says:∀i j vi vj s Q E,Gd s->P i vi->P j vj->Q (.bool (bt i j)) s->wpAny (model prog w) A (richCompare op vi vj) Q E s
def aMj(P:Nat->Value->Prop)(bt:Nat->Nat->Bool)(n:Nat):Nat->Array Value->Prop
 |0,a=>a=#[]/\0<n
 |j+1,a=>∃v,a=#[v,v]/\P (argBest bt j) v
theorem touched(J:aIl prog w A op P bt wr S Gd){s:Shared}{f:Array Value->Array Value}(g:Gd s):Gd {s with heap:=s.heap.update S (Obj.mapSeq f)}:=
 J.keep s _ s.toks g λb o _ hb e=>(Heap.get?_update_other _ _ (Nat.ne_of_gt hb)).trans e
theorem turn(m:Bool)(W:Walks prog w A.in1 I fp wr n P St)(hS:S∉fp)(J:aIl prog w A.in1 (wdO m) P bt wr S Gd):∀(k j:Nat)(s:Shared)(a:Array Value)(c:Nat),j+k=n->St j s.heap->Gd s->aMj P bt n j a->
  s.heap.get? S=some {cls:=.type "list",dict:=none,data:=.seq a c,slots:=#[]}->
  (∀v h' tk,P (argBest bt (n-1)) v->(∀b o,b∉wr->b≠S->s.heap.get? b=some o->h'.get? b=some o)->R (.ok (.ret v)) {s with heap:=h',toks:=tk})->
  codeAny (model prog w) A (.builtin (wdL m) ⟨[.ref I,.none,.ref S],[]⟩) R s:=by
 have off:S∉wr:=λh=>hS (W.sub _ h)
 have still:∀{j:Nat}{h:Heap}{f:Array Value->Array Value},St j h->St j (h.update S (Obj.mapSeq f)):=λst=>
  W.frame _ _ _ st λb hb o e=>(Heap.get?_update_other _ _ λz:S=b=>hS (z▸hb)).trans e
 intro k;induction k with
 |zero=>
  intro j s a c hj st g hb hs fin;have hjn:j=n:=hj;subst hjn;cases j with
  |zero=>exact absurd hb.2 (Nat.lt_irrefl 0)
  |succ j=>
   obtain⟨v,rfl,hv⟩:=hb;have last:∀(h':Heap)(tk:Nat),(∀b o,b∉wr->s.heap.get? b=some o->h'.get? b=some o)->R (.ok (.ret v)) {s with heap:=h'.update S (Obj.mapSeq λ_=>#[]),toks:=tk}:=λh' tk kp=>
    fin v _ tk hv λb o h1 h2 e=>(Heap.get?_update_other _ _ (Ne.symm h2)).trans (kp b o h1 e)
   cases m
   ·show codeAny (model prog w) A (.builtin "min.loop" ⟨[.ref I,.none,.ref S],[]⟩) R s;refine codeAny_builtin F.entry_min_loop ?_;rw[Around.under_plainId F.plain_min_loop];refine wpAny_bind (m:=seqItems? (.ref S)) (wpAny_seqItems hs rfl ?_);refine wpAny_bind (wpAny_tryCatch (m:=pyNext (.ref I)) (W.done s _ _ st λh' tk kp=>?_));exact wpAny_bind (m:=updateSeq S _) (wpAny_updateSeq (kp S _ off hs) rfl (wpAny_bind (wpAny_letGo (wpAny_pure (last h' tk kp)))))
   ·show codeAny (model prog w) A (.builtin "max.loop" ⟨[.ref I,.none,.ref S],[]⟩) R s;refine codeAny_builtin F.entry_max_loop ?_;rw[Around.under_plainId F.plain_max_loop];refine wpAny_bind (m:=seqItems? (.ref S)) (wpAny_seqItems hs rfl ?_);refine wpAny_bind (wpAny_tryCatch (m:=pyNext (.ref I)) (W.done s _ _ st λh' tk kp=>?_));exact wpAny_bind (m:=updateSeq S _) (wpAny_updateSeq (kp S _ off hs) rfl (wpAny_bind (wpAny_letGo (wpAny_pure (last h' tk kp)))))
 |succ k ih=>
  intro j s a c hj st g hb hs fin;have hjn:j<n:=by lia
  /- what is left to do behind the list's change,or without one -/
  have on:∀(v:Value)(h':Heap)(tk:Nat),P j v->St (j+1) h'->(∀b o,b∉wr->s.heap.get? b=some o->h'.get? b=some o)->(∀(a':Array Value)(c':Nat)(h2:Heap),aMj P bt n (j+1) a'->h2.get? S=some {cls:=.type "list",dict:=none,data:=.seq a' c',slots:=#[]}->(h2=h'\/∃f:Array Value->Array Value,h2=h'.update S (Obj.mapSeq f))->
    codeAny (model prog w) A (.builtin (wdL m) ⟨[.ref I,.none,.ref S],[]⟩) R {s with heap:=h2,toks:=tk}):=by
   intro v h' tk _ st' kp a' c' h2 hb' hs' hh;have g':Gd {s with heap:=h',toks:=tk}:=J.keep s h' tk g λb o h1 _ e=>kp b o h1 e
   rcases hh with rfl|⟨f,rfl⟩
   ·exact ih (j+1) _ a' c' (by lia) st' g' hb' hs' λu h3 t3 hu k3=>fin u h3 t3 hu λb o h1 h2 e=>k3 b o h1 h2 (kp b o h1 e)
   ·exact ih (j+1) _ a' c' (by lia) (still st') (touched J g') hb' hs' λu h3 t3 hu k3=>fin u h3 t3 hu λb o h1 h2 e=>k3 b o h1 h2 ((Heap.get?_update_other _ _ (Ne.symm h2)).trans (kp b o h1 e))
  have nmn:(toString "min" ++ toString ".loop" : String)="min.loop":=by decide
  have nmx:(toString "max" ++ toString ".loop" : String)="max.loop":=by decide
  cases j with
  |zero=>
   obtain⟨rfl,_⟩:=hb;cases m
   ·show codeAny (model prog w) A (.builtin "min.loop" ⟨[.ref I,.none,.ref S],[]⟩) R s;refine codeAny_builtin F.entry_min_loop ?_;rw[Around.under_plainId F.plain_min_loop];refine wpAny_bind (m:=seqItems? (.ref S)) (wpAny_seqItems hs rfl ?_);refine wpAny_bind (wpAny_tryCatch (m:=pyNext (.ref I)) (W.item 0 s _ _ hjn st λv h' tk pv st' kp=>?_));have hs':=kp S _ off hs;refine wpAny_bind (m:=updateSeq S _) (wpAny_updateSeq hs' rfl ?_);rw[nmn];exact wpAny_pure ⟨plainId_quiet F.plain_min_loop _,on v h' tk pv st' kp #[v,v] _ _ ⟨v,rfl,pv⟩ (Heap.get?_update_self _ hs' rfl) (.inr ⟨_,rfl⟩)⟩
   ·show codeAny (model prog w) A (.builtin "max.loop" ⟨[.ref I,.none,.ref S],[]⟩) R s;refine codeAny_builtin F.entry_max_loop ?_;rw[Around.under_plainId F.plain_max_loop];refine wpAny_bind (m:=seqItems? (.ref S)) (wpAny_seqItems hs rfl ?_);refine wpAny_bind (wpAny_tryCatch (m:=pyNext (.ref I)) (W.item 0 s _ _ hjn st λv h' tk pv st' kp=>?_));have hs':=kp S _ off hs;refine wpAny_bind (m:=updateSeq S _) (wpAny_updateSeq hs' rfl ?_);rw[nmx];exact wpAny_pure ⟨plainId_quiet F.plain_max_loop _,on v h' tk pv st' kp #[v,v] _ _ ⟨v,rfl,pv⟩ (Heap.get?_update_self _ hs' rfl) (.inr ⟨_,rfl⟩)⟩
  |succ j=>
   obtain⟨u,rfl,hu⟩:=hb;cases m
   ·show codeAny (model prog w) A (.builtin "min.loop" ⟨[.ref I,.none,.ref S],[]⟩) R s;refine codeAny_builtin F.entry_min_loop ?_;rw[Around.under_plainId F.plain_min_loop];refine wpAny_bind (m:=seqItems? (.ref S)) (wpAny_seqItems hs rfl ?_);refine wpAny_bind (wpAny_tryCatch (m:=pyNext (.ref I)) (W.item (j+1) s _ _ hjn st λv h' tk pv st' kp=>?_));have hs':=kp S _ off hs;refine wpAny_bind (wpAny_pure ?_);refine wpAny_bind (wpAny_tryCatch (wpAny_holding (wpAny_bind (m:=richCompare .Lt v u) (J.says (j+1) (argBest bt j) v u _ _ _ (J.keep s h' tk g λb o h1 _ e=>kp b o h1 e) pv hu ?_))));refine wpAny_bind (wpAny_holding (wpAny_truthy_bool (wpAny_bind (wpAny_letGo (wpAny_pure ?_)))));cases hx:bt (j+1) (argBest bt j)
    ·rw[if_neg Bool.false_ne_true];refine wpAny_bind (wpAny_letGo ?_);rw[nmn];exact wpAny_pure ⟨plainId_quiet F.plain_min_loop _,on v h' tk pv st' kp _ _ _ ⟨u,rfl,by rw[argBest,hx];exact hu⟩ hs' (.inl rfl)⟩
    ·rw[if_pos rfl];refine wpAny_bind (m:=updateSeq S _) (wpAny_updateSeq hs' rfl (wpAny_bind (wpAny_letGo ?_)));rw[nmn];exact wpAny_pure ⟨plainId_quiet F.plain_min_loop _,on v h' tk pv st' kp #[v,v] _ _ ⟨v,rfl,by rw[argBest,hx];exact pv⟩ (Heap.get?_update_self _ hs' rfl) (.inr ⟨_,rfl⟩)⟩
   ·show codeAny (model prog w) A (.builtin "max.loop" ⟨[.ref I,.none,.ref S],[]⟩) R s;refine codeAny_builtin F.entry_max_loop ?_;rw[Around.under_plainId F.plain_max_loop];refine wpAny_bind (m:=seqItems? (.ref S)) (wpAny_seqItems hs rfl ?_);refine wpAny_bind (wpAny_tryCatch (m:=pyNext (.ref I)) (W.item (j+1) s _ _ hjn st λv h' tk pv st' kp=>?_));have hs':=kp S _ off hs;refine wpAny_bind (wpAny_pure ?_);refine wpAny_bind (wpAny_tryCatch (wpAny_holding (wpAny_bind (m:=richCompare .Gt v u) (J.says (j+1) (argBest bt j) v u _ _ _ (J.keep s h' tk g λb o h1 _ e=>kp b o h1 e) pv hu ?_))));refine wpAny_bind (wpAny_holding (wpAny_truthy_bool (wpAny_bind (wpAny_letGo (wpAny_pure ?_)))));cases hx:bt (j+1) (argBest bt j)
    ·rw[if_neg Bool.false_ne_true];refine wpAny_bind (wpAny_letGo ?_);rw[nmx];exact wpAny_pure ⟨plainId_quiet F.plain_max_loop _,on v h' tk pv st' kp _ _ _ ⟨u,rfl,by rw[argBest,hx];exact hu⟩ hs' (.inl rfl)⟩
    ·rw[if_pos rfl];refine wpAny_bind (m:=updateSeq S _) (wpAny_updateSeq hs' rfl (wpAny_bind (wpAny_letGo ?_)));rw[nmx];exact wpAny_pure ⟨plainId_quiet F.plain_max_loop _,on v h' tk pv st' kp #[v,v] _ _ ⟨v,rfl,by rw[argBest,hx];exact pv⟩ (Heap.get?_update_self _ hs' rfl) (.inr ⟨_,rfl⟩)⟩
end
section
variable {prog:Program} {w:World} {A:Around} {E:Value->Shared->Prop} {s:Shared} {Q:Value->Shared->Prop}
abbrev Seen(prog:Program)(w:World)(A:Around)(op:CmpOp)(Q:Value->Shared->Prop)(it:Value)(t:Shared):Prop:=
 ∃(I:Addr)(fp wr:List Addr)(n:Nat)(P:Nat->Value->Prop)(St:Nat->Heap->Prop)(bt:Nat->Nat->Bool),it=.ref I/\Walks prog w A I fp wr n P St/\St 0 t.heap/\(∀b∈fp,b<t.heap.objs.size)/\0<n/\
  (∃Gd:Shared->Prop,Gd t/\(∀s h' tk,Gd s->(∀b o,b∉wr->b<t.heap.objs.size->s.heap.get? b=some o->h'.get? b=some o)->Gd {s with heap:=h',toks:=tk})/\
   ∀i j vi vj s Q E,Gd s->P i vi->P j vj->Q (.bool (bt i j)) s->wpAny (model prog w) A (richCompare op vi vj) Q E s)/\
  ∀v h' tk,P (argBest bt (n-1)) v->(∀b o,b∉wr->t.heap.get? b=some o->h'.get? b=some o)->Q v {t with heap:=h',toks:=tk}
theorem begun(m:Bool){it:Value}{t:Shared}{R:Result->Shared->Prop}(hR:∀v s,Q v s->R (.ok (.ret v)) s)(h:Seen prog w A.in1 (wdO m) Q it t) :
  codeAny (model prog w) A (.builtin (wdL m) ⟨[it,.none,.ref t.heap.objs.size],[]⟩) R {t with heap:=t.heap.push {cls:=.type "list",data:=.seq #[]}}:=by
 obtain⟨I,fp,wr,n,P,St,bt,rfl,W,st,hfp,hn,⟨Gd,g,gk,gs⟩,q⟩:=h;have up:∀b o,t.heap.get? b=some o->(t.heap.push {cls:=.type "list",data:=.seq #[]}).get? b=some o:=λb o e=>Heap.get?_push_of_some _ e
 refine turn m W (λz=>Nat.lt_irrefl _ (hfp _ z)) ⟨gk,gs⟩ n 0 _ #[] _ (Nat.zero_add n) (W.frame _ _ _ st λb _ o e=>up b o e) (gk t _ t.toks g λb o _ _ e=>up b o e) ⟨rfl,hn⟩ (Heap.get?_push_size _ rfl) λv h' tk hv kp=>?_
 exact hR _ _ (q v h' tk hv λb o h1 e=>kp b o h1 (Nat.ne_of_lt (Heap.lt_size e)) (up b o e))
theorem G5{x:Value}(h:wpAny (model prog w) A.in1 (pyIter x) (Seen prog w A.in1 .Lt Q) E s):wpAny (model prog w) A (call (.builtin "min") [x]) Q E s:=by
 have nmn:(toString "min" ++ toString ".loop" : String)="min.loop":=by decide
 refine call_function_tree F.kind_min F.plain_min F.entry_min (F.args_min1 _) ?_;refine wpAny_bind (m:=Builtin.Builtins.bindParams "min" ["key","default"] 0 ⟨[],[]⟩) (wpAny_of_eq (a:=[none,none]) rfl ?_);refine wpAny_bind (wpAny_pure (wpAny_bind (wpAny_mono h (λit t ht=>wpAny_bind (wpAny_newObj_type ?_)) λ_ _ e=>e)));rw[nmn];exact wpAny_pure ⟨plainId_quiet F.plain_min_loop _,begun false (λ_ _ q=>q) ht⟩
theorem G6{x:Value}(h:wpAny (model prog w) A.in1 (pyIter x) (Seen prog w A.in1 .Gt Q) E s):wpAny (model prog w) A (call (.builtin "max") [x]) Q E s:=by
 have nmx:(toString "max" ++ toString ".loop" : String)="max.loop":=by decide
 refine call_function_tree F.kind_max F.plain_max F.entry_max (F.args_max1 _) ?_;refine wpAny_bind (m:=Builtin.Builtins.bindParams "max" ["key","default"] 0 ⟨[],[]⟩) (wpAny_of_eq (a:=[none,none]) rfl ?_);refine wpAny_bind (wpAny_pure (wpAny_bind (wpAny_mono h (λit t ht=>wpAny_bind (wpAny_newObj_type ?_)) λ_ _ e=>e)));rw[nmx];exact wpAny_pure ⟨plainId_quiet F.plain_max_loop _,begun true (λ_ _ q=>q) ht⟩
theorem MT{a b:Value}(h:wpAny (model prog w) A.in1 (pyIter (.ref s.heap.objs.size)) (Seen prog w A.in1 .Lt Q) E {s with heap:=s.heap.push {cls:=.type "tuple",data:=.seq #[a,b]}}):wpAny (model prog w) A (call (.builtin "min") [a,b]) Q E s:=by
 have nmn:(toString "min" ++ toString ".loop" : String)="min.loop":=by decide
 refine call_function_tree F.kind_min F.plain_min F.entry_min (F.args_min2 _ _) ?_;refine wpAny_bind (m:=Builtin.Builtins.bindParams "min" ["key","default"] 0 ⟨[],[]⟩) (wpAny_of_eq (a:=[none,none]) rfl ?_);refine wpAny_bind (m:=newTuple [a,b]) (wpAny_newObj_type (wpAny_bind (wpAny_mono h (λit t ht=>wpAny_bind (wpAny_newObj_type ?_)) λ_ _ e=>e)));rw[nmn];exact wpAny_pure ⟨plainId_quiet F.plain_min_loop _,begun false (λ_ _ q=>q) ht⟩
theorem M3{a b:Value}(h:wpAny (model prog w) A.in1 (pyIter (.ref s.heap.objs.size)) (Seen prog w A.in1 .Gt Q) E {s with heap:=s.heap.push {cls:=.type "tuple",data:=.seq #[a,b]}}):wpAny (model prog w) A (call (.builtin "max") [a,b]) Q E s:=by
 have nmx:(toString "max" ++ toString ".loop" : String)="max.loop":=by decide
 refine call_function_tree F.kind_max F.plain_max F.entry_max (F.args_max2 _ _) ?_;refine wpAny_bind (m:=Builtin.Builtins.bindParams "max" ["key","default"] 0 ⟨[],[]⟩) (wpAny_of_eq (a:=[none,none]) rfl ?_);refine wpAny_bind (m:=newTuple [a,b]) (wpAny_newObj_type (wpAny_bind (wpAny_mono h (λit t ht=>wpAny_bind (wpAny_newObj_type ?_)) λ_ _ e=>e)));rw[nmx];exact wpAny_pure ⟨plainId_quiet F.plain_max_loop _,begun true (λ_ _ q=>q) ht⟩
end
end PySem.Mm
namespace Mi
open PySem L2 PySem.SeqAt PySem.Spec PyProof.Rows
variable [KFrag]
theorem G7(o:gW)(x:D)(xs:List D):∀k,k<=xs.length->(xs.take k).foldl (λm y=>if (iU o y m).getD false then y else m) x=(x::xs).getD (argBest (btD o (x::xs)) k) .non
 |0,_=>by simp[argBest]
 |k+1,h=>by
  have ih:=G7 o x xs k (by lia);have hk:k<xs.length:=by lia
  rw[List.take_succ_eq_append_getElem hk,List.foldl_append,ih];have e:(x::xs).getD (k+1) .non=xs[k]:=by simp[hk]
  have hb:btD o (x::xs) (k+1) (argBest (btD o (x::xs)) k)=(iU o xs[k] ((x::xs).getD (argBest (btD o (x::xs)) k) .non)).getD false:=by unfold btD;rw[e]
  show(if (iU o xs[k] ((x::xs).getD (argBest (btD o (x::xs)) k) .non)).getD false then xs[k] else (x::xs).getD (argBest (btD o (x::xs)) k) .non)=(x::xs).getD (if btD o (x::xs) (k+1) (argBest (btD o (x::xs)) k) then k+1 else argBest (btD o (x::xs)) k) .non;rw[<-hb];cases btD o (x::xs) (k+1) (argBest (btD o (x::xs)) k) with
  |true=>rw[if_pos rfl,if_pos rfl,e]
  |false=>rw[if_neg (by simp),if_neg (by simp)]
section
variable {X:Cx} {pins:List (Addr×Obj)} {σ:L2.St} {H:Hp} {s:Shared}
def Gds(s:Shared)(s':Shared):Prop:=∃h' tk,s'={s with heap:=h',toks:=tk}/\∀b o,s.heap.get? b=some o->h'.get? b=some o
theorem zM(I:Inv X pins σ H s)(hu:X.A.units+20<cLine){o:gW}{xs:List V}{ds:List D}{its:List Value}{d:D}(r:bT All H xs ds)(vr:Vals xs its)(h:mR o ds=.ok d)(i j:Nat)(vi vj:Value)(s':Shared)(Q:Value->Shared->Prop)(E:Value->Shared->Prop)
 (g:Gds s s')(hi:its.toArray[i]?=some vi)(hj:its.toArray[j]?=some vj)(q:Q (.bool (btD o ds i j)) s'):wpAny (model X.prog X.w) X.A.in1 (richCompare o.op vi vj) Q E s':=by
 obtain⟨h',tk,rfl,hk⟩:=g;have I':Inv X pins σ H {s with heap:=h',toks:=tk}:=I.kept hk;have hi':its[i]?=some vi:=by simpa using hi
 have hj':its[j]?=some vj:=by simpa using hj
 have at_:∀{i:Nat}{v:Value},its[i]?=some v->∃d w,ds.getD i .non=d/\d∈ds/\RelV w v/\Rep All H w d:=by
  intro i v hv;have hlt:i<its.length:=(List.getElem?_eq_some_iff.mp hv).1;have hlt':i<ds.length:=by rw[<-r.length,vr.length];exact hlt
  obtain⟨w,h1,h2⟩:=r.get (i:=i) (d:=ds[i]) (by simp[hlt']);obtain⟨u,h3,h4⟩:=vr.get h1;rw[hv] at h3;cases h3;exact⟨ds[i],w,by simp[hlt'],List.getElem_mem _,h4,h2⟩
 obtain⟨d1,w1,e1,m1,v1,r1⟩:=at_ hi';obtain⟨d2,w2,e2,m2,v2,r2⟩:=at_ hj';cases ds with
 |nil=>cases m1
 |cons x xs'=>
  simp only[mR] at h;split at h
  ·rename_i hall;have h1:=List.all_eq_true.mp hall d1 m1;have h2:=List.all_eq_true.mp hall d2 m2;rw[Bool.and_eq_true] at h1 h2;obtain⟨k,hk⟩:=Option.isSome_iff_exists.mp (List.all_eq_true.mp h1.2 d2 m2);have:btD o (x::xs') i j=k:=by unfold btD;rw[e1,e2,hk];rfl
   rw[this] at q;exact MN I' o aN X.A.in1 (by show X.A.units+1+12<cLine;lia) h1.1 h2.1 r1 r2 v1 v2 hk X.prog X.w E Q q
  ·exact bx h
theorem M4{o:gW}{xs:List V}{ds:List D}{its:List Value}{d:D}(r:bT All H xs ds)(vr:Vals xs its)(h:mR o ds=.ok d){v:Value}(hv:its.toArray[argBest (btD o ds) (its.length-1)]?=some v):∃w,RelV w v/\Rep All H w d:=by
 have hv':its[argBest (btD o ds) (its.length-1)]?=some v:=by simpa using hv
 cases ds with
 |nil=>exact bx h
 |cons x xs'=>
  simp only[mR] at h;split at h
  ·cases h;have hl:its.length-1=xs'.length:=by rw[<-vr.length,r.length];simp
   rw[hl] at hv';have fb:=G7 o x xs' xs'.length (Nat.le_refl _);rw[List.take_length] at fb;have hlt:argBest (btD o (x::xs')) xs'.length<its.length:=(List.getElem?_eq_some_iff.mp hv').1;have hlt':argBest (btD o (x::xs')) xs'.length<(x::xs').length:=by rw[<-r.length,vr.length];exact hlt
   obtain⟨w,h1,h2⟩:=r.get (i:=argBest (btD o (x::xs')) xs'.length) (d:=(x::xs')[argBest (btD o (x::xs')) xs'.length]) (by simp[hlt']);obtain⟨u,h3,h4⟩:=vr.get h1;rw[hv'] at h3;cases h3;refine⟨w,h4,?_⟩;rw[fb,List.getD_eq_getElem?_getD,List.getElem?_eq_getElem hlt'];exact h2
  ·exact bx h
theorem Gds.grow{s':Shared}{h1:Heap}{tk1:Nat}(g:Gds s s'){wq:List Addr}{n:Nat}(hw:∀b∈wq,s.heap.objs.size<=b)(hn:s.heap.objs.size<=n)
 (kk:∀b o,b∉wq->b<n->s'.heap.get? b=some o->h1.get? b=some o):Gds s {s' with heap:=h1,toks:=tk1}:=by
 obtain⟨h',tk,rfl,hk⟩:=g;refine⟨h1,tk1,rfl,λb o e=>kk b o (λhb=>?_) (Nat.lt_of_lt_of_le (Heap.lt_size e) hn) (hk b o e)⟩;exact absurd (Nat.lt_of_lt_of_le (Heap.lt_size e) (hw b hb)) (Nat.lt_irrefl _)
end
section
variable {X:Cx}
theorem QT{o:gW}{ds:List D}{d:D}(h:mR o ds=.ok d):0<ds.length:=by
 cases ds with
 |nil=>exact bx h
 |cons _ _=>simp
structure Mms(o:gW)(nm:String):Prop where
 walk:∀{prog:Program}{w:World}{A:Around}{Q:Value->Shared->Prop}{E:Value->Shared->Prop}{s:Shared}{x:Value},wpAny (model prog w) A.in1 (pyIter x) (Mm.Seen prog w A.in1 o.op Q) E s->wpAny (model prog w) A (call (.builtin nm) [x]) Q E s
 two:∀{prog:Program}{w:World}{A:Around}{Q:Value->Shared->Prop}{E:Value->Shared->Prop}{s:Shared}{a b:Value},wpAny (model prog w) A.in1 (pyIter (.ref s.heap.objs.size)) (Mm.Seen prog w A.in1 o.op Q) E {s with heap:=s.heap.push {cls:=.type "tuple",data:=.seq #[a,b]}}->wpAny (model prog w) A (call (.builtin nm) [a,b]) Q E s
theorem XH{o:gW}{nm:String}(M:Mms o nm)(hu:X.A.units+20<cLine)(hc:X.calm=true){pins:List (Addr×Obj)}{σ:L2.St}{H:Hp}{s:Shared}{l:Addr}{xs:List V}{ds:List D}{d:D}{Q:VK}(I:Inv X pins σ H s)(hl:SqL X.K H l xs)(r:bT All H xs ds)(h:mR o ds=.ok d)(q:kR H d false Q) :
  wpAny (model X.prog X.w) X.A (call (.builtin nm) [.ref l]) (EP X pins σ Q) X.xe s:=by
 obtain⟨its,vr,pl⟩:=mW I hl;have hlt:l<s.heap.objs.size:=by obtain⟨_,e,_⟩:=pl;exact Heap.lt_size e
 refine M.walk (wpAny_pyIter_list pl ?_);refine⟨_,_,_,_,_,_,btD o ds,rfl,Walks.list (A:=X.A.in1) (I.ok.hd hc) _ l (Nat.ne_of_lt hlt) its.toArray,⟨⟨_,Heap.get?_push_size _ rfl,rfl,rfl⟩,pl.push _⟩,λb hb=>?_,by rw[List.size_toArray,<-vr.length,r.length];exact QT h,⟨Gds s,⟨_,s.toks,rfl,λb o e=>Heap.get?_push_of_some _ e⟩,λs' h' tk g kk=>g.grow (wq:=[s.heap.objs.size]) (n:=s.heap.objs.size+1) (λb hb=>?_) (Nat.le_succ _) λb o h1 h2 e=>kk b o h1 (by show b<(s.heap.push _).objs.size;rw[Heap.size_push];exact h2) e,λi j vi vj s' Q E g h1 h2 q=>zM I hu r vr h i j vi vj s' Q E g h1 h2 q⟩,λv h' tk hP hk=>?_⟩
 ·show b<(s.heap.push _).objs.size;rw[Heap.size_push];rcases List.mem_cons.mp hb with rfl|hb
  ·exact Nat.lt_succ_self _
  ·rcases List.mem_cons.mp hb with rfl|hb
   ·exact Nat.lt_succ_of_lt hlt
   ·cases hb
 ·rcases List.mem_cons.mp hb with rfl|hb
  ·exact Nat.le_refl _
  ·cases hb
 ·obtain⟨w,v1,r1⟩:=M4 r vr h (by simpa using hP);refine⟨w,H,I.kept λb o e=>hk b o (λhb=>?_) (Heap.get?_push_of_some _ e),v1,q.self r1 λz=>by cases z⟩;rcases List.mem_cons.mp hb with rfl|hb
  ·exact absurd (Heap.lt_size e) (Nat.lt_irrefl _)
  ·cases hb
theorem XJ{o:gW}{nm:String}(M:Mms o nm)(hu:X.A.units+20<cLine)(hc:X.calm=true){pins:List (Addr×Obj)}{σ:L2.St}{H:Hp}{s:Shared}{l:Addr}{xs:List V}{ds:List D}{d:D}{Q:VK}(I:Inv X pins σ H s)(hl:H l=some (.tup xs))(r:bT All H xs ds)(h:mR o ds=.ok d)(q:kR H d false Q) :
  wpAny (model X.prog X.w) X.A (call (.builtin nm) [.ref l]) (EP X pins σ Q) X.xe s:=by
 obtain⟨its,vr,pl⟩:=gM I hl;have hlt:l<s.heap.objs.size:=by obtain⟨_,e,_⟩:=pl;exact Heap.lt_size e
 refine M.walk (wpAny_pyIter_tuple pl ?_);refine⟨_,_,_,_,_,_,btD o ds,rfl,Walks.tuple (A:=X.A.in1) (I.ok.hd hc) _ l (Nat.ne_of_lt hlt) its.toArray,⟨⟨_,Heap.get?_push_size _ rfl,rfl,rfl⟩,pl.push _⟩,λb hb=>?_,by rw[List.size_toArray,<-vr.length,r.length];exact QT h,⟨Gds s,⟨_,s.toks,rfl,λb o e=>Heap.get?_push_of_some _ e⟩,λs' h' tk g kk=>g.grow (wq:=[s.heap.objs.size]) (n:=s.heap.objs.size+1) (λb hb=>?_) (Nat.le_succ _) λb o h1 h2 e=>kk b o h1 (by show b<(s.heap.push _).objs.size;rw[Heap.size_push];exact h2) e,λi j vi vj s' Q E g h1 h2 q=>zM I hu r vr h i j vi vj s' Q E g h1 h2 q⟩,λv h' tk hP hk=>?_⟩
 ·show b<(s.heap.push _).objs.size;rw[Heap.size_push];rcases List.mem_cons.mp hb with rfl|hb
  ·exact Nat.lt_succ_self _
  ·rcases List.mem_cons.mp hb with rfl|hb
   ·exact Nat.lt_succ_of_lt hlt
   ·cases hb
 ·rcases List.mem_cons.mp hb with rfl|hb
  ·exact Nat.le_refl _
  ·cases hb
 ·obtain⟨w,v1,r1⟩:=M4 r vr h (by simpa using hP);refine⟨w,H,I.kept λb o e=>hk b o (λhb=>?_) (Heap.get?_push_of_some _ e),v1,q.self r1 λz=>by cases z⟩;rcases List.mem_cons.mp hb with rfl|hb
  ·exact absurd (Heap.lt_size e) (Nat.lt_irrefl _)
  ·cases hb
theorem XM{o:gW}{nm:String}(two:∀{prog:Program} {w:World} {A:Around} {Q:Value->Shared->Prop} {E:Value->Shared->Prop} {s:Shared} {a b:Value},wpAny (model prog w) A.in1 (pyIter (.ref s.heap.objs.size)) (Mm.Seen prog w A.in1 o.op Q) E {s with heap:=s.heap.push {cls:=.type "tuple",data:=.seq #[a,b]}}->wpAny (model prog w) A (call (.builtin nm) [a,b]) Q E s)(hu:X.A.units+20<cLine)(hc:X.calm=true){pins:List (Addr×Obj)}{σ:L2.St}{H:Hp}{s:Shared}{x y:V}{u w:Value}{a b d:D}{Q:VK}(I:Inv X pins σ H s)(rx:Rep All H x a)(ry:Rep All H y b)(ru:RelV x u)(rw':RelV y w)(h:mR o [a,b]=.ok d)(q:kR H d false Q) :
  wpAny (model X.prog X.w) X.A (call (.builtin nm) [u,w]) (EP X pins σ Q) X.xe s:=by
 have r:bT All H [x,y] [a,b]:=.cons rx (.cons ry .nil);have vr:Vals [x,y] [u,w]:=.cons ru (.cons rw' .nil);have pl:(s.heap.push {cls:=.type "tuple",data:=.seq #[u,w]}).IsTuple s.heap.objs.size [u,w].toArray:=⟨_,Heap.get?_push_size _ rfl,rfl,0,rfl⟩
 have hsz:(s.heap.push {cls:=.type "tuple",data:=.seq #[u,w]}).objs.size=s.heap.objs.size+1:=Heap.size_push ..;refine two (wpAny_pyIter_tuple pl ?_);refine⟨_,_,_,_,_,_,btD o [a,b],rfl,Walks.tuple (A:=X.A.in1) (I.ok.hd hc) _ s.heap.objs.size (by rw[hsz];exact Nat.ne_of_lt (Nat.lt_succ_self _)) [u,w].toArray,⟨⟨_,Heap.get?_push_size _ rfl,rfl,rfl⟩,pl.push _⟩,λb hb=>?_,by simp,⟨Gds s,⟨_,s.toks,rfl,λb o e=>Heap.get?_push_of_some _ (Heap.get?_push_of_some _ e)⟩,λs' h' tk g kk=>g.grow (wq:=[s.heap.objs.size+1]) (n:=s.heap.objs.size+2) (λb hb=>?_) (by lia) λb o h1 h2 e=>kk b o (by rw[hsz];exact h1) (by show b<((s.heap.push _).push _).objs.size;rw[Heap.size_push,hsz];exact h2) e,λi j vi vj s' Q E g h1 h2 q=>zM I hu r vr h i j vi vj s' Q E g h1 h2 q⟩,λv h' tk hP hk=>?_⟩
 ·show b<((s.heap.push _).push _).objs.size;rw[Heap.size_push,hsz];rcases List.mem_cons.mp hb with rfl|hb
  ·rw[hsz];exact Nat.lt_succ_self _
  ·rcases List.mem_cons.mp hb with rfl|hb
   ·exact Nat.lt_succ_of_lt (Nat.lt_succ_self _)
   ·cases hb
 ·rcases List.mem_cons.mp hb with rfl|hb
  ·lia
  ·cases hb
 ·obtain⟨w,v1,r1⟩:=M4 r vr h (by simpa using hP);refine⟨w,H,I.kept λb o e=>hk b o (λhb=>?_) (Heap.get?_push_of_some _ (Heap.get?_push_of_some _ e)),v1,q.self r1 λz=>by cases z⟩;rcases List.mem_cons.mp hb with hb|hb
  ·have:=Heap.lt_size e;rw[hb,hsz] at this;exact absurd this (Nat.not_lt.mpr (Nat.le_succ _))
  ·cases hb
theorem aIm{o:gW}{nm:String}(M:Mms o nm)(hu:X.A.units+20<cLine)(hc:X.calm=true):kE X (.builtin nm) (rs (fO o) false):=by
 rintro pins s σ H xs us Q I vr ⟨ds,d,r,e,k⟩;unfold fO at e;split at e
 ·cases r with
  |cons r t=>
   cases t;cases vr with
   |cons v vt=>
    cases vt;obtain⟨l,ys,rfl,hl,rr⟩:=r.jR (K:=X.K);cases v;exact XH M hu hc I hl rr e k
 ·cases r with
  |cons r t=>
   cases t;cases vr with
   |cons v vt=>
    cases vt;obtain⟨l,ys,rfl,hl,rr⟩:=r.gQ;cases v;exact XJ M hu hc I hl rr e k
 ·cases r with
  |cons r t=>
   cases t with
   |cons r' t=>
    cases t;cases vr with
    |cons v vt=>
     cases vt with
     |cons v' vt=>
      cases vt;exact XM M.two hu hc I r r' v v' e k
 ·exact bx e
theorem QV(hu:X.A.units+20<cLine)(hc:X.calm=true):kE X (.builtin "min") (rs (fO .lt) false):=aIm ⟨Mm.G5,Mm.MT⟩ hu hc
theorem XN(hu:X.A.units+20<cLine)(hc:X.calm=true):kE X (.builtin "max") (rs (fO .gt) false):=aIm ⟨Mm.G6,Mm.M3⟩ hu hc
end
end Mi
namespace PySem.Mm
open PySem PyProof.Rows PySem.W
theorem G8{K:Type}[DecidableEq K]{knd:KeyKind prog w K}{d:Addr}{kvs:List (K×Value)}{ep n:Nat}(hh:A.handled=none)(lo:(d==sysModules)=false)
 (hm:s.heap.DictAt knd d kvs ep)(hn:kvs.length=n)(hl:n<=2 ^ 24)
 (q:∀h' tk acc c,(∀b o,s.heap.get? b=some o->h'.get? b=some o)->h'.get? s.heap.objs.size=some {cls:=.type "list",dict:=none,data:=.seq acc c,slots:=#[]}->
   ItemsOf (λi v=>∃k x,kvs[i]?=some (k,x)/\knd.is k v=true) acc n->Q (.ref s.heap.objs.size) {s with heap:=h',toks:=tk}):wpAny (model prog w) A (call (.type "list") [.ref d]) Q E s:=by
 subst hn;exact kdl_call (kdl_dict lo) hh hm (kdl_size hl) q
end PySem.Mm
namespace Mi
open PySem L2 PySem.SeqAt PySem.Spec PyProof.Rows
section
variable [KFrag]
section
variable {a b e:Expr} {x:Str} {id T:String}
theorem jC(r:bT P H xs [d])(vr:Vals xs us):∃v u,xs=[v]/\us=[u]/\Rep P H v d/\RelV v u:=by
 cases r with
 |cons r t=>
  cases t;cases vr with
  |cons v vt=>
   cases vt;exact⟨_,_,rfl,rfl,r,v⟩
theorem QW{fr:Bool}(h:gE (aQ f fs) fr σ H Q):tCB (rs f fr) (gA fs rr) σ H Q:=by
 obtain⟨ρ,d,E,h,q⟩:=h;obtain⟨ds,h1,h2⟩:=aX h;exact⟨ρ,ds,E,h1,λvs H1 s1 r1 _=>⟨ds,d,r1,h2,q.imp s1 id⟩⟩
theorem aZ{fr:Bool}(hc:kE X (.builtin id) (rs f fr))(hg:Gl X x)(hm:X.mg x=none)(hv:bootBuiltins x=some (.builtin id))(ha:PA X (e::es) (gA fs rr))(hn:x ≠ "__name__":=by decide)(hdb:nDb x:=by decide)
 (he:starEach (e::es) X.env=(false,eval e X.env)::starEach es X.env:=by rfl)(hpl:(backTo pos (starEach es X.env)).any (·.1)=false:=by rfl):PE X (.Call (.Name x p) (e::es) [] pos) (gE (aQ f fs) fr):=
 PE.imp (PQ hc hg hm hv ha hn hdb he hpl) λ_ _ _=>QW
theorem g8{fr:Bool}(hc:kE X (.type T) (rs f fr))(hg:Gl X x)(hm:X.mg x=none)(hv:bootBuiltins x=some (.type T))(ha:PA X (e::es) (gA fs rr))(hn:x ≠ "__name__":=by decide)(hdb:nDb x:=by decide)
 (he:starEach (e::es) X.env=(false,eval e X.env)::starEach es X.env:=by rfl)(hpl:(backTo pos (starEach es X.env)).any (·.1)=false:=by rfl):PE X (.Call (.Name x p) (e::es) [] pos) (gE (aQ f fs) fr):=
 PE.imp (FJ hc hg hm hv ha hn hdb he hpl) λ_ _ _=>QW
theorem dY(hK:KFrag.K=X.K):kE X (.builtin "len") (rs gH true):=by
 rintro pins s σ H xs us Q I vr ⟨ds,d,r,e,k⟩;unfold gH at e;split at e
 ·cases e;obtain⟨vv,uu,rfl,rfl,r,v⟩:=jC r vr;obtain⟨l,ys,rfl,hl,rr⟩:=r.gQ;cases v;exact jJ pins s σ H [.ref l] [.ref l] Q I (.cons rfl .nil) ⟨l,ys,rfl,.inr (.of hl),by rw[rr.length];exact k.int⟩
 ·cases e;obtain⟨vv,uu,rfl,rfl,r,v⟩:=jC r vr;obtain⟨l,ys,rfl,hl,rr⟩:=r.jR;cases v;exact jJ pins s σ H [.ref l] [.ref l] Q I (.cons rfl .nil) ⟨l,ys,rfl,.inl hl,by rw[rr.length];exact k.int⟩
 ·cases e;obtain⟨vv,uu,rfl,rfl,r,v⟩:=jC r vr;cases r with
  |@frz l xs ds ee rr=>
   cases v;exact jJ pins s σ H [.ref l] [.ref l] Q I (.cons rfl .nil) ⟨l,xs,rfl,.inl (ee.sq hK),by rw[rr.length];exact k.int⟩
 ·cases e;obtain⟨vv,uu,rfl,rfl,r,v⟩:=jC r vr;obtain⟨_,rfl,ee,pp,rr⟩:=r.inv;cases v;exact jJ pins s σ H [.ref _] [.ref _] Q I (.cons rfl .nil) ⟨_,_,rfl,.inl (.inl (.inl ee)),by rw[rr.length];exact k.int⟩
 ·split at e
  ·rename_i hl;cases e;obtain⟨vv,uu,rfl,rfl,r,v⟩:=jC r vr;cases r.inv;exact FP pins s σ H _ _ Q I (.cons v .nil) ⟨_,rfl,uV hl,k.int⟩
  ·exact bx e
 ·exact bx e
theorem qR.keys:∀{kvs:List (Key×V)}{ds:List (D×D)},qR P H kvs ds->bT P' H (kvs.map λp=>kV p.1) (iJ ds)
 |_,_,.nil=>.nil
 |_,_,.cons (k:=k) _ t=>.cons (by cases k<;>first|exact .int _|exact .str _) t.keys
theorem list_dict(hc:X.calm=true)(I:Inv X pins σ H s)(e:H l=some (.dK kvs))
 (q:∀p s',H p=none->Inv X pins σ (upd H p (.lst (kvs.map λp=>kV p.1))) s'->(∀l0 o0,H l0=some o0->l0≠p)->Q (.ref p) s'):wpAny (model X.prog X.w) X.A (call (.type "list") [.ref l]) Q X.xe s:=by
 obtain⟨z,hd,vs,rel,dd⟩:=S5 I.hok e;obtain⟨ep,da⟩:=dd.dictAt;have hlen:kvs.length=vs.length:=Paired.length rel;refine Mm.G8 (I.ok.hd hc) hd da rfl (by rw[<-hlen];rw[sizeLine_eq] at z;lia) λh' tk acc' c' kp e1 it=>?_
 obtain⟨i1,i2⟩:=it;have hfr:H s.heap.objs.size=none:=I.hok.fresh (Nat.le_refl _);refine q _ _ hfr (I.laid kp (Nat.le_refl _) ?_) λl0 o0 h0=>fM h0 hfr
 refine⟨by rw[List.length_map];exact z,acc'.toList,c',?_,by simpa using e1⟩;have gen:∀(kvs:List (Key×V))(vs:List (Key×Value))(xs:List Value),KV kvs vs->xs.length=vs.length->(∀(j:Nat)(v:Value),xs[j]?=some v->∃k x,vs[j]?=some (k,x)/\(dR X.prog X.w).is k v=true)->Vals (kvs.map λp=>kV p.1) xs:=by
  intro kvs vs xs rel;induction rel generalizing xs with
  |nil=>intro hl _;cases xs with|nil=>exact .nil|cons _ _=>simp at hl
  |@cons p q ps qs hpq t ih=>
   intro hl g;cases xs with
   |nil=>simp at hl
   |cons x xs=>
    refine .cons ?_ (ih xs (by simpa using hl) λj v hv=>g (j+1) v (by simpa using hv));obtain⟨k,x',h1,h2⟩:=g 0 x rfl;have h1':q=(k,x'):=by simpa using h1
    show RelV (kV p.1) x;rw[hpq.1,h1'];rcases dB h2 with ⟨i,t,rfl,rfl⟩|⟨i,t,rfl,rfl⟩
    ·exact⟨t,rfl⟩
    ·exact⟨t,rfl⟩
 exact gen kvs vs acc'.toList rel (by simpa using i1) λj v hv=>i2 j v (by simpa using hv)
theorem M5(hc:X.calm=true):kE X (.type "list") (rs K_ true):=by
 rintro pins s σ H xs us Q I vr ⟨ds,d,r,e,k⟩;unfold K_ at e;split at e
 ·split at e
  ·rename_i hl;cases e;obtain⟨vv,uu,rfl,rfl,r,v⟩:=jC r vr;obtain⟨l,ys,rfl,hl',rr⟩:=r.gQ;cases v;refine t8 pins s σ H [.ref l] [.ref l] Q I (.cons rfl .nil) ⟨l,ys,rfl,.inr (.of hl'),λp hp=>?_⟩;have sp:dG H (upd H p (.lst ys)):=dG.upd hp;exact k _ _ sp (.lst aO trivial (rr.same sp)) λ_=>.lst aO hp ((rr.bN hl).same sp)
  ·exact bx e
 ·split at e
  ·rename_i hl;cases e;obtain⟨vv,uu,rfl,rfl,r,v⟩:=jC r vr;obtain⟨l,ys,rfl,hl',rr⟩:=r.jR;cases v;refine t8 pins s σ H [.ref l] [.ref l] Q I (.cons rfl .nil) ⟨l,ys,rfl,.inl hl',λp hp=>?_⟩;have sp:dG H (upd H p (.lst ys)):=dG.upd hp;exact k _ _ sp (.lst aO trivial (rr.same sp)) λ_=>.lst aO hp ((rr.bN hl).same sp)
  ·exact bx e
 ·split at e
  ·rename_i hl;cases e;obtain⟨vv,uu,rfl,rfl,r,v⟩:=jC r vr;cases r with
   |@dK l kvs ds e _ r n=>
    cases v;refine list_dict hc I e λp s' hp I' _=>⟨.ref p,_,I',rfl,?_⟩
    have sp:dG H (upd H p (.lst (kvs.map λp=>kV p.1))):=dG.upd hp;exact k _ _ sp (.lst aO trivial (r.keys.same sp)) λ_=>.lst aO hp (r.keys.same sp)
   |@dT l kvs ds e _ r n=>
    cases v;cases r with
    |cons r t=>simp[isTup] at hl
    |nil=>
     have e2:=zH (o':=.dK []) e;refine list_dict hc (n8 I e) aO λp s' hp I' hne=>?_
     have hp':p≠l:=λz=>by subst z;rw[aO] at hp;cases hp
     have hpn:H p=none:=by rw[bL hp'] at hp;exact hp
     have hcm:upd (upd (upd H l (.dK [])) p (.lst [])) l (.dT [])=upd H p (.lst []):=by
      funext b
      by_cases hb:b=l
      ·subst hb;rw[aO,bL (Ne.symm hp'),e]
      ·rw[bL hb];by_cases hb2:b=p
       ·subst hb2;rw[aO,aO]
       ·rw[bL hb2,bL hb2,bL hb]
     have I2:=n6 I' (by rw[bL (Ne.symm hp'),aO]);have I3:Inv X pins σ (upd H p (.lst [])) s':=by
      have:Inv X pins σ (upd (upd (upd H l (.dK [])) p (.lst [])) l (.dT [])) s':=I2;rwa [hcm] at this
     have sp:dG H (upd H p (.lst [])):=dG.upd hpn;exact⟨.ref p,_,I3,rfl,k _ _ sp (.lst aO trivial .nil) λ_=>.lst aO hpn .nil⟩
  ·exact bx e
 ·exact bx e
theorem rH:kE X (.type "tuple") (rs vK false):=by
 rintro pins s σ H xs us Q I vr ⟨ds,d,r,e,k⟩;unfold vK at e;split at e
 ·cases e;obtain⟨vv,uu,rfl,rfl,r,v⟩:=jC r vr;obtain⟨l,ys,rfl,hl',rr⟩:=r.gQ;cases v;exact qU pins s σ H [.ref l] [.ref l] Q I (.cons rfl .nil) ⟨l,ys,rfl,.inr ⟨.of hl',k.self (.tup hl' rr) λz=>by cases z⟩⟩
 ·cases e;obtain⟨vv,uu,rfl,rfl,r,v⟩:=jC r vr;obtain⟨l,ys,rfl,hl',rr⟩:=r.jR;cases v;refine qU pins s σ H [.ref l] [.ref l] Q I (.cons rfl .nil) ⟨l,ys,rfl,.inl ⟨hl',λp hp=>?_⟩⟩;have sp:dG H (upd H p (.tup ys)):=dG.upd hp;exact k _ _ sp (.tup aO (rr.same sp)) λz=>by cases z
 ·exact bx e
mutual
theorem xW:∀(d:D),d.plain=true->d.pure=true
 |.tup xs,h=>by rw[D.plain] at h;rw[D.pure];exact uB xs h
 |.int _,_=>rfl
 |.str _,_=>rfl
 |.uD,h=>by simp[D.plain] at h
 |.non,_=>rfl
 |.bl _,_=>rfl
 |.lst _,h=>by simp[D.plain] at h
 |.dct _,h=>by simp[D.plain] at h
 |.scr _,h=>by simp[D.plain] at h
 |.fdc _,h=>by simp[D.plain] at h
 |.exc _ _,h=>by simp[D.plain] at h
 |.ins _ _,h=>by simp[D.plain] at h
 |.adr _,h=>by simp[D.plain] at h
 |.dcl _ _,h=>by simp[D.plain] at h
 |.cel _ _,h=>by simp[D.plain] at h
theorem uB:∀(ds:List D),D.jA ds=true->D.aY ds=true
 |[],_=>rfl
 |x::xs,h=>by rw[D.jA,Bool.and_eq_true] at h;rw[D.aY,Bool.and_eq_true];exact⟨xW x h.1,uB xs h.2⟩
end
theorem vW(h:bJ ds=true):D.aY (jY ds)=true:=rG.mpr λd hd=>xW d (eU h ((eG ds).mem_iff.mp hd)).1
theorem rJ(hu:X.A.units+20<cLine):kE X (.builtin "sorted") (rs mU true):=by
 rintro pins s σ H xs us Q I vr ⟨ds,d,r,e,k⟩;unfold mU at e;split at e
 ·split at e
  ·rename_i hl;cases e;obtain⟨vv,uu,rfl,rfl,r,v⟩:=jC r vr;obtain⟨l,ys,rfl,hl',rr⟩:=r.jR;cases v;refine TV I hu hl' rr hl λp xs' hp r'=>?_
   have sp:dG H (upd H p (.lst xs')):=dG.upd hp;exact k _ _ sp (.lst aO trivial (r'.same sp)) λ_=>.lst aO hp ((r'.bN (vW hl)).same sp)
  ·exact bx e
 ·exact bx e
theorem isi(I:Inv X pins σ H s)(r:Rep All H v d)(ru:RelV v u)(h:aL4 t d=.ok k)
 (q:∀tk,Q (.bool k) {s with toks:=tk}):wpAny (model X.prog X.w) X.A (call (.builtin "isinstance") [u,.type t.nm]) Q X.xe s:=by
 have q0:Q (.bool k) s:=q s.toks;cases r with
 |non=>cases ru;cases t<;>cases h<;>first|exact IsiPair.NoneType_int (q _)|exact IsiPair.NoneType_str (q _)|exact IsiPair.NoneType_bool (q _)|exact IsiPair.NoneType_list (q _)|exact IsiPair.NoneType_tuple (q _)|exact IsiPair.NoneType_dict (q _)
 |bl b=>cases ru;cases t<;>cases h<;>first|exact IsiPair.bool_int q0|exact IsiPair.bool_str (q _)|exact IsiPair.bool_bool q0|exact IsiPair.bool_list (q _)|exact IsiPair.bool_tuple (q _)|exact IsiPair.bool_dict (q _)
 |int b=>obtain⟨tt,rfl⟩:=ru;cases t<;>cases h<;>first|exact IsiPair.int_int q0|exact IsiPair.int_str (q _)|exact IsiPair.int_bool (q _)|exact IsiPair.int_list (q _)|exact IsiPair.int_tuple (q _)|exact IsiPair.int_dict (q _)
 |str b=>obtain⟨tt,rfl⟩:=ru;cases t<;>cases h<;>first|exact IsiPair.str_int (q _)|exact IsiPair.str_str q0|exact IsiPair.str_bool (q _)|exact IsiPair.str_list (q _)|exact IsiPair.str_tuple (q _)|exact IsiPair.str_dict (q _)
 |tup e rr=>
  cases ru;obtain⟨its,vr,o,ho,hc,_⟩:=gM I e;cases t<;>cases h<;>first|exact IsiPair.tuple_int ho hc (q _)|exact IsiPair.tuple_str ho hc (q _)|exact IsiPair.tuple_bool ho hc (q _)|exact IsiPair.tuple_list ho hc (q _)|exact IsiPair.tuple_tuple ho hc q0|exact IsiPair.tuple_dict ho hc (q _)
 |lst e p rr=>
  cases ru;obtain⟨its,vr,o,ho,hc,_⟩:=mW I (.of e);cases t<;>cases h<;>first|exact IsiPair.list_int ho hc (q _)|exact IsiPair.list_str ho hc (q _)|exact IsiPair.list_bool ho hc (q _)|exact IsiPair.list_list ho hc q0|exact IsiPair.list_tuple ho hc (q _)|exact IsiPair.list_dict ho hc (q _)
 |frz e rr=>cases t<;>exact bx h
 |fdK e rr n=>cases t<;>exact bx h
 |fdT e rr n=>cases t<;>exact bx h
 |exc n e q=>cases t<;>exact bx h
 |ins n e q=>cases t<;>exact bx h
 |adr=>cases t<;>exact bx h
 |dlK _ _ _ _=>cases t<;>exact bx h
 |dlT _ _ _ _=>cases t<;>exact bx h
 |cel e p rr=>cases t<;>exact bx h
 |dK e p rr n=>
  cases ru;obtain⟨_,_,_,_,o,_,_,ho,hx,_⟩:=S5 I.hok e;have hc:=hx.1;cases t<;>cases h<;>first|exact IsiPair.dict_int ho hc (q _)|exact IsiPair.dict_str ho hc (q _)|exact IsiPair.dict_bool ho hc (q _)|exact IsiPair.dict_list ho hc (q _)|exact IsiPair.dict_tuple ho hc (q _)|exact IsiPair.dict_dict ho hc q0
 |dT e p rr n=>
  cases ru;obtain⟨_,_,_,_,o,_,_,ho,hx,_⟩:=aB3 I.hok e;have hc:=hx.1;cases t<;>cases h<;>first|exact IsiPair.dict_int ho hc (q _)|exact IsiPair.dict_str ho hc (q _)|exact IsiPair.dict_bool ho hc (q _)|exact IsiPair.dict_list ho hc (q _)|exact IsiPair.dict_tuple ho hc (q _)|exact IsiPair.dict_dict ho hc q0
def aNj(t:Ty):List V->Hp->VK->Prop:=λxs H Q=>∃v d k,xs=[v,.ty t.nm]/\Rep All H v d/\aL4 t d=.ok k/\Q (.bl k) H
theorem aIn(t:Ty):kE X (.builtin "isinstance") (aNj t):=by
 rintro pins s σ H xs us Q I vr ⟨v,d,k,e,r,h,q⟩;subst e;cases vr with
 |cons rv vt=>
  cases vt with
  |cons rt vt=>
   cases vt;cases rt;exact isi I r rv h λtk=>⟨.bl k,H,I.tok tk,rfl,q⟩
theorem rK(t:Ty)(ha:PE X a (gE fa ra))(hg:Gl X "isinstance")(hm:X.mg "isinstance"=none)(hv:bootBuiltins "isinstance"=some (.builtin "isinstance"))(gy:Gl X y)(my:X.mg y=none)(vy:bootBuiltins y=some (.type t.nm))
 (hy:y ≠ "__name__":=by decide)(hyd:(y==("__debug__" : Str))=false:=by decide)
 (he:starEach [a,.Name y p2] X.env=(false,eval a X.env)::starEach [.Name y p2] X.env:=by rfl)(he2:starEach [.Name y p2] X.env=(false,eval (.Name y p2) X.env)::starEach [] X.env:=by rfl)
 (hpl:(backTo pos (starEach [.Name y p2] X.env)).any (·.1)=false:=by rfl):PE X (.Call (.Name "isinstance" p) [a,.Name y p2] [] pos) (gE (b1 (rC t) fa) true):=
 PE.imp (PQ (aIn t) hg hm hv (fG ha (fG (aEd gy my vy (v:=.ty t.nm) rfl hy hyd) t7 he2) he) (by decide) (by decide) he hpl) λσ H Q z0=>by
  obtain⟨ρ,d,E,h,q⟩:=z0;obtain⟨x,h1,h⟩:=aX h;obtain⟨k,h2,h⟩:=aX h;cases h;exact⟨ρ,x,E,h1,λv H1 s1 r1 _=>⟨v,x,k,rfl,r1,h2,(q.imp s1 id).bl⟩⟩
theorem aIo{ro fr:Bool}{name:Str}{apos cpos:Pos}{f:D->List D->Res D}(pa:PlainAttrs T)(slot:Slot T name id)(hty:typeOf (.builtin id)=pure (.type "method_descriptor"))(hm:MtR X id (rm f fr))(ho:PE X o (gE fo ro))(ha:PA X (e::es) (gA fs rr))
 (hT:∀(d:D) (ds:List D) (r:D) (v:V) (H:Hp),f d ds=.ok r->Rep All H v d->tyV X.K T v H)
 (hbase:attributeBase o name X.env (eval o X.env)=eval o X.env:=by rfl)
 (hfew:((backTo cpos (starEach (e::es) X.env)).all (λx=>!x.1)&&(backToKw cpos (keywordEach [] X.env)).all (λx=>x.1.isSome)
  &&decide ((e::es).length+([]:List Keyword).length+(if ([]:List Keyword).isEmpty then 0 else 1)<30))=true:=by rfl)
 (hline:(apos.endLine==cpos.line)=true:=by rfl)(hs:starEach (e::es) X.env=(false,eval e X.env)::starEach es X.env:=by rfl)(hplain:(backTo cpos (starEach es X.env)).any (·.1)=false:=by rfl) :
  PE X (.Call (.Attribute o name apos) (e::es) [] cpos) (gE (bM f fo fs) fr):=
 PE.imp (aEn pa slot hty hm ho ha hbase hfew hline hs hplain) λσ H Q z0=>by
  obtain⟨ρ,d,E,h,q⟩:=z0;obtain⟨x,h1,h⟩:=aX h;obtain⟨ds,h2,h⟩:=aX h;exact⟨ρ,x,E,h1,λv H1 s1 r1 _=>⟨hT x ds d v H1 h r1,ρ,ds,E.same s1,h2,λvs H2 s2 r2 _=>⟨x,ds,d,r1.same s2,r2,h,q.imp (s1.trans s2) λz=>z⟩⟩⟩
noncomputable def spD(f:List D->Res D)(n:Nat):Sp:=λvs H Q _=>∃ds d,ds.length=n/\bT All H vs ds/\f ds=.ok d/\kR H d true Q
theorem aF7{E:XK}(h:spD f n vs H Q E):vs.length=n:=by
 obtain⟨ds,d,h1,r,_⟩:=h;rw[r.length,h1]
theorem aF8(F:SN X.prog X.w X.K X.mg X.base CX0 k fad fd ps (spD f n))(hr:t6 k X.A)(hg:Gl X x)(hm:X.mg x=some (.ref fad))(hk:PySem.W.keepIn X.K (.ref fad)=true)(hb:Binds X.K fd ps [])
 (ha:PA X (e::es) (gA fs rr))(hdb:nDb x:=by decide)(he:starEach (e::es) X.env=(false,eval e X.env)::starEach es X.env:=by rfl)(hpl:(backTo pos (starEach es X.env)).any (·.1)=false:=by rfl) :
  PE X (.Call (.Name x p) (e::es) [] pos) (gE (aQ (cR n f) fs) true):=
 PE.imp (yJ F hr hg hm hk hb .nil aB9 ha hdb he hpl) λσ H Q z0=>by
  obtain⟨ρ,d,E,h,q⟩:=z0;obtain⟨ds,h1,h⟩:=aX h;unfold cR at h;split at h
  ·rename_i hl;exact⟨ρ,ds,E,h1,λvs H1 s1 r1 _=>⟨ds,d,of_decide_eq_true hl,by rw[List.append_nil];exact r1,h,q.imp s1 id⟩⟩
  ·exact bx h
end
structure ItQ(K:PySem.W.Frag)(P:Addr->Prop)(J:It)(H:Hp)(items:List D):Prop where
 it:∀(P':Addr->Prop)(H':Hp),DW P H H'->(∀a o,H a=some o->P a->P' a)->(∀i,items.length<=i->J.stop i H')/\∀i d,items[i]?=some d->J.go i H'/\∀x H'',J.yld i H' x H''->dG H' H''/\Rep P' H'' x d
section
variable {K:PySem.W.Frag} {P P':Addr->Prop} {J:It} {H H':Hp} {items:List D}
theorem ItQ.keep'(h:ItQ K P J H items)(k:DW P H H')(m:∀a o,H a=some o->P a->P' a):ItQ K P' J H' items:=
 ⟨λP2 H2 k2 m2=>h.it P2 H2 (λa o e hp=>k2 a o (k a o e hp) (hp.imp (m a o e) id)) λa o e hp=>m2 a o (k a o e (.inl hp)) (m a o e hp)⟩
theorem ItQ.keep(h:ItQ K P J H items)(k:DW P H H')(m:∀a,P a->P' a):ItQ K P' J H' items:=h.keep' k λa _ _=>m a
theorem ItQ.stop(h:ItQ K P J H items)(hi:items.length<=i):J.stop i H:=(h.it P H (λ_ _ e _=>e) λ_ _ _ hp=>hp).1 i hi
theorem ItQ.go(h:ItQ K P J H items)(hi:items[i]?=some d):J.go i H/\∀x H',J.yld i H x H'->dG H H'/\Rep P H' x d:=(h.it P H (λ_ _ e _=>e) λ_ _ _ hp=>hp).2 i d hi
theorem ItQ.lst(a:Addr)(e:J=Itl K a)(r:Rep P H (.ref a) (.lst items)):ItQ K P J H items:=by
 refine⟨λP H kk mm=>?_⟩;have r:=r.aBf kk mm;refine⟨λi hi=>?_,λi d hi=>?_⟩
 ·subst e;obtain⟨a',xs,e,hq,rr⟩:=r.jR;cases e;exact⟨xs,hq,by rw[rr.length];exact hi⟩
 ·subst e;obtain⟨a',xs,e,hq,rr⟩:=r.jR;cases e;obtain⟨v,h1,h2⟩:=rr.get hi;refine⟨⟨xs,v,hq,h1⟩,λx H' ⟨e,hy⟩=>?_⟩;subst e;refine⟨dG.refl _,?_⟩;have:=hy xs hq;rw[h1] at this;cases this;exact h2
theorem ItQ.tup(a:Addr)(e:J=Itt K a)(r:Rep P H (.ref a) (.tup items)):ItQ K P J H items:=by
 refine⟨λP H kk mm=>?_⟩;have r:=r.aBf kk mm;refine⟨λi hi=>?_,λi d hi=>?_⟩
 ·subst e;obtain⟨a',xs,e,hq,rr⟩:=r.gQ;cases e;exact⟨xs,.of hq,by rw[rr.length];exact hi⟩
 ·subst e;obtain⟨a',xs,e,hq,rr⟩:=r.gQ;cases e;obtain⟨v,h1,h2⟩:=rr.get hi;refine⟨⟨xs,v,.of hq,h1⟩,λx H' ⟨e,hy⟩=>?_⟩;subst e;refine⟨dG.refl _,?_⟩;have:=hy xs (.of hq);rw[h1] at this;cases this;exact h2
theorem ItQ.rng(lo:Int)(n:Nat)(e:J=Itr lo n)(r:items=(List.range n).map λ(k:Nat)=>D.int (lo+k)):ItQ K P J H items:=by
 refine⟨λP H k m=>?_⟩;refine⟨λi hi=>?_,λi d hi=>?_⟩
 ·subst e r;show n<=i;simpa using hi
 ·subst e r;have hlt:i<n:=by
   have:=(List.getElem?_eq_some_iff.mp hi).1;simpa using this
  refine⟨hlt,λx H' ⟨e,hy⟩=>?_⟩;subst e;have e2:D.int (lo+(i:Int))=d:=by simpa[hlt] using hi
  rw[hy,<-e2];exact⟨dG.refl _,.int _⟩
end
noncomputable def gI(K:PySem.W.Frag)(f:FI):TI:=λσ H R=>∃ρ items k,ER H σ ρ/\f ρ=.ok (items,k)/\∀J H1,dG H H1->ItQ K All J H1 items->(k=true->ItQ K (New H) J H1 items)->R J H1
def gIV(K:PySem.W.Frag)(i:Nat):TI:=λσ H R=>∃v d items,σ[i]?=some (some v)/\Rep All H v d/\vL d=.ok items/\∀J,(∀P:Addr->Prop,Rep P H v d->ItQ K P J H items)->R J H
section
variable {X:Cx} {tg l a b:Expr} {fl:FE} {rl rr:Bool} {fs:FA} {p pos:Pos}
theorem QX(I1:Inv X pins σ H1 s1)(r:Rep All H1 v d)(ru:RelV v u)(hi:vL d=.ok items)
 (q:∀J,(∀P:Addr->Prop,Rep P H1 v d->ItQ X.K P J H1 items)->R J H1):wpAny (model X.prog X.w) X.A (pyIter u) (PIE X pins σ tg R) X.xe s1:=by
 cases d<;>simp only[vL] at hi<;>cases hi
 ·obtain⟨a,xs,rfl,e,rr⟩:=r.gQ;cases ru;obtain⟨its,rv,p,hz⟩:=I1.tuple (.of e);refine wpAny_pyIter_tuple (show s1.heap.IsTuple a its.toArray from p) ?_;refine⟨s1.heap.objs.size,[s1.heap.objs.size],_,_,H1,rfl,I1.kept λb o e=>Heap.get?_push_of_some _ e,R8 a _,⟨_,Heap.get?_push_size _ rfl,rfl,rfl⟩,λb hb=>?_,q _ λP r=>.tup a rfl r⟩;have e:b=s1.heap.objs.size:=by simpa using hb
  subst e;exact I1.aKc (Nat.le_refl _) (I1.hok.fresh (Nat.le_refl _))
 ·obtain⟨a,xs,rfl,e,rr⟩:=r.jR;cases ru;obtain⟨its,rv,p,hz⟩:=I1.list e;refine wpAny_pyIter_list p.isList ?_;refine⟨s1.heap.objs.size,[s1.heap.objs.size],_,_,H1,rfl,I1.kept λb o e=>Heap.get?_push_of_some _ e,VL a _,⟨_,Heap.get?_push_size _ rfl,rfl,rfl⟩,λb hb=>?_,q _ λP r=>.lst a rfl r⟩;have e:b=s1.heap.objs.size:=by simpa using hb
  subst e;exact I1.aKc (Nat.le_refl _) (I1.hok.fresh (Nat.le_refl _))
theorem jL(hl:PE X l (gE fl rl)):PI X tg l (gI X.K (dM fl rl)):=by
 rintro pins s σ H R I ⟨ρ,items,k,E,h,q⟩;obtain⟨d,h1,h⟩:=aX h;obtain⟨its,h2,h⟩:=aX h;cases h;refine thn (hl pins s σ H _ I ⟨ρ,d,E,h1,λv H1 s1 r1 n1=>(show(∃d',Rep All H1 v d/\d'=d/\∀J,(∀P:Addr->Prop,Rep P H1 v d->ItQ X.K P J H1 items)->R J H1) from ⟨d,r1,rfl,λJ hJ=>q J H1 s1 (hJ _ r1) λhk=>hJ _ ?_⟩)⟩) λu s1 ⟨v,H1,I1,ru,d',r1,e,q1⟩=>QX I1 r1 ru h2 q1
 rw[Bool.or_eq_true] at hk;rcases hk with hk|hk
 ·exact n1 hk
 ·exact r1.bN hk
theorem aIp(hN:X.N[i]?=some x)(hv:Vis X.env.scope x)(hd:nDb x:=by decide)(hcd:nCd x:=by decide):PI X tg (.Name x pos) (gIV X.K i):=by
 rintro pins s σ H R I ⟨v,d,items,hσ,r,hi,q⟩;exact thn (jH hN hv hd hcd pins s σ H (λw H1=>w=v/\H1=H) I ⟨v,hσ,rfl,rfl⟩) λu s1 z0=>by
  obtain⟨w,H1,I1,ru,e1,e2⟩:=z0;subst e1 e2;exact QX I1 r ru hi q
theorem TY(h:vH i=true):-(2 ^ 62)<=i/\i<2 ^ 62:=by
 simp only[vH,Bool.and_eq_true,decide_eq_true_eq] at h;exact h
theorem PI.imp(h:PI X tg l w)(i:∀σ H R,w' σ H R->w σ H R):PI X tg l w':=λpins s σ H R I q=>h pins s σ H R I (i σ H R q)
theorem kZ(hg:Gl X "range")(hm:X.mg "range"=none)(ha:PA X [a] (gA fs rr))(hs:starEach [a] X.env=[(false,eval a X.env)]:=by rfl):PI X tg (.Call (.Name "range" p) [a] [] pos) (gI X.K (mV fs mC)):=
 PI.imp (VM hg hm ha hs) λσ H R z0=>by
  obtain⟨ρ,items,k,E,h,q⟩:=z0;obtain⟨xs,h1,h⟩:=aX h;unfold mC at h;split at h
  ·split at h
   ·rename_i hb;cases h;obtain⟨b1,b2⟩:=TY hb;refine⟨ρ,_,E,h1,λvs H1 s1 r1 _=>?_⟩;cases r1 with
    |cons r t=>
     cases t;cases r.inv;exact⟨_,rfl,b1,b2,q _ H1 s1 (.rng 0 _ rfl rfl) λ_=>.rng 0 _ rfl rfl⟩
   ·exact bx h
  ·exact bx h
end
theorem aBp(n:Nat)(ρ bs:List D)(i:Nat)(h:i<n):(P_ n ρ++bs).getD i .uD=ρ.getD i .uD:=by
 rw[List.getD_eq_getElem?_getD,List.getElem?_append_left (by simp[P_];exact h)];simp[P_,h]
theorem QZ(n:Nat)(ρ:List D):(P_ n ρ).length=n:=by simp[P_]
def TgC(g:TG)(t:D->Res (List D))(n m:Nat):Prop:=∀(v:V)(d:D)(bs:List D)(σ:L2.St)(H:Hp)(Q:L2.St->Hp->Prop),σ.length=n->Rep All H v d->t d=.ok bs->
 (∀σ2,Ext (σ++List.replicate m none) σ2->(∀j b,bs[j]?=some b->∃w,σ2[n+j]?=some (some w)/\Rep All H w b)->Q σ2 H)->g v (σ++List.replicate m none) H Q
theorem ER.ext(E:ER H σ ρ)(hn:σ.length=n)(x:Ext (σ++List.replicate m none) σ2)(hb:∀j b,bs[j]?=some b->∃w,σ2[n+j]?=some (some w)/\Rep All H w b):ER H σ2 (P_ n ρ++bs):=by
 intro i hi;by_cases h:i<n
 ·rw[aBp n ρ bs i h] at hi ⊢;obtain⟨v,h1,h2⟩:=E i hi;exact⟨v,x.2 i v (by rw[List.getElem?_append_left (by rw[hn];exact h)];exact h1),h2⟩
 ·have e:(P_ n ρ++bs).getD i .uD=bs.getD (i-n) .uD:=by
   rw[List.getD_eq_getElem?_getD,List.getElem?_append_right (by rw[QZ];lia),QZ,<-List.getD_eq_getElem?_getD]
  rw[e] at hi ⊢;cases hq:bs[i-n]? with
  |none=>rw[List.getD_eq_getElem?_getD,hq] at hi;exact absurd rfl hi
  |some b=>
   obtain⟨w,h1,h2⟩:=hb (i-n) b hq;rw[List.getD_eq_getElem?_getD,hq];exact⟨w,by rw[<-h1];congr 1;lia,h2⟩
theorem rM{K:PySem.W.Frag}{n m:Nat}{g:TG}{tc:TT}(tg:TgC g t n m)(hc:∀σ H Q,gT c σ H Q->tc σ H Q){σ:L2.St}{H:Hp}{Q:VK}(hn:σ.length=n)(h:gE (dU n it t c f k) true σ H Q) :
  MF (gI K it) g tc (gE f k) m σ H Q:=by
 obtain⟨ρ,d,E,h,q⟩:=h;obtain⟨⟨items,kk⟩,h1,h⟩:=aX h;split at h
 ·rename_i hlim;obtain⟨ys,h2,h⟩:=aX h;cases h;refine⟨ρ,items,kk,E,h1,λJ H1 s1 hJ _ p hp=>?_⟩;have hp0:H p=none:=s1.free hp;refine⟨λi n' vs H'=>n'=items.length-i/\i<=items.length/\H' p=some (.lst vs)/\dG H1 H'/\∃acc,acc.length<=i/\bT (λa=>H a=none/\a≠p) H' vs acc/\iK (kW n t c f k ρ) acc (items.drop i)=.ok ys,⟨items.length,?_⟩,?_⟩
  ·exact⟨rfl,Nat.zero_le _,aO,dG.upd hp,[],Nat.zero_le _,.nil,h2⟩
  ·rintro i n' vs H' ⟨rfl,hi,hH,sm,acc,hal,racc,hf⟩;refine⟨hH,?_⟩;have hJ':ItQ K All J H' items:=hJ.keep (.same sm) λ_ z=>z
   rcases Nat.lt_or_ge i items.length with hlt|hge
   ·refine .inr ?_;have e:items[i]?=some items[i]:=List.getElem?_eq_getElem hlt;obtain⟨g1,g2⟩:=hJ'.go e;have hl1:items.length<=lim:=of_decide_eq_true hlim;refine⟨g1,?_,λx H2 hy=>?_⟩
    ·rw[racc.length];exact Nat.lt_of_le_of_lt hal (Nat.lt_of_lt_of_le hlt (Nat.le_trans hl1 (by rw[sizeLine_eq];decide)))
    ·obtain⟨sH,rx⟩:=g2 x H2 hy;have hH:=sH p _ hH;have sm:=sm.trans sH;have racc:=racc.same sH;rw[List.drop_eq_getElem_cons hlt] at hf;obtain⟨acc2,hs,hf⟩:=aX hf;obtain⟨bs,hb,hs⟩:=aX hs;obtain⟨ok,hok,hs⟩:=aX hs;refine tg x items[i] bs σ H2 _ hn rx hb λσ2 hx hbs=>⟨hx,hc _ _ _ ?_⟩
     have E2:ER H2 σ2 (P_ n ρ++bs):=(E.same (s1.trans sm)).ext hn hx hbs;refine⟨_,ok,E2,hok,λH4 s4=>?_⟩;cases ok with
     |true=>
      rw[if_pos rfl];rw[if_pos rfl] at hs;obtain⟨y,hy2,hs⟩:=aX hs;split at hs
      ·rename_i hk;cases hs;refine⟨_,y,E2.same s4,hy2,λw H5 s5 r5 n5=>⟨s5 p _ (s4 p _ hH),items.length-(i+1),by lia,rfl,hlt,aO,?_,acc++[y],?_,?_,hf⟩⟩
       ·exact λb o e=>by
         rw[bL (fM e hp)];exact s5 b o (s4 b o (sm b o e))
       ·rw[List.length_append,List.length_singleton];lia
       ·have hp5:H5 p=some (.lst vs):=s5 p _ (s4 p _ hH);have ry:Rep (λa=>H a=none/\a≠p) H5 w y:=by
         rw[Bool.or_eq_true] at hk;rcases hk with hk|hk
         ·exact(n5 hk).mono λa ha=>⟨((s1.trans sm).trans s4).free ha,λz=>by subst z;have h0:=s4 _ _ hH;rw[show H4 _=none from ha] at h0;cases h0⟩
         ·exact r5.bN hk
        have all:bT (λa=>H a=none/\a≠p) H5 (vs++[w]) (acc++[y]):=(racc.same (s4.trans s5)).snoc ry;refine all.keep (λb o e hb=>?_) λ_ z=>z
        rw[bL]
        ·exact e
        ·rcases hb with hb|hb
         ·exact hb.2
         ·intro z;subst z;rw[hp5] at e;cases e;cases hb
      ·exact bx hs
     |false=>
      rw[if_neg (by simp)];rw[if_neg (by simp)] at hs;cases hs;exact⟨items.length-(i+1),by lia,rfl,hlt,s4 p _ hH,sm.trans s4,acc,by lia,racc.same s4,hf⟩
   ·refine .inl ⟨hJ'.stop hge,?_⟩;rw[List.drop_eq_nil_of_le hge] at hf;cases hf;exact q _ _ (s1.trans sm) (.lst hH trivial racc.all) λ_=>.lst hH hp0 (racc.mono λa z=>z.1)
 ·exact bx h
def gIx:List Nat->TGs
 |[]=>aMa
 |i::is=>aHd (wV i) (gIx is)
noncomputable def mX:List Nat->List V->L2.St->L2.St
 |i::is,v::vs,σ=>mX is vs (σ.set i (some v))
 |_,_,σ=>σ
theorem M6:∀(is:List Nat)(vs:List V)(σ:L2.St),vs.length=is.length->Q (mX is vs σ) H->gIx is vs σ H Q
 |[],[],σ,_,q=>⟨rfl,q⟩
 |i::is,v::vs,σ,h,q=>⟨v,vs,rfl,M6 is vs (σ.set i (some v)) (by simpa using h) q⟩
 |[],_::_,_,h,_=>by simp at h
 |_::_,[],_,h,_=>by simp at h
theorem G9:∀(is:List Nat)(vs:List V)(σ:L2.St),(mX is vs σ).length=σ.length
 |[],_,_=>by simp[mX]
 |_::_,[],_=>by simp[mX]
 |i::is,v::vs,σ=>by rw[mX,G9 is vs];simp
theorem vX:∀(is:List Nat)(vs:List V)(σ:L2.St)(k:Nat),k∉is->(mX is vs σ)[k]?=σ[k]?
 |[],_,_,_,_=>by simp[mX]
 |_::_,[],_,_,_=>by simp[mX]
 |i::is,v::vs,σ,k,h=>by
  rw[List.mem_cons,not_or] at h;rw[mX,vX is vs _ k h.2,List.getElem?_set_ne (Ne.symm h.1)]
theorem Q0:∀(is:List Nat)(vs:List V)(σ:L2.St)(j i:Nat)(v:V),is.Nodup->(∀i∈is,i<σ.length)->is[j]?=some i->vs[j]?=some v->(mX is vs σ)[i]?=some (some v)
 |[],_,_,_,_,_,_,_,h,_=>by simp at h
 |_::_,[],_,_,_,_,_,_,_,h=>by simp at h
 |a::is,w::vs,σ,0,i,v,hn,hl,h1,h2=>by
  have e1:a=i:=by simpa using h1
  have e2:w=v:=by simpa using h2
  subst e1 e2;rw[mX,vX is vs _ a (List.nodup_cons.mp hn).1,List.getElem?_set_self (hl a (List.mem_cons_self ..))]
 |a::is,w::vs,σ,j+1,i,v,hn,hl,h1,h2=>by
  rw[mX];exact Q0 is vs _ j i v (List.nodup_cons.mp hn).2 (λi hi=>by rw[List.length_set];exact hl i (List.mem_cons_of_mem _ hi)) (by simpa using h1) (by simpa using h2)
theorem iC(n:Nat):TgC (wV n) lZ n 1:=by
 intro v d bs σ H Q hn r h q;cases h;have hl:(σ++List.replicate 1 (none:Option V)).length=n+1:=by simp[hn]
 refine q _ ⟨by simp,λi w hi=>?_⟩ λj b hj=>?_
 ·have:i≠n:=λz=>by
   subst z;rw[List.getElem?_append_right (by lia)] at hi;simp[hn] at hi
  rw[List.getElem?_set_ne (Ne.symm this)];exact hi
 ·have e:j=0:=by
   have:=(List.getElem?_eq_some_iff.mp hj).1;simp at this;exact this
  subst e;have e:d=b:=by simpa using hj
  subst e;exact⟨v,by rw[Nat.add_zero,List.getElem?_set_self (by lia)],r⟩
theorem zN(K:PySem.W.Frag)(n m:Nat):TgC (aKr K m (gIx (List.range' n m))) (U7 m) n m:=by
 intro v d bs σ H Q hn r h q;cases d<;>simp only[U7] at h<;>(try (exact bx h;done))
 split at h
 ·rename_i hm;cases h;have hm':=of_decide_eq_true hm;obtain⟨a,xs,rfl,e,rr⟩:=r.gQ;refine⟨a,xs,rfl,.of e,by rw[rr.length];exact hm',M6 _ _ _ (by rw[rr.length,hm'];simp) ?_⟩;refine q _ ⟨by rw[G9],λi w hi=>?_⟩ λj b hj=>?_
  ·rw[vX]
   ·exact hi
   ·intro hmem;have:=List.mem_range'_1.mp hmem;rw[List.getElem?_append_right (by lia)] at hi;rw[List.getElem?_replicate] at hi;split at hi<;>cases hi
  ·obtain⟨w,h1,h2⟩:=rr.get hj;have hjm:j<m:=by rw[<-hm'];exact(List.getElem?_eq_some_iff.mp hj).1
   refine⟨w,Q0 _ _ _ j (n+j) w (List.nodup_range' ..) (λi hi=>?_) ?_ h1,h2⟩
   ·have:=List.mem_range'_1.mp hi;simp[hn];lia
   ·rw[List.getElem?_range' hjm];simp
 ·exact bx h
section
theorem aF9(S:cQ X.N X.env.scope scope ownN)(hn:X.N.length=n)(hm:ownN.length=m)(hcalm:X.calm=true)(hi:PI X tg iter (gI X.K it))(ht:TgC g t n m)(hg:∀X',cW X X' scope ownN->PG X' tg g)(he:∀X',cW X X' scope ownN->PE X' elt (gE fe re))
 (hs:∀x,foldedSetIterable iter X.env x=pure x):PE X (.ListComp elt [⟨tg,iter,[],0⟩] scope pos) (gE (dU n it t jQ fe re) true):=by
 intro pins s σ H Q I h;subst hm;exact aBg S hcalm hi hg he hs pins s σ H Q I (rM ht (λσ H Q h=>by obtain⟨ρ,b,E,h,q⟩:=h;cases h;exact q H (dG.refl H)) (I.len.trans hn) h)
theorem XQ(S:cQ X.N X.env.scope scope ownN)(hn:X.N.length=n)(hm:ownN.length=m)(hcalm:X.calm=true)(hi:PI X tg iter (gI X.K it))(ht:TgC g t n m)(hg:∀X',cW X X' scope ownN->PG X' tg g)(hc:∀X',cW X X' scope ownN->PT X' c (gT gc))(he:∀X',cW X X' scope ownN->PE X' elt (gE fe re))
 (hs:∀x,foldedSetIterable iter X.env x=pure x):PE X (.ListComp elt [⟨tg,iter,[c],0⟩] scope pos) (gE (dU n it t gc fe re) true):=by
 intro pins s σ H Q I h;subst hm;exact W7 S hcalm hi hg hc he hs pins s σ H Q I (rM ht (λσ H Q h=>h) (I.len.trans hn) h)
end
end
variable [KFrag]
theorem qR.bN:∀{v:List (Key×V)}{d:List (D×D)},qR P H v d->D.aY (d.map (·.2))=true->qR P' H v d
 |_,_,.nil,_=>.nil
 |_,_,.cons r t,h=>by
  rw[List.map_cons,D.aY,Bool.and_eq_true] at h;exact .cons (r.bN h.1) (t.bN h.2)
theorem o6.bN:∀{v:List (List Key×V)}{d:List (D×D)},o6 P H v d->D.aY (d.map (·.2))=true->o6 P' H v d
 |_,_,.nil,_=>.nil
 |_,_,.cons r t,h=>by
  rw[List.map_cons,D.aY,Bool.and_eq_true] at h;exact .cons (r.bN h.1) (t.bN h.2)
theorem Rep.aKi(r:Rep P H (.ref a) d)(h:inner d=true)(hp:P' a):Rep P' H (.ref a) d:=by
 cases r with
 |tup e r=>cases h
 |lst e p r=>exact .lst e hp (r.bN h)
 |cel e p r=>exact .cel e hp (r.bN h)
 |frz e r=>cases h
 |dK e p r n=>exact .dK e hp (r.bN h) n
 |dT e p r n=>exact .dT e hp (r.bN h) n
 |fdK e r n=>cases h
 |fdT e r n=>cases h
 |exc n e q=>cases h
 |ins n e q=>cases h
 |adr=>cases h
 |dlK e p r n=>exact .dlK e hp (r.bN h) n
 |dlT e p r n=>exact .dlT e hp (r.bN h) n
def Own(own:Nat->Bool)(σ:L2.St)(a:Addr):Prop:=∃i,own i=true/\σ[i]?=some (some (.ref a))
structure ES(own:Nat->Bool)(H:Hp)(σ:L2.St)(ρ:List D):Prop where
 len:σ.length=ρ.length
 at_:∀i,ρ.getD i .uD≠.uD->∃v,σ[i]?=some (some v)/\(own i=false->Rep (λa=>¬Own own σ a) H v (ρ.getD i .uD))
 own:∀i v,own i=true->σ[i]?=some (some v)->∃a o,v=.ref a/\Rep All H v (ρ.getD i .uD)/\inner (ρ.getD i .uD)=true/\H a=some o/\GQ o=true/\∀j,own j=true->σ[j]?=some (some (.ref a))->j=i
variable {own:Nat->Bool}
theorem ES.er(e:ES own H σ ρ):ER H σ ρ:=λi hi=>by
 obtain⟨v,h1,h2⟩:=e.at_ i hi;cases ho:own i with
 |false=>exact⟨v,h1,(h2 ho).all⟩
 |true=>
  obtain⟨a,o,_,h3,_⟩:=e.own i v ho h1;exact⟨v,h1,h3⟩
theorem ES.live(e:ES own H σ ρ)(h:Own own σ a):∃o,H a=some o/\GQ o=true:=by
 obtain⟨i,hi,hs⟩:=h;obtain⟨b,o,eb,_,_,h3,h4,_⟩:=e.own i _ hi hs;cases eb;exact⟨o,h3,h4⟩
theorem ES.same(e:ES own H σ ρ)(s:dG H H'):ES own H' σ ρ:=by
 refine⟨e.len,λi hi=>?_,λi v hi hv=>?_⟩
 ·obtain⟨v,h1,h2⟩:=e.at_ i hi;exact⟨v,h1,λho=>(h2 ho).same s⟩
 ·obtain⟨a,o,h1,h2,h3,h4,h5,h6⟩:=e.own i v hi hv;exact⟨a,o,h1,h2.same s,h3,s _ _ h4,h5,h6⟩
def KU(own:Nat->Bool)(σ:L2.St)(H:Hp)(σ':L2.St)(H':Hp):Prop:=∀a o,H a=some o->¬Own own σ a->H' a=some o/\¬Own own σ' a
theorem KU.trans(a:KU own σ H σ1 H1)(b:KU own σ1 H1 σ2 H2):KU own σ H σ2 H2:=λc o e n=>let ⟨e1,n1⟩:=a c o e n;b c o e1 n1
theorem KU.same(s:dG H H'):KU own σ H σ H':=λa o e n=>⟨s a o e,n⟩
theorem KU.keep(k:KU own σ H σ' H')(e:ES own H σ ρ):DW (λa=>¬Own own σ a) H H':=λa o h hp=>by
 by_cases ho:Own own σ a
 ·obtain⟨o',h1,h2⟩:=e.live ho;rw[h] at h1;cases h1;rcases hp with hp|hp
  ·exact absurd ho hp
  ·rw[h2] at hp;cases hp
 ·exact(k a o h ho).1
theorem KU.rep(k:KU own σ H σ' H')(e:ES own H σ ρ)(r:Rep (λa=>¬Own own σ a) H v d):Rep (λa=>¬Own own σ' a) H' v d:=r.aBf (k.keep e) λa o h n=>(k a o h n).2
def kRt(own:Nat->Bool)(D:Ends)(σ:L2.St)(H:Hp)(d:Mi.D):Prop:=if own rtX=true then ∃d0 ρ',d=.tup (d0::ρ')/\∀v σ' H',KU own σ H σ' H'->ES own H' σ' ρ'->Rep (λa=>(Own own σ a\/H a=none)/\∀i b xs,ρ'.getD i .uD=.cel b xs->a≠b) H' v d0->D.rt v H'
  else ∀v H',(∀a o,H a=some o->¬Own own σ a->H' a=some o)->Rep (λa=>Own own σ a\/H a=none) H' v d->D.rt v H'
theorem kRt.old{D:Ends}(h:kRt own D σ H d)(hx:own rtX=false):∀v H',(∀a o,H a=some o->¬Own own σ a->H' a=some o)->Rep (λa=>Own own σ a\/H a=none) H' v d->D.rt v H':=by
 unfold kRt at h;rw[if_neg (by rw[hx];simp)] at h;exact h
theorem kRt.mk{D:Ends}(hx:own rtX=false)(h:∀v H',(∀a o,H a=some o->¬Own own σ a->H' a=some o)->Rep (λa=>Own own σ a\/H a=none) H' v d->D.rt v H'):kRt own D σ H d:=by
 unfold kRt;rw[if_neg (by rw[hx];simp)];exact h
def kS(own:Nat->Bool)(D:Ends)(σ:L2.St)(H:Hp):Fl->Prop
 |.nx ρ=>∀σ' H',KU own σ H σ' H'->ES own H' σ' ρ->D.nx σ' H'
 |.bk ρ=>∀σ' H',KU own σ H σ' H'->ES own H' σ' ρ->D.bk σ' H'
 |.ct ρ=>∀σ' H',KU own σ H σ' H'->ES own H' σ' ρ->D.ct σ' H'
 |.rt d=>kRt own D σ H d
theorem kS.step{D:Ends}{σ σ':L2.St}{H H':Hp}{fl:Fl}(k:KU own σ H σ' H')(h:kS own D σ H fl):kS own D σ' H' fl:=by
 cases fl with
 |nx ρ=>exact λσ2 H2 k2 e=>h σ2 H2 (k.trans k2) e
 |bk ρ=>exact λσ2 H2 k2 e=>h σ2 H2 (k.trans k2) e
 |ct ρ=>exact λσ2 H2 k2 e=>h σ2 H2 (k.trans k2) e
 |rt d=>
  have old:∀a,(Own own σ' a\/H' a=none)->Own own σ a\/H a=none:=λa ha=>by
   cases q:H a with
   |none=>exact .inr rfl
   |some o=>
    refine .inl (Classical.byContradiction λn=>?_);obtain⟨e1,n1⟩:=k a o q n;rcases ha with ha|ha
    ·exact n1 ha
    ·rw[e1] at ha;cases ha
  have h:kRt own D σ H d:=h;show kRt own D σ' H' d;unfold kRt at h ⊢;by_cases hx:own rtX=true
  ·rw[if_pos hx] at h ⊢;obtain⟨d0,ρ',e,g⟩:=h;exact⟨d0,ρ',e,λv σ2 H2 k2 E2 r=>g v σ2 H2 (k.trans k2) E2 (r.mono λa ha=>⟨old a ha.1,ha.2⟩)⟩
  ·rw[if_neg hx] at h ⊢;exact λv H2 hk r=>h v H2 (λa o e n=>let ⟨e1,n1⟩:=k a o e n;hk a o e1 n1) (r.mono λa ha=>old a ha)
noncomputable def tS(own:Nat->Bool)(f:FS):TS:=λD σ H=>∃ρ fl,ES own H σ ρ/\f ρ=.ok fl/\kS own D σ H fl
theorem PS.imp{st:Stmt}(h:PS X st t)(i:∀D σ H,t' D σ H->t D σ H):PS X st t':=λpins s σ H D I q=>h pins s σ H D I (i D σ H q)
theorem PSs.imp{st:List Stmt}{t t':TS}(h:PSs X st t)(i:∀D σ H,t' D σ H->t D σ H):PSs X st t':=λpins s σ H D I q=>h pins s σ H D I (i D σ H q)
section
variable {X:Cx} {a b c e:Expr} {pos pos':Pos} {fe:FE} {re:Bool} {gc:FT} {f g:FS} {st:Stmt} {rest s1 s2:List Stmt}
theorem dC:PSs X [] (tS own j_):=PSs.imp aEf λD σ H z0=>by
 obtain⟨ρ,fl,E,h,q⟩:=z0;cases h;exact q σ H (λa o e n=>⟨e,n⟩) E
theorem aFa{D:Ends}(h:tS own (bK f g) D σ H):aM9 (tS own f) (tS own g) D σ H:=by
 obtain⟨ρ,fl,E,h,q⟩:=h;obtain⟨r,h1,h2⟩:=aX h;refine⟨ρ,r,E,h1,?_⟩;cases r with
 |nx ρ'=>exact λσ' H' k E'=>⟨ρ',fl,E',h2,q.step k⟩
 |bk ρ'=>cases h2;exact q
 |ct ρ'=>cases h2;exact q
 |rt d=>cases h2;exact q
theorem aF(h1:PS X st (tS own f))(h2:PSs X rest (tS own g)):PSs X (st::rest) (tS own (bK f g)):=PSs.imp (aAt h1 h2) λ_ _ _=>aFa
theorem aP(h1:PS X st (tS own f)):PSs X [st] (tS own f):=aEg h1
theorem iD(hc:PT X c (gT gc))(ha:PSs X s1 (tS own f))(hb:PSs X s2 (tS own g)):PS X (.If c s1 s2 pos) (tS own (sIf gc f g)):=PS.imp (aKq hc ha hb) λD σ H z0=>by
 obtain⟨ρ,fl,E,h,q⟩:=z0;obtain⟨k,h1,h2⟩:=aX h;refine⟨ρ,k,E.er,h1,λH' s=>?_⟩;cases k with
 |true=>rw[if_pos rfl];rw[if_pos rfl] at h2;exact⟨ρ,fl,E.same s,h2,q.step (.same s)⟩
 |false=>rw[if_neg (by simp)];rw[if_neg (by simp)] at h2;exact⟨ρ,fl,E.same s,h2,q.step (.same s)⟩
theorem cX(he:PE X e (gE fe re))(hx:own rtX=false:=by rfl):PS X (.Return (some e) pos) (tS own (j6 fe re)):=PS.imp (VH he) λD σ H z0=>by
 obtain⟨ρ,fl,E,h,q⟩:=z0;obtain⟨d,h1,h2⟩:=aX h;split at h2
 ·rename_i hk;cases h2;refine⟨ρ,d,E.er,h1,λv H' s r n=>q.old hx v H' (λa o e _=>s a o e) ?_⟩;rw[Bool.or_eq_true] at hk;rcases hk with hk|hk
  ·exact(n hk).mono λa ha=>.inr ha
  ·exact r.bN hk
 ·exact bx h2
theorem tM(ho:own i=true)(hN:X.N[i]?=some x)(hv:Vis X.env.scope x)(hd:nDb x:=by decide)(hcd:nCd x:=by decide)(hx:own rtX=false:=by rfl):PS X (.Return (some (.Name x pos')) pos) (tS own (LC i)):=
 PS.imp (VH (jH hN hv hd hcd)) λD σ H z0=>by
 obtain⟨ρ,fl,E,h,q⟩:=z0;obtain⟨d,h1,h2⟩:=aX h;cases h2;obtain⟨v,hv,r,e⟩:=E.er.var h1;obtain⟨a,o,rfl,r2,hin,_⟩:=E.own i v ho hv;rw[e] at hin;exact⟨_,hv,q.old hx _ H (λa o e _=>e) (r.aKi hin (.inl ⟨i,ho,hv⟩))⟩
theorem mY(ho:own i=false)(a:Addr):Own own (σ.set i (some v)) a↔Own own σ a:=by
 constructor
 ·rintro⟨j,hj,e⟩;have:i≠j:=λz=>by subst z;rw[ho] at hj;cases hj
  rw[List.getElem?_set_ne this] at e;exact⟨j,hj,e⟩
 ·rintro⟨j,hj,e⟩;have:i≠j:=λz=>by subst z;rw[ho] at hj;cases hj
  exact⟨j,hj,by rw[List.getElem?_set_ne this];exact e⟩
theorem dZ{ρ:List D}:(ρ.set i d).getD j .uD=if i=j/\i<ρ.length then d else ρ.getD j .uD:=by
 rw[List.getD_eq_getElem?_getD,List.getD_eq_getElem?_getD,List.getElem?_set];by_cases h:i=j
 ·subst h;by_cases h2:i<ρ.length
  ·simp[h2]
  ·simp[h2]
 ·simp[h]
theorem ES.set(E:ES own H σ ρ)(ho:own i=false)(r:Rep (λa=>¬Own own σ a) H v d):ES own H (σ.set i (some v)) (ρ.set i d):=by
 have hO:(λa=>¬Own own (σ.set i (some v)) a)=λa=>¬Own own σ a:=funext λa=>by rw[mY ho]
 refine⟨by simp[E.len],λj hj=>?_,λj w hj hw=>?_⟩
 ·rw[dZ] at hj ⊢;rw[hO];by_cases h:i=j/\i<ρ.length
  ·rw[if_pos h];obtain⟨rfl,hl⟩:=h;exact⟨v,by rw[List.getElem?_set_self (by rw[E.len];exact hl)],λ_=>r⟩
  ·rw[if_neg h] at hj ⊢;obtain⟨w,h1,h2⟩:=E.at_ j hj;by_cases hij:i=j
   ·subst hij;have:i<σ.length:=(List.getElem?_eq_some_iff.mp h1).1;rw[E.len] at this;exact absurd ⟨rfl,this⟩ h
   ·exact⟨w,by rw[List.getElem?_set_ne hij];exact h1,h2⟩
 ·have hij:i≠j:=λz=>by subst z;rw[ho] at hj;cases hj
  rw[List.getElem?_set_ne hij] at hw;rw[dZ,if_neg λz=>hij z.1];obtain⟨a,o,h1,h2,h3,h4,h5,h6⟩:=E.own j w hj hw;refine⟨a,o,h1,h2,h3,h4,h5,λk hk hs=>h6 k hk ?_⟩;have hik:i≠k:=λz=>by subst z;rw[ho] at hk;cases hk
  rwa [List.getElem?_set_ne hik] at hs
theorem ES.aNk{i:Nat}{a:Addr}{o:HO}{d:D}(E:ES own H σ ρ)(s:dG H H')(ho:own i=true)(hn:H a=none)(r:Rep All H' (.ref a) d)(hin:inner d=true)(ha:H' a=some o)(hm:GQ o=true) :
  ES own H' (σ.set i (some (.ref a))) (ρ.set i d)/\KU own σ H (σ.set i (some (.ref a))) H':=by
 have hO:∀b,H b≠none->¬Own own σ b->¬Own own (σ.set i (some (.ref a))) b:=λb hb n z0=>by
  obtain⟨j,hj,e⟩:=z0;by_cases hij:i=j
  ·subst hij;by_cases hl:i<σ.length
   ·rw[List.getElem?_set_self hl] at e;cases e;exact hb hn
   ·rw[List.getElem?_set,if_pos rfl,if_neg hl] at e;cases e
  ·rw[List.getElem?_set_ne hij] at e;exact n ⟨j,hj,e⟩
 refine⟨⟨by simp[E.len],λj hj=>?_,λj w hj hw=>?_⟩,λb ob e n=>⟨s b ob e,hO b (by rw[e];simp) n⟩⟩
 ·rw[dZ] at hj ⊢;by_cases h:i=j/\i<ρ.length
  ·rw[if_pos h];obtain⟨rfl,hl⟩:=h;exact⟨.ref a,by rw[List.getElem?_set_self (by rw[E.len];exact hl)],λz=>by rw[ho] at z;cases z⟩
  ·rw[if_neg h] at hj ⊢;obtain⟨w,h1,h2⟩:=E.at_ j hj;by_cases hij:i=j
   ·subst hij;have:i<σ.length:=(List.getElem?_eq_some_iff.mp h1).1;rw[E.len] at this;exact absurd ⟨rfl,this⟩ h
   ·exact⟨w,by rw[List.getElem?_set_ne hij];exact h1,λhj=>((h2 hj).dom.same s).mono λb ⟨n,hb⟩=>hO b hb n⟩
 ·by_cases hij:i=j
  ·subst hij;have hl:i<σ.length:=by
    have:=(List.getElem?_eq_some_iff.mp hw).1;simpa using this
   rw[List.getElem?_set_self hl] at hw;cases hw;rw[dZ,if_pos ⟨rfl,by rw[<-E.len];exact hl⟩];refine⟨a,o,rfl,r,hin,ha,hm,λk hk hs=>?_⟩;by_cases hik:i=k
   ·exact hik.symm
   ·rw[List.getElem?_set_ne hik] at hs;obtain⟨o',h1,_⟩:=E.live ⟨k,hk,hs⟩;rw[hn] at h1;cases h1
  ·rw[List.getElem?_set_ne hij] at hw;rw[dZ,if_neg λz=>hij z.1];obtain⟨b,ob,h1,h2,h3,h4,h5,h6⟩:=E.own j w hj hw;refine⟨b,ob,h1,h2.same s,h3,s _ _ h4,h5,λk hk hs=>?_⟩;by_cases hik:i=k
   ·subst hik;by_cases hl:i<σ.length
    ·rw[List.getElem?_set_self hl] at hs;cases hs;rw[hn] at h4;cases h4
    ·rw[List.getElem?_set,if_pos rfl,if_neg hl] at hs;cases hs
   ·rw[List.getElem?_set_ne hik] at hs;exact h6 k hk hs
theorem aIq(r:Rep P H v d)(hin:inner d=true):∃a o,v=.ref a/\P a/\H a=some o/\GQ o=true:=by
 cases r with
 |lst e p r=>exact⟨_,_,rfl,p,e,rfl⟩
 |cel e p r=>exact⟨_,_,rfl,p,e,rfl⟩
 |dK e p r n=>exact⟨_,_,rfl,p,e,rfl⟩
 |dT e p r n=>exact⟨_,_,rfl,p,e,rfl⟩
 |dlK e p r n=>exact⟨_,_,rfl,p,e,rfl⟩
 |dlT e p r n=>exact⟨_,_,rfl,p,e,rfl⟩
 |fdK e r n=>cases hin
 |fdT e r n=>cases hin
 |_=>cases hin
theorem aFb(E:ES own H σ ρ)(r:Rep (New H) H' v d):Rep (λa=>¬Own own σ a) H' v d:=r.mono λa ha ho=>by
 obtain⟨o,h1,_⟩:=E.live ho;rw[show H a=none from ha] at h1;cases h1
theorem M7(ho:own i=o)(h:tS own (cC o i fe re) D' σ H):aGs (gE fe re) (wV i) D' σ H:=by
 obtain⟨ρ,fl,E,h,q⟩:=h;obtain⟨d,h1,h2⟩:=aX h;cases o with
 |true=>
  simp only[if_true] at h2;split at h2
  ·rename_i hk;cases h2;refine⟨ρ,d,E.er,h1,λv H' s r n=>?_⟩;rw[Bool.and_eq_true] at hk;obtain⟨a,ob,rfl,hn,ha,hm⟩:=aIq (n hk.1) hk.2;obtain⟨E2,k⟩:=E.aNk s ho hn r hk.2 ha hm;exact q _ H' k E2
  ·exact bx h2
 |false=>
  simp only[Bool.false_eq_true,if_false] at h2;split at h2
  ·rename_i hk;cases h2;refine⟨ρ,d,E.er,h1,λv H' s r n=>?_⟩;rw[Bool.or_eq_true] at hk;have r2:Rep (λa=>¬Own own σ a) H' v d:=by
    rcases hk with hk|hk
    ·exact aFb E (n hk)
    ·exact r.bN hk
   exact q _ H' (λa ob e hn=>⟨s a ob e,by rw[mY ho];exact hn⟩) ((E.same s).set ho r2)
  ·exact bx h2
theorem a_(ho:own i=o)(hN:X.N.Nodup)(hi:X.N[i]?=some x)(hx:Loc X.env.scope x)(he:PE X e (gE fe re))(hs:swapsWith e (some (.Name x pos')) pos.line X.env=pure false:=by rfl)(hf:X.fn x=true\/X.env.scope.names.lookup x=some .local:=by first|exact .inl rfl|exact .inr rfl|assumption) :
  PS X (.Assign [.Name x pos'] e pos) (tS own (cC o i fe re)):=PS.imp (aCx hN hi hx he hs hf) λ_ _ _=>M7 ho
theorem aNl{i:Nat}{x:Str}{o:Bool}(he:PE X e (gE fe re))(ho:own i=o:=by rfl)(hN:X.N.Nodup:=by assumption)(hi:X.N[i]?=some x:=by exact rfl)(hx:Loc X.env.scope x:=by trivial)(hs:swapsWith e (some (.Name x pos')) pos.line X.env=pure false:=by rfl)(hf:X.fn x=true\/X.env.scope.names.lookup x=some .local:=by first|exact .inl rfl|exact .inr rfl|assumption):PS X (.Assign [.Name x pos'] e pos) (tS own (cC o i fe re)):=a_ ho hN hi hx he hs hf
theorem aLe(ho:own i=false)(hoj:own j=false)(hN:X.N.Nodup)(hi:X.N[i]?=some x)(hx:Loc X.env.scope x)(hj:X.N[j]?=some y)(hy:Vis X.env.scope y)(hs:swapsWith (.Name y py) (some (.Name x pos')) pos.line X.env=pure false:=by rfl)(hf:X.fn x=true\/X.env.scope.names.lookup x=some .local:=by first|exact .inl rfl|exact .inr rfl|assumption)
 (hd:(y==("__debug__" : Str))=false:=by decide)(hcd:(y==("__classdict__" : Str))=false:=by decide):PS X (.Assign [.Name x pos'] (.Name y py) pos) (tS own (sAl i j)):=PS.imp (aCx hN hi hx (jH hj hy hd hcd) hs hf) λD' σ H z0=>by
 obtain⟨ρ,fl,E,h,q⟩:=z0;obtain⟨d,h1,h2⟩:=aX h;cases h2;obtain⟨v,hv,r,e⟩:=E.er.var h1;have hne:ρ.getD j .uD≠.uD:=λz=>by
  rw[z] at e;subst e;exact Rep.uD r
 obtain⟨w,hw,hr⟩:=E.at_ j hne;rw[hv] at hw;cases hw;have r2:=hr hoj;rw[e] at r2;exact⟨v,hv,q _ H (λa ob e hn=>⟨e,by rw[mY ho];exact hn⟩) (E.set ho r2)⟩
theorem ES.mut{i:Nat}{a:Addr}{o:HO}{d:D}(E:ES own H σ ρ)(ho:own i=true)(hi:σ[i]?=some (some (.ref a)))(hm:GQ o=true)(r:Rep All (upd H a o) (.ref a) d)(hin:inner d=true) :
  ES own (upd H a o) σ (ρ.set i d)/\KU own σ H σ (upd H a o):=by
 have hOa:Own own σ a:=⟨i,ho,hi⟩
 obtain⟨a',oa,ea,_,_,hHa,hma,huq⟩:=E.own i _ ho hi;cases ea;have k:KU own σ H σ (upd H a o):=λb ob e n=>⟨by rw[bL (λz=>by subst z;exact n hOa)];exact e,n⟩
 have hl:i<ρ.length:=by rw[<-E.len];exact(List.getElem?_eq_some_iff.mp hi).1
 refine⟨⟨by simp[E.len],λj hj=>?_,λj w hj hw=>?_⟩,k⟩
 ·rw[dZ] at hj ⊢;by_cases h:i=j/\i<ρ.length
  ·obtain⟨rfl,_⟩:=h;exact⟨_,hi,λz=>by rw[ho] at z;cases z⟩
  ·rw[if_neg h] at hj ⊢;obtain⟨w,h1,h2⟩:=E.at_ j hj;exact⟨w,h1,λhj=>k.rep E (h2 hj)⟩
 ·by_cases hij:i=j
  ·subst hij;rw[hi] at hw;cases hw;rw[dZ,if_pos ⟨rfl,hl⟩];exact⟨a,o,rfl,r,hin,aO,hm,huq⟩
  ·rw[dZ,if_neg λz=>hij z.1];obtain⟨b,ob,h1,h2,h3,h4,h5,h6⟩:=E.own j w hj hw;subst h1;have hba:b≠a:=λz=>by subst z;exact hij (h6 i ho hi)
   refine⟨b,ob,rfl,?_,h3,by rw[bL hba];exact h4,h5,h6⟩;refine(h2.aKi (P':=λc=>c=b) h3 rfl).keep (λc oc hc hp=>?_) λ_ _=>trivial
   rw[bL]
   ·exact hc
   ·intro z;subst z;rcases hp with hp|hp
    ·exact hba hp.symm
    ·rw[hHa] at hc;cases hc;rw[hma] at hp;cases hp
theorem ES.ownAt(E:ES own H σ ρ)(ho:own i=true)(hd:ρ.getD i .uD≠.uD):∃a o,σ[i]?=some (some (.ref a))/\Rep All H (.ref a) (ρ.getD i .uD)/\inner (ρ.getD i .uD)=true/\H a=some o/\GQ o=true:=by
 obtain⟨v,h1,_⟩:=E.at_ i hd;obtain⟨a,o,rfl,h2,h3,h4,h5,_⟩:=E.own i v ho h1;exact⟨a,o,h1,h2,h3,h4,h5⟩
theorem aDf{a:Addr}(r:Rep All H (.ref a) (.lst xs)):∃vs,H a=some (.lst vs)/\bT All H vs xs:=by
 cases r with
 |lst e _ r=>exact⟨_,e,r⟩
theorem bT.upd{a:Addr}{xs:List D}{o:HO}{ob:HO}(r:bT All H vs xs)(hp:D.aY xs=true)(ha:H a=some ob)(hm:GQ ob=true):bT All (upd H a o) vs xs:=by
 refine(r.bN (P':=λ_=>False) hp).keep (λc oc hc h=>?_) λ_ h=>h.elim
 rw[bL]
 ·exact hc
 ·intro z;subst z;rcases h with h|h
  ·exact h
  ·rw[ha] at hc;cases hc;rw[hm] at h;cases h
theorem G_:D.aY (xs++ys)=(D.aY xs&&D.aY ys):=by
 induction xs with
 |nil=>simp[D.aY]
 |cons x xs ih=>rw[List.cons_append,D.aY,D.aY,ih,Bool.and_assoc]
theorem uC(ho:own i=true)(hN:X.N[i]?=some x)(hv:Vis X.env.scope x)(he:PE X e (gE fe re))(hd:nDb x:=by decide)(hcd:nCd x:=by decide)
 (hbase:attributeBase (.Name x p1) "append" X.env (eval (.Name x p1) X.env)=eval (.Name x p1) X.env:=by rfl)
 (hs1:starEach [e] X.env=(false,eval e X.env)::starEach [] X.env:=by rfl)
 (hfew:((backTo cpos (starEach [e] X.env)).all (λx=>!x.1)&&(backToKw cpos (keywordEach [] X.env)).all (λx=>x.1.isSome)
  &&decide (([e]:List Expr).length+([]:List Keyword).length+(if ([]:List Keyword).isEmpty then 0 else 1)<30))=true:=by rfl)
 (hline:(apos.endLine==cpos.line)=true:=by rfl)
 (hs:swapsWith (.Call (.Attribute (.Name x p1) "append" apos) [e] [] cpos) none pos.line X.env=pure false:=by rfl) :
  PS X (.Expr (.Call (.Attribute (.Name x p1) "append" apos) [e] [] cpos) pos) (tS own (xV i fe)):=
 PS.imp (KD (aEn PySem.F.plainAttrs_list PySem.F.slot_list_append PySem.F.type_list_append FQ (jH hN hv hd hcd) (fG he t7 hs1) hbase hfew hline hs1 rfl) hs) λD' σ H z0=>by
 obtain⟨ρ,fl,E,h,q⟩:=z0;obtain⟨d,h1,h2⟩:=aX h;split at h2
 ·rename_i xs hx;split at h2
  ·rename_i hk;cases h2;rw[Bool.and_eq_true] at hk;obtain⟨a,o,hσ,r,hin,ha,hm⟩:=E.ownAt ho (by rw[hx];intro z;cases z);rw[hx] at r hin;obtain⟨vs,hl,rr⟩:=aDf r;refine⟨_,hσ,.inl ⟨rfl,vs,.of hl⟩,ρ,d,E.er,h1,λv H' s rv _=>⟨a,vs,v,rfl,rfl,s _ _ hl,by rw[rr.length];exact W_ hk.1,?_⟩⟩;have E':=E.same s;have hl':=s _ _ hl;obtain⟨E2,k2⟩:=E'.mut ho hσ rfl (.lst aO trivial (((rr.same s).snoc rv).upd (by rw[G_];simp only[Bool.and_eq_true];exact⟨hin,by simp[D.aY,hk.2]⟩) hl' rfl)) (by show D.aY (xs++[d])=true;rw[G_];simp only[Bool.and_eq_true];exact⟨hin,by simp[D.aY,hk.2]⟩);exact q _ _ ((KU.same s).trans k2) E2
  ·exact bx h2
 ·exact bx h2
end
end Mi
namespace L2
open PySem PySem.Spec PyProof.Rows
section
variable {X:Cx} {scope:Scope} {own:List Str}
theorem aBq{y:Str}{py:Pos}{iy:Nat}(hNn:X.N.Nodup)(hiy:X.N[iy]?=some y)(hxy:Loc X.env.scope y)(hfy:X.fn y=true\/X.env.scope.names.lookup y=some .local){pins:List (Addr×Obj)}{σ:St}{D:Ends}{p C:Addr}{H5:Hp}{s6:Shared}{m6:Str->Option Value}(f:Inv X pins σ H5 s6)(k:VJ X pins H5 C)(n:s6.heap.Ns C m6)(q:wV iy (.ref p) σ H5 D.nx):compPost (model X.prog X.w) X.A X.xe (some (assign (.Name y py) X.env)) (λ_ s'=>SP X pins D .next s') (.ref p) C (.ok .next) s6:=by
 obtain⟨oC,esC,epC,hoC,hdC,_⟩:=id n;have finP:=f.KC (pins':=pins++[(C,oC)]) λp hp=>(List.mem_append.mp hp).elim (λz=>f.pin p (List.mem_append_right _ z)) λz=>by
  have z':p=(C,oC):=by simpa using z
  subst z';exact⟨hoC,k.1,k.2.1,k.2.2.1,λv z=>by rw[hdC] at z;cases z⟩
 refine thn (bB (pos:=py) hNn hiy hxy hfy _ _ σ H5 (.ref p) (.ref p) D.nx finP rfl q) λ_ s7 ⟨σ7,H7,I7,q7⟩=>?_
 obtain⟨g7,hC7,_⟩:=I7.pin (C,oC) (List.mem_append_right _ (List.mem_append_right _ (by simp)));refine⟨m6,n.at' λo e=>?_,λh' sb=>⟨σ7,H7,Inv.turned (t':=s7.toks) I7.qT (λb o hb e=>sb.extBut b o hb e) hC7 k.2.1 k.2.2.2.1 k.2.2.2.2.1 k.2.2.2.2.2,q7⟩⟩;rw[hoC] at e;cases e;exact g7
theorem aIr{elt iter tg:Expr}{ifs:List Expr}{wi:TI}{g:TG}{tc:TT}{te:TE}{pos:Pos}(S:cQ X.N X.env.scope scope own)(hcalm:X.calm=true)(hi:PI X tg iter wi)
 (hg:∀X',cW X X' scope own->PG X' tg g)(hc:(ifs=[]/\tc=λ_ H Q=>Q true H)\/∃c,ifs=[c]/\∀X',cW X X' scope own->PT X' c tc)(he:∀X',cW X X' scope own->PE X' elt te)
 (hs:∀x,foldedSetIterable iter X.env x=pure x){y:Str}{py pos2:Pos}{iy:Nat}(hNn:X.N.Nodup)(hiy:X.N[iy]?=some y)(hxy:Loc X.env.scope y)(hfy:X.fn y=true\/X.env.scope.names.lookup y=some .local)(hsw:swapsWith (.ListComp elt [⟨tg,iter,ifs,0⟩] scope pos) (some (.Name y py)) pos2.line X.env=pure true):PS X (.Assign [.Name y py] (.ListComp elt [⟨tg,iter,ifs,0⟩] scope pos) pos2) (aGs (MF wi g tc te own.length) (wV iy)):=by
 intro pins s σ H D I h;rw[exec_Assign_Name_used _ _ _ _ hsw];refine wpAny_bind (wpAny_standAt (wpAny_bind ?_));show wpAny _ X.A (do let _ <- comprehension (.ListComp elt [⟨tg,iter,ifs,0⟩] scope pos) scope X.env _ (newList []) false (eval iter X.env) (some (assign (.Name y py) X.env))) _ _ s;exact wpAny_bind (wpAny_mono (MJ (QQ:=λ_ s'=>SP X pins D .next s') S hcalm hi hg hc he hs I h (aBq hNn hiy hxy hfy)) (λ_ s' hq=>wpAny_pure (wpAny_pure hq)) λ_ _ e=>e)
theorem XR{elt iter tg c:Expr}{wi:TI}{g:TG}{tc:TT}{te:TE}{pos:Pos}(S:cQ X.N X.env.scope scope own)(hcalm:X.calm=true)(hi:PI X tg iter wi)
 (hg:∀X',cW X X' scope own->PG X' tg g)(hc:∀X',cW X X' scope own->PT X' c tc)(he:∀X',cW X X' scope own->PE X' elt te)
 (hs:∀x,foldedSetIterable iter X.env x=pure x){y:Str}{py pos2:Pos}{iy:Nat}(hNn:X.N.Nodup)(hiy:X.N[iy]?=some y)(hxy:Loc X.env.scope y)(hfy:X.fn y=true\/X.env.scope.names.lookup y=some .local)(hsw:swapsWith (.ListComp elt [⟨tg,iter,[c],0⟩] scope pos) (some (.Name y py)) pos2.line X.env=pure true):PS X (.Assign [.Name y py] (.ListComp elt [⟨tg,iter,[c],0⟩] scope pos) pos2) (aGs (MF wi g tc te own.length) (wV iy)):=
 aIr S hcalm hi hg (.inr ⟨c,rfl,hc⟩) he hs hNn hiy hxy hfy hsw
theorem aBr{elt iter tg:Expr}{wi:TI}{g:TG}{te:TE}{pos:Pos}(S:cQ X.N X.env.scope scope own)(hcalm:X.calm=true)(hi:PI X tg iter wi)
 (hg:∀X',cW X X' scope own->PG X' tg g)(he:∀X',cW X X' scope own->PE X' elt te)
 (hs:∀x,foldedSetIterable iter X.env x=pure x){y:Str}{py pos2:Pos}{iy:Nat}(hNn:X.N.Nodup)(hiy:X.N[iy]?=some y)(hxy:Loc X.env.scope y)(hfy:X.fn y=true\/X.env.scope.names.lookup y=some .local)(hsw:swapsWith (.ListComp elt [⟨tg,iter,[],0⟩] scope pos) (some (.Name y py)) pos2.line X.env=pure true):PS X (.Assign [.Name y py] (.ListComp elt [⟨tg,iter,[],0⟩] scope pos) pos2) (aGs (MF wi g (λ_ H Q=>Q true H) te own.length) (wV iy)):=
 aIr S hcalm hi hg (.inl ⟨rfl,rfl⟩) he hs hNn hiy hxy hfy hsw
end
end L2
namespace Mi
open PySem L2 PySem.SeqAt PySem.Spec PyProof.Rows
section
variable [KFrag]
variable {own:Nat->Bool}
section
variable {X:Cx} {a b c e:Expr} {pos pos':Pos} {fa fb fe:FE} {ra re:Bool} {gc:FT} {f g:FS} {st:Stmt} {s1 s2:List Stmt}
variable {scope:Scope} {ownN:List Str} {elt iter tg:Expr} {it:FI} {t:D->Res (List D)} {gt:TG}
theorem aFc(S:cQ X.N X.env.scope scope ownN)(hn:X.N.length=n)(hm:ownN.length=m)(hcalm:X.calm=true)(hi:PI X tg iter (gI X.K it))(ht:TgC gt t n m)(hg:∀X',cW X X' scope ownN->PG X' tg gt)(he:∀X',cW X X' scope ownN->PE X' elt (gE fe re))
 (hs:∀x,foldedSetIterable iter X.env x=pure x)(ho:own iy=o)(hNn:X.N.Nodup)(hiy:X.N[iy]?=some y)(hxy:Loc X.env.scope y)(hfy:X.fn y=true\/X.env.scope.names.lookup y=some .local)(hsw:swapsWith (.ListComp elt [⟨tg,iter,[],0⟩] scope pos) (some (.Name y py)) pos2.line X.env=pure true) :
  PS X (.Assign [.Name y py] (.ListComp elt [⟨tg,iter,[],0⟩] scope pos) pos2) (tS own (cC o iy (dU n it t jQ fe re) true)):=by
 intro pins s σ H D I h;subst hm;refine aBr S hcalm hi hg he hs hNn hiy hxy hfy hsw pins s σ H D I ?_;exact rM ht (λσ H Q h=>by obtain⟨ρ,b,E,h,q⟩:=h;cases h;exact q H (dG.refl H)) (I.len.trans hn) (M7 ho h)
theorem XS(S:cQ X.N X.env.scope scope ownN)(hn:X.N.length=n)(hm:ownN.length=m)(hcalm:X.calm=true)(hi:PI X tg iter (gI X.K it))(ht:TgC gt t n m)(hg:∀X',cW X X' scope ownN->PG X' tg gt)(hc:∀X',cW X X' scope ownN->PT X' c (gT gc))(he:∀X',cW X X' scope ownN->PE X' elt (gE fe re))
 (hs:∀x,foldedSetIterable iter X.env x=pure x)(ho:own iy=o)(hNn:X.N.Nodup)(hiy:X.N[iy]?=some y)(hxy:Loc X.env.scope y)(hfy:X.fn y=true\/X.env.scope.names.lookup y=some .local)(hsw:swapsWith (.ListComp elt [⟨tg,iter,[c],0⟩] scope pos) (some (.Name y py)) pos2.line X.env=pure true) :
  PS X (.Assign [.Name y py] (.ListComp elt [⟨tg,iter,[c],0⟩] scope pos) pos2) (tS own (cC o iy (dU n it t gc fe re) true)):=by
 intro pins s σ H D I h;subst hm;refine XR S hcalm hi hg hc he hs hNn hiy hxy hfy hsw pins s σ H D I ?_;exact rM ht (λσ H Q h=>h) (I.len.trans hn) (M7 ho h)
def aFd:V->List V->Hp->VK->Prop:=λx vs H Q=>∃l xs j y,x=.ref l/\vs=[.int j,y]/\H l=some (.lst xs)/\0<=j/\j<=xs.length/\xs.length<sizeLine/\Q .non (upd H l (.lst (xs.take j.toNat++y::xs.drop j.toNat)))
theorem XX:MtR X "list.insert" aFd:=by
 intro pins s σ H x vs v us Q I rx rv h;obtain⟨l,xs,j,y,rfl,rfl,hH,h0,h1,hz,q⟩:=h;cases rx;cases rv with
 |cons rj rv=>
  cases rv with
  |cons ry rv=>
   cases rv;obtain⟨tt,rfl⟩:=rj;obtain⟨z,its,n,r,hl,e⟩:=I.aMd hH;have hs:sizeLine=16777216:=sizeLine_eq;refine call_meets F.slot_list_insert ⟨_,e,rfl⟩ F.entry_list_insert (F.args_list_insert_3 _ _ _) (AutoSeq1.list_insert_list_int_val_1 l its.toArray n j tt _ (by
    rw[show Builtin.List.listFitsIndex j=true from by unfold Builtin.List.listFitsIndex;simp only[Bool.and_eq_true,decide_eq_true_eq];lia];decide) (by rw[List.size_toArray];lia)) ⟨e,?_⟩
   refine⟨.non,_,I.aMc hH e ?_ ((r.take j.toNat).append (.cons ry (r.drop j.toNat))) ?_,rfl,q⟩
   ·have hj:¬j<0:=by lia
    have hm:min j.toNat its.length=j.toNat:=by lia
    simp only[hj,if_false,List.size_toArray,hm];apply Array.toList_inj.mp;simp[List.extract_eq_drop_take]
    first|rfl|(rw[List.take_of_length_le];simp)
   ·rw[List.length_append,List.length_cons,List.length_take,List.length_drop];lia
theorem aIs(ho:own i=true)(hN:X.N[i]?=some x)(hv:Vis X.env.scope x)(ha:PE X a (gE fa ra))(he:PE X e (gE fe re))(hd:nDb x:=by decide)(hcd:nCd x:=by decide)
 (hbase:attributeBase (.Name x p1) "insert" X.env (eval (.Name x p1) X.env)=eval (.Name x p1) X.env:=by rfl)
 (hs0:starEach [a,e] X.env=(false,eval a X.env)::starEach [e] X.env:=by rfl)(hs1:starEach [e] X.env=(false,eval e X.env)::starEach [] X.env:=by rfl)
 (hfew:((backTo cpos (starEach [a,e] X.env)).all (λx=>!x.1)&&(backToKw cpos (keywordEach [] X.env)).all (λx=>x.1.isSome)
  &&decide (([a,e]:List Expr).length+([]:List Keyword).length+(if ([]:List Keyword).isEmpty then 0 else 1)<30))=true:=by rfl)
 (hline:(apos.endLine==cpos.line)=true:=by rfl)(hpl:(backTo cpos (starEach [e] X.env)).any (·.1)=false:=by rfl)
 (hs:swapsWith (.Call (.Attribute (.Name x p1) "insert" apos) [a,e] [] cpos) none pos.line X.env=pure false:=by rfl) :
  PS X (.Expr (.Call (.Attribute (.Name x p1) "insert" apos) [a,e] [] cpos) pos) (tS own (aIb i fa fe)):=
 PS.imp (KD (aEn PySem.F.plainAttrs_list PySem.F.slot_list_insert PySem.F.type_list_insert XX (jH hN hv hd hcd) (fG ha (fG he t7 hs1) hs0) hbase hfew hline hs0 hpl) hs) λD' σ H z0=>by
 obtain⟨ρ,fl,E,h,q⟩:=z0;obtain⟨j,h0,h⟩:=aX h;obtain⟨d,h1,h2⟩:=aX h;split at h2
 ·rename_i xs jj hx;split at h2
  ·rename_i hk;cases h2;simp only[Bool.and_eq_true,decide_eq_true_eq] at hk;obtain⟨⟨⟨hk1,hk2⟩,hk3⟩,hk4⟩:=hk;obtain⟨a,o,hσ,r,hin,ha,hm⟩:=E.ownAt ho (by rw[hx];intro z;cases z);rw[hx] at r hin;obtain⟨vs,hl,rr⟩:=aDf r;refine⟨_,hσ,.inl ⟨rfl,vs,.of hl⟩,ρ,_,E.er,h0,λv0 H0 s0 rv0 _=>⟨ρ,d,E.er.same s0,h1,λv H' s rv _=>?_⟩⟩;cases rv0.inv;have s':=s0.trans s;refine⟨a,vs,jj,v,rfl,rfl,s' _ _ hl,hk3,by rw[rr.length];exact hk4,by rw[rr.length];exact Nat.lt_of_lt_of_le hk1 (by rw[sizeLine_eq];decide),?_⟩;have E':=E.same s';have hl':=s' _ _ hl;have hin':D.aY xs=true:=hin;have hp:D.aY (xs.take jj.toNat++d::xs.drop jj.toNat)=true:=rG.mpr λy hy=>by
    rcases List.mem_append.mp hy with hy|hy
    ·exact rG.mp hin' y (List.mem_of_mem_take hy)
    ·rcases List.mem_cons.mp hy with rfl|hy
     ·exact hk2
     ·exact rG.mp hin' y (List.mem_of_mem_drop hy)
   have rr':=rr.same s';obtain⟨E2,k2⟩:=E'.mut ho hσ rfl (.lst aO trivial (((rr'.take jj.toNat).append (.cons rv (rr'.drop jj.toNat))).upd hp hl' rfl)) hp;exact q _ _ ((KU.same s').trans k2) E2
  ·exact bx h2
 ·exact bx h2
theorem Q3[DecidableEq κ]{k:κ}{v:V}(e:p.1=k)(h:k∉r.map (·.1)):putK (p::r) k v=(k,v)::r:=by
 unfold putK;rw[if_pos (by simp[e]),List.map_cons,if_pos e,e]
 congr 1
 have:∀q∈r,(λkv:κ×V=>if kv.1=k then (kv.1,v) else kv) q=id q:=λq hq=>by
  have:q.1≠k:=λz=>h (List.mem_map.mpr ⟨q,hq,z⟩)
  simp[this]
 rw[List.map_congr_left this,List.map_id]
theorem Q4[DecidableEq κ]{k:κ}{v:V}(e:¬p.1=k):putK (p::r) k v=p::putK r k v:=by
 unfold putK;rw[List.any_cons,decide_eq_false e,Bool.false_or];split
 ·rw[List.map_cons,if_neg e]
 ·rfl
theorem rN[DecidableEq κ]:∀{kvs:List (κ×V)},(kvs.map (·.1)).Nodup->((putK kvs k v).map (·.1)).Nodup:=λ{kvs} h=>by
 by_cases hk:wW kvs k=none
 ·exact aEr v h hk
 ·unfold putK;rw[if_pos (by rw[qY];exact Option.isSome_iff_ne_none.mpr hk),List.map_map];have:(λx:κ×V=>x.1) ∘ (λkv:κ×V=>if kv.1=k then (kv.1,v) else kv)=λx=>x.1:=by
   funext q
   simp only[Function.comp];split<;>rfl
  rw[this];exact h
theorem zO(rv:Rep P H v d):∀{kvs:List (Key×V)}{ds:List (D×D)},qR P H kvs ds->(kvs.map (·.1)).Nodup->qR P H (putK kvs k v) (putD ds (kD k) d)
 |_,_,.nil,_=>.cons rv .nil
 |_,_,.cons (k:=k') (v:=v') r t,hn=>by
  rw[List.map_cons] at hn;obtain⟨h1,h2⟩:=List.nodup_cons.mp hn;rw[putD,aBm];by_cases h:k'=k
  ·subst h;rw[if_pos (by simp),Q3 rfl h1];exact .cons rv t
  ·rw[if_neg (by simpa using h),Q4 h];exact .cons r (zO rv t h2)
theorem zP(rv:Rep P H v d):∀{kvs:List (List Key×V)}{ds:List (D×D)},o6 P H kvs ds->(kvs.map (·.1)).Nodup->o6 P H (putK kvs k v) (putD ds (.tup (k.map kD)) d)
 |_,_,.nil,_=>.cons rv .nil
 |_,_,.cons (k:=k') (v:=v') r t,hn=>by
  rw[List.map_cons] at hn;obtain⟨h1,h2⟩:=List.nodup_cons.mp hn;rw[putD,aF3];by_cases h:k'=k
  ·subst h;rw[if_pos (by simp),Q3 rfl h1];exact .cons rv t
  ·rw[if_neg (by simpa using h),Q4 h];exact .cons r (zP rv t h2)
theorem qR.length:∀{kvs:List (Key×V)}{ds:List (D×D)},qR P H kvs ds->kvs.length=ds.length
 |_,_,.nil=>rfl
 |_,_,.cons _ t=>by rw[List.length_cons,List.length_cons,qR.length t]
theorem o6.length:∀{kvs:List (List Key×V)}{ds:List (D×D)},o6 P H kvs ds->kvs.length=ds.length
 |_,_,.nil=>rfl
 |_,_,.cons _ t=>by rw[List.length_cons,List.length_cons,o6.length t]
theorem zQ{a:Addr}(ha:H a=some ob)(hm:GQ ob=true):DW (λ_=>False) H (L2.upd H a o):=λc oc hc h=>by
 rw[bL]
 ·exact hc
 ·intro z;subst z;rcases h with h|h
  ·exact h.elim
  ·rw[ha] at hc;cases hc;rw[hm] at h;cases h
theorem tO(hd:d.pure=true):∀{ds:List (D×D)},D.aY (ds.map (·.2))=true->D.aY ((putD ds k d).map (·.2))=true
 |[],_=>by simp[putD,D.aY,hd]
 | (q,w)::r,h=>by
  rw[List.map_cons,D.aY,Bool.and_eq_true] at h;rw[putD];split
  ·rw[List.map_cons,D.aY,Bool.and_eq_true];exact⟨hd,h.2⟩
  ·rw[List.map_cons,D.aY,Bool.and_eq_true];exact⟨h.1,tO hd h.2⟩
theorem aIt{ad:Addr}{y v:V}{ds:List (D×D)}{k d:D}(I:Inv X pins σ H s)(rd:Rep All H (.ref ad) (.dct ds))(hin:D.aY (ds.map (·.2))=true)(rk:Rep All H y k)(hk:t_ ds k=true)(hl:ds.length<sizeLine)(rv:Rep All H v d)(hd:d.pure=true) :
  ∃H1 o,Inv X pins σ H1 s/\aD0 H1 ad y v (L2.upd H ad o)/\GQ o=true/\Rep All (L2.upd H ad o) (.ref ad) (.dct (putD ds k d)):=by
 unfold t_ at hk;rw[Bool.and_eq_true] at hk;obtain⟨h1,h2⟩:=hk;have rv':Rep (λ_=>False) H v d:=rv.bN hd;cases rd with
 |@dK _ kvs ds e _ r n=>
  have hlen:=r.length;rcases jB h1 rk with ⟨q,rfl,rfl⟩|⟨b,ks,rfl,eb,rfl⟩
  ·refine⟨H,.dK (putK kvs q v),I,.k e (by lia),rfl,.dK aO trivial ?_ (rN n)⟩;exact(zO rv' (r.bN hin) n).keep (zQ e rfl) λ_ z=>z.elim
  ·cases r with
   |nil=>
    refine⟨L2.upd H ad (.dT []),.dT (putK [] ks v),n6 I e,?_,rfl,.dT aO trivial ?_ (rN List.nodup_nil)⟩
    ·have:=aD0.t (H:=L2.upd H ad (.dT [])) (a:=ad) (b:=b) (kvs:=[]) (k:=ks) (v:=v) aO (by rw[bL (aEa eb e (by intro z;cases z))];exact eb) hl;rwa [J_] at this
    ·exact(zP (k:=ks) rv' .nil List.nodup_nil).keep (zQ e rfl) λ_ z=>z.elim
   |cons r t=>
    rw[List.all_cons,fC] at h2;simp[isTup] at h2
 |@dT _ kvs ds e _ r n=>
  have hlen:=r.length;rcases jB h1 rk with ⟨q,rfl,rfl⟩|⟨b,ks,rfl,eb,rfl⟩
  ·cases r with
   |nil=>
    refine⟨L2.upd H ad (.dK []),.dK (putK [] q v),n8 I e,?_,rfl,.dK aO trivial ?_ (rN List.nodup_nil)⟩
    ·have:=aD0.k (H:=L2.upd H ad (.dK [])) (a:=ad) (kvs:=[]) (k:=q) (v:=v) aO hl;rwa [J_] at this
    ·exact(zO (k:=q) rv' .nil List.nodup_nil).keep (zQ e rfl) λ_ z=>z.elim
   |cons r t=>
    rw[List.all_cons,fC] at h2;simp[isTup] at h2
  ·refine⟨H,.dT (putK kvs ks v),I,.t e eb (by lia),rfl,.dT aO trivial ?_ (rN n)⟩;exact(zP rv' (r.bN hin) n).keep (zQ e rfl) λ_ z=>z.elim
theorem uE(hu:X.A.units+20<cLine)(ho:own i=true)(hN:X.N[i]?=some x)(hvi:Vis X.env.scope x)(hk:PE X k (gE fk rk))(hv:PE X value (gE fv rv))
 (hs:swapsWith value (some (.Subscript (.Name x p1) k pos')) pos.line X.env=pure false:=by rfl)(hd:nDb x:=by decide)(hcd:nCd x:=by decide) :
  PS X (.Assign [.Subscript (.Name x p1) k pos'] value pos) (tS own (yW i fk fv)):=by
 rintro pins s σ H D' I ⟨ρ,fl,E,h,q⟩;obtain⟨d,h0,h⟩:=aX h;obtain⟨kd,h1,h2⟩:=aX h;split at h2
 ·rename_i kvs hx;split at h2
  ·rename_i hg;cases h2;simp only[Bool.and_eq_true] at hg;obtain⟨⟨hg1,hg2⟩,hg3⟩:=hg;obtain⟨a,o,hσ,r,hin,ha,hm⟩:=E.ownAt ho (by rw[hx];intro z;cases z);rw[hx] at r hin;refine wpAny_Assign_Subscript (thn (hv pins s σ H (λv H1=>dG H H1/\Rep All H1 v d) I ⟨ρ,d,E.er,h0,λv H1 s1 r1 _=>⟨s1,r1⟩⟩) λrr s1 ⟨v,H1,I1,rv1,sm1,rp1⟩=>
    thn (jH hN hvi hd hcd pins s1 σ H1 (λw H2=>w=.ref a/\H2=H1) I1 ⟨_,hσ,rfl,rfl⟩) λu s2 ⟨xx,H2,I2,rx,ex,eH⟩=>
    thn (hk pins s2 σ H2 (λw H3=>dG H2 H3/\Rep All H3 w kd) I2 ⟨ρ,kd,by rw[eH];exact E.er.same sm1,h1,λv H1 s1 r1 _=>⟨s1,r1⟩⟩) λiv s3 ⟨y,H3,I3,ry,sm3,rp3⟩=>?_) hs
   subst ex eH;obtain rfl:u=Value.ref a:=rx;have sm:=sm1.trans sm3;obtain⟨H4,o4,I4,g,hmo,rp⟩:=aIt I3 (r.same sm) hin rp3 hg2 (W_ hg1) (rp1.same sm3) hg3;obtain⟨E2,k2⟩:=(E.same sm).mut ho hσ hmo rp (tO hg3 hin);exact F_ (by lia) I4 g ry rv1 λs4 I5=>⟨σ,_,I5,q _ _ ((KU.same sm).trans k2) E2⟩
  ·exact bx h2
 ·exact bx h2
def TgS(own:Nat->Bool)(g:TG)(t:D->List D->Res (List D)):Prop:=∀(v:V)(d:D)(ρ ρ':List D)(σ:L2.St)(H:Hp)(Q:L2.St->Hp->Prop),ES own H σ ρ->Rep (λa=>¬Own own σ a) H v d->t d ρ=.ok ρ'->
 (∀σ',ES own H σ' ρ'->(∀a,Own own σ' a↔Own own σ a)->Q σ' H)->g v σ H Q
theorem jT(ho:own i=false):TgS own (wV i) (tg1 i):=λv d ρ ρ' σ H Q E r h q=>by
 cases h;exact q _ (E.set ho r) λa=>mY ho a
theorem ES.sets:∀{is:List Nat}{vs:List V}{ds:List D}{σ:L2.St}{ρ:List D},(∀i∈is,own i=false)->ES own H σ ρ->bT (λa=>¬Own own σ a) H vs ds->ES own H (mX is vs σ) (WW is ds ρ)/\∀a,Own own (mX is vs σ) a↔Own own σ a
 |[],_,_,_,_,_,E,_=>by simp only[mX,WW];exact⟨E,λ_=>trivial⟩
 |i::is,_,_,σ,ρ,h,E,.nil=>by simp only[mX,WW];exact⟨E,λ_=>trivial⟩
 |i::is,_,_,σ,ρ,h,E,.cons (v:=v) r t=>by
  have ho:=h i (List.mem_cons_self ..);have hO:(λa=>¬Own own (σ.set i (some v)) a)=λa=>¬Own own σ a:=funext λa=>by rw[mY ho]
  obtain⟨h1,h2⟩:=ES.sets (λj hj=>h j (List.mem_cons_of_mem _ hj)) (E.set ho r) (by rw[hO];exact t);exact⟨h1,λa=>(h2 a).trans (mY ho a)⟩
theorem tQ(K:PySem.W.Frag)(ho:∀i∈is,own i=false):TgS own (aKr K is.length (gIx is)) (tgN is):=λv d ρ ρ' σ H Q E r h q=>by
 cases d<;>simp only[tgN] at h<;>(try (exact bx h;done))
 split at h
 ·rename_i hl;cases h;have hl':=of_decide_eq_true hl;obtain⟨a,xs,rfl,e,rr⟩:=r.gQ;obtain⟨h1,h2⟩:=E.sets ho rr;exact⟨a,xs,rfl,.of e,by rw[rr.length];exact hl',M6 _ _ _ (by rw[rr.length];exact hl') (q _ h1 h2)⟩
 ·exact bx h
theorem ItQ.ku{K:PySem.W.Frag}(h:ItQ K (λa=>¬Own own σ a) J H items)(k:KU own σ H σ' H')(E:ES own H σ ρ):ItQ K (λa=>¬Own own σ' a) J H' items:=h.keep' (k.keep E) λa o e n=>(k a o e n).2
theorem Q5{K:PySem.W.Frag}{g:TG}{t:D->List D->Res (List D)}{body:FS}{D':Ends}{J:It}{items:List D}{σ:L2.St}{H1:Hp}{ρ:List D}{fl:Fl}(tg:TgS own g t)(E:ES own H1 σ ρ)(hJ:ItQ K (λa=>¬Own own σ a) J H1 items)(hf:nY t body items ρ=.ok fl)(q:kS own D' σ H1 fl) :
  ∃W:Nat->Nat->L2.St->Hp->Prop,(∃m,W 0 m σ H1)/\∀i m σ H,W i m σ H->
   (J.stop i H/\D'.nx σ H)\/(J.go i H/\∃N:L2.St->Hp->Prop,(∀σ' H',N σ' H'->∃m',m'<m/\W (i+1) m' σ' H')/\∀x H',J.yld i H x H'->g x σ H' λσ2 H2=>tS own body {D' with nx:=N,ct:=N,bk:=D'.nx} σ2 H2):=by
 refine⟨λi m σ' H'=>m=items.length-i/\i<=items.length/\ItQ K (λa=>¬Own own σ' a) J H' items/\∃ρ',ES own H' σ' ρ'/\nY t body (items.drop i) ρ'=.ok fl/\kS own D' σ' H' fl,⟨items.length,rfl,Nat.zero_le _,hJ,ρ,E,hf,q⟩,?_⟩;rintro i m σ' H' ⟨rfl,hi,hJ',ρ',E',hf',q'⟩;rcases Nat.lt_or_ge i items.length with hlt|hge
 ·refine .inr ?_;have e:items[i]?=some items[i]:=List.getElem?_eq_getElem hlt;obtain⟨g1,g2⟩:=hJ'.go e;rw[List.drop_eq_getElem_cons hlt] at hf';obtain⟨ρ1,h1,hf2⟩:=aX hf';obtain⟨r,h2,hf3⟩:=aX hf2;refine⟨g1,λσ2 H2=>ItQ K (λa=>¬Own own σ2 a) J H2 items/\∃ρ',ES own H2 σ2 ρ'/\nY t body (items.drop (i+1)) ρ'=.ok fl/\kS own D' σ2 H2 fl,λσ2 H2 ⟨n1,n2⟩=>⟨items.length-(i+1),by lia,rfl,hlt,n1,n2⟩,λx H2 hy=>?_⟩;obtain⟨sH,rx⟩:=g2 x H2 hy;have ks:KU own σ' H' σ' H2:=λa o e n=>⟨sH a o e,n⟩
  have hJ':=hJ'.ku ks E';have q':=q'.step ks;have E':=E'.same sH;refine tg x items[i] ρ' ρ1 σ' H2 _ E' rx h1 λσ2 E2 hO=>?_
  have k0:KU own σ' H2 σ2 H2:=λa o e n=>⟨e,by rw[hO];exact n⟩
  have hJ2:=hJ'.ku k0 E';have q2:=q'.step k0;refine⟨ρ1,r,E2,h2,?_⟩;cases r with
  |nx ρ2=>exact λσ3 H3 k3 E3=>⟨hJ2.ku k3 E2,ρ2,E3,hf3,q2.step k3⟩
  |ct ρ2=>exact λσ3 H3 k3 E3=>⟨hJ2.ku k3 E2,ρ2,E3,hf3,q2.step k3⟩
  |bk ρ2=>cases hf3;exact λσ3 H3 k3 E3=>q2 σ3 H3 k3 E3
  |rt d=>cases hf3;exact q2
 ·refine .inl ⟨hJ'.stop hge,?_⟩;rw[List.drop_eq_nil_of_le hge] at hf';cases hf';exact q' σ' H' (λa o e n=>⟨e,n⟩) E'
theorem mZ{tg iter:Expr}{body:List Stmt}{g:TG}{t:D->List D->Res (List D)}{it:FI}{fb:FS}(hp:PassesOwn (model X.prog X.w) X.A X.env X.xe)(hc:X.calm=true)(hi:PI X tg iter (gI X.K it))(ht:TgS own g t)(hg:PG X tg g)(hb:PSs X body (tS own fb))
 (hs:∀x,foldedSetIterable iter X.env x=pure x:=by intro _;rfl):PS X (.For tg iter body [] pos) (tS own (GK it t fb)):=PS.imp (aCy hp hc hi hg hb hs) λD' σ H z0=>by
 obtain⟨ρ,fl,E,h,q⟩:=z0;obtain⟨⟨items,k⟩,h1,h2⟩:=aX h;split at h2
 ·rename_i hk;exact⟨ρ,items,k,E.er,h1,λJ H1 s1 _ hJ=>Q5 ht (E.same s1) ((hJ hk).keep (λ_ _ e _=>e) λa ha ho=>by
   obtain⟨o,e1,_⟩:=E.live ho;rw[show H a=none from ha] at e1;cases e1) h2 (q.step (.same s1))⟩
 ·exact bx h2
theorem zR{g:TG}{t:D->List D->Res (List D)}{i:Nat}{x:Str}{px:Pos}{fb:FS}(ho:own i=false)(hp:PassesOwn (model X.prog X.w) X.A X.env X.xe)(hc:X.calm=true)(hN:X.N[i]?=some x)(hv:Vis X.env.scope x)(ht:TgS own g t)(hg:PG X tg g)(hb:PSs X body (tS own fb))
 (hs:∀z,foldedSetIterable (.Name x px) X.env z=pure z:=by intro _;rfl)(hd:nDb x:=by decide)(hcd:nCd x:=by decide):PS X (.For tg (.Name x px) body [] pos) (tS own (LK i t fb)):=PS.imp (aCy hp hc (aIp hN hv hd hcd) hg hb hs) λD' σ H z0=>by
 obtain⟨ρ,fl,E,h,q⟩:=z0;obtain⟨d,h1,h⟩:=aX h;obtain⟨items,h2,h3⟩:=aX h;obtain⟨v,hv,r,e⟩:=E.er.var h1;have hne:ρ.getD i .uD≠.uD:=λz=>by
  rw[z] at e;subst e;exact Rep.uD r
 obtain⟨w,hw,hr⟩:=E.at_ i hne;rw[hv] at hw;cases hw;have r2:=hr ho;rw[e] at r2;exact⟨v,d,items,hv,r,h2,λJ hJ=>Q5 ht E (hJ _ r2) h3 q⟩
theorem aBs{N ps:List Str}(hst:start N vs=vs.map some++List.replicate (N.length-ps.length) none)(hl:ds.length=ps.length)(r:bT All H vs ds)(hown:∀i,i<ps.length->own i=false)(noown:∀a,¬Own own (start N vs) a):ES own H (start N vs) (ds++List.replicate (N.length-ps.length) .uD):=by
 refine⟨by rw[hst];simp[r.length],λi hi=>?_,λi v hi hv=>?_⟩
 ·have hlt:i<ds.length:=Nat.lt_of_not_le λhge=>hi (by
   rw[List.getD_eq_getElem?_getD,List.getElem?_append_right hge,List.getElem?_replicate];split<;>rfl)
  have e:(ds++List.replicate (N.length-ps.length) D.uD).getD i .uD=ds[i]:=by
   rw[List.getD_eq_getElem?_getD,List.getElem?_append_left hlt,List.getElem?_eq_getElem hlt];rfl
  obtain⟨v,g1,g2⟩:=r.get (i:=i) (d:=ds[i]) (by simp[hlt]);refine⟨v,by rw[hst,List.getElem?_append_left (by simp[r.length,hlt])];simp[g1],λ_=>?_⟩;rw[e];exact g2.mono λa _=>noown a
 ·exfalso;rw[hst] at hv;by_cases h:i<ps.length
  ·rw[hown i h] at hi;cases hi
  ·rw[List.getElem?_append_right (by simp[r.length,hl];lia)] at hv;rw[List.getElem?_replicate] at hv;split at hv<;>cases hv
theorem aFe{N ps:List Str}{f:FS}{vs:List V}{H:Hp}{Q:VK}{E:XK}(hx:own rtX=false)(hown:∀i,i<ps.length->own i=false)(h0:spD (fnS ps.length N.length f) ps.length vs H Q E):tS own f {nx:=λ_ H'=>Q .non H',rt:=Q} (start N vs) H:=by
 obtain⟨ds,d,hl,r,h,q⟩:=h0
 ·obtain⟨fl,h1,h2⟩:=aX h;have hst:start N vs=vs.map some++List.replicate (N.length-ps.length) none:=by
   show vs.map some++List.replicate (N.length-vs.length) none=_;rw[r.length,hl]
  have noown:∀a,¬Own own (start N vs) a:=λa z0=>by
   obtain⟨i,hi,e⟩:=z0;rw[hst] at e;by_cases h:i<ps.length
   ·rw[hown i h] at hi;cases hi
   ·rw[List.getElem?_append_right (by simp[r.length,hl];lia)] at e;rw[List.getElem?_replicate] at e;split at e<;>cases e
  have E0:ES own H (start N vs) (ds++List.replicate (N.length-ps.length) .uD):=aBs hst hl r hown noown;refine⟨_,fl,E0,h1,?_⟩;have sm:∀{σ':L2.St}{H':Hp},KU own (start N vs) H σ' H'->dG H H':=λk a o e=>(k a o e (noown a)).1
  cases fl with
  |nx ρ'=>cases h2;exact λσ' H' k E'=>q .non H' (sm k) .non λ_=>.non
  |rt d'=>
   cases h2;refine kRt.mk hx λv H' hk rp=>q v H' (λa o e=>hk a o e (noown a)) rp.all λ_=>rp.mono λa ha=>?_
   rcases ha with ha|ha
   ·exact absurd ha (noown a)
   ·exact ha
  |bk ρ'=>exact bx h2
  |ct ρ'=>exact bx h2
theorem aIu{w:World}{K:PySem.W.Frag}{mg:Str->Option Value}{base:Heap}{x qual:Str}{st:Stmt}{fad:Addr}{fd:FuncData}{N ps:List Str}{k:Nat}{f:FS}(F:Fun K x qual st fad fd)(S:bQ N ps (aM st))(own:Nat->Bool)(hown:∀i,i<ps.length->own i=false)(hNl:ps.length<=N.length)
 (hbody:∀(cdv:Value) (A:Around) (outer:List Env) (s:Shared) (H:Hp) (E:XK),t6 k (A.deeper (envOfC qual (aM st) s.heap.objs.size fad cdv))->PSs (aAz CX0 P w K mg base N qual (aM st) fad cdv A outer s H E).nox (i_ st) (tS own f))(hx:own rtX=false:=by rfl):SN P w K mg base CX0 (k+1) fad fd ps (spD (fnS ps.length N.length f) ps.length):=
 F.ok S (λvs H Q E h=>aF7 h) λcdv A outer s H vs Q E hr h=>⟨_,hbody cdv A outer s H E hr,aFe hx hown h⟩
end
end
variable [KFrag]
structure aLf where
 s₀:Shared
 H₀:Hp
 env:Env
 outer:List Env
 stack:List Env
 ex:List Addr
 fn:Str->Bool
 pn:List (Addr×Obj)
abbrev mkC(X:Cx)(scope:Scope)(ownN:List Str)(y:aLf):Cx:=
 {X with N:=X.N.map (gJ ownN)++ownN,s₀:=y.s₀,H₀:=y.H₀,env:={y.env with scope:=relabel scope X.env},outer:=y.outer,stack:=y.stack,ex:=y.ex,fn:=y.fn,pn:=y.pn,xe:=λ_ _=>False}
theorem oU(cc:cW X X' scope ownN):∃y,X'=mkC X scope ownN y:=by
 refine⟨⟨X'.s₀,X'.H₀,X'.env,X'.outer,X'.stack,X'.ex,X'.fn,X'.pn⟩,?_⟩;obtain⟨h1,h2,h3,h4,h5,h6,h7,h8,h9,h10⟩:=cc;cases X' with
 |mk a b c d e f g h i j k l m n o p q=>
  cases j;dsimp only at *;subst h1 h2 h3 h4 h5 h6 h7 h8 h9 h10;rfl
section
theorem aBt(S:cQ X.N X.env.scope scope ownN)(hn:X.N.length=n)(hm:ownN.length=m)(hcalm:X.calm=true)(hi:PI X tg iter (gI X.K it))(ht:TgC g t n m)(hg:∀y,PG (mkC X scope ownN y) tg g)(he:∀y,PE (mkC X scope ownN y) elt (gE fe re))
 (hs:∀x,foldedSetIterable iter X.env x=pure x):PE X (.ListComp elt [⟨tg,iter,[],0⟩] scope pos) (gE (dU n it t jQ fe re) true):=
 aF9 S hn hm hcalm hi ht (λX' cc=>by obtain⟨y,rfl⟩:=oU cc;exact hg y) (λX' cc=>by obtain⟨y,rfl⟩:=oU cc;exact he y) hs
theorem oA(S:cQ X.N X.env.scope scope ownN)(hn:X.N.length=n)(hm:ownN.length=m)(hcalm:X.calm=true)(hi:PI X tg iter (gI X.K it))(ht:TgC g t n m)(hg:∀y,PG (mkC X scope ownN y) tg g)(hc:∀y,PT (mkC X scope ownN y) c (gT gc))(he:∀y,PE (mkC X scope ownN y) elt (gE fe re))
 (hs:∀x,foldedSetIterable iter X.env x=pure x):PE X (.ListComp elt [⟨tg,iter,[c],0⟩] scope pos) (gE (dU n it t gc fe re) true):=
 XQ S hn hm hcalm hi ht (λX' cc=>by obtain⟨y,rfl⟩:=oU cc;exact hg y) (λX' cc=>by obtain⟨y,rfl⟩:=oU cc;exact hc y) (λX' cc=>by obtain⟨y,rfl⟩:=oU cc;exact he y) hs
theorem rO(S:cQ X.N X.env.scope scope ownN)(hn:X.N.length=n)(hm:ownN.length=m)(hcalm:X.calm=true)(hi:PI X tg iter (gI X.K it))(ht:TgC g t n m)(hg:∀y,PG (mkC X scope ownN y) tg g)(he:∀y,PE (mkC X scope ownN y) elt (gE fe re))
 (hs:∀x,foldedSetIterable iter X.env x=pure x)(ho:own iy=o)(hNn:X.N.Nodup)(hiy:X.N[iy]?=some y)(hxy:Loc X.env.scope y)(hfy:X.fn y=true\/X.env.scope.names.lookup y=some .local)(hsw:swapsWith (.ListComp elt [⟨tg,iter,[],0⟩] scope pos) (some (.Name y py)) pos2.line X.env=pure true) :
  PS X (.Assign [.Name y py] (.ListComp elt [⟨tg,iter,[],0⟩] scope pos) pos2) (tS own (cC o iy (dU n it t jQ fe re) true)):=
 aFc S hn hm hcalm hi ht (λX' cc=>by obtain⟨y,rfl⟩:=oU cc;exact hg y) (λX' cc=>by obtain⟨y,rfl⟩:=oU cc;exact he y) hs ho hNn hiy hxy hfy hsw
theorem iW(S:cQ X.N X.env.scope scope ownN)(hn:X.N.length=n)(hm:ownN.length=m)(hcalm:X.calm=true)(hi:PI X tg iter (gI X.K it))(ht:TgC g t n m)(hg:∀y,PG (mkC X scope ownN y) tg g)(hc:∀y,PT (mkC X scope ownN y) c (gT gc))(he:∀y,PE (mkC X scope ownN y) elt (gE fe re))
 (hs:∀x,foldedSetIterable iter X.env x=pure x)(ho:own iy=o)(hNn:X.N.Nodup)(hiy:X.N[iy]?=some y)(hxy:Loc X.env.scope y)(hfy:X.fn y=true\/X.env.scope.names.lookup y=some .local)(hsw:swapsWith (.ListComp elt [⟨tg,iter,[c],0⟩] scope pos) (some (.Name y py)) pos2.line X.env=pure true) :
  PS X (.Assign [.Name y py] (.ListComp elt [⟨tg,iter,[c],0⟩] scope pos) pos2) (tS own (cC o iy (dU n it t gc fe re) true)):=
 XS S hn hm hcalm hi ht (λX' cc=>by obtain⟨y,rfl⟩:=oU cc;exact hg y) (λX' cc=>by obtain⟨y,rfl⟩:=oU cc;exact hc y) (λX' cc=>by obtain⟨y,rfl⟩:=oU cc;exact he y) hs ho hNn hiy hxy hfy hsw
end
noncomputable def aIv:FS:=λ_=>.bad
theorem aDg{st:Stmt}:PS X st (tS own aIv):=λpins s σ H D I h=>by
 obtain⟨_,_,_,h,_⟩:=h;exact bx h
theorem aFf{st:List Stmt}:PSs X st (tS own aIv):=λpins s σ H D I h=>by
 obtain⟨_,_,_,h,_⟩:=h;exact bx h
def cJ(P:Program)(w:World)(K:PySem.W.Frag)(mg:Str->Option Value)(base:Heap)(k:Nat)(x:Str)(n:Nat)(f:List D->Res D):Prop:=
 ∃(fad:Addr)(fd:FuncData)(ps:List Str),SN P w K mg base CX0 k fad fd ps (spD f n)/\mg x=some (.ref fad)/\PySem.W.keepIn K (.ref fad)=true/\Binds K fd ps []
section
theorem aU(C:cJ X.prog X.w X.K X.mg X.base k x n f)(hr:t6 k' X.A)(hkk:k<=k')(hg:Gl X x)(ha:PA X (e::es) (gA fs rr))(hdb:nDb x:=by decide)(he:starEach (e::es) X.env=(false,eval e X.env)::starEach es X.env:=by rfl)(hpl:(backTo pos (starEach es X.env)).any (·.1)=false:=by rfl) :
  PE X (.Call (.Name x p) (e::es) [] pos) (gE (aQ (cR n f) fs) true):=by
 obtain⟨fad,fd,ps,F,hm,hk,hb⟩:=C;exact aF8 F (hr.mono hkk) hg hm hk hb ha hdb he hpl
theorem d8{K:PySem.W.Frag}{st:Stmt}{fad:Addr}{fd:FuncData}{N ps:List Str}{fs:FS}(F:Fun K x x st fad fd)(hm:mg x=some (.ref fad))(hb:Binds K fd ps [])(S:bQ N ps (aM st))(own:Nat->Bool)(hown:∀i,i<ps.length->own i=false)(hNl:ps.length<=N.length)
 (hbody:∀(cdv:Value) (A:Around) (outer:List Env) (s:Shared) (H:Hp) (E:XK),t6 k (A.deeper (envOfC x (aM st) s.heap.objs.size fad cdv))->PSs (aAz CX0 P w K mg base N x (aM st) fad cdv A outer s H E).nox (i_ st) (tS own fs))(hx:own rtX=false:=by rfl):cJ P w K mg base (k+1) x ps.length (fnS ps.length N.length fs):=
 ⟨fad,fd,ps,aIu F S own hown hNl hbody hx,hm,F.kp,hb⟩
end
theorem uM(hr:t6 k A):A.units+20<cLine:=Nat.lt_of_le_of_lt (Nat.add_le_add_left (by decide:20<=64) _) hr.units
structure Bt(mg:Str->Option Value):Prop where
 len:mg "len"=none
 min:mg "min"=none
 max:mg "max"=none
 list:mg "list"=none
 tuple:mg "tuple"=none
 sorted:mg "sorted"=none
 range:mg "range"=none
 isi:mg "isinstance"=none
 int:mg "int"=none
 bool:mg "bool"=none
 str:mg "str"=none
 dict:mg "dict"=none
 all:mg "all"=none
 enum:mg "enumerate"=none
 sum:mg "sum"=none
 zip:mg "zip"=none
 abs:mg "abs"=none
 reversed:mg "reversed"=none
theorem d9:bootBuiltins "len"=some (.builtin "len"):=by decide +kernel
theorem Q6:bootBuiltins "min"=some (.builtin "min"):=by decide +kernel
theorem X3:bootBuiltins "max"=some (.builtin "max"):=by decide +kernel
theorem m5:bootBuiltins "sorted"=some (.builtin "sorted"):=by decide +kernel
theorem cN:bootBuiltins "isinstance"=some (.builtin "isinstance"):=by decide +kernel
theorem zT:bootBuiltins "list"=some (.type "list"):=by decide +kernel
theorem jM:bootBuiltins "tuple"=some (.type "tuple"):=by decide +kernel
theorem aDh:bootBuiltins "int"=some (.type "int"):=by decide +kernel
theorem X4:bootBuiltins "bool"=some (.type "bool"):=by decide +kernel
theorem aDi:bootBuiltins "str"=some (.type "str"):=by decide +kernel
theorem ints_rep:∀ns:List Int,bT P H (ns.map V.int) (ns.map D.int)
 |[]=>.nil
 |n::ns=>.cons (.int n) (ints_rep ns)
end Mi
namespace Mi
open PySem L2
theorem X5{ns:List Int}{E:XK}(main:∀ns:List Int,ns.length<=63->f [.scr (ns.map D.int)]=.ok (.bl true))(hl:ns.length<=63)(hO:Only H)(hS:SqL K H a (ns.map V.int)):@spD ⟨K⟩ f 1 [.ref a] H (λv _=>v=.bl true) E:=by
 letI:KFrag:=⟨K⟩
 refine⟨[.scr (ns.map D.int)],.bl true,rfl,.cons (.frz ?_ (ints_rep ns)) .nil,main ns hl,λv H' s r n=>by cases r.inv;rfl⟩;rcases hS with (h|⟨o,h⟩)|h
 ·rcases hO a with z|⟨o,xs,z⟩
  ·rw[h] at z;cases z
  ·rw[h] at z;cases z
 ·exact .inl ⟨o,h⟩
 ·exact .inr h
end Mi
namespace Mi
universe u
section
variable {α:Type u} {us:List α}
theorem l1(h:us.length=1):∃a,us=[a]:=List.length_eq_one_iff.mp h
theorem l2(h:us.length=2):∃a b,us=[a,b]:=by
 cases us with
 |nil=>cases h
 |cons a t=>obtain⟨b,rfl⟩:=l1 (Nat.succ.inj h);exact⟨a,b,rfl⟩
theorem l3(h:us.length=3):∃a b c,us=[a,b,c]:=by
 cases us with
 |nil=>cases h
 |cons a t=>obtain⟨b,c,rfl⟩:=l2 (Nat.succ.inj h);exact⟨a,b,c,rfl⟩
theorem l4(h:us.length=4):∃a b c d,us=[a,b,c,d]:=by
 cases us with
 |nil=>cases h
 |cons a t=>obtain⟨b,c,d,rfl⟩:=l3 (Nat.succ.inj h);exact⟨a,b,c,d,rfl⟩
end
open PySem L2
theorem aDj(b:Bool):asB (.bl b)=.ok b:=rfl
theorem bO:lim=1000000:=by unfold lim;exact Eq.refl _
theorem HB(h:ρ.length=n):P_ n ρ=ρ:=by
 subst h;apply List.ext_getElem
 ·simp[P_]
 ·intro i h1 h2;simp[P_,h2]
theorem cU(h:ds.length=n):cR n f ds=f ds:=by
 unfold cR;rw[if_pos (by simp[h])]
theorem aJ(h1:a ρ=.ok x)(h2:b ρ=.ok y)(h3:f x y=.ok z):b2 f a b ρ=.ok z:=by
 unfold b2;rw[h1,Res.aV,h2,Res.aV,h3]
theorem bH(h:f ρ=.ok d):cC false i f true ρ=.ok (.nx (ρ.set i d)):=by
 unfold cC;rw[h,Res.aV];rfl
theorem o7(h:f ρ=.ok d)(hp:d.pure=true):cC false i f false ρ=.ok (.nx (ρ.set i d)):=by
 unfold cC;rw[h,Res.aV];simp only[hp,Bool.false_or,Bool.false_eq_true,if_false,if_true]
theorem fZ(h:f ρ=.ok d)(hp:inner d=true):cC true i f true ρ=.ok (.nx (ρ.set i d)):=by
 unfold cC;rw[h,Res.aV];simp only[hp,Bool.and_self,if_true]
theorem aLg(h:iV j ρ=.ok d):sAl i j ρ=.ok (.nx (ρ.set i d)):=by
 unfold sAl;rw[h,Res.aV]
theorem aL(h1:f ρ=.ok (.nx ρ'))(h2:g ρ'=r):bK f g ρ=r:=by
 unfold bK;rw[h1,Res.aV];exact h2
theorem aBu(h1:c ρ=.ok k)(h2:(if k then f ρ else g ρ)=r):sIf c f g ρ=r:=by
 unfold sIf;rw[h1,Res.aV];exact h2
theorem zU(h1:c ρ=.ok true)(h2:f ρ=r):sIf c f g ρ=r:=aBu h1 (by rw[if_pos rfl];exact h2)
theorem o8(h1:c ρ=.ok false)(h2:g ρ=r):sIf c f g ρ=r:=aBu h1 (by rw[if_neg (by simp)];exact h2)
theorem dD(h1:f ρ=.ok (.bl k)):bTB f ρ=.ok k:=by
 unfold bTB;rw[h1,Res.aV];rfl
theorem X6(h1:a ρ=.ok true)(h2:b ρ=r):DR a b ρ=r:=by
 unfold DR;rw[h1,Res.aV,if_pos rfl,h2]
theorem T3(h1:a ρ=.ok false):DR a b ρ=.ok false:=by
 unfold DR;rw[h1,Res.aV,if_neg (by simp)];rfl
theorem aMk(h1:a ρ=.ok x)(h2:b ρ=.ok y)(h3:f x y=.ok (.bl true))(h4:c ρ=.ok z)(h5:g y z=r):bCh f g a b c ρ=r:=by
 unfold bCh;rw[h1,Res.aV,h2,Res.aV,h3,Res.aV,aDj,Res.aV,if_pos rfl,h4,Res.aV,h5]
theorem aNm(h1:a ρ=.ok x)(h2:b ρ=.ok y)(h3:f x y=.ok (.bl false)):bCh f g a b c ρ=.ok (.bl false):=by
 unfold bCh;rw[h1,Res.aV,h2,Res.aV,h3,Res.aV,aDj,Res.aV,if_neg (by simp)];rfl
theorem aC(h1:a ρ=.ok x)(h2:b ρ=.ok xs):aD a b ρ=.ok (x::xs):=by
 unfold aD;rw[h1,Res.aV,h2,Res.aV];rfl
theorem aK(h1:a ρ=.ok xs)(h2:f xs=.ok d):aQ f a ρ=.ok d:=by
 unfold aQ;rw[h1,Res.aV,h2]
theorem dF(h:a ρ=.ok xs)(hl:xs.length<=lim):eQ a ρ=.ok (.tup xs):=by
 unfold eQ;rw[h,Res.aV,if_pos (decide_eq_true hl)];rfl
theorem eX(h:f ρ=.ok d)(hp:(k||d.pure)=true):j6 f k ρ=.ok (.rt d):=by
 unfold j6;rw[h,Res.aV,if_pos hp]
theorem m_(h1:it ρ=.ok (xs,true))(h2:nY t body xs ρ=r):GK it t body ρ=r:=by
 unfold GK;rw[h1,Res.aV];exact h2
theorem zV(h1:iV i ρ=.ok d)(h2:vL d=.ok xs)(h3:nY t body xs ρ=r):LK i t body ρ=r:=by
 unfold LK;rw[h1,Res.aV,h2,Res.aV];exact h3
theorem rP(h:f ρ=.ok [.int n])(h1:0<=n)(h2:n<=1000000):mV f mC ρ=.ok ((List.range n.toNat).map λ(k:Nat)=>D.int (0+(k:Int)),true):=by
 unfold mV;rw[h,Res.aV];have:vH n=true:=by
  simp only[vH,Bool.and_eq_true,decide_eq_true_eq];lia
 simp only[mC,this,if_true]
theorem uF(h1:g ρ=.ok d)(h2:f ρ=.ok k)(h3:ρ.getD i .uD=.dct kvs)(h4:kvs.length<lim)(h5:t_ kvs k=true)(h6:d.pure=true):yW i f g ρ=.ok (.nx (ρ.set i (.dct (putD kvs k d)))):=by
 unfold yW;rw[h1,Res.aV,h2,Res.aV,h3];simp only[decide_eq_true h4,h5,h6,Bool.and_self,if_true]
theorem aIw(h1:f ρ=.ok (.int j))(h2:g ρ=.ok d)(h3:ρ.getD i .uD=.lst xs)(h4:xs.length<lim)(h5:d.pure=true)(h6:0<=j)(h7:j<=xs.length):aIb i f g ρ=.ok (.nx (ρ.set i (.lst (xs.take j.toNat++d::xs.drop j.toNat)))):=by
 unfold aIb;rw[h1,Res.aV,h2,Res.aV,h3];simp only[decide_eq_true h4,h5,decide_eq_true h6,decide_eq_true h7,Bool.and_self,if_true]
theorem rQ(h1:f ρ=.ok d)(h3:ρ.getD i .uD=.lst xs)(h4:xs.length<lim)(h5:d.pure=true):xV i f ρ=.ok (.nx (ρ.set i (.lst (xs++[d])))):=by
 unfold xV;rw[h1,Res.aV,h3];simp only[decide_eq_true h4,h5,Bool.and_self,if_true]
theorem cD(h1:t x ρ=.ok ρ1)(h2:body ρ1=.ok (.nx ρ2))(h3:nY t body xs ρ2=r):nY t body (x::xs) ρ=r:=by
 rw[nY,h1,Res.aV,h2,Res.aV];exact h3
theorem o9(L:List D)(i:Int)(h0:0<=i)(h1:i<L.length):∃(h:i.toNat<L.length),getD (.lst L) (.int i)=.ok L[i.toNat]:=by
 have hlt:i.toNat<L.length:=by lia
 refine⟨hlt,?_⟩;show Res.ofOpt ((ixD L.length i).bind λj=>L[j]?)=_;unfold ixD;rw[if_pos h0,if_pos h1];simp only[Option.bind_some];rw[List.getElem?_eq_getElem hlt];rfl
theorem l_(L:List D):gH [.lst L]=.ok (.int L.length):=rfl
theorem fK(h1:it ρ=.ok (xs,kk))(h2:xs.length<=lim)(h3:iK (kW n t c f k ρ) [] xs=.ok ys):dU n it t c f k ρ=.ok (.lst ys):=by
 unfold dU;rw[h1,Res.aV];simp only[decide_eq_true h2,if_true];rw[h3];rfl
theorem fD{fr:Bool}(h1:a ρ=.ok d)(h2:vL d=.ok xs):dM a fr ρ=.ok (xs,fr||d.pure):=by
 unfold dM;rw[h1,Res.aV,h2,Res.aV];rfl
theorem rR(hρ:ρ.length=n)(h1:c (ρ++[x])=.ok b)(h2:b=true->f (ρ++[x])=.ok y/\(k||y.pure)=true):kW n lZ c f k ρ acc x=.ok (if b then acc++[y] else acc):=by
 unfold kW;show(do let ok <- c (P_ n ρ++[x]);_)=_;rw[HB hρ,h1,Res.aV];cases b with
 |true=>
  obtain⟨e1,e2⟩:=h2 rfl;rw[if_pos rfl,e1,Res.aV,if_pos e2,if_pos rfl];rfl
 |false=>
  rw[if_neg (by simp),if_neg (by simp)];rfl
theorem cY(g:List D->D->Res (List D))(d:α->D)(p:α->Bool)(y:α->D)(h:∀acc a,g acc (d a)=.ok (if p a then acc++[y a] else acc)):∀(xs:List α)(acc:List D),iK g acc (xs.map d)=.ok (acc++(xs.filter p).map y)
 |[],acc=>by simp[iK]
 |x::xs,acc=>by
  rw[List.map_cons,iK,h];show iK g _ _=_;rw[cY g d p y h xs];by_cases hp:p x
  ·simp[hp]
  ·simp[hp]
theorem dW(a b:Int):aW .add (.int a) (.int b)=.ok (.int (a+b)):=rfl
theorem aDk(a b:Int):aW .sub (.int a) (.int b)=.ok (.int (a-b)):=rfl
theorem X7(a b:Int)(h:jX b=true):aW .mul (.int a) (.int b)=.ok (.int (a*b)):=by
 show(if jX a||jX b then Res.ok (D.int (a*b)) else .bad)=_;rw[h,Bool.or_true,if_pos rfl]
theorem zW(a b:Int)(h:jX a=true):aW .mul (.int a) (.int b)=.ok (.int (a*b)):=by
 show(if jX a||jX b then Res.ok (D.int (a*b)) else .bad)=_;rw[h,Bool.true_or,if_pos rfl]
theorem gC(a b:Int)(h1:0<b)(h2:b<1073741824):aW .fdiv (.int a) (.int b)=.ok (.int (a / b)):=by
 show(if decide (0<b)&&decide (b<1073741824) then Res.ok (D.int (a / b)) else .bad)=_;rw[decide_eq_true h1,decide_eq_true h2,Bool.and_self,if_pos rfl]
theorem iI(a b:Int)(h1:0<b):aW .mod (.int a) (.int b)=.ok (.int (a % b)):=by
 show(if decide (0<b) then Res.ok (D.int (a % b)) else .bad)=_;rw[decide_eq_true h1,if_pos rfl]
theorem oE(a:Int)(h1:-1000000<=a)(h2:a<=1000000):jX a=true:=by
 simp only[jX,Bool.and_eq_true,decide_eq_true_eq];lia
theorem K7(a b:Str)(h:a.length+b.length<=lim):aW .add (.str a) (.str b)=.ok (.str (a++b)):=by
 show(if decide (a.length+b.length<=lim) then Res.ok (D.str (a++b)) else .bad)=_;rw[decide_eq_true h,if_pos rfl]
theorem str_len(a b:Str):(a++b).length=a.length+b.length:=by
 show(a.cps++b.cps).size=_;rw[Array.size_append];rfl
theorem aFg(h1:a.fJ aN=true)(h2:b.fJ aN=true)(h:iU o a b=some k):bR (.ord o) a b=.ok (.bl k):=by
 show(if a.fJ aN&&b.fJ aN then (match iU o a b with|some k=>Res.ok (D.bl k)|none=>.bad) else .bad)=_;rw[h1,h2,h,Bool.and_self,if_pos rfl]
theorem zX(a b:List D)(h:a.length+b.length<=lim)(ha:D.aY a=true)(hb:D.aY b=true):aW .add (.lst a) (.lst b)=.ok (.lst (a++b)):=by
 show(if decide (a.length+b.length<=lim)&&D.aY a&&D.aY b then Res.ok (D.lst (a++b)) else .bad)=_;rw[decide_eq_true h,ha,hb,Bool.and_self,Bool.and_self,if_pos rfl]
theorem aDl(n:Nat)(h:n<=1000):aW .pow (.int 10) (.int n)=.ok (.int (10 ^ n)):=by
 have h1:decide ((0:Int)<=(n:Int))=true:=by simp
 have h2:decide ((n:Int)<=1000000)=true:=by simp;lia
 have h3:decide ((10:Int).natAbs<2 ^ 64)=true:=by decide
 show(if decide ((0:Int)<=(n:Int))&&decide ((n:Int)<=1000000)&&decide ((10:Int).natAbs<2 ^ 64) then Res.ok (D.int (10 ^ ((n:Int).toNat))) else .bad)=_;rw[h1,h2,h3,Bool.and_self,Bool.and_self,if_pos rfl,Int.toNat_natCast]
theorem xX(S:List Int):D.aY (S.map D.int)=true:=by
 induction S with
 |nil=>rfl
 |cons q Q ih=>rw[List.map_cons,D.aY,ih];rfl
theorem aFh(ns:List Int)(lo hi:Option Int):cutD (ns.map D.int) lo hi=(cutD ns lo hi).map D.int:=by
 unfold cutD;rw[List.length_map,List.map_take,List.map_drop]
theorem X8(ns:List Int)(lo hi:Option Int):(cutD ns lo hi).length<=ns.length:=by
 unfold cutD;exact Nat.le_trans (List.length_take_le' ..) (by rw[List.length_drop];lia)
open PySem.W PySem.SeqAt PySem.Spec PyProof.Rows
variable [KFrag]
noncomputable def aIx(f:FE)(t:D->List D->Res (List D)):FS:=λρ=>do
 let d <- f ρ
 if d.pure then (do let ρ' <- t d ρ;.ok (.nx ρ')) else .bad
theorem aIy{X:Cx}{own:Nat->Bool}{e tg:Expr}{pos:Pos}{fe:FE}{re:Bool}{g:TG}{t:D->List D->Res (List D)}(he:PE X e (gE fe re))(ht:TgS own g t)(hg:PG X tg g)(hs:swapsWithSole [tg] e pos.line X.env=pure false:=by rfl)(hw:swappedStores [tg] e X.env=pure none:=by rfl)
 (h1:(assignEach [tg] X.env).map (·.2)=[assign tg X.env]:=by rfl):PS X (.Assign [tg] e pos) (tS own (aIx fe t)):=PS.imp (aHe he hg hs hw h1) λD' σ H z0=>by
 obtain⟨ρ,fl,E,h,q⟩:=z0;obtain⟨d,h1,h2⟩:=aX h;split at h2
 ·rename_i hp;obtain⟨ρ',h3,h4⟩:=aX h2;cases h4;refine⟨ρ,d,E.er,h1,λv H1 s1 r _=>ht v d ρ ρ' σ H1 _ (E.same s1) (r.bN hp) h3 λσ2 E2 hO=>?_⟩;have k0:KU own σ H1 σ2 H1:=λa o e n=>⟨e,by rw[hO];exact n⟩
  exact q σ2 H1 ((KU.same s1).trans k0) E2
 ·exact bx h2
end Mi
namespace Mi
open PySem L2 PySem.SeqAt PySem.Spec PyProof.Rows
noncomputable def vY:List D->Res D
 |[.int n]=>if decide (-1000000<=n)&&decide (n<=1000000) then .ok (.lst ((List.range n.toNat).map λ(k:Nat)=>D.int k)) else .bad
 |_=>.bad
section
variable [KFrag]
section
theorem T4:∀(n:Nat)(f:Nat->Int)(xs:List Value),xs.length=n->(∀(j:Nat)(v:Value),xs[j]?=some v->∃t,v=.int (f j) t)->Vals ((List.range n).map λ(k:Nat)=>V.int (f k)) xs:=by
 intro n;induction n with
 |zero=>intro f xs hl _;cases xs with|nil=>exact .nil|cons _ _=>simp at hl
 |succ n ih=>
  intro f xs hl h;cases xs with
  |nil=>simp at hl
  |cons x xs=>
   rw[List.range_succ_eq_map,List.map_cons,List.map_map];exact .cons (h 0 x rfl) (ih (λk=>f (k+1)) xs (by simpa using hl) λj v hj=>h (j+1) v (by simpa using hj))
theorem aBv(hc:X.calm=true):kE X (.type "list") (λvs H Q=>∃r n,vs=[.ref r]/\H r=some (.rng 0 n)/\-1000000<=n/\n<=1000000/\∀q,H q=none->Q (.ref q) (upd H q (.lst ((List.range n.toNat).map λ(k:Nat)=>V.int k)))):=by
 rintro pins s σ H vs us Q I vr ⟨r,n,e,er,h1,h2,q⟩;subst e;cases vr with
 |cons r1 vr=>
  cases vr;cases r1;obtain⟨t,u,v,hr⟩:=I.hok r _ er;have hn:Builtin.Range.rangeSize 0 n 1=(n.toNat:Int):=by rw[rangeSize_one];split<;>lia
  refine call_list_range (I.ok.hd hc) hr (small_one (by lia) (by lia) (by lia) (by lia)) hn (by lia) λh' tk acc' c' hk hS' hacc=>?_
  have hfr:H s.heap.objs.size=none:=I.hok.fresh (Nat.le_refl _);refine⟨.ref s.heap.objs.size,_,I.laid hk (Nat.le_refl _) ?_,rfl,q _ hfr⟩;refine⟨by rw[List.length_map,List.length_range,sizeLine_eq];lia,acc'.toList,c',T4 _ (λk=>(k:Int)) _ (by simp[hacc.1]) λj v hj=>?_,by simpa using hS'⟩;obtain⟨t,ht⟩:=hacc.2 j v (by simpa using hj);exact⟨t,by rw[ht];congr 1;lia⟩
theorem vZ:∀(l:List Nat),bT P H (l.map λ(k:Nat)=>V.int k) (l.map λ(k:Nat)=>D.int k)
 |[]=>.nil
 |n::l=>.cons (.int _) (vZ l)
theorem zY(hc:X.calm=true)(hg:Gl X "list")(hm:X.mg "list"=none)(hg2:Gl X "range")(hm2:X.mg "range"=none)(ha:PA X [a] (gA fs rr))(hs:starEach [a] X.env=[(false,eval a X.env)]:=by rfl) :
  PE X (.Call (.Name "list" p) [.Call (.Name "range" p2) [a] [] pos2] [] pos) (gE (aQ vY fs) true):=by
 have hr:PE X (.Call (.Name "range" p2) [a] [] pos2) (λσ H Q=>∃ρ n,ER H σ ρ/\fs ρ=.ok [.int n]/\∀H1 r,dG H H1->H1 r=none->Q (.ref r) (upd H1 r (.rng 0 n))):=by
  rintro pins s σ H Q I ⟨ρ,n,E,h1,q⟩;refine wpAny_Call_Name_kw (DX I hg2 hm2 boot_range ?_);refine PyProof.Rows.callWith_type1 (thn (ha pos2 pins s σ H (λvs H1=>dG H H1/\vs=[.int n]) I ⟨ρ,_,E,h1,λvs H1 s1 r1 _=>⟨s1,?_⟩⟩) λus s1 ⟨vs,H1,I1,r1,sm,e⟩=>?_) hs rfl
  ·cases r1 with
   |cons r t=>cases t;cases r.inv;rfl
  ·subst e;cases r1 with
   |cons r t=>
    cases t;obtain⟨t,rfl⟩:=r;have hfr:H1 s1.heap.objs.size=none:=I1.hok.fresh (Nat.le_refl _);exact call_range_1 ⟨.ref s1.heap.objs.size,_,I1.laid (o:=.rng 0 n) (λb o e=>Heap.get?_push_of_some _ e) (Nat.le_refl _) ⟨_,_,_,Heap.get?_push_size _ rfl⟩,rfl,q H1 _ sm hfr⟩
 refine PE.imp (FJ (aBv hc) hg hm zT (fG hr t7)) λσ H Q ⟨ρ,d,E,h,q⟩=>?_
 obtain⟨xs,h1,h2⟩:=aX h;unfold vY at h2;split at h2
 ·rename_i n;split at h2
  ·rename_i hb;rw[Bool.and_eq_true] at hb;cases h2;refine⟨ρ,n,E,h1,λH1 r s1 hr=>⟨r,n,rfl,aO,of_decide_eq_true hb.1,of_decide_eq_true hb.2,λq' hq'=>?_⟩⟩;have s2:=dG.upd (o:=.rng 0 n) hr;have s3:=dG.upd (o:=.lst ((List.range n.toNat).map λ(k:Nat)=>V.int k)) hq';exact q _ _ ((s1.trans s2).trans s3) (.lst aO trivial (vZ _)) λ_=>.lst aO ((s1.trans s2).free hq') (vZ _)
  ·exact bx h2
 ·exact bx h2
end
section
variable {a b e:Expr}
noncomputable def aLh(i j:Nat)(f:FA):FS:=λρ=>do
 let ds <- f ρ
 match ds with
 |[d1,d2]=>if d1.pure&&d2.pure then .ok (.nx ((ρ.set i d1).set j d2)) else .bad
 |_=>.bad
theorem aIz(ho:own i=false)(ho2:own j=false)(hc:X.calm=true)(hN:X.N.Nodup)(hi:X.N[i]?=some x)(hj:X.N[j]?=some y)(hij:i≠j)(hx:X.env.scope.names.lookup x=some .local)(hy:X.env.scope.names.lookup y=some .local)(ha:PA X [a,b] (gA fs rr))
 (hw:swappedStores [.Tuple [.Name x px,.Name y py] kt pt] (.Tuple [a,b] k2 pt2) X.env=pure (some [x,y]))
 (hs:swapsWithSole [.Tuple [.Name x px,.Name y py] kt pt] (.Tuple [a,b] k2 pt2) pos.line X.env=pure false:=by rfl) :
  PS X (.Assign [.Tuple [.Name x px,.Name y py] kt pt] (.Tuple [a,b] k2 pt2) pos) (tS own (aLh i j fs)):=PS.imp (aHf hc hN hi hj hij hx hy ha hw hs) λD' σ H z0=>by
 obtain⟨ρ,fl,E,h,q⟩:=z0;obtain⟨ds,h1,h2⟩:=aX h;split at h2
 ·rename_i d1 d2;split at h2
  ·rename_i hp;rw[Bool.and_eq_true] at hp;cases h2;refine⟨ρ,_,E.er,h1,λvs H1 s1 r1 _=>?_⟩
   match vs,r1 with
   |[v,w],.cons r (.cons r' .nil)=>
    refine⟨v,w,rfl,?_⟩;have E1:=E.same s1;have E2:=E1.set ho (r.bN hp.1);have E3:=E2.set ho2 (r'.bN hp.2);exact q _ H1 (λa o e hn=>⟨s1 a o e,by rw[mY ho2,mY ho];exact hn⟩) E3
  ·exact bx h2
 ·exact bx h2
end
theorem aBw(ea:∀ob,H a=some ob->aGv ob=true)(b:Addr)(o:HO)(e:H b=some o)(h:aGv o=false):upd H a u b=some o:=by
 rw[bL λz=>by rw[z] at e;rw[ea _ e] at h;cases h];exact e
theorem Q7{P:Addr->Prop}(ea:∀ob,H a=some ob->aGv ob=true)(q:Rep P H v d)(h:d.pure=true):Rep P (upd H a u) v d:=q.GR (aBw ea) h
end
noncomputable def Q8(c:FT)(body:FS):Nat->List D->Res Fl
 |0,_=>.bad
 |n+1,ρ=>do
  let k <- c ρ
  if k then (do
   let r <- body ρ
   match r with
   |.nx ρ'=>Q8 c body n ρ'
   |.ct ρ'=>Q8 c body n ρ'
   |.bk ρ'=>.ok (.nx ρ')
   |.rt d=>.ok (.rt d))
  else .ok (.nx ρ)
def aMl(c:FT)(body:FS):FS:=λρ=>Q8 c body 1000 ρ
section
variable [KFrag]
section
theorem aJ0(hp:PassesOwn (model X.prog X.w) X.A X.env X.xe)(hc:PT X c (gT gc))(hb:PSs X body (tS own fb)):PS X (.While c body [] pos) (tS own (aMl gc fb)):=
 PS.imp (aAu hp hc hb) λD σ H z0=>by
 obtain⟨ρ,fl,E,h,q⟩:=z0;refine⟨λm σ' H'=>∃ρ' ,ES own H' σ' ρ'/\Q8 gc fb m ρ'=.ok fl/\kS own D σ' H' fl,⟨1000,ρ,E,h,q⟩,?_⟩;rintro m σ H ⟨ρ,E,h,q⟩;cases m with
 |zero=>exact bx h
 |succ m=>
  rw[Q8] at h;obtain⟨k,h1,h2⟩:=aX h;refine⟨ρ,k,E.er,h1,λH1 s=>?_⟩;cases k with
  |true=>
   rw[if_pos rfl];rw[if_pos rfl] at h2;obtain⟨r,h3,h4⟩:=aX h2;refine⟨λσ' H'=>∃ρ',ES own H' σ' ρ'/\Q8 gc fb m ρ'=.ok fl/\kS own D σ' H' fl,λσ' H' w=>⟨m,Nat.lt_succ_self m,w⟩,ρ,r,E.same s,h3,?_⟩;have q1:=q.step (.same s);cases r with
   |nx ρ'=>exact λσ' H' ku E'=>⟨ρ',E',h4,q1.step ku⟩
   |ct ρ'=>exact λσ' H' ku E'=>⟨ρ',E',h4,q1.step ku⟩
   |bk ρ'=>cases h4;exact λσ' H' ku E'=>q1 σ' H' ku E'
   |rt d=>cases h4;exact q1
  |false=>
   rw[if_neg (by simp)];rw[if_neg (by simp)] at h2;cases h2;exact(q.step (.same s)) σ H1 (λa o e n=>⟨e,n⟩) (E.same s)
end
theorem aDm(r:Rep P H (.ref a) (.dct ds))(hua:H a=some u)(hp:D.aY (ds.map (·.2))=true):Rep P' (upd H a (.frz o u)) (.ref a) (.fdc ds):=by
 have hna:∀ob,H a=some ob->aGv ob=true:=λxs z=>by
  cases r with
  |dK e _ _ _=>rw[e] at z;cases z;rfl
  |dT e _ _ _=>rw[e] at z;cases z;rfl
 have goK:∀{kvs:List (Key×V)}{ds:List (D×D)},qR P H kvs ds->D.aY (ds.map (·.2))=true->qR P' (upd H a (.frz o u)) kvs ds:=by
  intro kvs ds r;induction kvs generalizing ds with
  |nil=>cases r;intro _;exact .nil
  |cons p kvs ih=>cases r with
   |cons r t=>
    intro h;rw[List.map_cons,D.aY,Bool.and_eq_true] at h;exact .cons ((Q7 hna r h.1).bN h.1) (ih t h.2)
 have goT:∀{kvs:List (List Key×V)}{ds:List (D×D)},o6 P H kvs ds->D.aY (ds.map (·.2))=true->o6 P' (upd H a (.frz o u)) kvs ds:=by
  intro kvs ds r;induction kvs generalizing ds with
  |nil=>cases r;intro _;exact .nil
  |cons p kvs ih=>cases r with
   |cons r t=>
    intro h;rw[List.map_cons,D.aY,Bool.and_eq_true] at h;exact .cons ((Q7 hna r h.1).bN h.1) (ih t h.2)
 cases r with
 |dK e _ r n=>rw[e] at hua;cases hua;exact .fdK aO (goK r hp) n
 |dT e _ r n=>rw[e] at hua;cases hua;exact .fdT aO (goT r hp) n
section
variable {own:Nat->Bool}
noncomputable def rT(own:Nat->Bool)(i:Nat):Nat->Bool:=λj=>own j&&!(j==i)
theorem j7(h:rT own i j=true):own j=true/\j≠i:=by
 unfold rT at h;simpa using h
theorem Own.of(h:Own (rT own i) σ b):Own own σ b:=by
 obtain⟨j,hj,e⟩:=h;exact⟨j,(j7 hj).1,e⟩
theorem aLi(E:ES own H σ ρ)(ho:own i=true)(hσ:σ[i]?=some (some (.ref a)))(hd:ρ.getD i .uD=.dct ds)(hua:H a=some u)(hmu:GQ u=true):ES (rT own i) (upd H a (.frz o u)) σ (ρ.set i (.fdc ds))/\¬Own (rT own i) σ a:=by
 obtain⟨a',oa,ea,ra,hin,hHa,hma,huq⟩:=E.own i _ ho hσ;cases ea;rw[hd] at ra hin;have hna:¬Own (rT own i) σ a:=λ⟨j,hj,e⟩=>(j7 hj).2 (huq j (j7 hj).1 e)
 have hOa:Own own σ a:=⟨i,ho,hσ⟩
 have hl:i<ρ.length:=by rw[<-E.len];exact(List.getElem?_eq_some_iff.mp hσ).1
 refine⟨⟨by simp[E.len],λj hj=>?_,λj w hj hw=>?_⟩,hna⟩
 ·rw[dZ] at hj ⊢;by_cases h:i=j/\i<ρ.length
  ·rw[if_pos h];obtain⟨rfl,_⟩:=h;exact⟨_,hσ,λ_=>aDm ra hua hin⟩
  ·rw[if_neg h] at hj ⊢;have hij:i≠j:=λz=>h ⟨z,hl⟩
   obtain⟨w,h1,h2⟩:=E.at_ j hj;refine⟨w,h1,λhj2=>?_⟩;have hoj:own j=false:=by
    unfold rT at hj2;cases hq:own j with
    |false=>rfl
    |true=>rw[hq] at hj2;simp at hj2;exact absurd hj2.symm hij
   refine(h2 hoj).keep (λb ob hb hp=>?_) λb hb hq=>hb hq.of
   rw[bL]
   ·exact hb
   ·intro z;subst z;rcases hp with hp|hp
    ·exact hp hOa
    ·rw[hua] at hb;cases hb;rw[hmu] at hp;cases hp
 ·obtain⟨hoj,hji⟩:=j7 hj;rw[dZ,if_neg λz=>hji z.1.symm];obtain⟨b,ob,h1,h2,h3,h4,h5,h6⟩:=E.own j w hoj hw;subst h1;have hba:b≠a:=λz=>by subst z;exact hji (huq j hoj hw)
  refine⟨b,ob,rfl,?_,h3,by rw[bL hba];exact h4,h5,λk hk hs=>h6 k (j7 hk).1 hs⟩;refine(h2.aKi (P':=λc=>c=b) h3 rfl).keep (λc oc hc hp=>?_) λ_ _=>trivial
  rw[bL]
  ·exact hc
  ·intro z;subst z;rcases hp with hp|hp
   ·exact hba hp.symm
   ·rw[hHa] at hc;cases hc;rw[hma] at hp;cases hp
end
end
def aFi(y:D):List D->Option Nat
 |[]=>none
 |z::r=>if eqD z y then some 0 else (aFi y r).map (·+1)
def rW:D->List D->Res D
 |.lst xs,[y]=>if y.fJ aN&&D.dJ aN xs then (match aFi y xs with|some j=>.ok (.int j)|none=>.bad) else .bad
 |_,_=>.bad
section
variable [KFrag]
theorem X_{H:Hp}{a:D}:∀{xs:List V}{ds:List D}{its:List Value}{j:Nat},D.dJ aN ds=true->bT All H xs ds->Vals xs its->aFi a ds=some j->∃hj:j<its.length,eqD (zJ H its[j]) a=true/\∀m (hm:m<its.length),m<j->eqD (zJ H its[m]) a=false
 |_,_,_,_,_,.nil,.nil,h=>by cases h
 |_,_,_,j,hq,.cons r t,.cons v vt,h=>by
  rw[D.dJ,Bool.and_eq_true] at hq;rw[aFi] at h;split at h
  ·rename_i he;cases h;refine⟨Nat.zero_lt_succ _,?_,λm hm z=>absurd z (Nat.not_lt_zero _)⟩;rw[List.getElem_cons_zero,zK hq.1 v r];exact he
  ·rename_i he;obtain⟨k,h1,rfl⟩:=Option.map_eq_some_iff.mp h;obtain⟨hj,h2,h3⟩:=X_ hq.2 t vt h1;refine⟨Nat.succ_lt_succ hj,by rw[List.getElem_cons_succ];exact h2,λm hm z=>?_⟩;cases m with
   |zero=>rw[List.getElem_cons_zero,zK hq.1 v r];exact Bool.eq_false_iff.mpr he
   |succ m=>rw[List.getElem_cons_succ];exact h3 m (Nat.lt_of_succ_lt_succ hm) (Nat.lt_of_succ_lt_succ z)
section
variable {X:Cx}
theorem HD(hu:X.A.units+20<cLine):MtR X "list.index" (rm rW true):=by
 rintro pins s σ H x xs v us Q I rv vr ⟨a,ds,d,ra,rs,h,k⟩;unfold rW at h;split at h
 ·rename_i ys y;split at h
  ·rename_i hl;rw[Bool.and_eq_true] at hl;split at h
   ·rename_i j hj;cases h;obtain⟨vv,uu,rfl,rfl,r,rk⟩:=jC rs vr;obtain⟨l,zs,rfl,ee,rr⟩:=ra.jR (K:=X.K);cases rv;obtain⟨its,vr',pl,hz⟩:=I.list ee;obtain⟨h1,h2,h3⟩:=X_ hl.2 rr vr' hj;have mm:=λw hw=>vV I hu hl.1 r rk hl.2 rr vr' w hw
    obtain⟨⟨cls,dd,data,sl⟩,ho,hc,n,hd⟩:=id pl.isList;simp only at hc hd;subst hc hd;have hls:(j:Int)<2 ^ 63-1:=by
     have:its.length=zs.length:=vr'.length.symm;have hz':zs.length<=sizeLine:=hz;rw[sizeLine_eq] at hz';lia
    exact call_meets F.slot_list_index ⟨_,ho,rfl⟩ F.entry_list_index (F.args_list_index_2 _ _) (list_indexAt l its.toArray n dd sl uu (λu=>eqD (zJ H u) y) j (by simpa using h1) hls (by simpa using h2) (λm hm hmj=>by simpa using h3 m (by simpa using hm) hmj)) ⟨ho,λw hw=>mm w (by simpa using hw),⟨.int j,H,I.tok _,⟨_,rfl⟩,k.int⟩⟩
   ·exact bx h
  ·exact bx h
 ·exact bx h
theorem HF{d:D}{ds:List D}{r:D}{v:V}{H:Hp}(h:rW d ds=.ok r)(rp:Rep All H v d):tyV X.K "list" v H:=by
 unfold rW at h;split at h
 ·obtain⟨a,xs,rfl,e,_⟩:=rp.jR (K:=X.K);exact .inl ⟨rfl,_,e⟩
 ·exact bx h
end
end
noncomputable abbrev FX:=List D->Res (D×List D)
noncomputable def bPu(f:FE):FE:=λρ=>do
 let d <- f ρ
 if d.pure then .ok d else .bad
section
variable [KFrag]
section
variable {own:Nat->Bool}
theorem ES.aMm(E:ES own H σ ρ)(ho:own i=true)(hi:σ[i]?=some (some (.ref a)))(hk:∀b ob,H b=some ob->b≠a->H' b=some ob)(e:H' a=some o)(hm:GQ o=true)(r:Rep All H' (.ref a) d)(hin:inner d=true) :
  ES own H' σ (ρ.set i d)/\KU own σ H σ H':=by
 have hOa:Own own σ a:=⟨i,ho,hi⟩
 obtain⟨a',oa,ea,_,_,hHa,hma,huq⟩:=E.own i _ ho hi;cases ea;have k:KU own σ H σ H':=λb ob e n=>⟨hk b ob e (λz=>by subst z;exact n hOa),n⟩
 have hl:i<ρ.length:=by rw[<-E.len];exact(List.getElem?_eq_some_iff.mp hi).1
 refine⟨⟨by simp[E.len],λj hj=>?_,λj w hj hw=>?_⟩,k⟩
 ·rw[dZ] at hj ⊢;by_cases h:i=j/\i<ρ.length
  ·obtain⟨rfl,_⟩:=h;exact⟨_,hi,λz=>by rw[ho] at z;cases z⟩
  ·rw[if_neg h] at hj ⊢;obtain⟨w,h1,h2⟩:=E.at_ j hj;exact⟨w,h1,λhj=>k.rep E (h2 hj)⟩
 ·by_cases hij:i=j
  ·subst hij;rw[hi] at hw;cases hw;rw[dZ,if_pos ⟨rfl,hl⟩];exact⟨a,o,rfl,r,hin,e,hm,huq⟩
  ·rw[dZ,if_neg λz=>hij z.1];obtain⟨b,ob,h1,h2,h3,h4,h5,h6⟩:=E.own j w hj hw;subst h1;have hba:b≠a:=λz=>by subst z;exact hij (h6 i ho hi)
   refine⟨b,ob,rfl,?_,h3,hk _ _ h4 hba,h5,h6⟩;refine(h2.aKi (P':=λc=>c=b) h3 rfl).keep (λc oc hc hp=>?_) λ_ _=>trivial
   refine hk _ _ hc λz=>?_
   subst z;rcases hp with hp|hp
   ·exact hba hp.symm
   ·rw[hHa] at hc;cases hc;rw[hma] at hp;cases hp
def NS(own:Nat->Bool)(ρ ρ':List D):Prop:=∀i,own i=false->ρ'.getD i .uD=ρ.getD i .uD
theorem NS.set(ho:own i=true):NS own ρ (ρ.set i d):=λj hj=>by
 rw[dZ,if_neg];rintro⟨rfl,_⟩;rw[ho] at hj;cases hj
def kX(own:Nat->Bool)(σ:L2.St)(H:Hp)(ρ:List D)(d:D)(ρ':List D)(Q:VK):Prop:=∀v H',KU own σ H σ H'->ES own H' σ ρ'->NS own ρ ρ'->Rep (New H) H' v d->Q v H'
noncomputable def gX(own:Nat->Bool)(f:FX):TE:=λσ H Q=>∃ρ d ρ',ES own H σ ρ/\f ρ=.ok (d,ρ')/\kX own σ H ρ d ρ' Q
end
section
variable {own:Nat->Bool} {a e:Expr}
theorem aJ1(E:ES own H σ ρ)(ho:own i=false)(h:iV i ρ=.ok d):∃v,σ[i]?=some (some v)/\Rep (λa=>¬Own own σ a) H v d:=by
 obtain⟨v,hv,r,e⟩:=E.er.var h;have hne:ρ.getD i .uD≠.uD:=λz=>by
  rw[z] at e;subst e;exact Rep.uD r
 obtain⟨w,hw,hr⟩:=E.at_ i hne;rw[hv] at hw;cases hw;have r2:=hr ho;rw[e] at r2;exact⟨v,hv,r2⟩
end
section
variable {own:Nat->Bool} {X:Cx} {a b e:Expr} {pos:Pos} {fe:FE} {re:Bool}
theorem kRt.new{D:Ends}(h:kRt own D σ H (.tup (d0::ρ')))(hx:own rtX=true):∀v σ' H',KU own σ H σ' H'->ES own H' σ' ρ'->Rep (λa=>(Own own σ a\/H a=none)/\∀i b xs,ρ'.getD i .uD=.cel b xs->a≠b) H' v d0->D.rt v H':=by
 unfold kRt at h;rw[if_pos hx] at h;obtain⟨d1,ρ1,e,g⟩:=h;cases e;exact g
theorem YB(E:ES own H σ ρ){i b:Nat}{xs:List D}(h:ρ.getD i .uD=.cel b xs):∃vs,σ[i]?=some (some (.ref b))/\H b=some (.lst vs):=by
 obtain⟨v,h1,h2⟩:=E.er i (by rw[h];intro z;cases z);rw[h] at h2;obtain⟨_,rfl,e,_,_⟩:=h2.inv;exact⟨_,h1,e⟩
theorem aFj(he:PE X e (gE fe re))(hx:own rtX=true:=by rfl):PS X (.Return (some e) pos) (tS own (aIa fe re)):=PS.imp (VH he) λD σ H z0=>by
 obtain⟨ρ,fl,E,h,q⟩:=z0;obtain⟨d,h1,h2⟩:=aX h;split at h2
 ·rename_i hk;cases h2;refine⟨ρ,d,E.er,h1,λv H' s r n=>kRt.new q hx v σ H' (.same s) (E.same s) ?_⟩;rw[Bool.or_eq_true] at hk;rcases hk with hk|hk
  ·refine(n hk).mono λa ha=>⟨.inr ha,λi b xs hb z=>?_⟩
   obtain⟨vs,_,e⟩:=YB E hb;subst z;rw[show H a=none from ha] at e;cases e
  ·exact r.bN hk
 ·exact bx h2
end
section
variable {X:Cx} {a:Expr} {pos pos':Pos}
def aLj(i:Nat)(fk fv:FE):TS:=λD' σ H=>∃ρ kd d kvs a,ER H σ ρ/\fv ρ=.ok d/\fk ρ=.ok kd/\σ[i]?=some (some (.ref a))/\Rep All H (.ref a) (.dct kvs)/\D.aY (kvs.map (·.2))=true/\kvs.length<sizeLine/\t_ kvs kd=true/\d.pure=true/\
 ∀H1 o,dG H H1->GQ o=true->Rep All (upd H1 a o) (.ref a) (.dct (putD kvs kd d))->D'.nx σ (upd H1 a o)
theorem aFk{i:Nat}{x:Str}{p1:Pos}{value k:Expr}{fv fk:FE}{rv rk:Bool}(hu:X.A.units+20<cLine)(hN:X.N[i]?=some x)(hvi:Vis X.env.scope x)(hk:PE X k (gE fk rk))(hv:PE X value (gE fv rv))
 (hs:swapsWith value (some (.Subscript (.Name x p1) k pos')) pos.line X.env=pure false)(hd:nDb x)(hcd:nCd x) :
  PS X (.Assign [.Subscript (.Name x p1) k pos'] value pos) (aLj i fk fv):=by
 rintro pins s σ H D' I ⟨ρ,kd,d,kvs,a,E,h0,h1,hσ,r,hin,hg1,hg2,hg3,q⟩;refine wpAny_Assign_Subscript (thn (hv pins s σ H (λv H1=>dG H H1/\Rep All H1 v d) I ⟨ρ,d,E,h0,λv H1 s1 r1 _=>⟨s1,r1⟩⟩) λrr s1 ⟨v,H1,I1,rv1,sm1,rp1⟩=>
  thn (jH hN hvi hd hcd pins s1 σ H1 (λw H2=>w=.ref a/\H2=H1) I1 ⟨_,hσ,rfl,rfl⟩) λu s2 ⟨xx,H2,I2,rx,ex,eH⟩=>
  thn (hk pins s2 σ H2 (λw H3=>dG H2 H3/\Rep All H3 w kd) I2 ⟨ρ,kd,by rw[eH];exact E.same sm1,h1,λv H1 s1 r1 _=>⟨s1,r1⟩⟩) λiv s3 ⟨y,H3,I3,ry,sm3,rp3⟩=>?_) hs
 subst ex eH;obtain rfl:u=Value.ref a:=rx;have sm:=sm1.trans sm3;obtain⟨H4,o4,I4,g,hmo,rp⟩:=aIt I3 (r.same sm) hin rp3 hg2 hg1 (rp1.same sm3) hg3;exact F_ (by lia) I4 g ry rv1 λs4 I5=>⟨σ,_,I5,q _ _ sm hmo rp⟩
end
end
open PySem.W
def J7(h:Heap)(d:Addr)(es:Array DictEntry)(ep:Nat):Prop:=∃o,h.get? d=some o/\o.ExactDict/\o.data=.dict es ep
theorem J7.ty{s:Shared}{d:Addr}{es:Array DictEntry}{ep:Nat}(x:J7 s.heap d es ep):s.TypeIs (.ref d) "dict":=let ⟨o,e,c,_⟩:=x;⟨o,e,c.1⟩
theorem J7.at{h h':Heap}{d:Addr}{es:Array DictEntry}{ep:Nat}(x:J7 h d es ep)(k:∀o,h.get? d=some o->h'.get? d=some o):J7 h' d es ep:=let ⟨o,e,r⟩:=x;⟨o,k o e,r⟩
section
variable {prog:Program} {w:World} {A:Around} {E:Value->Shared->Prop} {s:Shared} {d it:Addr} {es:Array DictEntry} {ep i:Nat}
theorem Q9{Q:Value->Shared->Prop}(hd:(d==sysModules)=false)(x:J7 s.heap d es ep)(q:Q (.ref s.heap.objs.size) {s with heap:=s.heap.push {cls:=.type "dict_keyiterator",data:=.fields #[.ref d,.int 0 0,.int es.size 0,.int ep 0]}}):wpAny (model prog w) A (pyIter (.ref d)) Q E s:=by
 have T:=x.ty;obtain⟨o,e1,e2,e3⟩:=x;refine wpAny_pyIter_slot T F.slot_dict_iter (wpAny_call_entry F.slot_dict_iter T F.entry_dict_iter (?_:wpAny _ _ (Builtin.«dict.__iter__» _) _ _ _) (F.args_dict_iter_1 _));unfold Builtin.«dict.__iter__» Builtin.Dict.dictSlotNone Builtin.Dict.showsAll;refine wpAny_bind (wpAny_bind (wpAny_notOrdered_dict T (?_:wpAny _ _ (pure (Value.ref d)) _ _ s)));refine wpAny_pure (?_:wpAny _ _ ((if d==sysModules then _ else _) >>= _) _ _ s);rw[if_neg (by rw[hd];simp)];refine wpAny_bind (wpAny_pure (wpAny_bind (wpAny_dictEntries e1 e3 (wpAny_bind (wpAny_dictEpoch e1 e3 ?_)))));exact wpAny_bind (wpAny_newObj_type (wpAny_pure ⟨_,rfl,"dict_keyiterator",_,⟨_,Heap.get?_push_size _ rfl,rfl⟩,F.slot_dict_keyiterator_next.lookup,q⟩))
theorem Q_{Q:Option Value->Shared->Prop}(y:s.heap.IsKeyIter it d i es.size ep)(x:J7 s.heap d es ep)(hi:i<es.size)(q:∀h',h'.IsKeyIter it d (i+1) es.size ep->Heap.SameBut it s.heap h'->Q (some es[i].key) {s with heap:=h'}):wpAny (model prog w) A (pyNext (.ref it)) Q E s:=by
 have T:=y.typeIs;obtain⟨o,o1,o2,o3⟩:=y;obtain⟨od,e1,e2,e3⟩:=x;have own:Builtin.Dict_items.ownsTuple "dict_keyiterator"=false:=by decide
 unfold pyNext;refine wpAny_bind (wpAny_attempt (wpAny_callSpecial?_slot (name:=Str.ofString "__next__") T F.slot_dict_keyiterator_next (wpAny_call_entry F.slot_dict_keyiterator_next T F.entry_dict_keyiterator_next ?_ (F.args_dict_keyiterator_next_1 _))));refine wpAny_bind (wpAny_pure (wpAny_bind (wpAny_bind ?_)))
 first|refine wpAny_bind (wpAny_typeNameOfWhole_keyiter T (wpAny_pure (wpAny_bind (wpAny_fieldsOf o1 o3 ?_))))|refine wpAny_bind (wpAny_typeNameOf_keyiter T (wpAny_pure (wpAny_bind (wpAny_fieldsOf o1 o3 ?_))))
 rw[own];refine(?_:wpAny _ _ (ite ((Value.ref d==Value.none)=true) _ _) _ _ s);rw[if_neg (by intro z;cases z)];refine wpAny_bind (wpAny_pure (wpAny_bind (wpAny_dictEntries e1 e3 ?_)));rw[if_neg (by simp)];refine wpAny_bind (wpAny_pure (wpAny_bind (wpAny_dictEpoch e1 e3 ?_)));rw[if_neg (by simp)];refine wpAny_pure ?_;simp only[show ¬((i:Int)<0) from by lia,if_false,Int.toNat_natCast,Array.getElem?_eq_getElem hi];refine wpAny_bind ?_
 first|refine wpAny_bind (wpAny_typeNameOfWhole_keyiter T (wpAny_pure (wpAny_bind (wpAny_isOneOf_keyiter T ?_))))|refine wpAny_bind (wpAny_typeNameOf_keyiter T (wpAny_pure (wpAny_bind (wpAny_isOneOf_keyiter T ?_))))
 refine wpAny_bind (m:=setField (.ref it) 1 (rawInt ((i:Int)+1))) (wpAny_setField o1 o3 (by simp) ?_);have z:(s.heap.update it (Obj.mapFields (·.setIfInBounds 1 (rawInt ((i:Int)+1))))).IsKeyIter it d (i+1) es.size ep:=⟨_,Heap.get?_update_self _ o1 (Obj.isFreed_of_fields (Obj.data_mapFields o3 _)),(Obj.cls_mapFields ..).trans o2,by rw[Obj.data_mapFields o3];simp[rawInt]⟩
 refine wpAny_bind (wpAny_holding (wpAny_bind (wpAny_isOneOf_keyiter (s:={s with heap:=s.heap.update it (Obj.mapFields (·.setIfInBounds 1 (rawInt ((i:Int)+1))))}) z.typeIs (?_:wpAny _ _ (pure es[i].key) _ _ _))));exact wpAny_pure (wpAny_pure ⟨_,rfl,wpAny_pure (q _ z (Heap.SameBut.update ..))⟩)
theorem YC{Q:Option Value->Shared->Prop}(hh:A.handled=none)(y:s.heap.IsKeyIter it d i es.size ep)(x:J7 s.heap d es ep)(hi:es.size<=i)(q:∀h',Heap.ExtBut it s.heap h'->Q none {s with heap:=h'}):wpAny (model prog w) A (pyNext (.ref it)) Q E s:=by
 have T:=y.typeIs;obtain⟨o,o1,o2,o3⟩:=y;obtain⟨od,e1,e2,e3⟩:=x;have own:Builtin.Dict_items.ownsTuple "dict_keyiterator"=false:=by decide
 unfold pyNext;refine wpAny_bind (wpAny_attempt (wpAny_callSpecial?_slot (name:=Str.ofString "__next__") T F.slot_dict_keyiterator_next (wpAny_call_entry F.slot_dict_keyiterator_next T F.entry_dict_keyiterator_next ?_ (F.args_dict_keyiterator_next_1 _))));refine wpAny_bind (wpAny_pure (wpAny_bind (wpAny_bind ?_)))
 first|refine wpAny_bind (wpAny_typeNameOfWhole_keyiter T (wpAny_pure (wpAny_bind (wpAny_fieldsOf o1 o3 ?_))))|refine wpAny_bind (wpAny_typeNameOf_keyiter T (wpAny_pure (wpAny_bind (wpAny_fieldsOf o1 o3 ?_))))
 rw[own];refine(?_:wpAny _ _ (ite ((Value.ref d==Value.none)=true) _ _) _ _ s);rw[if_neg (by intro z;cases z)];refine wpAny_bind (wpAny_pure (wpAny_bind (wpAny_dictEntries e1 e3 ?_)));rw[if_neg (by simp)];refine wpAny_bind (wpAny_pure (wpAny_bind (wpAny_dictEpoch e1 e3 ?_)));rw[if_neg (by simp)];refine wpAny_pure ?_;simp only[show ¬((i:Int)<0) from by lia,if_false,Int.toNat_natCast,Array.getElem?_eq_none hi];refine wpAny_bind ?_
 first|refine wpAny_bind (wpAny_typeNameOfWhole_keyiter T (wpAny_pure ?_))|refine wpAny_bind (wpAny_typeNameOf_keyiter T (wpAny_pure ?_))
 refine wpAny_bind (m:=setField (.ref it) 0 .none) (wpAny_setField o1 o3 (by simp) (wpAny_bind (m:=newExc (.type "StopIteration") []) ?_));simp only[newExc,newTuple];refine wpAny_bind (wpAny_newObj_type (wpAny_bind (m:=firstArgMember _ _) (wpAny_of_eq (a:=Value.none) (by first|rfl|(simp only[firstArgMember];rfl)) (wpAny_newObj_type ?_ (by size_fits)))) (by size_fits));simp only[raiseNew];have hh':A.in1.handled=none:=hh;refine wpAny_bind (wpAny_handled ?hd);rw[hh'];refine wpAny_bind (wpAny_pure (wpAny_throw ?thrown));refine wpAny_bind (wpAny_isInstance (b:=true) (T:= "StopIteration") ⟨_,Heap.get?_push_size _ rfl,rfl⟩ isSubtype_stop ?_);exact wpAny_pure (q _ (((Heap.SameBut.update ..).extBut.push _).push _))
theorem YD(hh:A.handled=none)(I d:Addr)(hne:d≠I)(es:Array DictEntry)(ep:Nat):Walks prog w A I [I,d] [I] es.size (λi v=>∃h:i<es.size,v=es[i].key) (λi h=>h.IsKeyIter I d i es.size ep/\J7 h d es ep) where
 sub:=λb hb=>List.mem_cons.mpr (.inl (List.mem_singleton.mp hb))
 frame:=λ_ _ _ st hk=>⟨Heap.IsKeyIter.at st.1 λo e=>hk I (by simp) o e,st.2.at λo e=>hk d (by simp) o e⟩
 item:=λi s Q E hi st hQ=>Q_ st.1 st.2 hi λh' z sb=>hQ _ h' s.toks ⟨hi,rfl⟩ ⟨z,st.2.at λo e=>sb.extBut d o hne e⟩ λb o hb e=>sb.extBut b o (λh=>hb (by simp[h])) e
 done:=λs Q E st hQ=>YC hh st.1 st.2 (Nat.le_refl _) λh' ex=>hQ h' s.toks λb o hb e=>ex b o (λh=>hb (by simp[h])) e
 self:=λ_ _ _ _ at_ q=>wpAny_pyIter_keyiter at_.1 q
theorem aFl{Q:Value->Shared->Prop}(hd:(d==sysModules)=false)(x:J7 s.heap d es ep)(hz:(es.size:Int)<2 ^ 63)(q:∀t t',Q (.int es.size t) {s with toks:=t'}):wpAny (model prog w) A (call (.builtin "len") [.ref d]) Q E s:=by
 have T:=x.ty;have m:MeetsIn prog w (Builtin.«dict.__len__» ⟨[.ref d],[]⟩) (λ_ R s=>J7 s.heap d es ep/\R (.ok (.ret (.int es.size s.toks))) {s with toks:=s.toks+1}):=.of_wp λA R s z0=>by
  obtain⟨⟨o,e1,e2,e3⟩,h⟩:=z0;refine wpAny_bind (m:=dictSize d) (?_:wpAny _ _ (dictSize d) _ _ s);unfold dictSize;refine wpAny_bind (wpAny_dictEntries e1 e3 (wpAny_pure (wpAny_bind (m:=Builtin.Dict.pendingCount d) (wpAny_pendingCount_other hd (wpAny_ret_mkInt ?_)))));simpa using h
 refine Calls.call_function_entry kind_len plain_len entry_len (args_len1 _) (?_:wpAny _ _ (Builtin.«len» _) _ _ _);unfold Builtin.«len»;refine wpAny_bind (m:=oneArg "len" _) (wpAny_pure (wpAny_bind (m:=callSpecial? (.ref d) (Str.ofString "__len__")) (wpAny_callSpecial?_slot (name:=Str.ofString "__len__") T F.slot_dict_len (call_meetsIn F.slot_dict_len T F.entry_dict_len (F.args_dict_len_1 _) m ⟨x,(?_:wpAny _ _ _ _ _ {s with toks:=s.toks+1})⟩))));refine wpAny_bind (wpAny_holding (wpAny_pure (wpAny_bind (wpAny_letGo (?_:wpAny _ _ (if ((es.size:Nat):Int)<0 then _ else _) _ _ _)))));rw[if_neg (by lia)];refine(?_:wpAny _ _ (ite (((es.size:Nat):Int) >= 2 ^ 63) _ _) _ _ _);rw[if_neg (by lia)];exact wpAny_bind (wpAny_mkInt (wpAny_pure ⟨_,rfl,q _ _⟩))
end
section
variable {prog:Program} {w:World} {A:Around} {E:Value->Shared->Prop} {s:Shared} {r:Addr}
def aLk(s:Shared)(F:Array Value->Prop)(q:Result)(s':Shared):Prop:=∃(h':Heap)(tk:Nat)(acc:Array Value)(c:Nat),q=.ok (.ret (.ref s.heap.objs.size))/\s'={s with heap:=h',toks:=tk}/\(∀b o,s.heap.get? b=some o->h'.get? b=some o)/\h'.get? s.heap.objs.size=some {cls:=.type "list",dict:=none,data:=.seq acc c,slots:=#[]}/\F acc
theorem YF{Q:List Value->Shared->Prop}{F:Array Value->Prop}
 (key:wpAny (model prog w) A.in1 (Builtin.List.listExtendWith (.ref s.heap.objs.size) (.ref r) (.ref s.heap.objs.size)) (λfin s'=>match fin with|.done f=>aLk s F (.ok f) s'|.again c'=>c'.quiet=true/\codeAny (model prog w) A c' (aLk s F) s') (λe s'=>aLk s F (.error e) s') {s with heap:=s.heap.push {cls:=.type "list",data:=.seq ([]:List Value).toArray}})
 (q:∀h' tk acc,(∀b o,s.heap.get? b=some o->h'.get? b=some o)->s.heap.objs.size<=h'.objs.size->F acc->Q acc.toList {s with heap:=h',toks:=tk}):wpAny (model prog w) A (collect (.ref r)) Q E s:=by
 have last:∀{h':Heap}{tk:Nat}{acc:Array Value}{c:Nat},(∀b o,s.heap.get? b=some o->h'.get? b=some o)->h'.get? s.heap.objs.size=some {cls:=.type "list",dict:=none,data:=.seq acc c,slots:=#[]}->F acc->wpAny (model prog w) A (load s.heap.objs.size >>= λo=>match o.data with|.seq xs _=>pure xs.toList|_=>unsupported "internal:collect") Q E {s with heap:=h',toks:=tk}:=λkp at_ f=>wpAny_bind (wpAny_load at_ (wpAny_pure (q _ _ _ kp (Nat.le_of_lt (Heap.lt_size at_)) f)))
 unfold collect;refine wpAny_bind (wpAny_runValue (codeAny_builtin entry_proto_collect' (?_:wpAny _ _ (newList [] >>= λl=>again (.builtin "list.__iadd__" ⟨[l,.ref r],[]⟩)) _ _ s)));rw[Around.under_plainId PySem.F.plain_proto_collect];refine wpAny_bind (wpAny_newObj_type (wpAny_pure ⟨plainId_quiet PySem.F.plain_list_iadd _,codeAny_builtin entry_list_iadd' (?_:wpAny _ _ (Builtin.List.listExtendWith _ _ _) _ _ _)⟩));rw[Around.under_plainId PySem.F.plain_list_iadd];refine wpAny_mono key (λfin s' x=>?_) λe s' ⟨_,_,_,_,z,_⟩=>nomatch z
 cases fin with
 |done f=>
  obtain⟨h',tk,acc,c,e,rfl,kp,at_,f⟩:=x;cases e;exact last kp at_ f
 |again c1=>
  refine⟨x.1,codeAny_mono x.2 λp s2 y=>?_⟩;obtain⟨h',tk,acc,c,rfl,rfl,kp,at_,f⟩:=y;exact last kp at_ f
theorem aFm{Q:List Value->Shared->Prop}{o:Obj}{its:Array Value}{n:Nat}(ho:s.heap.get? r=some o)(hc:o.cls=.type "tuple")(hd:o.data=.seq its n)(hz:its.size<=sizeLine)
 (q:∀h' tk,(∀b o,s.heap.get? b=some o->h'.get? b=some o)->s.heap.objs.size<=h'.objs.size->Q its.toList {s with heap:=h',toks:=tk}):wpAny (model prog w) A (collect (.ref r)) Q E s:=by
 have hS:=Heap.get?_push_size (h:=s.heap) (o:={cls:=.type "list",data:=.seq ([]:List Value).toArray}) rfl;obtain⟨c,hc2⟩:∃c,((s.heap.push {cls:=.type "list",data:=.seq ([]:List Value).toArray}).update s.heap.objs.size (Obj.mapSeq (·++its))).get? s.heap.objs.size=some {cls:=.type "list",dict:=none,data:=.seq its c,slots:=#[]}:=by
  rw[Heap.get?_update_self (Obj.mapSeq (·++its)) hS rfl];simp only[Obj.mapSeq,Array.empty_append];exact⟨_,rfl⟩
 refine YF (F:=λacc=>acc=its) (wpAny_extend_seq (hsz:=hz) (s:={s with heap:=s.heap.push {cls:=.type "list",data:=.seq ([]:List Value).toArray}}) _ r _ 0 (.inr rfl) hS (Heap.get?_push_of_some _ ho) hc hd ⟨_,s.toks,its,c,rfl,rfl,λb o' hb=>?_,hc2,rfl⟩) λh' tk acc kp sz e=>by rw[e];exact q h' tk kp sz
 exact(Heap.get?_update_other _ _ (Nat.ne_of_gt (Heap.lt_size hb))).trans ((Heap.get?_push_of_some _ hb))
theorem aFn{d:Addr}{es:Array DictEntry}{ep:Nat}(lo:(d==sysModules)=false):KdlSrc prog w "dict" d d es.size (λi v=>∃h:i<es.size,v=es[i].key) (λh=>J7 h d es ep) where
 type:=λ_ x=>x.ty
 there:=λh x=>by obtain⟨o,e,_⟩:=x;exact⟨Heap.lt_size e,Heap.lt_size e⟩
 keep:=λ_ _ x k=>x.at λo e=>k d (.inl rfl) o e
 notList:=rfl
 notTuple:=rfl
 hint:=λ_ _ _ _ x q=>kdl_hint_dict x.ty q
 iter:=λ_ s hh x=>⟨_,_,λ_ _ q=>Q9 lo x q,YD hh _ d (by obtain⟨o,e,_⟩:=x;exact Nat.ne_of_lt (Heap.lt_size e)) es ep,⟨_,Heap.get?_push_size _ rfl,rfl,rfl⟩,x.at λo e=>Heap.get?_push_of_some _ e⟩
theorem YG{Q:List Value->Shared->Prop}{d:Addr}{es:Array DictEntry}{ep:Nat}(hh:A.handled=none)(lo:(d==sysModules)=false)(x:J7 s.heap d es ep)(hz:es.size<=sizeLine)
 (q:∀h' tk,(∀b o,s.heap.get? b=some o->h'.get? b=some o)->s.heap.objs.size<=h'.objs.size->Q (es.toList.map (·.key)) {s with heap:=h',toks:=tk}):wpAny (model prog w) A (collect (.ref d)) Q E s:=by
 have lt:d<s.heap.objs.size:=by obtain⟨o,e,_⟩:=x;exact Heap.lt_size e
 refine YF (F:=λacc=>acc.toList=es.toList.map (·.key)) (kdl_extend (aFn (prog:=prog) (w:=w) (es:=es) (ep:=ep) lo) hh (x.at λo e=>Heap.get?_push_of_some _ e) s.heap.objs.size (Nat.ne_of_gt lt) (Nat.ne_of_gt lt) _ 0 (Heap.get?_push_size _ rfl) (λh' tk acc c kp at_ it=>⟨h',tk,acc,c,rfl,rfl,λb o e=>kp b o (Nat.ne_of_lt (Heap.lt_size e)) (Heap.get?_push_of_some _ e),at_,?_⟩) hz) λh' tk acc kp sz e=>by rw[e];exact q h' tk kp sz
 refine List.ext_getElem? λi=>?_
 by_cases hi:i<es.size
 ·obtain⟨v,hv⟩:∃v,acc[i]?=some v:=⟨acc[i]'(by rw[it.1];exact hi),by simp[it.1,hi]⟩
  obtain⟨_,e⟩:=it.2 i v hv;rw[Array.getElem?_toList,hv,e,List.getElem?_map,Array.getElem?_toList,Array.getElem?_eq_getElem hi];rfl
 ·rw[Array.getElem?_toList,Array.getElem?_eq_none (by rw[it.1];lia),List.getElem?_eq_none (by simpa using hi)]
end
def o_:List D->Res D
 |[.dct kvs]=>if kvs.all (λp=>isTup p.1)&&bJ (iJ kvs) then .ok (.lst (jY (iJ kvs))) else .bad
 |[.tup xs]=>if bJ xs then .ok (.lst (jY xs)) else .bad
 |ds=>mU ds
variable [KFrag]
section
variable {X:Cx}
theorem YH{H:Hp}{s:Shared}{pins:List (Addr×Obj)}{σ:L2.St}{a:Addr}{kvs:List (List Key×V)}(I:Inv X pins σ H s)(e:H a=some (.dT kvs)):∃(es:Array DictEntry)(ep:Nat)(xs:List (List Key×Addr×Value)),J7 s.heap a es ep/\(a==sysModules)=false/\kvs.length<=sizeLine/\KT H kvs xs/\es.toList=xs.map (entryOfKey (tupleKind (dR X.prog X.w))):=by
 obtain⟨z,hd,xs,rel,o,es,ep,h1,h2,h3,h4,_⟩:=aB3 I.hok e;exact⟨es,ep,xs,⟨o,h1,h2,h3⟩,hd,z,rel,h4⟩
theorem v4{H:Hp}:∀k:List Key,bT All H (k.map kV) (k.map kD)
 |[]=>.nil
 |.inl i::r=>.cons (.int i) (v4 r)
 |.inr x::r=>.cons (.str x) (v4 r)
theorem YJ{H:Hp}{P:Addr->Prop}{kvs:List (List Key×V)}{xs:List (List Key×Addr×Value)}(rel:KT H kvs xs):∀{ds:List (D×D)},o6 P H kvs ds->Vals (xs.map λx=>V.ref x.2.1) (xs.map λx=>Value.ref x.2.1)/\bT All H (xs.map λx=>V.ref x.2.1) (iJ ds):=by
 induction rel with
 |nil=>
  intro ds r;cases r;exact⟨.nil,.nil⟩
 |@cons p q ps qs h t ih=>
  intro ds r;cases r with
  |cons r u=>
   obtain⟨h1,h2⟩:=ih u;exact⟨.cons rfl h1,.cons (.tup h.2.1 (v4 _)) h2⟩
theorem xY(hc:X.calm=true)(hu:X.A.units+20<cLine):kE X (.builtin "sorted") (rs o_ true):=by
 rintro pins s σ H xs us Q I vr ⟨ds,d,r,e,k⟩;have fin:∀{ys:List D},bJ ys=true->d=.lst (jY ys)->∀p xs',H p=none->bT All H xs' (jY ys)->Q (.ref p) (upd H p (.lst xs')):=λ{ys} hl e p xs' hp r'=>by
  subst e;have sp:dG H (upd H p (.lst xs')):=dG.upd hp;exact k _ _ sp (.lst aO trivial (r'.same sp)) λ_=>.lst aO hp ((r'.bN (vW hl)).same sp)
 unfold o_ at e;split at e
 ·rename_i kvs;split at e
  ·rename_i hl;rw[Bool.and_eq_true] at hl;cases e;obtain⟨vv,uu,rfl,rfl,r,v⟩:=jC r vr;have key:∀{H':Hp}{a:Addr}{kk:List (List Key×V)},Inv X pins σ H' s->H' a=some (.dT kk)->o6 All H' kk kvs->H'=H->vv=.ref a->wpAny (model X.prog X.w) X.A (call (.builtin "sorted") [.ref a]) (EP X pins σ Q) X.xe s:=λ{H' a kk} I' e rt eH _=>by
    subst eH;obtain⟨es,ep,zs,raw,lo,hz,rel,he⟩:=YH I' e;obtain⟨r1,r2⟩:=YJ rel rt;have hl2:es.size=zs.length:=by rw[<-Array.length_toList,he,List.length_map]
    have hl3:kk.length=zs.length:=Paired.length rel;have keys:es.toList.map (·.key)=zs.map λx=>Value.ref x.2.1:=by rw[he,List.map_map];rfl
    exact kY I' hu r1 (by rw[List.length_map,<-hl3];exact hz) r2 hl.2 (λQ' E' h=>YG (I'.ok.hd hc) lo raw (by rw[hl2,<-hl3];exact hz) λh1 tk kp sz=>by rw[keys];exact h h1 tk kp sz) (fin hl.2 rfl)
   cases r with
   |dK e _ rk _=>
    cases rk with
    |cons r t=>
     have:=hl.1;rw[List.all_cons,fC] at this;cases this
    |nil=>
     cases v;obtain⟨_,lo,vs,rel,o,es,ep,e1,e2,e3,_,hp,_⟩:=S5 I.hok e;have h0:vs.length=0:=by rw[<-rel.length];rfl
     have h1:es.toList=[]:=List.eq_nil_of_length_eq_zero (by rw[hp.length];exact h0);exact kY I hu .nil (Nat.zero_le _) .nil hl.2 (λQ' E' h=>YG (I.ok.hd hc) lo ⟨o,e1,e2,e3⟩ (by rw[<-Array.length_toList,h1];exact Nat.zero_le _) λh' tk kp sz=>by rw[h1];exact h h' tk kp sz) (fin hl.2 rfl)
   |dT e _ rt _=>
    cases v;exact key I e rt rfl rfl
  ·cases e
 ·rename_i ys;split at e
  ·rename_i hl;cases e;obtain⟨vv,uu,rfl,rfl,r,v⟩:=jC r vr;cases r with
   |tup e rr=>
    cases v;obtain⟨its,vr,o,ho,hc',n,hd⟩:=gM I e;have hz:=I.hok _ _ e;exact kY I hu vr (by rw[<-vr.length];exact hz.1) rr hl (λQ' E' h=>aFm ho hc' hd (by rw[List.size_toArray,<-vr.length];exact hz.1) λh1 tk kp sz=>by simpa using h h1 tk kp sz) (fin hl rfl)
  ·cases e
 ·exact rJ hu pins s σ H xs us Q I vr ⟨_,d,r,e,k⟩
def aJ2:List D->Res D
 |[.dct kvs]=>if kvs.all (λp=>isTup p.1) then .ok (.int kvs.length) else .bad
 |ds=>gH ds
theorem aFo(hK:KFrag.K=X.K):kE X (.builtin "len") (rs aJ2 true):=by
 rintro pins s σ H xs us Q I vr ⟨ds,d,r,e,k⟩;unfold aJ2 at e;split at e
 ·rename_i kvs;split at e
  ·rename_i hl;cases e;obtain⟨vv,uu,rfl,rfl,r,v⟩:=jC r vr;cases r with
   |dK e _ rk _=>
    cases rk with
    |cons r t=>rw[List.all_cons,fC] at hl;cases hl
    |nil=>
     cases v;obtain⟨_,lo,vs,rel,dd⟩:=S5 I.hok e;have h0:vs.length=0:=by rw[<-rel.length];rfl
     refine call_len_dict lo dd (by lia) ?_;rw[h0];exact⟨.int 0,H,I.tok _,⟨_,rfl⟩,k.int⟩
   |dT e _ rt _=>
    cases v;obtain⟨es,ep,zs,raw,lo,hz,rel,he⟩:=YH I e;have hl2:es.size=kvs.length:=by rw[<-Array.length_toList,he,List.length_map,<-Paired.length rel,rt.length]
    refine aFl lo raw (by have:=rt.length;rw[sizeLine_eq] at hz;lia) λt t'=>?_
    rw[hl2];exact⟨.int _,H,I.tok _,⟨_,rfl⟩,k.int⟩
  ·cases e
 ·exact dY hK pins s σ H xs us Q I vr ⟨_,d,r,e,k⟩
end
end Mi
namespace Mi
open PySem L2 PySem.SeqAt PySem.Spec PyProof.Rows
section
variable [KFrag]
noncomputable def own1(j:Nat):Nat->Bool:=λi=>i==j
section
theorem aJ3{w:Nat->Bool}{ws:List V}{ds:List D}{m k:Nat}(E0:ES w H (ws.map some) ds)(hw:ws.length=m)(hd:ds.length=m)(hown:∀i,i<m->own i=w i)(hlt:∀i,w i=true->i<m) :
  ES own H (ws.map some++List.replicate k none) (ds++List.replicate k .uD)/\∀a,Own own (ws.map some++List.replicate k none) a↔Own w (ws.map some) a:=by
 have low:∀i,i<m->(ws.map some++List.replicate k none)[i]?=(ws.map some)[i]?:=λi hi=>by rw[List.getElem?_append_left (by simp[hw,hi])]
 have high:∀i v,m<=i->(ws.map some++List.replicate k none)[i]?≠some (some v):=λi v hi e=>by
  rw[List.getElem?_append_right (by simp[hw];lia),List.getElem?_replicate] at e;split at e<;>cases e
 have hO:∀a,Own own (ws.map some++List.replicate k none) a↔Own w (ws.map some) a:=λa=>by
  constructor
  ·rintro⟨i,hi,e⟩;by_cases h:i<m
   ·exact⟨i,by rw[<-hown i h];exact hi,by rw[<-low i h];exact e⟩
   ·exact absurd e (high i _ (by lia))
  ·rintro⟨i,hi,e⟩;have h:=hlt i hi;exact⟨i,by rw[hown i h];exact hi,by rw[low i h];exact e⟩
 have hOf:(λa=>¬Own own (ws.map some++List.replicate k none) a)=λa=>¬Own w (ws.map some) a:=funext λa=>by rw[hO]
 have gd:∀i,i<m->(ds++List.replicate k D.uD).getD i .uD=ds.getD i .uD:=λi hi=>by
  rw[List.getD_eq_getElem?_getD,List.getElem?_append_left (by lia),List.getD_eq_getElem?_getD]
 refine⟨⟨by simp[hw,hd],λi hi=>?_,λi v hi hv=>?_⟩,hO⟩
 ·have hl:i<m:=Nat.lt_of_not_le λhge=>hi (by
   rw[List.getD_eq_getElem?_getD,List.getElem?_append_right (by lia),List.getElem?_replicate];split<;>rfl)
  rw[gd i hl] at hi ⊢;obtain⟨v,g1,g2⟩:=E0.at_ i hi;exact⟨v,by rw[low i hl];exact g1,λho=>by rw[hOf];exact g2 (by rw[<-hown i hl];exact ho)⟩
 ·have hl:i<m:=Nat.lt_of_not_le λhge=>high i v hge hv
  rw[low i hl] at hv;rw[gd i hl];obtain⟨a,o,g1,g2,g3,g4,g5,g6⟩:=E0.own i v (by rw[<-hown i hl];exact hi) hv;refine⟨a,o,g1,g2,g3,g4,g5,λj hj hs=>?_⟩;have hjl:j<m:=Nat.lt_of_not_le λhge=>high j _ hge hs
  exact g6 j (by rw[<-hown j hjl];exact hj) (by rw[<-low j hjl];exact hs)
end
end
noncomputable def bDc(i:Nat):FE:=λρ=>match ρ.getD i .uD with|.dcl _ kvs=>.ok (.dct kvs)|_=>.bad
def M8(i:Nat)(f g:FE):FS:=λρ=>do
 let d <- g ρ
 let k <- f ρ
 match ρ.getD i .uD with
 |.dcl a kvs=>if decide (kvs.length<lim)&&t_ kvs k&&d.pure then .ok (.nx (ρ.set i (.dcl a (putD kvs k d)))) else .bad
 |_=>.bad
noncomputable def endC(j:Nat):Fl->Res D
 |.rt (.tup (d::ρ))=>.ok (.tup [d,ρ.getD j .uD])
 |_=>.bad
def fnC(j n m:Nat)(f:FS):List D->Res D:=λds=>do
 let r <- f (ds++List.replicate (m-n) .uD)
 endC j r
open Classical in
noncomputable def chD(f:List D->Res D)(j:Nat)(kvs:List (D×D))(ds:List D):Res (D×List (D×D)):=
 if h:∃p:D×List (D×D),∀b,f (ds.set j (.dcl b kvs))=.ok (.tup [p.1,.dcl b p.2]) then .ok h.choose else .bad
theorem YK(h:chD f j kvs ds=.ok p):∀b,f (ds.set j (.dcl b kvs))=.ok (.tup [p.1,.dcl b p.2]):=by
 unfold chD at h;split at h
 ·rename_i e;cases h;exact e.choose_spec
 ·exact bx h
theorem aJ4(h:∀b,f (ds.set j (.dcl b kvs))=.ok (.tup [r,.dcl b kvs'])):chD f j kvs ds=.ok (r,kvs'):=by
 have e:∃p:D×List (D×D),∀b,f (ds.set j (.dcl b kvs))=.ok (.tup [p.1,.dcl b p.2]):=⟨(r,kvs'),h⟩
 have q:chD f j kvs ds=.ok e.choose:=by unfold chD;rw[dif_pos e]
 rw[q];have z:=e.choose_spec 0;rw[h 0] at z;injection z with z
 injection z with z
 injection z with z1 z2
 injection z2 with z2
 injection z2 with _ z2
 rw[z1,z2]
noncomputable def isU:D->Bool
 |.uD=>true
 |_=>false
def rY(f:List D->Res D)(n j i:Nat)(fs:FA):FX:=λρ=>do
 let ds <- fs ρ
 match ρ.getD i .uD with
 |.dct kvs=>if decide (ds.length=n)&&(decide (j<n)&&isU (ds.getD j .non)) then (do
   let p <- chD f j kvs ds
   if p.1.pure&&D.aY (p.2.map (·.2)) then .ok (p.1,ρ.set i (.dct p.2)) else .bad) else .bad
 |_=>.bad
section
variable [KFrag]
section
variable {own:Nat->Bool}
theorem aLl(hN:X.N[i]?=some x)(hv:Vis X.env.scope x)(hd:nDb x:=by decide)(hcd:nCd x:=by decide):PE X (.Name x pos) (gE (bDc i) false):=
 PE.imp (jH hN hv hd hcd) λσ H Q z0=>by
  obtain⟨ρ,d,E,h,q⟩:=z0;unfold bDc at h;split at h
  ·rename_i a kvs hx;cases h;obtain⟨v,h1,h2⟩:=E i (by rw[hx];intro z;cases z);rw[hx] at h2;obtain⟨rfl,r⟩:=h2.inv;exact⟨_,h1,q.self r (λz=>by cases z)⟩
  ·exact bx h
theorem YL(r:Rep P H (.ref a) (.dct kvs)):Rep P H (.ref a) (.dcl a kvs):=by
 cases r with
 |dK e p r n=>exact .dlK e p r n
 |dT e p r n=>exact .dlT e p r n
theorem YM(hu:X.A.units+20<cLine)(ho:own i=true)(hN:X.N[i]?=some x)(hvi:Vis X.env.scope x)(hk:PE X k (gE fk rk))(hv:PE X value (gE fv rv))
 (hs:swapsWith value (some (.Subscript (.Name x p1) k pos')) pos.line X.env=pure false:=by rfl)(hd:nDb x:=by decide)(hcd:nCd x:=by decide) :
  PS X (.Assign [.Subscript (.Name x p1) k pos'] value pos) (tS own (M8 i fk fv)):=by
 rintro pins s σ H D' I ⟨ρ,fl,E,h,q⟩;obtain⟨d,h0,h⟩:=aX h;obtain⟨kd,h1,h2⟩:=aX h;split at h2
 ·rename_i b kvs hx;split at h2
  ·rename_i hg;cases h2;simp only[Bool.and_eq_true] at hg;obtain⟨⟨hg1,hg2⟩,hg3⟩:=hg;obtain⟨a,o,hσ,r,hin,ha,hm⟩:=E.ownAt ho (by rw[hx];intro z;cases z);rw[hx] at r hin;obtain⟨eb,r⟩:=r.inv;cases eb;refine PS.imp (aFk hu hN hvi hk hv hs hd hcd) (λD' σ H z=>z) pins s σ H D' I ⟨ρ,kd,d,kvs,b,E.er,h0,h1,hσ,r,hin,W_ hg1,hg2,hg3,λH1 o1 sm hmo rp=>?_⟩;obtain⟨E2,k2⟩:=(E.same sm).mut ho hσ hmo (YL rp) (tO hg3 hin);exact q _ _ ((KU.same sm).trans k2) E2
  ·exact bx h2
 ·exact bx h2
def aMn(f:List D->Res D)(j n:Nat):Sp:=λvs H Q _=>∃(ds:List D)(a:Addr)(kvs kvs':List (D×D))(d:D),vs.length=n/\ds.length=n/\j<n/\ES (own1 j) H (vs.map some) ds/\ds.getD j .uD=.dcl a kvs/\f ds=.ok (.tup [d,.dcl a kvs'])/\d.pure=true/\
 ∀v H',(∀b o,H b=some o->b≠a->H' b=some o)->Rep All H' (.ref a) (.dcl a kvs')->D.aY (kvs'.map (·.2))=true->Rep All H' v d->Q v H'
theorem aBx{E:XK}(hx:own rtX=true)(hN:n<=N.length)(hown:∀i,i<n->own i=own1 j i)(h0:aMn (fnC j n N.length f) j n vs H Q E):tS own f {nx:=λ_ H'=>Q .non H',rt:=Q} (L2.start N vs) H:=by
 obtain⟨ds,a,kvs,kvs',d,hvl,hl,hj,E0,hdj,h,dp,q⟩:=h0;obtain⟨fl,h1,h2⟩:=aX h;have hst:L2.start N vs=vs.map some++List.replicate (N.length-n) none:=by
  show vs.map some++List.replicate (N.length-vs.length) none=_;rw[hvl]
 rw[hst];obtain⟨E1,hO⟩:=aJ3 (k:=N.length-n) E0 hvl hl hown (λi hi=>by simp[own1] at hi;lia);have hOn:∀b,Own (own1 j) (vs.map some) b->b=a:=λb z=>by
  obtain⟨i,hi,e⟩:=z;have:i=j:=by simpa[own1] using hi
  subst this;obtain⟨b',o,e1,g2,_⟩:=E0.own i _ hi e;cases e1;rw[hdj] at g2;obtain⟨z,_⟩:=g2.inv;cases z;rfl
 refine⟨_,fl,E1,h1,?_⟩;cases fl with
 |nx ρ'=>exact bx h2
 |bk ρ'=>exact bx h2
 |ct ρ'=>exact bx h2
 |rt d'=>
  show kRt own _ _ _ d';unfold kRt;rw[if_pos hx];unfold endC at h2;split at h2
  ·rename_i d1 ρ' heq;cases heq;injection h2 with h2
   injection h2 with h2
   injection h2 with z1 z2
   injection z2 with z2
   subst z1;refine⟨_,_,rfl,λv σ' H' ku E' r=>?_⟩;obtain⟨w',y2,_⟩:=E'.at_ j (by rw[z2];intro z;cases z);obtain⟨b,o,rfl,g4,g5,_⟩:=E'.own j w' (by rw[hown j hj];simp[own1]) y2;rw[z2] at g4 g5;obtain⟨eb,_⟩:=g4.inv;cases eb;exact q v H' (λc o e n1=>(ku c o e (by rw[hO];exact λz=>n1 (hOn c z))).1) g4 g5 (r.bN dp)
  ·exact bx h2
def aGz(P:Program)(w:World)(K:PySem.W.Frag)(mg:Str->Option Value)(base:Heap)(k:Nat)(x:Str)(n j:Nat)(f:List D->Res D):Prop:=
 ∃(fad:Addr)(fd:FuncData)(ps:List Str),SN P w K mg base CX0 k fad fd ps (aMn f j n)/\mg x=some (.ref fad)/\PySem.W.keepIn K (.ref fad)=true/\Binds K fd ps []
theorem aFp{w:World}{K:PySem.W.Frag}{mg:Str->Option Value}{base:Heap}{x:Str}{k:Nat}{st:Stmt}{fad:Addr}{fd:FuncData}{N ps:List Str}{fs:FS}(j:Nat)(F:Fun K x x st fad fd)(hm:mg x=some (.ref fad))(hb:Binds K fd ps [])(S:bQ N ps (aM st))(own:Nat->Bool)(hown:∀i,i<ps.length->own i=own1 j i)(hN:ps.length<=N.length)
 (hbody:∀(cdv:Value) (A:Around) (outer:List Env) (s:Shared) (H:Hp) (E:XK),t6 k (A.deeper (envOfC x (aM st) s.heap.objs.size fad cdv))->PSs (aAz CX0 P w K mg base N x (aM st) fad cdv A outer s H E).nox (i_ st) (tS own fs))(hx:own rtX=true:=by rfl):aGz P w K mg base (k+1) x ps.length j (fnC j ps.length N.length fs):=
 ⟨fad,fd,ps,F.ok S (λvs H Q E h=>by obtain⟨_,_,_,_,_,h,_⟩:=h;exact h) λcdv A outer s H vs Q E hr h=>⟨_,hbody cdv A outer s H E hr,aBx hx hN hown h⟩,hm,F.kp,hb⟩
def RpU(own:Nat->Bool)(σ:L2.St)(i:Nat)(H:Hp)(v:V)(d:D):Prop:=(d=.uD/\σ[i]?=some (some v))\/Rep (λa=>¬Own own σ a) H v d
def aFq(own:Nat->Bool)(σ:L2.St)(i:Nat)(H:Hp):List V->List D->Prop
 |[],[]=>True
 |v::vs,d::ds=>RpU own σ i H v d/\aFq own σ i H vs ds
 |_,_=>False
theorem aFq.length:∀{vs:List V}{ds:List D},aFq own σ i H vs ds->vs.length=ds.length
 |[],[],_=>rfl
 |_::_,_::_,h=>congrArg (·+1) h.2.length
 |[],_::_,h=>h.elim
 |_::_,[],h=>h.elim
theorem aFq.at:∀{vs:List V}{ds:List D}{m:Nat},aFq own σ i H vs ds->m<ds.length->∃v,vs[m]?=some v/\RpU own σ i H v (ds.getD m .uD)
 |[],[],_,_,h=>absurd h (Nat.not_lt_zero _)
 |v::_,_::_,0,r,_=>⟨v,rfl,r.1⟩
 |_::_,_::_,m+1,r,h=>r.2.at (Nat.lt_of_succ_lt_succ h)
 |[],_::_,_,h,_=>h.elim
 |_::_,[],_,h,_=>h.elim
noncomputable def gAD(own:Nat->Bool)(i:Nat)(f:FA):TA:=λσ H Q=>∃ρ ds,ES own H σ ρ/\f ρ=.ok ds/\∀vs H',dG H H'->aFq own σ i H' vs ds->Q vs H'
def bUo(i:Nat):FE:=λρ=>if isU (ρ.getD i .uD) then .bad else .ok .uD
theorem aJ5:PA X [] (gAD own i aR):=PA.imp t7 λσ H Q z0=>by obtain⟨ρ,ds,E,h,q⟩:=z0;cases h;exact q [] H (dG.refl H) trivial
theorem aDn(ho:own m=false)(hN:X.N[m]?=some x)(hv:Vis X.env.scope x)(hes:PA X es (gAD own i f))(hd:nDb x:=by decide)(hcd:nCd x:=by decide)(hs:starEach (.Name x pos::es) X.env=(false,eval (.Name x pos) X.env)::starEach es X.env:=by rfl):PA X (.Name x pos::es) (gAD own i (aD (iV m) f)):=PA.imp (fG (jH hN hv hd hcd) hes hs) λσ H Q z0=>by
 obtain⟨ρ,ds,E,h,q⟩:=z0;obtain⟨x,h1,h⟩:=aX h;obtain⟨xs,h2,h⟩:=aX h;cases h;obtain⟨v,hv,rv⟩:=aJ1 E ho h1;exact⟨v,hv,ρ,xs,E,h2,λvs H2 s2 r2=>q _ _ s2 ⟨.inr (rv.same s2),r2⟩⟩
theorem aJ6(ho:own i=true)(hN:X.N[i]?=some x)(hv:Vis X.env.scope x)(hes:PA X es (gAD own i f))(hd:nDb x:=by decide)(hcd:nCd x:=by decide)(hs:starEach (.Name x pos::es) X.env=(false,eval (.Name x pos) X.env)::starEach es X.env:=by rfl):PA X (.Name x pos::es) (gAD own i (aD (bUo i) f)):=PA.imp (fG (jH hN hv hd hcd) hes hs) λσ H Q z0=>by
 obtain⟨ρ,ds,E,h,q⟩:=z0;obtain⟨x,h1,h⟩:=aX h;obtain⟨xs,h2,h⟩:=aX h;cases h;unfold bUo at h1;split at h1
 ·exact bx h1
 ·rename_i hu;cases h1;obtain⟨v,hv,_⟩:=E.at_ i (λz=>hu (by rw[z];rfl));exact⟨v,hv,ρ,xs,E,h2,λvs H2 s2 r2=>q _ _ s2 ⟨.inl ⟨rfl,hv⟩,r2⟩⟩
theorem aLm(he:PE X e (gE fe re))(hes:PA X es (gAD own i f))(hs:starEach (e::es) X.env=(false,eval e X.env)::starEach es X.env:=by rfl):PA X (e::es) (gAD own i (aD (bPu fe) f)):=PA.imp (fG he hes hs) λσ H Q z0=>by
 obtain⟨ρ,ds,E,h,q⟩:=z0;obtain⟨x,h1,h⟩:=aX h;obtain⟨xs,h2,h⟩:=aX h;cases h;obtain⟨y,h3,h1⟩:=aX h1;split at h1
 ·rename_i hp;cases h1;exact⟨ρ,_,E.er,h3,λv H1 s1 r1 _=>⟨ρ,xs,E.same s1,h2,λvs H2 s2 r2=>q _ _ (s1.trans s2) ⟨.inr ((r1.bN hp).same s2),r2⟩⟩⟩
 ·exact bx h1
theorem aNn(E:ES own H σ ρ)(ho:own i=true)(hσ:σ[i]?=some (some (.ref a)))(rs:aFq own σ i H vs ds)(hj:j<ds.length)(hu:isU (ds.getD j .non)=true)(r:Rep All H (.ref a) (.dct kvs))(hin:D.aY (kvs.map (·.2))=true)(ha:H a=some o)(hm:GQ o=true):ES (own1 j) H (vs.map some) (ds.set j (.dcl a kvs)):=by
 have hl:=rs.length;have hOa:Own own σ a:=⟨i,ho,hσ⟩
 have vj:vs[j]?=some (.ref a):=by
  obtain⟨v,e,h⟩:=rs.at hj;have u:ds.getD j .uD=.uD:=by
   rw[List.getD_eq_getElem?_getD,List.getElem?_eq_getElem hj] at hu ⊢
   revert hu
   show isU ds[j]=true->ds[j]=.uD;cases ds[j]<;>intro z<;>first|rfl|cases z
  rw[u] at h;rcases h with ⟨_,h⟩|h
  ·rw[hσ] at h;cases h;exact e
  ·exact(Rep.uD h).elim
 have hOn:∀b,Own (own1 j) (vs.map some) b->b=a:=λb z=>by
  obtain⟨m,hm',e⟩:=z;have:m=j:=by simpa[own1] using hm'
  subst this;rw[List.getElem?_map,vj] at e;simpa using e.symm
 refine⟨by rw[List.length_map,List.length_set];exact hl,λm hm'=>?_,λm v hm' hv=>?_⟩
 ·by_cases z:m=j
  ·subst z;exact⟨.ref a,by rw[List.getElem?_map,vj];rfl,λq=>by simp[own1] at q⟩
  ·have e:(ds.set j (.dcl a kvs)).getD m .uD=ds.getD m .uD:=by
    rw[List.getD_eq_getElem?_getD,List.getElem?_set_ne (Ne.symm z),List.getD_eq_getElem?_getD]
   rw[e] at hm' ⊢;have hlt:m<ds.length:=Nat.lt_of_not_le λq=>hm' (by rw[List.getD_eq_getElem?_getD,List.getElem?_eq_none q];rfl)
   obtain⟨v,e1,h⟩:=rs.at hlt;refine⟨v,by rw[List.getElem?_map,e1];rfl,λ_=>?_⟩;rcases h with ⟨h,_⟩|h
   ·exact absurd h hm'
   ·exact h.mono λb hb q=>hb (by rw[hOn b q];exact hOa)
 ·have:m=j:=by simpa[own1] using hm'
  subst this;rw[List.getElem?_map,vj] at hv;have hv:V.ref a=v:=by simpa using hv
  subst hv;have e:(ds.set m (.dcl a kvs)).getD m .uD=.dcl a kvs:=by
   rw[List.getD_eq_getElem?_getD,List.getElem?_set_self hj];rfl
  rw[e];exact⟨a,o,rfl,YL r,hin,ha,hm,λq hq _=>by simpa[own1] using hq⟩
theorem YQ(r:Rep P H (.ref a) (.dct kvs)):∃o,H a=some o/\GQ o=true:=by
 cases r with
 |dK e p r n=>exact⟨_,e,rfl⟩
 |dT e p r n=>exact⟨_,e,rfl⟩
theorem aBy(C:aGz X.prog X.w X.K X.mg X.base k x n j f)(hr:t6 k' X.A)(hkk:k<=k')(hg:Gl X x)(ho:own i=true)(ha:PA X (e::es) (gAD own i fs))(hdb:nDb x:=by decide)
 (he:starEach (e::es) X.env=(false,eval e X.env)::starEach es X.env:=by rfl)(hpl:(backTo pos (starEach es X.env)).any (·.1)=false:=by rfl):PE X (.Call (.Name x p) (e::es) [] pos) (gX own (rY f n j i fs)):=by
 obtain⟨fad,fd,ps,F,hm,hk,hb⟩:=C;refine PE.imp (yJ F (hr.mono hkk) hg hm hk hb .nil aB9 ha hdb he hpl) λσ H Q ⟨ρ,d,ρ',E,h,q⟩=>?_
 obtain⟨ds,h1,h⟩:=aX h;split at h
 ·rename_i kvs hx;split at h
  ·rename_i hn;rw[Bool.and_eq_true,Bool.and_eq_true] at hn;obtain⟨n1,n2,n3⟩:=hn;have n1:=of_decide_eq_true n1;have n2:=of_decide_eq_true n2;obtain⟨⟨r0,kvs'⟩,h2,h⟩:=aX h;split at h
   ·rename_i hp;rw[Bool.and_eq_true] at hp;cases h;obtain⟨a,o,hσ,r,hin,hHa,hmo⟩:=E.ownAt ho (by rw[hx];intro z;cases z);rw[hx] at r hin;refine⟨ρ,ds,E,h1,λvs H1 s1 rs=>?_⟩;dsimp only;rw[List.append_nil];have E1:=E.same s1;refine⟨ds.set j (.dcl a kvs),a,kvs,kvs',r0,by rw[rs.length,n1],by rw[List.length_set,n1],n2,aNn E1 ho hσ rs (by lia) n3 (r.same s1) hin (s1 _ _ hHa) hmo,?_,YK h2 a,hp.1,λv H' k1 r1 hin1 rv=>?_⟩
    ·rw[List.getD_eq_getElem?_getD,List.getElem?_set_self (by lia)];rfl
    ·obtain⟨_,r2⟩:=r1.inv;obtain⟨o',e',m'⟩:=YQ r2;obtain⟨E2,k2⟩:=E1.aMm ho hσ k1 e' m' r2 hin1;exact q v H' ((KU.same s1).trans k2) E2 (.set ho) (rv.bN hp.1)
   ·exact bx h
  ·exact bx h
 ·exact bx h
end
section
noncomputable def aFr(f:FX):FS:=λρ=>do
 let p <- f ρ
 .ok (.nx p.2)
theorem aDo(he:PE X e (gX own f))(hs:swapsWith e none pos.line X.env=pure false:=by rfl):PS X (.Expr e pos) (tS own (aFr f)):=PS.imp (KD he hs) λD' σ H z=>by
 obtain⟨ρ,fl,E,h,q⟩:=z;obtain⟨⟨d,ρ'⟩,h1,h2⟩:=aX h;cases h2;exact⟨ρ,d,ρ',E,h1,λv H' k E' ns r=>q _ _ k E'⟩
end
end
noncomputable def aFs:FE:=λ_=>.ok .uD
def HH(f:List D->Res D)(n j:Nat)(fs:FA):FE:=λρ=>do
 let ds <- fs ρ
 if decide (ds.length=n)&&(decide (j<n)&&isU (ds.getD j .non)) then (do
  let p <- chD f j [] ds
  if p.1.pure then .ok p.1 else .bad) else .bad
section
variable [KFrag]
section
variable {own:Nat->Bool}
def RpA(a:Addr)(H:Hp)(v:V)(d:D):Prop:=(d=.uD/\v=.ref a)\/Rep (λb=>b≠a) H v d
def aDp(a:Addr)(H:Hp):List V->List D->Prop
 |[],[]=>True
 |v::vs,d::ds=>RpA a H v d/\aDp a H vs ds
 |_,_=>False
theorem aDp.length:∀{vs:List V}{ds:List D},aDp a H vs ds->vs.length=ds.length
 |[],[],_=>rfl
 |_::_,_::_,h=>congrArg (·+1) h.2.length
 |[],_::_,h=>h.elim
 |_::_,[],h=>h.elim
theorem aDp.at:∀{vs:List V}{ds:List D}{m:Nat},aDp a H vs ds->m<ds.length->∃v,vs[m]?=some v/\RpA a H v (ds.getD m .uD)
 |[],[],_,_,h=>absurd h (Nat.not_lt_zero _)
 |v::_,_::_,0,r,_=>⟨v,rfl,r.1⟩
 |_::_,_::_,m+1,r,h=>r.2.at (Nat.lt_of_succ_lt_succ h)
 |[],_::_,_,h,_=>h.elim
 |_::_,[],_,h,_=>h.elim
theorem aMo{a:Addr}{kvs:List (D×D)}(rs:aDp a H vs ds)(hj:j<ds.length)(hu:isU (ds.getD j .non)=true)(r:Rep All H (.ref a) (.dct kvs))(hin:D.aY (kvs.map (·.2))=true)(ha:H a=some o)(hm:GQ o=true):ES (own1 j) H (vs.map some) (ds.set j (.dcl a kvs)):=by
 have hl:=rs.length;have vj:vs[j]?=some (.ref a):=by
  obtain⟨v,e,h⟩:=rs.at hj;have u:ds.getD j .uD=.uD:=by
   rw[List.getD_eq_getElem?_getD,List.getElem?_eq_getElem hj] at hu ⊢
   revert hu
   show isU ds[j]=true->ds[j]=.uD;cases ds[j]<;>intro z<;>first|rfl|cases z
  rw[u] at h;rcases h with ⟨_,rfl⟩|h
  ·exact e
  ·exact(Rep.uD h).elim
 have hOn:∀b,Own (own1 j) (vs.map some) b->b=a:=λb z=>by
  obtain⟨m,hm',e⟩:=z;have:m=j:=by simpa[own1] using hm'
  subst this;rw[List.getElem?_map,vj] at e;simpa using e.symm
 refine⟨by rw[List.length_map,List.length_set];exact hl,λm hm'=>?_,λm v hm' hv=>?_⟩
 ·by_cases z:m=j
  ·subst z;exact⟨.ref a,by rw[List.getElem?_map,vj];rfl,λq=>by simp[own1] at q⟩
  ·have e:(ds.set j (.dcl a kvs)).getD m .uD=ds.getD m .uD:=by
    rw[List.getD_eq_getElem?_getD,List.getElem?_set_ne (Ne.symm z),List.getD_eq_getElem?_getD]
   rw[e] at hm' ⊢;have hlt:m<ds.length:=Nat.lt_of_not_le λq=>hm' (by rw[List.getD_eq_getElem?_getD,List.getElem?_eq_none q];rfl)
   obtain⟨v,e1,h⟩:=rs.at hlt;refine⟨v,by rw[List.getElem?_map,e1];rfl,λ_=>?_⟩;rcases h with ⟨h,_⟩|h
   ·exact absurd h hm'
   ·exact h.mono λb hb q=>hb (hOn b q)
 ·have:m=j:=by simpa[own1] using hm'
  subst this;rw[List.getElem?_map,vj] at hv;have hv:V.ref a=v:=by simpa using hv
  subst hv;have e:(ds.set m (.dcl a kvs)).getD m .uD=.dcl a kvs:=by
   rw[List.getD_eq_getElem?_getD,List.getElem?_set_self hj];rfl
  rw[e];exact⟨a,o,rfl,YL r,hin,ha,hm,λq hq _=>by simpa[own1] using hq⟩
noncomputable def gAQ(own:Nat->Bool)(i:Nat)(f:FA):TA:=λσ H Q=>∃ρ ds a,ES own H σ ρ/\own i=true/\σ[i]?=some (some (.ref a))/\f ρ=.ok ds/\∀vs H',dG H H'->aDp a H' vs ds->Q vs H'
theorem aJ7:PA X [] (gAQ own i aR):=PA.imp t7 λσ H Q z0=>by obtain⟨ρ,ds,a,E,ho,ha,h,q⟩:=z0;cases h;exact q [] H (dG.refl H) trivial
theorem aDq(hm:own m=false)(hN:X.N[m]?=some x)(hv:Vis X.env.scope x)(hes:PA X es (gAQ own i f))(hd:nDb x:=by decide)(hcd:nCd x:=by decide)(hs:starEach (.Name x pos::es) X.env=(false,eval (.Name x pos) X.env)::starEach es X.env:=by rfl):PA X (.Name x pos::es) (gAQ own i (aD (iV m) f)):=PA.imp (fG (jH hN hv hd hcd) hes hs) λσ H Q z0=>by
 obtain⟨ρ,ds,a,E,ho,ha,h,q⟩:=z0;obtain⟨x,h1,h⟩:=aX h;obtain⟨xs,h2,h⟩:=aX h;cases h;obtain⟨v,hv,rv⟩:=aJ1 E hm h1;exact⟨v,hv,ρ,xs,a,E,ho,ha,h2,λvs H2 s2 r2=>q _ _ s2 ⟨.inr ((rv.same s2).mono λb hb z=>hb (by subst z;exact⟨i,ho,ha⟩)),r2⟩⟩
theorem aJ8(hN:X.N[i]?=some x)(hv:Vis X.env.scope x)(hes:PA X es (gAQ own i f))(hd:nDb x:=by decide)(hcd:nCd x:=by decide)(hs:starEach (.Name x pos::es) X.env=(false,eval (.Name x pos) X.env)::starEach es X.env:=by rfl):PA X (.Name x pos::es) (gAQ own i (aD (bUo i) f)):=PA.imp (fG (jH hN hv hd hcd) hes hs) λσ H Q z0=>by
 obtain⟨ρ,ds,a,E,ho,ha,h,q⟩:=z0;obtain⟨x,h1,h⟩:=aX h;obtain⟨xs,h2,h⟩:=aX h;cases h;unfold bUo at h1;split at h1
 ·exact bx h1
 ·cases h1;exact⟨_,ha,ρ,xs,a,E,ho,ha,h2,λvs H2 s2 r2=>q _ _ s2 ⟨.inl ⟨rfl,rfl⟩,r2⟩⟩
noncomputable def bOd(m:Nat):FE:=λρ=>match ρ.getD m .uD with|.dct kvs=>.ok (.dct kvs)|_=>.bad
theorem aJ9{b:Addr}{kvs:List (D×D)}(r:Rep All H (.ref b) (.dct kvs))(hin:D.aY (kvs.map (·.2))=true)(hb:b≠a):Rep (λc=>c≠a) H (.ref b) (.dct kvs):=by
 cases r with
 |dK e p r n=>exact .dK e hb (r.bN hin) n
 |dT e p r n=>exact .dT e hb (r.bN hin) n
theorem aJa(hm:own m=true)(hmi:(m==i)=false)(hN:X.N[m]?=some x)(hv:Vis X.env.scope x)(hes:PA X es (gAQ own i f))(hd:nDb x:=by decide)(hcd:nCd x:=by decide)(hs:starEach (.Name x pos::es) X.env=(false,eval (.Name x pos) X.env)::starEach es X.env:=by rfl):PA X (.Name x pos::es) (gAQ own i (aD (bOd m) f)):=PA.imp (fG (jH hN hv hd hcd) hes hs) λσ H Q z0=>by
 obtain⟨ρ,ds,a,E,ho,ha,h,q⟩:=z0;obtain⟨x,h1,h⟩:=aX h;obtain⟨xs,h2,h⟩:=aX h;cases h;unfold bOd at h1;split at h1
 ·rename_i kvs hx;cases h1;obtain⟨v,hv,_⟩:=E.at_ m (by rw[hx];intro z;cases z);obtain⟨b,o,rfl,r,hin,_,_,un⟩:=E.own m v hm hv;rw[hx] at r hin;have hba:b≠a:=λz=>by
   subst z;have:=un i ho ha;subst this;simp at hmi
  exact⟨_,hv,ρ,xs,a,E,ho,ha,h2,λvs H2 s2 r2=>q _ _ s2 ⟨.inr ((aJ9 r hin hba).same s2),r2⟩⟩
 ·exact bx h1
theorem aBz(C:aGz X.prog X.w X.K X.mg X.base k x n j f)(hr:t6 k' X.A)(hkk:k<=k')(hg:Gl X x)(ho:own i=true)(ha:PA X (e::es) (gAQ own i fs))(hdb:nDb x:=by decide)
 (he:starEach (e::es) X.env=(false,eval e X.env)::starEach es X.env:=by rfl)(hpl:(backTo pos (starEach es X.env)).any (·.1)=false:=by rfl):PE X (.Call (.Name x p) (e::es) [] pos) (gX own (rY f n j i fs)):=by
 obtain⟨fad,fd,ps,F,hm,hk,hb⟩:=C;refine PE.imp (yJ F (hr.mono hkk) hg hm hk hb .nil aB9 ha hdb he hpl) λσ H Q ⟨ρ,d,ρ',E,h,q⟩=>?_
 obtain⟨ds,h1,h⟩:=aX h;split at h
 ·rename_i kvs hx;split at h
  ·rename_i hn;rw[Bool.and_eq_true,Bool.and_eq_true] at hn;obtain⟨n1,n2,n3⟩:=hn;have n1:=of_decide_eq_true n1;have n2:=of_decide_eq_true n2;obtain⟨⟨r0,kvs'⟩,h2,h⟩:=aX h;split at h
   ·rename_i hp;rw[Bool.and_eq_true] at hp;cases h;obtain⟨a,o,hσ,r,hin,hHa,hmo⟩:=E.ownAt ho (by rw[hx];intro z;cases z);rw[hx] at r hin;refine⟨ρ,ds,a,E,ho,hσ,h1,λvs H1 s1 rs=>?_⟩;dsimp only;rw[List.append_nil];have E1:=E.same s1;refine⟨ds.set j (.dcl a kvs),a,kvs,kvs',r0,by rw[rs.length,n1],by rw[List.length_set,n1],n2,aMo rs (by lia) n3 (r.same s1) hin (s1 _ _ hHa) hmo,?_,YK h2 a,hp.1,λv H' k1 r1 hin1 rv=>?_⟩
    ·rw[List.getD_eq_getElem?_getD,List.getElem?_set_self (by lia)];rfl
    ·obtain⟨_,r2⟩:=r1.inv;obtain⟨o',e',m'⟩:=YQ r2;obtain⟨E2,k2⟩:=E1.aMm ho hσ k1 e' m' r2 hin1;exact q v H' ((KU.same s1).trans k2) E2 (.set ho) (rv.bN hp.1)
   ·exact bx h
  ·exact bx h
 ·exact bx h
noncomputable def gAF(f:FA):TA:=λσ H Q=>∃ρ ds,ER H σ ρ/\f ρ=.ok ds/\∀vs H' a,dG H H'->H a=none->Rep All H' (.ref a) (.dct [])->aDp a H' vs ds->Q vs H'
theorem aFt(hs:starEach [.Dict [] [] pos] X.env=(false,eval (.Dict [] [] pos) X.env)::starEach [] X.env:=by rfl):PA X [.Dict [] [] pos] (gAF (aD aFs aR)):=PA.imp (fG aB7 t7 hs) λσ H Q z0=>by
 obtain⟨ρ,ds,E,h,q⟩:=z0;cases h;exact λp hp=>q [.ref p] _ p (dG.upd hp) hp (.dT aO trivial .nil List.nodup_nil) ⟨.inl ⟨rfl,rfl⟩,trivial⟩
theorem M9(he:PE X e (gE fe re))(hes:PA X es (gAF f))(hs:starEach (e::es) X.env=(false,eval e X.env)::starEach es X.env:=by rfl):PA X (e::es) (gAF (aD fe f)):=PA.imp (fG he hes hs) λσ H Q z0=>by
 obtain⟨ρ,ds,E,h,q⟩:=z0;obtain⟨x,h1,h⟩:=aX h;obtain⟨xs,h2,h⟩:=aX h;cases h;refine⟨ρ,x,E,h1,λv H1 s1 r1 _=>⟨ρ,xs,E.same s1,h2,λvs H2 a s2 ha rd rs=>q _ _ a (s1.trans s2) ?_ rd ⟨.inr (r1.aBf (.same s2) λb o eb _ z=>?_),rs⟩⟩⟩
 ·cases hz:H a with
  |none=>rfl
  |some o=>rw[s1 _ _ hz] at ha;cases ha
 ·subst z;rw[ha] at eb;cases eb
theorem aC0(C:aGz X.prog X.w X.K X.mg X.base k x n j f)(hr:t6 k' X.A)(hkk:k<=k')(hg:Gl X x)(ha:PA X (e::es) (gAF fs))(hdb:nDb x:=by decide)
 (he:starEach (e::es) X.env=(false,eval e X.env)::starEach es X.env:=by rfl)(hpl:(backTo pos (starEach es X.env)).any (·.1)=false:=by rfl):PE X (.Call (.Name x p) (e::es) [] pos) (gE (HH f n j fs) false):=by
 obtain⟨fad,fd,ps,F,hm,hk,hb⟩:=C;refine PE.imp (yJ F (hr.mono hkk) hg hm hk hb .nil aB9 ha hdb he hpl) λσ H Q ⟨ρ,d,E,h,q⟩=>?_
 obtain⟨ds,h1,h⟩:=aX h;split at h
 ·rename_i hn;rw[Bool.and_eq_true,Bool.and_eq_true] at hn;obtain⟨n1,n2,n3⟩:=hn;have n1:=of_decide_eq_true n1;have n2:=of_decide_eq_true n2;obtain⟨⟨r0,kvs'⟩,h2,h⟩:=aX h;split at h
  ·rename_i hp;cases h;refine⟨ρ,ds,E,h1,λvs H1 a s1 hna rd rs=>?_⟩;dsimp only;rw[List.append_nil];obtain⟨o,eo,mo⟩:=YQ rd;refine⟨ds.set j (.dcl a []),a,[],kvs',r0,by rw[rs.length,n1],by rw[List.length_set,n1],n2,aMo rs (by lia) n3 rd rfl eo mo,?_,YK h2 a,hp,λv H' k1 r1 hin1 rv=>?_⟩
   ·rw[List.getD_eq_getElem?_getD,List.getElem?_set_self (by lia)];rfl
   ·exact q v H' (λb ob eb=>k1 b ob (s1 _ _ eb) λz=>by subst z;rw[hna] at eb;cases eb) (rv.bN hp) λz=>by cases z
  ·exact bx h
 ·exact bx h
end
noncomputable def Itw(a:Addr)(o:Obj)(u:HO)(zs:List (List Key×Addr×Value)):It where
 go:=λi H=>H a=some (.frz o u)/\∃p,zs[i]?=some p
 yld:=λi H x H'=>H'=H/\∃p,zs[i]?=some p/\x=.ref p.2.1
 stop:=λi H=>H a=some (.frz o u)/\zs.length<=i
theorem aC1{P:Program}{w:World}{K:PySem.W.Frag}{tg:Expr}{a it:Addr}{o:Obj}{u:HO}{zs:List (List Key×Addr×Value)}{es:Array DictEntry}{ep:Nat}(hd:∀h:Heap,h.get? a=some o->J7 h a es ep)(he:es.toList=zs.map (entryOfKey (tupleKind (dR P w)))) :
  Turn P w K tg (Itw a o u zs) [it] it (λi h=>h.IsKeyIter it a i es.size ep) where
 mem:=by simp
 obj:=λi h st b hb=>by
  have e:b=it:=by simpa using hb
  subst e;obtain⟨o,e,c,d⟩:=st;exact⟨o,e,λv z=>by rw[d] at z;cases z⟩
 keep:=λi h h' st k=>st.at λo e=>k it (by simp) o e
 item:=by
  intro X hP hw hK hc i pins s σ H E I hf st hg;subst hP hw hK;obtain⟨ea,p,hx⟩:=hg;obtain⟨px,_⟩:=I.hok a _ ea;have hsz:es.size=zs.length:=by rw[<-Array.length_toList,he,List.length_map]
  have hi:i<es.size:=by rw[hsz];exact(List.getElem?_eq_some_iff.mp hx).1
  have hkey:es[i].key=Value.ref p.2.1:=by
   have:es.toList[i]?=some es[i]:=by rw[Array.getElem?_toList,Array.getElem?_eq_getElem hi]
   rw[he,List.getElem?_map,hx] at this;have this:entryOfKey (tupleKind (dR X.prog X.w)) p=es[i]:=by simpa using this
   rw[<-this];rfl
  obtain⟨f0,f1,f2,f3,f4,f5⟩:=hf it (by simp);refine Q_ st (hd _ px) hi λh' st' sb=>?_
  have I1:Inv X pins σ H {s with heap:=h'}:=I.turned (t':=s.toks) (λb o hb e=>(sb.2 b hb).trans e) f0 f1 f3 f4 f5;obtain⟨o',e,c,d⟩:=id st';exact⟨_,rfl,aAv (s:={s with heap:=h'}) e c d (by decide) ⟨.ref p.2.1,H,I1,hkey,⟨rfl,_,hx,rfl⟩,st',λb hb=>(hf b hb).1⟩⟩
 done:=by
  intro X hP hw hK hc i pins s σ H E I hf st hg;subst hP hw hK;obtain⟨ea,hx⟩:=hg;obtain⟨px,_⟩:=I.hok a _ ea;obtain⟨f0,f1,f2,f3,f4,f5⟩:=hf it (by simp);have hsz:es.size=zs.length:=by rw[<-Array.length_toList,he,List.length_map]
  exact YC (I.ok.hd hc) st (hd _ px) (by lia) λh' eb=>⟨rfl,I.turned (t':=s.toks) (λb o hb e=>eb b o hb e) f0 f1 f3 f4 f5⟩
 self:=λ_ _ _ _ _ st h=>wpAny_pyIter_keyiter st h
theorem v5{P:Addr->Prop}{H:Hp}:∀{kvs:List (List Key×V)}{ds:List (D×D)},o6 P H kvs ds->D.aY (iJ ds)=true
 |_,_,.nil=>rfl
 |_,_,.cons (k:=k) r t=>by
  show D.aY (D.tup (k.map kD)::iJ _)=true;rw[D.aY,Bool.and_eq_true];refine⟨?_,v5 t⟩;rw[D.pure];induction k with
  |nil=>rfl
  |cons x k ih=>rw[List.map_cons,D.aY,ih];cases x<;>rfl
end
def YS(kvs:List (D×D)):Bool:=kvs.all (λp=>isTup p.1)
def aH0(f:FE):FE:=λρ=>do
 let d <- f ρ
 match d with
 |.dct kvs=>if D.aY (kvs.map (·.2)) then .ok (.fdc kvs) else .bad
 |_=>.bad
def aDr(f:FE):FI:=λρ=>do
 let d <- f ρ
 match d with
 |.fdc kvs=>if YS kvs then .ok (iJ kvs,true) else .bad
 |_=>.bad
def inF(a b:D):Res D:=match b with
 |.fdc kvs=>if (!kvs.isEmpty&&YS kvs)&&(keyOk a&&isTup a) then .ok (.bl (cL kvs a).isSome) else .bad
 |b=>bR .isin a b
def aJb(i:Nat)(g:FS):FS:=λρ=>do
 let d <- iV i ρ
 match d with
 |.dct kvs=>(do
   let r <- g (ρ.set i (.fdc kvs))
   match r with
   |.rt d=>.ok (.rt d)
   |_=>.bad)
 |_=>.bad
variable [KFrag]
section
variable {X:Cx} {e:Expr} {f:FE} {own:Nat->Bool}
theorem YT(I:Inv X pins σ H s)(hua:H a=some u)(hu:(∃kvs,u=.dK kvs)\/∃kvs,u=.dT kvs):∃o,Inv X pins σ (upd H a (.frz o u)) s:=by
 have hk:=I.hok a _ hua;have keepT:∀o b xs,H b=some (.tup xs)->upd H a (.frz o u) b=some (.tup xs):=λo b xs h=>by
  rw[bL (λz=>by subst z;rw[hua] at h;cases h;rcases hu with ⟨_,z⟩|⟨_,z⟩<;>cases z)];exact h
 rcases hu with ⟨kvs,rfl⟩|⟨kvs,rfl⟩
 ·obtain⟨z,hs,vs,rel,o,es,ep,ho,c⟩:=hk;exact⟨o,I.write (o:=.frz o (.dK kvs)) (by rw[hua];trivial) (.inl rfl) (λ_ _ _ q=>q) ⟨o,ho⟩ ⟨ho,z,hs,vs,rel,o,es,ep,ho,c⟩⟩
 ·obtain⟨es,ep,zs,raw,lo,hz,rel,he⟩:=YH I hua;obtain⟨o,ho,hx,hdt⟩:=raw;exact⟨o,I.write (t':=s.toks) (x:=a) (e:=a) (h':=s.heap) (o:=.frz o (.dT kvs)) (by rw[hua];trivial) (.inl rfl) (λ_ _ _ q=>q) ⟨o,ho⟩ ⟨ho,hk.stay (λ_ _ _ q=>q) (λb hb=>by
   rw[bL (λz=>by subst z;rw[hua] at hb;cases hb)];exact hb) (keepT o)⟩⟩
theorem RB(r:Rep P H (.ref a) (.dct ds)):∃u,H a=some u/\GQ u=true/\((∃kvs,u=.dK kvs)\/∃kvs,u=.dT kvs):=by
 cases r with
 |dK e p r n=>exact⟨_,e,rfl,.inl ⟨_,rfl⟩⟩
 |dT e p r n=>exact⟨_,e,rfl,.inr ⟨_,rfl⟩⟩
def aNo(t:TE):TE:=λσ H Q=>t σ H λv H1=>∃a u,v=.ref a/\H1 a=some u/\((∃kvs,u=.dK kvs)\/∃kvs,u=.dT kvs)/\∀o,Q v (upd H1 a (.frz o u))
theorem aJc(h:PE X e t):PE X e (aNo t):=by
 intro pins s σ H Q I q;refine wpAny_mono (h pins s σ H _ (I.wish _) q) (λu s1 ⟨v,H1,I1,r,a,u,ev,ea,hu,k⟩=>?_) λ_ _ z=>z
 obtain⟨o,If⟩:=YT I1 ea hu;exact⟨v,_,If,r,k o⟩
theorem aDs(h:PE X e (gE f true)):PE X e (gE (aH0 f) true):=PE.imp (aJc h) λσ H Q ⟨ρ,d,E,h,q⟩=>by
 obtain⟨d0,h1,h2⟩:=aX h;split at h2
 ·rename_i ds;split at h2
  ·rename_i hp;cases h2;refine⟨ρ,_,E,h1,λv H1 s1 r n=>?_⟩;obtain⟨a,rfl⟩:∃a,v=.ref a:=by cases n rfl<;>exact⟨_,rfl⟩
   obtain⟨u,ea,hmu,hu⟩:=RB (n rfl);have pa:H a=none:=by cases n rfl<;>assumption
   refine⟨a,u,rfl,ea,hu,λo=>?_⟩;have s2:dG H (upd H1 a (.frz o u)):=λb ob eb=>by
    rw[bL (λz=>by rw[z,pa] at eb;cases eb)];exact s1 b ob eb
   have rp:∀P:Addr->Prop,Rep P (upd H1 a (.frz o u)) (.ref a) (.fdc ds):=λP=>aDm (n rfl) ea hp
   exact q _ _ s2 (rp _) λ_=>rp _
  ·exact bx h2
 ·exact bx h2
theorem aJd{ds:List (D×D)}(I:Inv X pins σ H s)(r:Rep All H v (.fdc ds))(hb:YS ds=true):∃(a:Addr)(o:Obj)(u:HO)(zs:List (List Key×Addr×Value))(es:Array DictEntry)(ep:Nat),v=.ref a/\H a=some (.frz o u)/\s.heap.get? a=some o/\(∀h:Heap,h.get? a=some o->J7 h a es ep)/\(a==sysModules)=false/\es.toList=zs.map (entryOfKey (tupleKind (dR X.prog X.w)))/\bT All H (zs.map λx=>V.ref x.2.1) (iJ ds):=by
 cases r with
 |@fdK a o kvs _ e rk n=>
  cases rk with
  |cons r t=>
   unfold YS at hb;rw[List.all_cons,fC] at hb;cases hb
  |nil=>
   obtain⟨ho,z,hd,vs,rel,o',es,ep,h1,h2,h3,h4,h5,h6⟩:=I.hok a _ e;cases rel;rw[ho] at h1;cases h1;refine⟨a,o,_,[],es,ep,rfl,e,ho,λh e=>⟨o,e,h2,h3⟩,hd,?_,.nil⟩;cases h5':es.toList with
   |nil=>rfl
   |cons _ _=>rw[h5'] at h5;cases h5
 |@fdT a o kvs _ e rt n=>
  obtain⟨ho,z,hd,xs,rel,o',es,ep,h1,h2,h3,h4,_⟩:=I.hok a _ e;rw[ho] at h1;cases h1;obtain⟨_,rk⟩:=YJ rel rt;exact⟨a,o,_,xs,es,ep,rfl,e,ho,λh e=>⟨o,e,h2,h3⟩,hd,h4,rk⟩
theorem M_{ds:List (D×D)}(r:Rep P H v (.fdc ds))(hb:YS ds=true):D.aY (iJ ds)=true:=by
 cases r with
 |fdK e rk n=>
  cases rk with
  |cons r t=>
   unfold YS at hb;rw[List.all_cons,fC] at hb;cases hb
  |nil=>rfl
 |fdT e rt n=>exact v5 rt
theorem ItQ.kt{K:PySem.W.Frag}{ks:List D}(a:Addr)(o:Obj)(u:HO)(zs:List (List Key×Addr×Value))(e:J=Itw a o u zs)(hH:H a=some (.frz o u))(rk:bT All H (zs.map λx=>V.ref x.2.1) ks)(pk:D.aY ks=true):ItQ K P J H ks:=by
 refine⟨λP' H' kk mm=>?_⟩;have hH':=kk _ _ hH (.inr rfl);have rr:bT P' H' (zs.map λx=>V.ref x.2.1) ks:=bT.fW (P:=P) kk mm (rk.bN pk);have hl:zs.length=ks.length:=by have:=rr.length;simpa using this
 subst e;refine⟨λi hi=>⟨hH',by lia⟩,λi d hi=>?_⟩;obtain⟨v,h1,h2⟩:=rr.get hi;rw[List.getElem?_map] at h1;obtain⟨p,hp,rfl⟩:=Option.map_eq_some_iff.mp h1;refine⟨⟨hH',p,hp⟩,λx H'' ⟨e1,p',hp',ex⟩=>?_⟩;subst e1;rw[hp] at hp';cases hp';subst ex;exact⟨dG.refl _,h2⟩
theorem aC2{tg l:Expr}(hl:PE X l (gE f rl)):PI X tg l (gI X.K (aDr f)):=by
 intro pins s σ H R I ⟨ρ,items,k,E,h,q⟩;obtain⟨d,h1,h⟩:=aX h;split at h
 ·rename_i ds;split at h
  ·rename_i hb;cases h;refine thn (hl pins s σ H (λv H1=>dG H H1/\Rep All H1 v (.fdc ds)) I ⟨ρ,_,E,h1,λv H1 s1 r1 _=>⟨s1,r1⟩⟩) λu s1 ⟨v,H1,I1,ru,sm,r1⟩=>?_
   have pk:=M_ r1 hb;obtain⟨a,o,u,zs,es,ep,rfl,ea,ho,hra,lo,he,rk⟩:=aJd I1 r1 hb;cases ru;refine Q9 lo (hra _ ho) ?_;have I2:Inv X pins σ H1 {s1 with heap:=s1.heap.push {cls:=.type "dict_keyiterator",data:=.fields #[.ref a,.int 0 0,.int es.size 0,.int ep 0]}}:=I1.kept (t':=s1.toks) λb o e=>Heap.get?_push_of_some _ e
   refine⟨s1.heap.objs.size,[s1.heap.objs.size],λi h=>h.IsKeyIter s1.heap.objs.size a i es.size ep,Itw a o u zs,_,rfl,I2,aC1 hra he,⟨_,Heap.get?_push_size _ rfl,rfl,rfl⟩,λb hb=>?_,q _ H1 sm (.kt a o u zs rfl ea rk pk) λ_=>.kt a o u zs rfl ea rk pk⟩;have e:b=s1.heap.objs.size:=by simpa using hb
   subst e;exact I1.aKc (Nat.le_refl _) (I1.hok.fresh (Nat.le_refl _))
  ·exact bx h
 ·exact bx h
theorem aJe(hu:X.A.units+20<cLine):OpR X (compareOp .In) (r2 inF true):=by
 rintro pins s σ H x y v u Q I rx ry ⟨a,b,d,p,q,e,k⟩;by_cases hs:∃ds,b=.fdc ds
 ·obtain⟨ds,rfl⟩:=hs;unfold inF at e;dsimp only at e;split at e
  ·rename_i hl;cases e;obtain⟨h1,h23⟩:=Bool.and_eq_true_iff.mp hl;obtain⟨h2,h3⟩:=Bool.and_eq_true_iff.mp h23;rw[Bool.and_eq_true] at h1;rcases jB h2 p with ⟨qk,rfl,rfl⟩|⟨b,ks,rfl,eb,rfl⟩
   ·rw[fC] at h3;cases h3
   ·cases q with
    |@fdK a1 o1 kvs _ e1 rk n=>
     cases rk with
     |cons r t=>
      have h1:=h1.2;unfold YS at h1;rw[List.all_cons,fC] at h1;cases h1
     |nil=>cases h1.1
    |@fdT a1 o1 kvs _ e1 rt n=>
     cases ry;refine aMe (o:=wW kvs ks) (by lia) I (.inr ⟨kvs,ks,b,.inr ⟨o1,e1⟩,rfl,eb,rfl⟩) rx λs' I'=>⟨.bl _,H,I',rfl,?_⟩
     rcases aBn (k:=ks) rt with ⟨v,d,g1,g2,g3⟩|⟨g1,g2⟩
     ·rw[g2] at k;rw[g1];exact k.bl
     ·rw[g2] at k;rw[g1];exact k.bl
  ·exact bx e
 ·have he:inF a b=bR .isin a b:=by
   unfold inF;split
   ·exact absurd ⟨_,rfl⟩ hs
   ·rfl
  rw[he] at e;exact aLa hu pins s σ H x y v u Q I rx ry ⟨a,b,d,p,q,e,k⟩
theorem YW{ss:List Stmt}{i:Nat}{g:FS}(ho:own i=true)(hr:PSs X ss (tS (rT own i) g))(hx:own rtX=false:=by rfl):PSs X ss (tS own (aJb i g)):=by
 rintro pins s σ H D' I ⟨ρ,fl,E,h,q⟩;obtain⟨d,h1,h2⟩:=aX h;obtain⟨v,hσ,r,ed⟩:=E.er.var h1;split at h2
 ·rename_i ds;obtain⟨r2,h3,h4⟩:=aX h2;obtain⟨a,rfl⟩:∃a,v=.ref a:=by cases r<;>exact⟨_,rfl⟩
  obtain⟨u,hua,hmu,hu⟩:=RB r;obtain⟨o,If⟩:=YT I hua hu;obtain⟨EF,hna⟩:=aLi (o:=o) E ho hσ ed hua hmu;have hOa:Own own σ a:=⟨i,ho,hσ⟩
  refine hr pins s σ _ D' If ⟨_,r2,EF,h3,?_⟩;cases r2 with
  |rt d2=>
   cases h4;refine kRt.mk (by cases q:rT own i rtX with|false=>rfl|true=>have:=(j7 q).1;rw[hx] at this;cases this) λv H' hk rv=>kRt.old q hx v H' (λb ob hb hn=>hk b ob ?_ λz=>hn z.of) (rv.mono λb hb=>?_)
   ·rw[bL (λz=>by subst z;exact hn hOa)];exact hb
   ·rcases hb with hb|hb
    ·exact .inl hb.of
    ·exact .inr (by
      have:b≠a:=λz=>by subst z;rw[aO] at hb;cases hb
      rw[bL this] at hb;exact hb)
  |nx _=>exact bx h4
  |bk _=>exact bx h4
  |ct _=>exact bx h4
 ·exact bx h2
end
end Mi
section
local macro_rules | `(tactic| trivial) => `(tactic| first | exact Or.inl rfl | exact Or.inr rfl | exact Or.inr (Or.inl rfl) | exact Or.inr (Or.inr rfl))
namespace Lk08
open PySem L2 Mi PySem.W
noncomputable def top(i:Nat):Stmt:=PySem.Challenge.pw_hookmill_k08_whole_hooked_in_any_order.main.body.getD i (.Pass ⟨0,0,0,0⟩)
abbrev jU:Stmt:=top 18
noncomputable def wX:Nat->Bool:=λi=>false
def eY:FS:=bK (sIf (bTB (b2 (bR (.ord .lt)) d_ (aQ gH (aD cA aR)))) (j6 (b2 getD cA d_) false) j_) (j6 dI true)
def cP:List D->Res D:=fnS 2 2 eY
abbrev nA:Stmt:=top 19
noncomputable def HJ:Nat->Bool:=λi=>i==5
def nC:FS:=bK (cC false 2 (bC (.str "abcdefghijklmnopqrstuvwxyz")) true) (bK (cC false 3 (b2 (aW .add) eO (b2 (aW .mod) cA xU)) true) (bK (cC false 4 (b2 (aW .mod) (b2 (aW .fdiv) cA xU) cT) true) (bK (cC true 5 (bC (.dct [])) true) (bK (GK (mV (aD (b2 (aW .add) (bC (.int 3)) (b2 (aW .mod) (b2 (aW .fdiv) cA (bC (.int 64))) (bC (.int 3)))) aR) mC) (tg1 6) (bK (cC false 7 (bC (.str "")) true) (bK (GK (mV (aD cT aR) mC) (tg1 8) (bK (cC false 9 (b2 (aW .mul) (b2 (aW .mod) (b2 (aW .fdiv) cA WP) rB) (b2 (aW .add) rA rB)) true) (bK (sIf (bTB (b2 (bR .eq) rA mO)) (cC false 9 eO true) j_) (cC false 7 (b2 (aW .add) oZ (b2 getD eF (b2 (aW .mod) (b2 (aW .add) (b2 (aW .fdiv) (b2 (aW .fdiv) cA GJ) (b2 (aW .add) (b2 (aW .mul) rA rA) eO)) (b2 (aW .mul) mQ jW)) WQ))) true)))) (bK (yW 5 oZ (b2 (aW .mod) d_ aEw)) (cC false 1 (b2 (aW .fdiv) d_ aEw) true))))) (LC 5)))))
def g_:List D->Res D:=fnS 2 10 nC
abbrev jD:Stmt:=top 21
noncomputable def v6:Nat->Bool:=λi=>i==2
def jE:FS:=bK (cC true 2 (aD5 aR) true) (bK (GK (mV (aD (aQ gH (aD cA aR)) aR) mC) (tg1 3) (aIb 2 (b2 (aW .mod) (b2 (aW .add) (b2 (aW .fdiv) d_ (b2 (aW .add) cT eO)) (b2 (aW .mul) cT cT)) (b2 (aW .add) cT eO)) (b2 getD cA cT))) (LC 2))
def bW:List D->Res D:=fnS 2 4 jE
abbrev k_:Stmt:=top 22
noncomputable def zZ:Nat->Bool:=λi=>i==4
def lA:FS:=bK (cC false 3 (aQ (cR 2 bW) (aD (aQ vY (aD (b2 (aW .add) (aQ gH (aD cA aR)) (b2 (aW .mul) rB d_)) aR)) (aD eF aR))) true) (bK (cC true 4 (aD5 aR) true) (bK (GK (mV (aD (aQ gH (aD cA aR)) aR) mC) (tg1 5) (xV 4 (eQ (aD (eQ (aD dI (aD (b2 getD cT iH) aR))) (aD (b2 getD cA iH) aR))))) (bK (GK (mV (aD d_ aR) mC) (tg1 5) (bK (cC false 6 (aBd cT (vJ (b2 (aW .add) (aQ gH (aD cA aR)) (b2 (aW .mul) rB iH))) (vJ (b2 (aW .add) (b2 (aW .add) (aQ gH (aD cA aR)) (b2 (aW .mul) rB iH)) rB))) true) (xV 4 (eQ (aD (eQ (aD dI (aD (aQ (fO .lt) (aD mQ aR)) aR))) (aD (eQ (aD dI (aD (aQ (fO .gt) (aD mQ aR)) aR))) aR)))))) (LC 4))))
def gD:List D->Res D:=fnS 3 7 lA
abbrev lC:Stmt:=top 20
noncomputable def NB:Nat->Bool:=λi=>false
def p_:FS:=bK (cC false 2 (b2 getD cA (b2 (aW .mod) d_ (aQ gH (aD cA aR)))) false) (bK (cC false 3 (dU 5 (dM cA false) lZ (bTB (b2 (bR .ne) iH eF)) iH false) true) (bK (cC false 4 (b2 getD cT (b2 (aW .mod) (b2 (aW .fdiv) d_ (aQ gH (aD cA aR))) (aQ gH (aD cT aR)))) false) (j6 (eQ (aD (aQ (fO .lt) (aD eF (aD mO aR))) (aD (aQ (fO .gt) (aD eF (aD mO aR))) aR))) false)))
def eE:List D->Res D:=fnS 2 5 p_
abbrev fQ:Stmt:=top 23
noncomputable def HN:Nat->Bool:=λi=>i==4||i==6
def nF:FS:=bK (cC false 3 (aQ K_ (aD cA aR)) true) (bK (cC true 4 (aD5 aR) true) (bK (cC false 5 (aD5 aR) true) (bK (cC true 6 (aD5 aR) true) (bK (cC false 7 dI true) (bK (cC false 8 dI true) (bK (cC false 9 dI true) (bK (LK 1 (tg1 10) (bK (cC false 11 (b2 (aW .fdiv) iB xU) true) (bK (sAl 12 5) (bK (sIf (bTB (b2 (bR .eq) (b2 (aW .mod) iB xU) aI7)) (cC false 12 (dU 13 (dM iH false) lZ (bTB (b2 (bR .eq) (b2 getD jZ eO) dI)) jZ false) true) j_) (sIf (DR (bTB (b2 (bR (.ord .lt)) (b2 (aW .mod) iB xU) aGu)) (bTB (b2 (bR (.ord .lt)) (aQ gH (aD mO aR)) aEx))) (bK (cC false 7 (b2 (aW .add) (b2 (aW .add) oZ eO) (b2 (aW .mod) (b2 (aW .fdiv) kO (aQ gH (aD cT aR))) (b2 (aW .pow) WR aKh))) true) (bK (xV 4 (eQ (aD oZ (aD (b2 getD cT (b2 (aW .mod) kO (aQ gH (aD cT aR)))) aR)))) (cC false 5 (b2 (aW .add) iH (dU 13 (mV (aD (b2 (aW .add) (b2 getD cA (b2 getD cT (b2 (aW .mod) kO (aQ gH (aD cT aR))))) eO) aR) mC) lZ jQ (eQ (aD oZ (aD jZ aR))) false)) true))) (sIf (DR (bTB (bCh (bR (.ord .le)) (bR (.ord .lt)) aGu (b2 (aW .mod) iB xU) aI8)) (bTB (b2 (bR (.ord .gt)) (aQ gH (aD gP aR)) eO))) (bK (xV 6 (aQ (cR 2 eE) (aD gP (aD kO aR)))) (cC false 5 (dU 13 (dM iH false) lZ (bTB (b2 (bR .notin) jZ (b2 getD mQ (b1 aI9 eO)))) jZ false) true)) (sIf (bTB (b2 (bR .eq) (b2 (aW .mod) iB xU) aI8)) (cC false 8 (b2 (aW .add) rA eO) true) (sIf (bTB (b2 (bR .eq) (b2 (aW .mod) iB xU) aEw)) (cC false 9 (b2 (aW .add) jW (b2 (aW .mod) kO (b2 (aW .pow) WR (bC (.int 50))))) true) j_)))))))) (bK (cC true 6 (b2 (aW .add) mQ (aQ (cR 3 gD) (aD iH (aD rA (aD eF aR))))) true) (j6 (eQ (aD (aQ vK (aD mO aR)) (aD (aQ vK (aD (aQ mU (aD mQ aR)) aR)) (aD jW aR)))) false)))))))))
def h_:List D->Res D:=fnS 3 13 nF
abbrev nG:Stmt:=top 25
noncomputable def HQ:Nat->Bool:=λi=>i==1
def HR:FS:=bK (cC true 1 (bC (.dct [])) true) (bK (GK (dM (b2 getD cA eO) false) (tgN [2,3]) (bK (yW 1 eF cT) (yW 1 cT eF))) (LC 1))
def dN:List D->Res D:=fnS 1 4 HR
abbrev nH:Stmt:=top 26
noncomputable def HS:Nat->Bool:=λi=>i==3||i==1000000
def nJ:FS:=bK (cC false 2 (b2 getD cA eF) false) (bK (aMl (DR (bTB (b2 inF eF d_)) (bTB (b2 (bR .notin) eF (bDc 3)))) (bK (M8 3 eF (bC (.bl true))) (bK (M8 3 (b2 getD d_ eF) (bC (.bl true))) (cC false 2 (b2 getD cA (b2 getD d_ eF)) false)))) (aIa eF false))
def cZ:List D->Res D:=fnC 3 4 4 nJ
abbrev iM:Stmt:=top 27
noncomputable def z6:Nat->Bool:=λi=>i==3||i==6||i==7||i==8
def z7:FS:=bK (cC false 2 (aQ (cR 1 dN) (aD cA aR)) true) (bK (cC true 3 (bC (.dct [])) true) (bK (LK 1 (tgN [4,5]) (bK (yW 3 (eQ (aD dI (aD mO aR))) (eQ (aD dI (aD iH aR)))) (yW 3 (eQ (aD dI (aD iH aR))) (eQ (aD dI (aD mO aR)))))) (bK (cC true 6 (bC (.dct [])) true) (bK (cC true 7 (bC (.dct [])) true) (bK (cC true 8 (bC (.dct [])) true) (bK (GK (dM (aQ o_ (aD eF aR)) true) (tg1 9) (sIf (bTB (b2 (bR .notin) jW cT)) (bK (yW 7 jW (HH cZ 4 3 (aD eF (aD cT (aD jW (aD aFs aR)))))) (bK (aFr (rY cZ 4 3 6 (aD eF (aD (bOd 3) (aD jW (aD (bUo 6) aR)))))) (bK (yW 8 jW jW) (sIf (bTB (b2 (bR .eq) (b2 getD jW dI) dI)) (yW 8 jW (eQ (aD dI (aD (b2 (aW .sub) (aQ aJ2 (aD rA aR)) eO) aR)))) j_)))) j_)) (bK (cC false 10 (b2 getD cA rB) false) (aJb 3 (bK (GK (aDr cT) (tg1 9) (sIf (bTB (b2 (bR .notin) jW mQ)) (bK (aFr (rY cZ 4 3 6 (aD eF (aD cT (aD (bPu (b2 getD cT jW)) (aD (bUo 6) aR)))))) (cC false 10 (b2 (aW .add) iB eO) true)) j_)) (aJb 8 (bK (cC false 11 (dU 12 (aDr rA) lZ (bTB (b2 (bR (.ord .lt)) gP (b2 getD oZ gP))) (eQ (aD (b2 getD rA gP) (aD (b2 getD rA (b2 getD oZ gP)) aR))) false) true) (j6 (eQ (aD (b2 getD cA dI) (aD (aQ vK (aD (aQ mU (aD kO aR)) aR)) (aD iB aR)))) false))))))))))))
def gF:List D->Res D:=fnS 2 12 z7
abbrev lG:Stmt:=top 29
noncomputable def z8:Nat->Bool:=λi=>i==2
def z_:FS:=bK (cC true 2 (aD5 aR) true) (bK (GK (mV (aD (aQ gH (aD cA aR)) aR) mC) (tg1 3) (bK (aIx (b2 getD cA cT) (tgN [4,5])) (bK (sIf (bTB (b2 (bR .eq) (b2 (aW .mod) (b2 (aW .add) (b2 (aW .fdiv) d_ (b2 (aW .add) cT eO)) cT) rB) eO)) (aLh 4 5 (aD iH (aD mO aR))) j_) (xV 2 (eQ (aD mO (aD iH aR))))))) (LC 2))
def eN:List D->Res D:=fnS 2 6 z_
abbrev tR:Stmt:=top 11
noncomputable def T5:Nat->Bool:=λi=>false
def T6:FS:=j6 (vI (b1 (rC .int) cA) (WT (b1 (rC .bool) cA))) true
def oF:List D->Res D:=fnS 1 1 T6
abbrev A_:Stmt:=top 10
noncomputable def aC3:Nat->Bool:=λi=>false
def aC4:FS:=j6 (vI (b1 (rC .tuple) cA) (vI (b2 (bR .eq) (aQ gH (aD cA aR)) rB) (vI (aQ (cR 1 oF) (aD (b2 getD cA dI) aR)) (aQ (cR 1 oF) (aD (b2 getD cA eO) aR))))) true
def rZ:List D->Res D:=fnS 1 1 aC4
abbrev YX:Stmt:=top 6
noncomputable def aJf:Nat->Bool:=λi=>false
def RC:FS:=sIf (bTr (aQ (cR 1 rZ) (aD d_ aR))) (GK (dM (b2 getD cA eO) false) (tgN [2,3]) (bK (sIf (bTB (b2 (bR .eq) eF d_)) (j6 cT false) j_) (sIf (bTB (b2 (bR .eq) cT d_)) (j6 eF false) j_))) j_
def aJg:FS:=bK RC aIv
def HW:List D->Res D:=fnS 2 4 aJg
abbrev oG:Stmt:=top 7
noncomputable def T7:Nat->Bool:=λi=>false
def T8:FS:=bK (cC false 3 (dU 4 (dM d_ false) (U7 2) jQ (eQ (aD (aQ (fO .lt) (aD mO (aD iH aR))) (aD (aQ (fO .gt) (aD mO (aD iH aR))) aR))) false) true) (j6 (eQ (aD (aQ vK (aD (aQ o_ (aD cA aR)) aR)) (aD (aQ vK (aD (aQ mU (aD cT aR)) aR)) (aD eF aR)))) false)
def fU:List D->Res D:=fnS 3 4 T8
abbrev lH:Stmt:=top 16
noncomputable def NK:Nat->Bool:=λi=>false
def NP:FS:=bK (sIf (bTB (b2 (bR .ne) (b2 getD cA dI) dI)) (j6 cA false) j_) (j6 (eQ (aD dI (aD (b2 (aW .sub) (b2 getD cA eO) (aQ gH (aD (dU 3 (dM (eQ (aD d_ (aD eF aR))) false) lZ (bTB (b2 (bR (.ord .lt)) cT (b2 getD cA eO))) cT false) aR))) aR))) true)
def fL:List D->Res D:=fnS 3 3 NP
abbrev sE:Stmt:=top 15
noncomputable def aC5:Nat->Bool:=λi=>i==6
def aC6:FS:=bK (cC false 3 (aQ (cR 2 HW) (aD cA (aD (eQ (aD dI (aD d_ aR))) aR))) true) (bK (cC false 4 (aQ (cR 2 HW) (aD cA (aD (eQ (aD dI (aD eF aR))) aR))) true) (bK (sIf (bTB (b2 (bR .eq) d_ eF)) aIv j_) (bK (cC false 5 (eQ (aD (eQ (aD dI (aD d_ aR))) (aD (eQ (aD dI (aD eF aR))) aR))) false) (bK (cC true 6 (dU 9 (dM (b2 getD cA eO) false) lZ (DR (bTB (b2 (bR .notin) (b2 getD jW dI) iH)) (bTB (b2 (bR .notin) (b2 getD jW eO) iH))) jW false) true) (bK (cC false 7 (b2 getD cA rB) false) (bK (sIf (bTB (b2 (bR .eq) cT (eQ (aD dI (aD eF aR))))) (cC false 7 (b2 (aW .add) oZ eO) true) (xV 6 (eQ (aD cT (aD mO aR))))) (bK (cC false 8 (dU 9 (dM mQ false) (U7 2) jQ (eQ (aD (aQ (cR 3 fL) (aD jW (aD d_ (aD eF aR)))) (aD (aQ (cR 3 fL) (aD iB (aD d_ (aD eF aR)))) aR))) true) true) (j6 (aQ (cR 3 fU) (aD (b2 getD cA dI) (aD rA (aD oZ aR)))) true))))))))
def oH:List D->Res D:=fnS 3 9 aC6
abbrev iQ:Stmt:=top 28
noncomputable def BJ:Nat->Bool:=λi=>false
def BK:FS:=bK (cC false 3 (aQ vY (aD eF aR)) true) (bK (LK 1 (tgN [4,5]) (bK (cC false 0 (aQ (cR 3 oH) (aD cA (aD (bM rW cT (aD mO aR)) (aD (bM rW cT (aD iH aR)) aR)))) true) (cC false 3 (dU 6 (dM cT false) lZ (DR (bTB (b2 (bR .ne) mQ mO)) (bTB (b2 (bR .ne) mQ iH))) mQ false) true))) (j6 cA false))
def c7:List D->Res D:=fnS 3 6 BK
abbrev qL:Stmt:=top 24
noncomputable def v7:Nat->Bool:=λi=>false
def lJ(rr:List D->Res D):FS:=bK (sIf (bTr (b1 (rC .tuple) d_)) (bK (sIf (bOr (U6 (bTr (b1 (rC .tuple) cA))) (bTB (b2 (bR .ne) (aQ gH (aD cA aR)) (aQ gH (aD d_ aR))))) (j6 (bC (.bl false)) true) j_) (bK (GK (mV (aD (aQ gH (aD d_ aR)) aR) mC) (tg1 2) (sIf (U6 (bTr (aQ (cR 2 rr) (aD (b2 getD cA eF) (aD (b2 getD d_ eF) aR))))) (j6 (bC (.bl false)) true) j_)) (j6 (bC (.bl true)) true))) j_) (bK (sIf (bTr (b1 (rC .str) d_)) (j6 (vI (b1 (rC .str) cA) (b2 (bR .eq) cA d_)) true) j_) (j6 (vI (b1 (rC .int) cA) (vI (WT (b1 (rC .bool) cA)) (b2 (bR .eq) cA d_))) true))
def b8:Nat->List D->Res D
 |0=>fnS 2 3 aIv
 |m+1=>fnS 2 3 (lJ (b8 m))
abbrev tU:Stmt:=top 5
noncomputable def T9:Nat->Bool:=λi=>false
def oJ:FS:=bK (sIf (U6 (bTr (b2 getD cA dI))) (j6 dI true) j_) (j6 (b2 getD (b2 getD (b2 getD cA dI) (b1 aI9 eO)) dI) false)
def oK:List D->Res D:=fnS 1 1 oJ
abbrev lK:Stmt:=top 9
noncomputable def NQ:Nat->Bool:=λi=>false
def NT:FS:=j6 (aQ gH (aD (dU 1 (dM cA false) lZ (bTB (b2 (bR .eq) (b2 getD d_ dI) dI)) d_ false) aR)) true
def lM:List D->Res D:=fnS 1 1 NT
abbrev v8:Stmt:=top 8
noncomputable def YZ:Nat->Bool:=λi=>i==1
def Y0:FS:=bK (cC true 1 (aD5 aR) true) (bK (LK 0 (tgN [2,3]) (bK (xV 1 eF) (xV 1 cT))) (LC 1))
def sG:List D->Res D:=fnS 1 4 Y0
abbrev aFu:Stmt:=top 4
noncomputable def aLn:Nat->Bool:=λi=>false
def aLo:FS:=j6 (aQ (cR 1 lM) (aD (aQ (cR 1 sG) (aD (b2 getD cA eO) aR)) aR)) true
def aC7:List D->Res D:=fnS 1 1 aLo
abbrev NZ:Stmt:=top 14
noncomputable def aFv:Nat->Bool:=λi=>false
def aFw:FS:=bK (sIf (bTB (b2 (bR .eq) (b2 getD cA dI) dI)) (j6 (eQ (aD dI (aD (b2 (aW .add) (b2 getD cA eO) eF) aR))) true) j_) (j6 (eQ (aD (b2 (aW .add) (b2 getD cA dI) d_) (aD (b2 getD cA eO) aR))) false)
def qM:List D->Res D:=fnS 3 3 aFw
abbrev sI:Stmt:=top 13
noncomputable def aC8:Nat->Bool:=λi=>false
def aC9:FS:=bK (cC false 2 (aQ (cR 1 oK) (aD cA aR)) true) (bK (cC false 3 (aQ (cR 1 aC7) (aD cA aR)) true) (bK (cC false 4 (dU 6 (dM (b2 getD d_ dI) false) (U7 2) jQ (eQ (aD (b2 (aW .add) mQ eF) (aD oZ aR))) false) true) (bK (cC false 5 (dU 6 (dM (b2 getD d_ eO) false) (U7 2) jQ (eQ (aD (aQ (cR 3 qM) (aD mQ (aD eF (aD cT aR)))) (aD (aQ (cR 3 qM) (aD oZ (aD eF (aD cT aR)))) aR))) true) true) (j6 (aQ (cR 3 fU) (aD (b2 (aW .add) (aQ K_ (aD (b2 getD cA dI) aR)) mO) (aD (b2 (aW .add) (aQ K_ (aD (b2 getD cA eO) aR)) iH) (aD (b2 (aW .add) (b2 getD cA rB) (b2 getD d_ rB)) aR)))) true))))
def lN:List D->Res D:=fnS 2 6 aC9
abbrev uN:Stmt:=top 30
noncomputable def o_law:Nat->Bool:=λi=>false
def aLp:FS:=bK (cC false 1 (aQ (cR 2 cP) (aD cA (aD eO aR))) true) (bK (cC false 2 (aQ (cR 2 g_) (aD (aQ (cR 2 cP) (aD cA (aD dI aR))) (aD d_ aR))) true) (bK (cC false 3 (aQ (cR 3 h_) (aD eF (aD (aBd cA (vJ rB) (vJ (bC (.int 66)))) (aD (aQ (cR 2 cP) (aD cA (aD dI aR))) aR)))) true) (bK (cC false 4 (aQ gH (aD (dU 12 (aDr (aH0 (aQ (cR 1 dN) (aD cT aR)))) lZ (bTB (b2 (bR .eq) (b2 getD gP dI) dI)) gP false) aR)) true) (bK (cC false 5 (aQ (cR 2 bW) (aD (aQ vY (aD mO aR)) (aD (b2 (aW .fdiv) d_ aI7) aR))) true) (bK (cC false 6 (dU 12 (mV (aD (aQ (fO .lt) (aD (b2 (aW .mod) d_ aKh) (aD (b2 (aW .fdiv) mO rB) aR))) aR) mC) lZ jQ (eQ (aD (b2 getD iH (b2 (aW .mul) rB gP)) (aD (b2 getD iH (b2 (aW .add) (b2 (aW .mul) rB gP) eO)) aR))) false) true) (bK (cC false 7 (aQ (cR 2 gF) (aD cT (aD mQ aR))) true) (bK (cC false 8 (aQ (cR 2 eN) (aD (aQ (cR 2 bW) (aD mQ (aD (aQ (cR 2 cP) (aD cA (aD dI aR))) aR))) (aD d_ aR))) true) (bK (cC false 9 (aQ (cR 2 eN) (aD (aQ (cR 2 bW) (aD mQ (aD (aQ (cR 2 cP) (aD cA (aD rB aR))) aR))) (aD (b2 (aW .fdiv) d_ aEw) aR))) true) (bK (sIf (U6 (bTr (aQ (cR 2 (b8 6)) (aD (aQ (cR 3 c7) (aD cT (aD rA (aD mO aR)))) (aD oZ aR))))) (j6 (bC (.bl false)) true) j_) (bK (sIf (U6 (bTr (aQ (cR 2 (b8 6)) (aD (aQ (cR 3 c7) (aD cT (aD jW (aD mO aR)))) (aD oZ aR))))) (j6 (bC (.bl false)) true) j_) (bK (cC false 10 (aQ (cR 3 h_) (aD eF (aD (aBd cA (vJ rB) (vJ xU)) (aD d_ aR)))) true) (bK (cC false 11 (aQ (cR 3 c7) (aD (aQ (cR 2 lN) (aD cT (aD iB aR))) (aD rA (aD (b2 (aW .add) mO (aQ gH (aD (dU 12 (aDr (aH0 (aQ (cR 1 dN) (aD iB aR)))) lZ (bTB (b2 (bR .eq) (b2 getD gP dI) dI)) gP false) aR))) aR)))) true) (j6 (aQ (cR 2 (b8 6)) (aD kO (aD (aQ (cR 2 lN) (aD oZ (aD iB aR))) aR))) true)))))))))))))
def T_:List D->Res D:=fnS 1 12 aLp
noncomputable abbrev oV:List Str:=["script","k"]
noncomputable abbrev uG:List Str:=["cell","sides","letters","size","at","stock","k","name","j","step"]
noncomputable abbrev nM:List Str:=["some","seed","found","k"]
noncomputable abbrev sJ:List Str:=["loose","bare","seed","spots","ties","k","pair"]
noncomputable abbrev lO:List Str:=["loose","more","one","rest","other"]
noncomputable abbrev dO:List Str:=["stock","cells","seed","names","pieces","loose","ties","number","bare","rings","cell","more","some"]
noncomputable abbrev uH:List Str:=["net","mates","one","other"]
noncomputable abbrev uI:List Str:=["mates","partner","end","seen"]
noncomputable abbrev iR:List Str:=["net","pairs","mates","partner","k","l","seen","behind","anew","end","rings","ties"]
noncomputable abbrev sO:List Str:=["pairs","seed","found","k","one","other"]
noncomputable abbrev oM:List Str:=["thing"]
noncomputable abbrev aDt:List Str:=["net","end","one","other"]
noncomputable abbrev j8:List Str:=["pieces","ties","rings","rows"]
noncomputable abbrev lQ:List Str:=["end","k","l"]
noncomputable abbrev lU:List Str:=["net","k","l","at_k","at_l","gone","ties","rings","left"]
noncomputable abbrev iT:List Str:=["net","pairs","many","standing","k","l"]
noncomputable abbrev qN:List Str:=["found","due","k"]
noncomputable abbrev oN:List Str:=["net"]
noncomputable abbrev lV:List Str:=["ends"]
noncomputable abbrev HX:List Str:=["ties","ends","one","other"]
noncomputable abbrev Y4:List Str:=["end","step","rim_step"]
noncomputable abbrev jN:List Str:=["one","other","step","rim_step","pieces","ties"]
noncomputable abbrev HY:List Str:=["script","seed","stock","net","many","row","pairs","due","first","second","other","left"]
theorem v9:bQ oV ["script","k"] (aM jU):=by refine⟨rfl,rfl,rfl,?_,rfl,?_,?_⟩<;>decide +kernel
theorem BL:bQ uG ["cell","sides"] (aM nA):=by refine⟨rfl,rfl,rfl,?_,rfl,?_,?_⟩<;>decide +kernel
theorem uO:bQ nM ["some","seed"] (aM jD):=by refine⟨rfl,rfl,rfl,?_,rfl,?_,?_⟩<;>decide +kernel
theorem wY:bQ sJ ["loose","bare","seed"] (aM k_):=by refine⟨rfl,rfl,rfl,?_,rfl,?_,?_⟩<;>decide +kernel
theorem H_:bQ lO ["loose","more"] (aM lC):=by refine⟨rfl,rfl,rfl,?_,rfl,?_,?_⟩<;>decide +kernel
theorem BP:bQ dO ["stock","cells","seed"] (aM fQ):=by refine⟨rfl,rfl,rfl,?_,rfl,?_,?_⟩<;>decide +kernel
theorem BR:bQ uH ["net"] (aM nG):=by refine⟨rfl,rfl,rfl,?_,rfl,?_,?_⟩<;>decide +kernel
theorem BV:bQ uI ["mates","partner","end","seen"] (aM nH):=by refine⟨rfl,rfl,rfl,?_,rfl,?_,?_⟩<;>decide +kernel
theorem wZ:bQ iR ["net","pairs"] (aM iM):=by refine⟨rfl,rfl,rfl,?_,rfl,?_,?_⟩<;>decide +kernel
theorem xF:bQ sO ["pairs","seed"] (aM lG):=by refine⟨rfl,rfl,rfl,?_,rfl,?_,?_⟩<;>decide +kernel
theorem N5:bQ oM ["thing"] (aM tR):=by refine⟨rfl,rfl,rfl,?_,rfl,?_,?_⟩<;>decide +kernel
theorem Y5:bQ oM ["thing"] (aM A_):=by refine⟨rfl,rfl,rfl,?_,rfl,?_,?_⟩<;>decide +kernel
theorem aFx:bQ aDt ["net","end"] (aM YX):=by refine⟨rfl,rfl,rfl,?_,rfl,?_,?_⟩<;>decide +kernel
theorem N6:bQ j8 ["pieces","ties","rings"] (aM oG):=by refine⟨rfl,rfl,rfl,?_,rfl,?_,?_⟩<;>decide +kernel
theorem IK:bQ lQ ["end","k","l"] (aM lH):=by refine⟨rfl,rfl,rfl,?_,rfl,?_,?_⟩<;>decide +kernel
theorem Y6:bQ lU ["net","k","l"] (aM sE):=by refine⟨rfl,rfl,rfl,?_,rfl,?_,?_⟩<;>decide +kernel
theorem xG:bQ iT ["net","pairs","many"] (aM iQ):=by refine⟨rfl,rfl,rfl,?_,rfl,?_,?_⟩<;>decide +kernel
theorem IV:bQ qN ["found","due"] (aM qL):=by refine⟨rfl,rfl,rfl,?_,rfl,?_,?_⟩<;>decide +kernel
theorem N7:bQ oN ["net"] (aM tU):=by refine⟨rfl,rfl,rfl,?_,rfl,?_,?_⟩<;>decide +kernel
theorem IW:bQ lV ["ends"] (aM lK):=by refine⟨rfl,rfl,rfl,?_,rfl,?_,?_⟩<;>decide +kernel
theorem UG:bQ HX ["ties"] (aM v8):=by refine⟨rfl,rfl,rfl,?_,rfl,?_,?_⟩<;>decide +kernel
theorem aJh:bQ oN ["net"] (aM aFu):=by refine⟨rfl,rfl,rfl,?_,rfl,?_,?_⟩<;>decide +kernel
theorem aCa:bQ Y4 ["end","step","rim_step"] (aM NZ):=by refine⟨rfl,rfl,rfl,?_,rfl,?_,?_⟩<;>decide +kernel
theorem Y7:bQ jN ["one","other"] (aM sI):=by refine⟨rfl,rfl,rfl,?_,rfl,?_,?_⟩<;>decide +kernel
theorem aJi:bQ HY ["script"] (aM uN):=by refine⟨rfl,rfl,rfl,?_,rfl,?_,?_⟩<;>decide +kernel
section
variable [KFrag] {P:Program} {w:World} {K:Frag} {mg:Str->Option Value} {base:Heap} {fad:Addr} {fd:FuncData} (hK:KFrag.K=K) (B:Bt mg)
include hK B
theorem uP(F:Fun K "_law_cell_at" "_law_cell_at" jU fad fd)(hm:mg "_law_cell_at"=some (.ref fad)):cJ P w K mg base 1 "_law_cell_at" 2 cP:=by
 have sc:=v9;have nd:=sc.nd;refine d8 (ps:=["script","k"]) (N:=oV) (k:=0) F hm (F.binds λ_ _ _ _ _ _ us hl=>by obtain⟨_,_,rfl⟩:=Mi.l2 hl;rfl) sc wX (by decide) (by decide) λcdv A outer s H E hr=>?_
 have hu:=uM hr;exact aF (iD (cM (TX hu) (aA (i:=1)) (aZ (dY hK) (by rfl) B.len d9 (aB (aA (i:=0)) aG)) (cV _)) (aP (cX (bV (aA (i:=0)) (aA (i:=1))))) dC) (aP (cX aH))
theorem xH(F:Fun K "_law_stock" "_law_stock" nA fad fd)(hm:mg "_law_stock"=some (.ref fad)):cJ P w K mg base 1 "_law_stock" 2 g_:=by
 have sc:=BL;have nd:=sc.nd;refine d8 (ps:=["cell","sides"]) (N:=uG) (k:=0) F hm (F.binds λ_ _ _ _ _ _ us hl=>by obtain⟨_,_,rfl⟩:=Mi.l2 hl;rfl) sc HJ (by decide) (by decide) λcdv A outer s H E hr=>?_
 have hu:=uM hr;exact aF (a_ (i:=2) (o:=false) rfl sc.nd rfl (by trivial) aD8) (aF (a_ (i:=3) (o:=false) rfl sc.nd rfl (by trivial) (bF cO aH (bF fP (aA (i:=0)) aH))) (aF (a_ (i:=4) (o:=false) rfl sc.nd rfl (by trivial) (bF fP (bF fY (aA (i:=0)) aH) (aA (i:=3)))) (aF (a_ (i:=5) (o:=true) rfl sc.nd rfl (by trivial) (nZ)) (aF (mZ PassesOwn.never rfl (kZ (by rfl) B.range (aB (bF cO aH (bF fP (bF fY (aA (i:=0)) aH) aH)) aG)) (jT (i:=6) rfl) (bB (i:=6) sc.nd rfl (by trivial)) (aF (a_ (i:=7) (o:=false) rfl sc.nd rfl (by trivial) aD8) (aF (mZ PassesOwn.never rfl (kZ (by rfl) B.range (aB (aA (i:=3)) aG)) (jT (i:=8) rfl) (bB (i:=8) sc.nd rfl (by trivial)) (aF (a_ (i:=9) (o:=false) rfl sc.nd rfl (by trivial) (bF rF (bF fP (bF fY (aA (i:=0)) aH) aH) (bF cO (aA (i:=8)) aH))) (aF (iD (cM (mF hu) (aA (i:=8)) (aA (i:=4)) (cV _)) (aP (a_ (i:=9) (o:=false) rfl sc.nd rfl (by trivial) aH)) dC) (aP (a_ (i:=7) (o:=false) rfl sc.nd rfl (by trivial) (bF cO (aA (i:=7)) (bV (aA (i:=2)) (bF fP (bF cO (bF fY (bF fY (aA (i:=0)) aH) (bF cO (bF rF (aA (i:=8)) (aA (i:=8))) aH)) (bF rF (aA (i:=6)) (aA (i:=9)))) aH)))))))) (aF (uE (i:=5) hu rfl rfl (by trivial) (aA (i:=7)) (bF fP (aA (i:=1)) aH)) (aP (a_ (i:=1) (o:=false) rfl sc.nd rfl (by trivial) (bF fY (aA (i:=1)) aH))))))) (aP (tM (i:=5) rfl rfl (by trivial)))))))
theorem tV(F:Fun K "_law_shuffled" "_law_shuffled" jD fad fd)(hm:mg "_law_shuffled"=some (.ref fad)):cJ P w K mg base 1 "_law_shuffled" 2 bW:=by
 have sc:=uO;have nd:=sc.nd;refine d8 (ps:=["some","seed"]) (N:=nM) (k:=0) F hm (F.binds λ_ _ _ _ _ _ us hl=>by obtain⟨_,_,rfl⟩:=Mi.l2 hl;rfl) sc v6 (by decide) (by decide) λcdv A outer s H E hr=>?_
 have hu:=uM hr;exact aF (a_ (i:=2) (o:=true) rfl sc.nd rfl (by trivial) (vQ aG)) (aF (mZ PassesOwn.never rfl (kZ (by rfl) B.range (aB (aZ (dY hK) (by rfl) B.len d9 (aB (aA (i:=0)) aG)) aG)) (jT (i:=3) rfl) (bB (i:=3) sc.nd rfl (by trivial)) (aP (aIs (i:=2) rfl rfl (by trivial) (bF fP (bF cO (bF fY (aA (i:=1)) (bF cO (aA (i:=3)) aH)) (bF rF (aA (i:=3)) (aA (i:=3)))) (bF cO (aA (i:=3)) aH)) (bV (aA (i:=0)) (aA (i:=3)))))) (aP (tM (i:=2) rfl rfl (by trivial))))
theorem v_(p3:cJ P w K mg base 1 "_law_shuffled" 2 bW)(F:Fun K "_law_rimmed" "_law_rimmed" k_ fad fd)(hm:mg "_law_rimmed"=some (.ref fad)):cJ P w K mg base 2 "_law_rimmed" 3 gD:=by
 have sc:=wY;have nd:=sc.nd;refine d8 (ps:=["loose","bare","seed"]) (N:=sJ) (k:=1) F hm (F.binds λ_ _ _ _ _ _ us hl=>by obtain⟨_,_,_,rfl⟩:=Mi.l3 hl;rfl) sc zZ (by decide) (by decide) λcdv A outer s H E hr=>?_
 have hu:=uM hr;exact aF (a_ (i:=3) (o:=false) rfl sc.nd rfl (by trivial) (aU p3 hr (by decide) (by rfl) (aB (zY (by rfl) (by rfl) B.list (by rfl) B.range (aB (bF cO (aZ (dY hK) (by rfl) B.len d9 (aB (aA (i:=0)) aG)) (bF rF aH (aA (i:=1)))) aG)) (aB (aA (i:=2)) aG)))) (aF (a_ (i:=4) (o:=true) rfl sc.nd rfl (by trivial) (vQ aG)) (aF (mZ PassesOwn.never rfl (kZ (by rfl) B.range (aB (aZ (dY hK) (by rfl) B.len d9 (aB (aA (i:=0)) aG)) aG)) (jT (i:=5) rfl) (bB (i:=5) sc.nd rfl (by trivial)) (aP (uC (i:=4) rfl rfl (by trivial) (cH (aB (cH (aB aH (aB (bV (aA (i:=3)) (aA (i:=5))) aG))) (aB (bV (aA (i:=0)) (aA (i:=5))) aG)))))) (aF (mZ PassesOwn.never rfl (kZ (by rfl) B.range (aB (aA (i:=1)) aG)) (jT (i:=5) rfl) (bB (i:=5) sc.nd rfl (by trivial)) (aF (a_ (i:=6) (o:=false) rfl sc.nd rfl (by trivial) (aF6 hK (aA (i:=3)) (tL (bF cO (aZ (dY hK) (by rfl) B.len d9 (aB (aA (i:=0)) aG)) (bF rF aH (aA (i:=5))))) (tL (bF cO (bF cO (aZ (dY hK) (by rfl) B.len d9 (aB (aA (i:=0)) aG)) (bF rF aH (aA (i:=5)))) aH)))) (aP (uC (i:=4) rfl rfl (by trivial) (cH (aB (cH (aB aH (aB (aZ (QV hu (by rfl)) (by rfl) B.min Q6 (aB (aA (i:=6)) aG)) aG))) (aB (cH (aB aH (aB (aZ (XN hu (by rfl)) (by rfl) B.max X3 (aB (aA (i:=6)) aG)) aG))) aG))))))) (aP (tM (i:=4) rfl rfl (by trivial))))))
theorem BW(F:Fun K "_law_tied" "_law_tied" lC fad fd)(hm:mg "_law_tied"=some (.ref fad)):cJ P w K mg base 1 "_law_tied" 2 eE:=by
 have sc:=H_;have nd:=sc.nd;refine d8 (ps:=["loose","more"]) (N:=lO) (k:=0) F hm (F.binds λ_ _ _ _ _ _ us hl=>by obtain⟨_,_,rfl⟩:=Mi.l2 hl;rfl) sc NB (by decide) (by decide) λcdv A outer s H E hr=>?_
 have hu:=uM hr;exact aF (a_ (i:=2) (o:=false) rfl sc.nd rfl (by trivial) (bV (aA (i:=0)) (bF fP (aA (i:=1)) (aZ (dY hK) (by rfl) B.len d9 (aB (aA (i:=0)) aG))))) (aF (iW (ownN:=(["end"]:List Str)) (show cQ lO (aM lC) _ (["end"]:List Str) from by refine⟨rfl,?_,?_,?_,?_,?_,?_⟩<;>decide +kernel) (n:=5) (m:=1) rfl rfl rfl (jL (aA (i:=0))) (iC 5) (λ_=>bB (i:=5) (show((List.map (gJ (["end"]:List Str)) lO++(["end"]:List Str)):List Str).Nodup from by decide +kernel) rfl (by trivial)) (λ_=>cM (XC hu) (aA (i:=5)) (aA (i:=2)) (cV _)) (λ_=>aA (i:=5)) (λ_=>rfl) (iy:=3) (o:=false) rfl sc.nd rfl (by trivial) (Or.inl rfl) (by with_unfolding_all rfl)) (aF (a_ (i:=4) (o:=false) rfl sc.nd rfl (by trivial) (bV (aA (i:=3)) (bF fP (bF fY (aA (i:=1)) (aZ (dY hK) (by rfl) B.len d9 (aB (aA (i:=0)) aG))) (aZ (dY hK) (by rfl) B.len d9 (aB (aA (i:=3)) aG))))) (aP (cX (cH (aB (aZ (QV hu (by rfl)) (by rfl) B.min Q6 (aB (aA (i:=2)) (aB (aA (i:=4)) aG))) (aB (aZ (XN hu (by rfl)) (by rfl) B.max X3 (aB (aA (i:=2)) (aB (aA (i:=4)) aG))) aG)))))))
theorem xJ(qc:cJ P w K mg base 1 "_law_tied" 2 eE)(qd:cJ P w K mg base 2 "_law_rimmed" 3 gD)(F:Fun K "_law_grown" "_law_grown" fQ fad fd)(hm:mg "_law_grown"=some (.ref fad)):cJ P w K mg base 3 "_law_grown" 3 h_:=by
 have sc:=BP;have nd:=sc.nd;refine d8 (ps:=["stock","cells","seed"]) (N:=dO) (k:=2) F hm (F.binds λ_ _ _ _ _ _ us hl=>by obtain⟨_,_,_,rfl⟩:=Mi.l3 hl;rfl) sc HN (by decide) (by decide) λcdv A outer s H E hr=>?_
 have hu:=uM hr
 exact aF (a_ (i:=3) (o:=false) rfl sc.nd rfl (by trivial) (g8 (M5 (by rfl)) (by rfl) B.list zT (aB (aA (i:=0)) aG))) (aF (a_ (i:=4) (o:=true) rfl sc.nd rfl (by trivial) (vQ aG)) (aF (a_ (i:=5) (o:=false) rfl sc.nd rfl (by trivial) (vQ aG)) (aF (a_ (i:=6) (o:=true) rfl sc.nd rfl (by trivial) (vQ aG)) (aF (a_ (i:=7) (o:=false) rfl sc.nd rfl (by trivial) aH) (aF (a_ (i:=8) (o:=false) rfl sc.nd rfl (by trivial) aH) (aF (a_ (i:=9) (o:=false) rfl sc.nd rfl (by trivial) aH) (aF (zR (i:=1) rfl PassesOwn.never rfl rfl (by trivial) (jT (i:=10) rfl) (bB (i:=10) sc.nd rfl (by trivial)) (aF (a_ (i:=11) (o:=false) rfl sc.nd rfl (by trivial) (bF fY (aA (i:=10)) aH)) (aF (aLe (i:=12) (j:=5) rfl rfl sc.nd rfl (by trivial) rfl (by trivial)) (aF (iD (cM (mF hu) (bF fP (aA (i:=10)) aH) aH (cV _)) (aP (iW (ownN:=(["end"]:List Str)) (show cQ dO (aM fQ) _ (["end"]:List Str) from by refine⟨rfl,?_,?_,?_,?_,?_,?_⟩<;>decide +kernel) (n:=13) (m:=1) rfl rfl rfl (jL (aA (i:=5))) (iC 13) (λ_=>bB (i:=13) (show((List.map (gJ (["end"]:List Str)) dO++(["end"]:List Str)):List Str).Nodup from by decide +kernel) rfl (by trivial)) (λ_=>cM (mF hu) (bV (aA (i:=13)) aH) aH (cV _)) (λ_=>aA (i:=13)) (λ_=>rfl) (iy:=12) (o:=false) rfl sc.nd rfl (by trivial) (Or.inl rfl) (by with_unfolding_all rfl))) dC) (aP (iD (PW.pt (G3 (cM (TX hu) (bF fP (aA (i:=10)) aH) aH (cV _)) (vR (cM (TX hu) (aZ (dY hK) (by rfl) B.len d9 (aB (aA (i:=4)) aG)) aH (cV _))))) (aF (a_ (i:=7) (o:=false) rfl sc.nd rfl (by trivial) (bF cO (bF cO (aA (i:=7)) aH) (bF fP (bF fY (aA (i:=11)) (aZ (dY hK) (by rfl) B.len d9 (aB (aA (i:=3)) aG))) (bF aDb aH aH)))) (aF (uC (i:=4) rfl rfl (by trivial) (cH (aB (aA (i:=7)) (aB (bV (aA (i:=3)) (bF fP (aA (i:=11)) (aZ (dY hK) (by rfl) B.len d9 (aB (aA (i:=3)) aG)))) aG)))) (aP (a_ (i:=5) (o:=false) rfl sc.nd rfl (by trivial) (bF cO (aA (i:=5)) (aBt (ownN:=(["hook"]:List Str)) (show cQ dO (aM fQ) _ (["hook"]:List Str) from by refine⟨rfl,?_,?_,?_,?_,?_,?_⟩<;>decide +kernel) (n:=13) (m:=1) rfl rfl rfl (kZ (by rfl) B.range (aB (bF cO (bV (aA (i:=0)) (bV (aA (i:=3)) (bF fP (aA (i:=11)) (aZ (dY hK) (by rfl) B.len d9 (aB (aA (i:=3)) aG))))) aH) aG)) (iC 13) (λ_=>bB (i:=13) (show((List.map (gJ (["hook"]:List Str)) dO++(["hook"]:List Str)):List Str).Nodup from by decide +kernel) rfl (by trivial)) (λ_=>cH (aB (aA (i:=7)) (aB (aA (i:=13)) aG))) (λ_=>rfl))))))) (aP (iD (PW.pt (G3 (aBl (aL8 hu) (TX hu) aH (bF fP (aA (i:=10)) aH) aH) (vR (cM (aL9 hu) (aZ (dY hK) (by rfl) B.len d9 (aB (aA (i:=12)) aG)) aH (cV _))))) (aF (uC (i:=6) rfl rfl (by trivial) (aU qc hr (by decide) (by rfl) (aB (aA (i:=12)) (aB (aA (i:=11)) aG)))) (aP (iW (ownN:=(["end"]:List Str)) (show cQ dO (aM fQ) _ (["end"]:List Str) from by refine⟨rfl,?_,?_,?_,?_,?_,?_⟩<;>decide +kernel) (n:=13) (m:=1) rfl rfl rfl (jL (aA (i:=5))) (iC 13) (λ_=>bB (i:=13) (show((List.map (gJ (["end"]:List Str)) dO++(["end"]:List Str)):List Str).Nodup from by decide +kernel) rfl (by trivial)) (λ_=>cM (n_ hu) (aA (i:=13)) (bV (aA (i:=6)) (aIf aDc aH)) (by with_unfolding_all rfl)) (λ_=>aA (i:=13)) (λ_=>rfl) (iy:=5) (o:=false) rfl sc.nd rfl (by trivial) (Or.inl rfl) (by with_unfolding_all rfl)))) (aP (iD (cM (mF hu) (bF fP (aA (i:=10)) aH) aH (cV _)) (aP (a_ (i:=8) (o:=false) rfl sc.nd rfl (by trivial) (bF cO (aA (i:=8)) aH))) (aP (iD (cM (mF hu) (bF fP (aA (i:=10)) aH) aH (cV _)) (aP (a_ (i:=9) (o:=false) rfl sc.nd rfl (by trivial) (bF cO (aA (i:=9)) (bF fP (aA (i:=11)) (bF aDb aH aH))))) dC)))))))))))) (aF (a_ (i:=6) (o:=true) rfl sc.nd rfl (by trivial) (bF cO (aA (i:=6)) (aU qd hr (by decide) (by rfl) (aB (aA (i:=5)) (aB (aA (i:=8)) (aB (aA (i:=2)) aG)))))) (aP (cX (cH (aB (g8 rH (by rfl) B.tuple jM (aB (aA (i:=4)) aG)) (aB (g8 rH (by rfl) B.tuple jM (aB (aZ (rJ hu) (by rfl) B.sorted m5 (aB (aA (i:=6)) aG)) aG)) (aB (aA (i:=9)) aG))))))))))))))
theorem xK(F:Fun K "_law_mates" "_law_mates" nG fad fd)(hm:mg "_law_mates"=some (.ref fad)):cJ P w K mg base 1 "_law_mates" 1 dN:=by
 have sc:=BR;have nd:=sc.nd;refine d8 (ps:=["net"]) (N:=uH) (k:=0) F hm (F.binds λ_ _ _ _ _ _ us hl=>by obtain⟨_,rfl⟩:=Mi.l1 hl;rfl) sc HQ (by decide) (by decide) λcdv A outer s H E hr=>?_
 have hu:=uM hr;exact aF (a_ (i:=1) (o:=true) rfl sc.nd rfl (by trivial) (nZ)) (aF (mZ PassesOwn.never rfl (jL (bV (aA (i:=0)) aH)) (tQ _ (is:=[2,3]) (by decide)) (oR rfl (cG (bB (i:=2) sc.nd rfl (by trivial)) (cG (bB (i:=3) sc.nd rfl (by trivial)) (jO)))) (aF (uE (i:=1) hu rfl rfl (by trivial) (aA (i:=2)) (aA (i:=3))) (aP (uE (i:=1) hu rfl rfl (by trivial) (aA (i:=3)) (aA (i:=2)))))) (aP (tM (i:=1) rfl rfl (by trivial))))
theorem xM(F:Fun K "_law_along" "_law_along" nH fad fd)(hm:mg "_law_along"=some (.ref fad)):aGz P w K mg base 1 "_law_along" 4 3 cZ:=by
 have sc:=BV;have nd:=sc.nd;refine aFp (ps:=["mates","partner","end","seen"]) (N:=uI) (k:=0) 3 F hm (F.binds λ_ _ _ _ _ _ us hl=>by obtain⟨_,_,_,_,rfl⟩:=Mi.l4 hl;rfl) sc HS (by decide) (by decide) λcdv A outer s H E hr=>?_
 have hu:=uM hr;exact aF (a_ (i:=2) (o:=false) rfl sc.nd rfl (by trivial) (bV (aA (i:=0)) (aA (i:=2)))) (aF (aJ0 PassesOwn.never (PW.pt (G3 (cM (aJe hu) (aA (i:=2)) (aA (i:=1)) (by with_unfolding_all rfl)) (vR (cM (n_ hu) (aA (i:=2)) (aLl (i:=3) rfl (by trivial)) (by with_unfolding_all rfl))))) (aF (YM (i:=3) hu rfl rfl (by trivial) (aA (i:=2)) MP) (aF (YM (i:=3) hu rfl rfl (by trivial) (bV (aA (i:=1)) (aA (i:=2))) MP) (aP (a_ (i:=2) (o:=false) rfl sc.nd rfl (by trivial) (bV (aA (i:=0)) (bV (aA (i:=1)) (aA (i:=2))))))))) (aP (aFj (aA (i:=2)))))
theorem wA(p8:cJ P w K mg base 1 "_law_mates" 1 dN)(p9:aGz P w K mg base 1 "_law_along" 4 3 cZ)(F:Fun K "_law_walked" "_law_walked" iM fad fd)(hm:mg "_law_walked"=some (.ref fad)):cJ P w K mg base 2 "_law_walked" 2 gF:=by
 have sc:=wZ;have nd:=sc.nd;refine d8 (ps:=["net","pairs"]) (N:=iR) (k:=1) F hm (F.binds λ_ _ _ _ _ _ us hl=>by obtain⟨_,_,rfl⟩:=Mi.l2 hl;rfl) sc z6 (by decide) (by decide) λcdv A outer s H E hr=>?_
 have hu:=uM hr
 exact aF (a_ (i:=2) (o:=false) rfl sc.nd rfl (by trivial) (aU p8 hr (by decide) (by rfl) (aB (aA (i:=0)) aG))) (aF (a_ (i:=3) (o:=true) rfl sc.nd rfl (by trivial) (nZ)) (aF (zR (i:=1) rfl PassesOwn.never rfl rfl (by trivial) (tQ _ (is:=[4,5]) (by decide)) (oR rfl (cG (bB (i:=4) sc.nd rfl (by trivial)) (cG (bB (i:=5) sc.nd rfl (by trivial)) (jO)))) (aF (uE (i:=3) hu rfl rfl (by trivial) (cH (aB aH (aB (aA (i:=4)) aG))) (cH (aB aH (aB (aA (i:=5)) aG)))) (aP (uE (i:=3) hu rfl rfl (by trivial) (cH (aB aH (aB (aA (i:=5)) aG))) (cH (aB aH (aB (aA (i:=4)) aG))))))) (aF (a_ (i:=6) (o:=true) rfl sc.nd rfl (by trivial) (nZ)) (aF (a_ (i:=7) (o:=true) rfl sc.nd rfl (by trivial) (nZ)) (aF (a_ (i:=8) (o:=true) rfl sc.nd rfl (by trivial) (nZ)) (aF (mZ PassesOwn.never rfl (jL (aZ (xY (by rfl) hu) (by rfl) B.sorted m5 (aB (aA (i:=2)) aG))) (jT (i:=9) rfl) (bB (i:=9) sc.nd rfl (by trivial)) (aP (iD (cM (n_ hu) (aA (i:=9)) (aA (i:=3)) (by with_unfolding_all rfl)) (aF (uE (i:=7) hu rfl rfl (by trivial) (aA (i:=9)) (aC0 p9 hr (by decide) (by rfl) (M9 (aA (i:=2)) (M9 (aA (i:=3)) (M9 (aA (i:=9)) (aFt)))))) (aF (aDo (aBz (i:=6) p9 hr (by decide) (by rfl) rfl (aDq (m:=2) rfl rfl (by trivial) (aJa (m:=3) rfl rfl rfl (by trivial) (aDq (m:=9) rfl rfl (by trivial) (aJ8 (i:=6) rfl (by trivial) (aJ7))))))) (aF (uE (i:=8) hu rfl rfl (by trivial) (aA (i:=9)) (aA (i:=9))) (aP (iD (cM (mF hu) (bV (aA (i:=9)) aH) aH (cV _)) (aP (uE (i:=8) hu rfl rfl (by trivial) (aA (i:=9)) (cH (aB aH (aB (bF aDa (aZ (aFo hK) (by rfl) B.len d9 (aB (aA (i:=8)) aG)) aH) aG))))) dC))))) dC))) (aF (a_ (i:=10) (o:=false) rfl sc.nd rfl (by trivial) (bV (aA (i:=0)) aH)) (YW (i:=3) rfl (aF (mZ PassesOwn.never rfl (aC2 (aA (i:=3))) (jT (i:=9) rfl) (bB (i:=9) sc.nd rfl (by trivial)) (aP (iD (cM (n_ hu) (aA (i:=9)) (aA (i:=6)) (by with_unfolding_all rfl)) (aF (aDo (aBy (i:=6) p9 hr (by decide) (by rfl) rfl (aDn (m:=2) rfl rfl (by trivial) (aDn (m:=3) rfl rfl (by trivial) (aLm (bV (aA (i:=3)) (aA (i:=9))) (aJ6 (i:=6) rfl rfl (by trivial) (aJ5))))))) (aP (a_ (i:=10) (o:=false) rfl sc.nd rfl (by trivial) (bF cO (aA (i:=10)) aH)))) dC))) (YW (i:=8) rfl (aF (iW (ownN:=(["end"]:List Str)) (show cQ iR (aM iM) _ (["end"]:List Str) from by refine⟨rfl,?_,?_,?_,?_,?_,?_⟩<;>decide +kernel) (n:=12) (m:=1) rfl rfl rfl (aC2 (aA (i:=8))) (iC 12) (λ_=>bB (i:=12) (show((List.map (gJ (["end"]:List Str)) iR++(["end"]:List Str)):List Str).Nodup from by decide +kernel) rfl (by trivial)) (λ_=>cM (TX hu) (aA (i:=12)) (bV (aA (i:=7)) (aA (i:=12))) (cV _)) (λ_=>cH (aB (bV (aA (i:=8)) (aA (i:=12))) (aB (bV (aA (i:=8)) (bV (aA (i:=7)) (aA (i:=12)))) aG))) (λ_=>rfl) (iy:=11) (o:=false) rfl sc.nd rfl (by trivial) (Or.inl rfl) (by with_unfolding_all rfl)) (aP (cX (cH (aB (bV (aA (i:=0)) aH) (aB (g8 rH (by rfl) B.tuple jM (aB (aZ (rJ hu) (by rfl) B.sorted m5 (aB (aA (i:=11)) aG)) aG)) (aB (aA (i:=10)) aG)))))))))))))))))
theorem wC(F:Fun K "_law_turned" "_law_turned" lG fad fd)(hm:mg "_law_turned"=some (.ref fad)):cJ P w K mg base 1 "_law_turned" 2 eN:=by
 have sc:=xF;have nd:=sc.nd;refine d8 (ps:=["pairs","seed"]) (N:=sO) (k:=0) F hm (F.binds λ_ _ _ _ _ _ us hl=>by obtain⟨_,_,rfl⟩:=Mi.l2 hl;rfl) sc z8 (by decide) (by decide) λcdv A outer s H E hr=>?_
 have hu:=uM hr;exact aF (a_ (i:=2) (o:=true) rfl sc.nd rfl (by trivial) (vQ aG)) (aF (mZ PassesOwn.never rfl (kZ (by rfl) B.range (aB (aZ (dY hK) (by rfl) B.len d9 (aB (aA (i:=0)) aG)) aG)) (jT (i:=3) rfl) (bB (i:=3) sc.nd rfl (by trivial)) (aF (aIy (bV (aA (i:=0)) (aA (i:=3))) (tQ _ (is:=[4,5]) (by decide)) (oR rfl (cG (bB (i:=4) sc.nd rfl (by trivial)) (cG (bB (i:=5) sc.nd rfl (by trivial)) (jO))))) (aF (iD (cM (mF hu) (bF fP (bF cO (bF fY (aA (i:=1)) (bF cO (aA (i:=3)) aH)) (aA (i:=3))) aH) aH (cV _)) (aP (aIz (i:=4) (j:=5) rfl rfl rfl sc.nd rfl rfl (by decide) rfl rfl (aB (aA (i:=5)) (aB (aA (i:=4)) aG)) (by rfl))) dC) (aP (uC (i:=2) rfl rfl (by trivial) (cH (aB (aA (i:=4)) (aB (aA (i:=5)) aG)))))))) (aP (tM (i:=2) rfl rfl (by trivial))))
theorem I_(F:Fun K "is_whole" "is_whole" tR fad fd)(hm:mg "is_whole"=some (.ref fad)):cJ P w K mg base 1 "is_whole" 1 oF:=by
 have sc:=N5;have nd:=sc.nd;refine d8 (ps:=["thing"]) (N:=oM) (k:=0) F hm (F.binds λ_ _ _ _ _ _ us hl=>by obtain⟨_,rfl⟩:=Mi.l1 hl;rfl) sc T5 (by decide) (by decide) λcdv A outer s H E hr=>?_
 have hu:=uM hr;exact aP (cX (vP (rK .int (aA (i:=0)) (by rfl) B.isi cN (by rfl) B.int aDh) (QK (aD9 (rK .bool (aA (i:=0)) (by rfl) B.isi cN (by rfl) B.bool X4)))))
theorem UJ(pP:cJ P w K mg base 1 "is_whole" 1 oF)(F:Fun K "is_end" "is_end" A_ fad fd)(hm:mg "is_end"=some (.ref fad)):cJ P w K mg base 2 "is_end" 1 rZ:=by
 have sc:=Y5;have nd:=sc.nd;refine d8 (ps:=["thing"]) (N:=oM) (k:=1) F hm (F.binds λ_ _ _ _ _ _ us hl=>by obtain⟨_,rfl⟩:=Mi.l1 hl;rfl) sc aC3 (by decide) (by decide) λcdv A outer s H E hr=>?_
 have hu:=uM hr;exact aP (cX (vP (rK .tuple (aA (i:=0)) (by rfl) B.isi cN (by rfl) B.tuple jM) (vP (W9 (mF hu) (aZ (dY hK) (by rfl) B.len d9 (aB (aA (i:=0)) aG)) aH (cV _)) (vP (aU pP hr (by decide) (by rfl) (aB (bV (aA (i:=0)) aH) aG)) (QK (aU pP hr (by decide) (by rfl) (aB (bV (aA (i:=0)) aH) aG)))))))
theorem aCb(qe:cJ P w K mg base 2 "is_end" 1 rZ)(F:Fun K "mate" "mate" YX fad fd)(hm:mg "mate"=some (.ref fad)):cJ P w K mg base 3 "mate" 2 HW:=by
 have sc:=aFx;have nd:=sc.nd;refine d8 (ps:=["net","end"]) (N:=aDt) (k:=2) F hm (F.binds λ_ _ _ _ _ _ us hl=>by obtain⟨_,_,rfl⟩:=Mi.l2 hl;rfl) sc aJf (by decide) (by decide) λcdv A outer s H E hr=>?_
 have hu:=uM hr;exact aF (f:=RC) (iD (uA (aU qe hr (by decide) (by rfl) (aB (aA (i:=1)) aG))) (aP (mZ PassesOwn.never rfl (jL (bV (aA (i:=0)) aH)) (tQ _ (is:=[2,3]) (by decide)) (oR rfl (cG (bB (i:=2) sc.nd rfl (by trivial)) (cG (bB (i:=3) sc.nd rfl (by trivial)) (jO)))) (aF (iD (cM (mF hu) (aA (i:=2)) (aA (i:=1)) (cV _)) (aP (cX (aA (i:=3)))) dC) (aP (iD (cM (mF hu) (aA (i:=3)) (aA (i:=1)) (cV _)) (aP (cX (aA (i:=2)))) dC))))) dC) (aP (aDg))
theorem JB(F:Fun K "arranged" "arranged" oG fad fd)(hm:mg "arranged"=some (.ref fad)):cJ P w K mg base 1 "arranged" 3 fU:=by
 have sc:=N6;have nd:=sc.nd;refine d8 (ps:=["pieces","ties","rings"]) (N:=j8) (k:=0) F hm (F.binds λ_ _ _ _ _ _ us hl=>by obtain⟨_,_,_,rfl⟩:=Mi.l3 hl;rfl) sc T7 (by decide) (by decide) λcdv A outer s H E hr=>?_
 have hu:=uM hr;exact aF (rO (ownN:=(["one","other"]:List Str)) (show cQ j8 (aM oG) _ (["one","other"]:List Str) from by refine⟨rfl,?_,?_,?_,?_,?_,?_⟩<;>decide +kernel) (n:=4) (m:=2) rfl rfl rfl (jL (aA (i:=1))) (zN _ 4 2) (λ_=>oR rfl (cG (bB (i:=4) (show((List.map (gJ (["one","other"]:List Str)) j8++(["one","other"]:List Str)):List Str).Nodup from by decide +kernel) rfl (by trivial)) (cG (bB (i:=5) (show((List.map (gJ (["one","other"]:List Str)) j8++(["one","other"]:List Str)):List Str).Nodup from by decide +kernel) rfl (by trivial)) (jO)))) (λ_=>cH (aB (aZ (QV hu (by rfl)) (by rfl) B.min Q6 (aB (aA (i:=4)) (aB (aA (i:=5)) aG))) (aB (aZ (XN hu (by rfl)) (by rfl) B.max X3 (aB (aA (i:=4)) (aB (aA (i:=5)) aG))) aG))) (λ_=>rfl) (iy:=3) (o:=false) rfl sc.nd rfl (by trivial) (Or.inl rfl) (by with_unfolding_all rfl)) (aP (cX (cH (aB (g8 rH (by rfl) B.tuple jM (aB (aZ (xY (by rfl) hu) (by rfl) B.sorted m5 (aB (aA (i:=0)) aG)) aG)) (aB (g8 rH (by rfl) B.tuple jM (aB (aZ (rJ hu) (by rfl) B.sorted m5 (aB (aA (i:=3)) aG)) aG)) (aB (aA (i:=2)) aG))))))
theorem BX(F:Fun K "closed_up" "closed_up" lH fad fd)(hm:mg "closed_up"=some (.ref fad)):cJ P w K mg base 1 "closed_up" 3 fL:=by
 have sc:=IK;have nd:=sc.nd;refine d8 (ps:=["end","k","l"]) (N:=lQ) (k:=0) F hm (F.binds λ_ _ _ _ _ _ us hl=>by obtain⟨_,_,_,rfl⟩:=Mi.l3 hl;rfl) sc NK (by decide) (by decide) λcdv A outer s H E hr=>?_
 have hu:=uM hr;exact aF (iD (cM (XC hu) (bV (aA (i:=0)) aH) aH (cV _)) (aP (cX (aA (i:=0)))) dC) (aP (cX (cH (aB aH (aB (bF aDa (bV (aA (i:=0)) aH) (aZ (dY hK) (by rfl) B.len d9 (aB (oA (ownN:=(["gone"]:List Str)) (show cQ lQ (aM lH) _ (["gone"]:List Str) from by refine⟨rfl,?_,?_,?_,?_,?_,?_⟩<;>decide +kernel) (n:=3) (m:=1) rfl rfl rfl (jL (cH (aB (aA (i:=1)) (aB (aA (i:=2)) aG)))) (iC 3) (λ_=>bB (i:=3) (show((List.map (gJ (["gone"]:List Str)) lQ++(["gone"]:List Str)):List Str).Nodup from by decide +kernel) rfl (by trivial)) (λ_=>cM (TX hu) (aA (i:=3)) (bV (aA (i:=0)) aH) (cV _)) (λ_=>aA (i:=3)) (λ_=>rfl)) aG))) aG)))))
theorem UL(pQ:cJ P w K mg base 3 "mate" 2 HW)(pT:cJ P w K mg base 1 "closed_up" 3 fL)(pf:cJ P w K mg base 1 "arranged" 3 fU)(F:Fun K "hooked" "hooked" sE fad fd)(hm:mg "hooked"=some (.ref fad)):cJ P w K mg base 4 "hooked" 3 oH:=by
 have sc:=Y6;have nd:=sc.nd;refine d8 (ps:=["net","k","l"]) (N:=lU) (k:=3) F hm (F.binds λ_ _ _ _ _ _ us hl=>by obtain⟨_,_,_,rfl⟩:=Mi.l3 hl;rfl) sc aC5 (by decide) (by decide) λcdv A outer s H E hr=>?_
 have hu:=uM hr;exact aF (a_ (i:=3) (o:=false) rfl sc.nd rfl (by trivial) (aU pQ hr (by decide) (by rfl) (aB (aA (i:=0)) (aB (cH (aB aH (aB (aA (i:=1)) aG))) aG)))) (aF (a_ (i:=4) (o:=false) rfl sc.nd rfl (by trivial) (aU pQ hr (by decide) (by rfl) (aB (aA (i:=0)) (aB (cH (aB aH (aB (aA (i:=2)) aG))) aG)))) (aF (iD (cM (mF hu) (aA (i:=1)) (aA (i:=2)) (cV _)) (aP (aDg)) dC) (aF (a_ (i:=5) (o:=false) rfl sc.nd rfl (by trivial) (cH (aB (cH (aB aH (aB (aA (i:=1)) aG))) (aB (cH (aB aH (aB (aA (i:=2)) aG))) aG)))) (aF (iW (ownN:=(["tie"]:List Str)) (show cQ lU (aM sE) _ (["tie"]:List Str) from by refine⟨rfl,?_,?_,?_,?_,?_,?_⟩<;>decide +kernel) (n:=9) (m:=1) rfl rfl rfl (jL (bV (aA (i:=0)) aH)) (iC 9) (λ_=>bB (i:=9) (show((List.map (gJ (["tie"]:List Str)) lU++(["tie"]:List Str)):List Str).Nodup from by decide +kernel) rfl (by trivial)) (λ_=>PW.pt (G3 (cM (n_ hu) (bV (aA (i:=9)) aH) (aA (i:=5)) (by with_unfolding_all rfl)) (vR (cM (n_ hu) (bV (aA (i:=9)) aH) (aA (i:=5)) (by with_unfolding_all rfl))))) (λ_=>aA (i:=9)) (λ_=>rfl) (iy:=6) (o:=true) rfl sc.nd rfl (by trivial) (Or.inl rfl) (by with_unfolding_all rfl)) (aF (a_ (i:=7) (o:=false) rfl sc.nd rfl (by trivial) (bV (aA (i:=0)) aH)) (aF (iD (cM (mF hu) (aA (i:=3)) (cH (aB aH (aB (aA (i:=2)) aG))) (cV _)) (aP (a_ (i:=7) (o:=false) rfl sc.nd rfl (by trivial) (bF cO (aA (i:=7)) aH))) (aP (uC (i:=6) rfl rfl (by trivial) (cH (aB (aA (i:=3)) (aB (aA (i:=4)) aG)))))) (aF (rO (ownN:=(["end","far"]:List Str)) (show cQ lU (aM sE) _ (["end","far"]:List Str) from by refine⟨rfl,?_,?_,?_,?_,?_,?_⟩<;>decide +kernel) (n:=9) (m:=2) rfl rfl rfl (jL (aA (i:=6))) (zN _ 9 2) (λ_=>oR rfl (cG (bB (i:=9) (show((List.map (gJ (["end","far"]:List Str)) lU++(["end","far"]:List Str)):List Str).Nodup from by decide +kernel) rfl (by trivial)) (cG (bB (i:=10) (show((List.map (gJ (["end","far"]:List Str)) lU++(["end","far"]:List Str)):List Str).Nodup from by decide +kernel) rfl (by trivial)) (jO)))) (λ_=>cH (aB (aU pT hr (by decide) (by rfl) (aB (aA (i:=9)) (aB (aA (i:=1)) (aB (aA (i:=2)) aG)))) (aB (aU pT hr (by decide) (by rfl) (aB (aA (i:=10)) (aB (aA (i:=1)) (aB (aA (i:=2)) aG)))) aG))) (λ_=>rfl) (iy:=8) (o:=false) rfl sc.nd rfl (by trivial) (Or.inl rfl) (by with_unfolding_all rfl)) (aP (cX (aU pf hr (by decide) (by rfl) (aB (bV (aA (i:=0)) aH) (aB (aA (i:=8)) (aB (aA (i:=7)) aG)))))))))))))
theorem wD(qf:cJ P w K mg base 4 "hooked" 3 oH)(F:Fun K "_law_hooked" "_law_hooked" iQ fad fd)(hm:mg "_law_hooked"=some (.ref fad)):cJ P w K mg base 5 "_law_hooked" 3 c7:=by
 have sc:=xG;have nd:=sc.nd;refine d8 (ps:=["net","pairs","many"]) (N:=iT) (k:=4) F hm (F.binds λ_ _ _ _ _ _ us hl=>by obtain⟨_,_,_,rfl⟩:=Mi.l3 hl;rfl) sc BJ (by decide) (by decide) λcdv A outer s H E hr=>?_
 have hu:=uM hr;exact aF (a_ (i:=3) (o:=false) rfl sc.nd rfl (by trivial) (zY (by rfl) (by rfl) B.list (by rfl) B.range (aB (aA (i:=2)) aG))) (aF (zR (i:=1) rfl PassesOwn.never rfl rfl (by trivial) (tQ _ (is:=[4,5]) (by decide)) (oR rfl (cG (bB (i:=4) sc.nd rfl (by trivial)) (cG (bB (i:=5) sc.nd rfl (by trivial)) (jO)))) (aF (a_ (i:=0) (o:=false) rfl sc.nd rfl (by trivial) (aU qf hr (by decide) (by rfl) (aB (aA (i:=0)) (aB (aIo PySem.F.plainAttrs_list PySem.F.slot_list_index PySem.F.type_list_index (HD hu) (aA (i:=3)) (aB (aA (i:=4)) aG) (λ_ _ _ _ _ h r=>HF h r)) (aB (aIo PySem.F.plainAttrs_list PySem.F.slot_list_index PySem.F.type_list_index (HD hu) (aA (i:=3)) (aB (aA (i:=5)) aG) (λ_ _ _ _ _ h r=>HF h r)) aG))))) (aP (iW (ownN:=(["spot"]:List Str)) (show cQ iT (aM iQ) _ (["spot"]:List Str) from by refine⟨rfl,?_,?_,?_,?_,?_,?_⟩<;>decide +kernel) (n:=6) (m:=1) rfl rfl rfl (jL (aA (i:=3))) (iC 6) (λ_=>bB (i:=6) (show((List.map (gJ (["spot"]:List Str)) iT++(["spot"]:List Str)):List Str).Nodup from by decide +kernel) rfl (by trivial)) (λ_=>PW.pt (G3 (cM (XC hu) (aA (i:=6)) (aA (i:=4)) (cV _)) (vR (cM (XC hu) (aA (i:=6)) (aA (i:=5)) (cV _))))) (λ_=>aA (i:=6)) (λ_=>rfl) (iy:=3) (o:=false) rfl sc.nd rfl (by trivial) (Or.inl rfl) (by with_unfolding_all rfl))))) (aP (cX (aA (i:=0)))))
theorem BZ(F:Fun K "_law_same" "_law_same" qL fad fd)(hm:mg "_law_same"=some (.ref fad)):∀m:Nat,cJ P w K mg base (m+1) "_law_same" 2 (b8 m):=by
 have sc:=IV;have nd:=sc.nd;intro m;induction m with
 |zero=>
  refine d8 (ps:=["found","due"]) (N:=qN) (k:=0) F hm (F.binds λ_ _ _ _ _ _ us hl=>by obtain⟨_,_,rfl⟩:=Mi.l2 hl;rfl) sc v7 (by decide) (by decide) λcdv A outer s H E hr=>?_
  exact aFf
 |succ m ih=>
  have p6:=ih;refine d8 (ps:=["found","due"]) (N:=qN) (k:=m+1) F hm (F.binds λ_ _ _ _ _ _ us hl=>by obtain⟨_,_,rfl⟩:=Mi.l2 hl;rfl) sc v7 (by decide) (by decide) λcdv A outer s H E hr=>?_
  have hu:=uM hr;exact aF (iD (uA (rK .tuple (aA (i:=1)) (by rfl) B.isi cN (by rfl) B.tuple jM)) (aF (iD (PW.pt (aL7 (GZ (uA (rK .tuple (aA (i:=0)) (by rfl) B.isi cN (by rfl) B.tuple jM))) (aIi (cM (XC hu) (aZ (dY hK) (by rfl) B.len d9 (aB (aA (i:=0)) aG)) (aZ (dY hK) (by rfl) B.len d9 (aB (aA (i:=1)) aG)) (cV _))))) (aP (cX MP)) dC) (aF (mZ PassesOwn.never rfl (kZ (by rfl) B.range (aB (aZ (dY hK) (by rfl) B.len d9 (aB (aA (i:=1)) aG)) aG)) (jT (i:=2) rfl) (bB (i:=2) sc.nd rfl (by trivial)) (aP (iD (GZ (uA (aU p6 hr (Nat.le_refl _) (by rfl) (aB (bV (aA (i:=0)) (aA (i:=2))) (aB (bV (aA (i:=1)) (aA (i:=2))) aG))))) (aP (cX MP)) dC))) (aP (cX MP)))) dC) (aF (iD (uA (rK .str (aA (i:=1)) (by rfl) B.isi cN (by rfl) B.str aDi)) (aP (cX (vP (rK .str (aA (i:=0)) (by rfl) B.isi cN (by rfl) B.str aDi) (QK (W9 (mF hu) (aA (i:=0)) (aA (i:=1)) (cV _)))))) dC) (aP (cX (vP (rK .int (aA (i:=0)) (by rfl) B.isi cN (by rfl) B.int aDh) (vP (aD9 (rK .bool (aA (i:=0)) (by rfl) B.isi cN (by rfl) B.bool X4)) (QK (W9 (mF hu) (aA (i:=0)) (aA (i:=1)) (cV _))))))))
theorem JC(F:Fun K "greatest" "greatest" tU fad fd)(hm:mg "greatest"=some (.ref fad)):cJ P w K mg base 1 "greatest" 1 oK:=by
 have sc:=N7;have nd:=sc.nd;refine d8 (ps:=["net"]) (N:=oN) (k:=0) F hm (F.binds λ_ _ _ _ _ _ us hl=>by obtain⟨_,rfl⟩:=Mi.l1 hl;rfl) sc T9 (by decide) (by decide) λcdv A outer s H E hr=>?_
 have hu:=uM hr;exact aF (iD (GZ (uA (bV (aA (i:=0)) aH))) (aP (cX aH)) dC) (aP (cX (bV (bV (bV (aA (i:=0)) aH) (aIf aDc aH)) aH)))
theorem B_(F:Fun K "rim_among" "rim_among" lK fad fd)(hm:mg "rim_among"=some (.ref fad)):cJ P w K mg base 1 "rim_among" 1 lM:=by
 have sc:=IW;have nd:=sc.nd;refine d8 (ps:=["ends"]) (N:=lV) (k:=0) F hm (F.binds λ_ _ _ _ _ _ us hl=>by obtain⟨_,rfl⟩:=Mi.l1 hl;rfl) sc NQ (by decide) (by decide) λcdv A outer s H E hr=>?_
 have hu:=uM hr;exact aP (cX (aZ (dY hK) (by rfl) B.len d9 (aB (oA (ownN:=(["end"]:List Str)) (show cQ lV (aM lK) _ (["end"]:List Str) from by refine⟨rfl,?_,?_,?_,?_,?_,?_⟩<;>decide +kernel) (n:=1) (m:=1) rfl rfl rfl (jL (aA (i:=0))) (iC 1) (λ_=>bB (i:=1) (show((List.map (gJ (["end"]:List Str)) lV++(["end"]:List Str)):List Str).Nodup from by decide +kernel) rfl (by trivial)) (λ_=>cM (mF hu) (bV (aA (i:=1)) aH) aH (cV _)) (λ_=>aA (i:=1)) (λ_=>rfl)) aG)))
theorem N8(F:Fun K "ends_of" "ends_of" v8 fad fd)(hm:mg "ends_of"=some (.ref fad)):cJ P w K mg base 1 "ends_of" 1 sG:=by
 have sc:=UG;have nd:=sc.nd;refine d8 (ps:=["ties"]) (N:=HX) (k:=0) F hm (F.binds λ_ _ _ _ _ _ us hl=>by obtain⟨_,rfl⟩:=Mi.l1 hl;rfl) sc YZ (by decide) (by decide) λcdv A outer s H E hr=>?_
 have hu:=uM hr;exact aF (a_ (i:=1) (o:=true) rfl sc.nd rfl (by trivial) (vQ aG)) (aF (zR (i:=0) rfl PassesOwn.never rfl rfl (by trivial) (tQ _ (is:=[2,3]) (by decide)) (oR rfl (cG (bB (i:=2) sc.nd rfl (by trivial)) (cG (bB (i:=3) sc.nd rfl (by trivial)) (jO)))) (aF (uC (i:=1) rfl rfl (by trivial) (aA (i:=2))) (aP (uC (i:=1) rfl rfl (by trivial) (aA (i:=3)))))) (aP (tM (i:=1) rfl rfl (by trivial))))
theorem aFy(qg:cJ P w K mg base 1 "ends_of" 1 sG)(qh:cJ P w K mg base 1 "rim_among" 1 lM)(F:Fun K "rim" "rim" aFu fad fd)(hm:mg "rim"=some (.ref fad)):cJ P w K mg base 2 "rim" 1 aC7:=by
 have sc:=aJh;have nd:=sc.nd;refine d8 (ps:=["net"]) (N:=oN) (k:=1) F hm (F.binds λ_ _ _ _ _ _ us hl=>by obtain⟨_,rfl⟩:=Mi.l1 hl;rfl) sc aLn (by decide) (by decide) λcdv A outer s H E hr=>?_
 have hu:=uM hr;exact aP (cX (aU qh hr (by decide) (by rfl) (aB (aU qg hr (by decide) (by rfl) (aB (bV (aA (i:=0)) aH) aG)) aG)))
theorem Y8(F:Fun K "moved" "moved" NZ fad fd)(hm:mg "moved"=some (.ref fad)):cJ P w K mg base 1 "moved" 3 qM:=by
 have sc:=aCa;have nd:=sc.nd;refine d8 (ps:=["end","step","rim_step"]) (N:=Y4) (k:=0) F hm (F.binds λ_ _ _ _ _ _ us hl=>by obtain⟨_,_,_,rfl⟩:=Mi.l3 hl;rfl) sc aFv (by decide) (by decide) λcdv A outer s H E hr=>?_
 have hu:=uM hr;exact aF (iD (cM (mF hu) (bV (aA (i:=0)) aH) aH (cV _)) (aP (cX (cH (aB aH (aB (bF cO (bV (aA (i:=0)) aH) (aA (i:=2))) aG))))) dC) (aP (cX (cH (aB (bF cO (bV (aA (i:=0)) aH) (aA (i:=1))) (aB (bV (aA (i:=0)) aH) aG)))))
theorem UT(qi:cJ P w K mg base 1 "greatest" 1 oK)(qj:cJ P w K mg base 2 "rim" 1 aC7)(pU:cJ P w K mg base 1 "moved" 3 qM)(pf:cJ P w K mg base 1 "arranged" 3 fU)(F:Fun K "beside" "beside" sI fad fd)(hm:mg "beside"=some (.ref fad)):cJ P w K mg base 3 "beside" 2 lN:=by
 have sc:=Y7;have nd:=sc.nd;refine d8 (ps:=["one","other"]) (N:=jN) (k:=2) F hm (F.binds λ_ _ _ _ _ _ us hl=>by obtain⟨_,_,rfl⟩:=Mi.l2 hl;rfl) sc aC8 (by decide) (by decide) λcdv A outer s H E hr=>?_
 have hu:=uM hr;exact aF (a_ (i:=2) (o:=false) rfl sc.nd rfl (by trivial) (aU qi hr (by decide) (by rfl) (aB (aA (i:=0)) aG))) (aF (a_ (i:=3) (o:=false) rfl sc.nd rfl (by trivial) (aU qj hr (by decide) (by rfl) (aB (aA (i:=0)) aG))) (aF (rO (ownN:=(["number","name"]:List Str)) (show cQ jN (aM sI) _ (["number","name"]:List Str) from by refine⟨rfl,?_,?_,?_,?_,?_,?_⟩<;>decide +kernel) (n:=6) (m:=2) rfl rfl rfl (jL (bV (aA (i:=1)) aH)) (zN _ 6 2) (λ_=>oR rfl (cG (bB (i:=6) (show((List.map (gJ (["number","name"]:List Str)) jN++(["number","name"]:List Str)):List Str).Nodup from by decide +kernel) rfl (by trivial)) (cG (bB (i:=7) (show((List.map (gJ (["number","name"]:List Str)) jN++(["number","name"]:List Str)):List Str).Nodup from by decide +kernel) rfl (by trivial)) (jO)))) (λ_=>cH (aB (bF cO (aA (i:=6)) (aA (i:=2))) (aB (aA (i:=7)) aG))) (λ_=>rfl) (iy:=4) (o:=false) rfl sc.nd rfl (by trivial) (Or.inl rfl) (by with_unfolding_all rfl)) (aF (rO (ownN:=(["end","far"]:List Str)) (show cQ jN (aM sI) _ (["end","far"]:List Str) from by refine⟨rfl,?_,?_,?_,?_,?_,?_⟩<;>decide +kernel) (n:=6) (m:=2) rfl rfl rfl (jL (bV (aA (i:=1)) aH)) (zN _ 6 2) (λ_=>oR rfl (cG (bB (i:=6) (show((List.map (gJ (["end","far"]:List Str)) jN++(["end","far"]:List Str)):List Str).Nodup from by decide +kernel) rfl (by trivial)) (cG (bB (i:=7) (show((List.map (gJ (["end","far"]:List Str)) jN++(["end","far"]:List Str)):List Str).Nodup from by decide +kernel) rfl (by trivial)) (jO)))) (λ_=>cH (aB (aU pU hr (by decide) (by rfl) (aB (aA (i:=6)) (aB (aA (i:=2)) (aB (aA (i:=3)) aG)))) (aB (aU pU hr (by decide) (by rfl) (aB (aA (i:=7)) (aB (aA (i:=2)) (aB (aA (i:=3)) aG)))) aG))) (λ_=>rfl) (iy:=5) (o:=false) rfl sc.nd rfl (by trivial) (Or.inl rfl) (by with_unfolding_all rfl)) (aP (cX (aU pf hr (by decide) (by rfl) (aB (bF cO (g8 (M5 (by rfl)) (by rfl) B.list zT (aB (bV (aA (i:=0)) aH) aG)) (aA (i:=4))) (aB (bF cO (g8 (M5 (by rfl)) (by rfl) B.list zT (aB (bV (aA (i:=0)) aH) aG)) (aA (i:=5))) (aB (bF cO (bV (aA (i:=0)) aH) (bV (aA (i:=1)) aH)) aG)))))))))
theorem aJj(p7:cJ P w K mg base 1 "_law_cell_at" 2 cP)(qm:cJ P w K mg base 1 "_law_stock" 2 g_)(pV:cJ P w K mg base 3 "_law_grown" 3 h_)(p8:cJ P w K mg base 1 "_law_mates" 1 dN)(p3:cJ P w K mg base 1 "_law_shuffled" 2 bW)(qo:cJ P w K mg base 2 "_law_walked" 2 gF)(pW:cJ P w K mg base 1 "_law_turned" 2 eN)(pg:cJ P w K mg base 5 "_law_hooked" 3 c7)(p6:cJ P w K mg base 7 "_law_same" 2 (b8 6))(pX:cJ P w K mg base 3 "beside" 2 lN)(F:Fun K "law" "law" uN fad fd):SN P w K mg base CX0 8 fad fd ["script"] (spD T_ 1):=by
 have sc:=aJi;have nd:=sc.nd;refine aIu (ps:=["script"]) (N:=HY) (k:=7) F sc o_law (by decide) (by decide) λcdv A outer s H E hr=>?_
 have hu:=uM hr
 exact aF (a_ (i:=1) (o:=false) rfl sc.nd rfl (by trivial) (aU p7 hr (by decide) (by rfl) (aB (aA (i:=0)) (aB aH aG)))) (aF (a_ (i:=2) (o:=false) rfl sc.nd rfl (by trivial) (aU qm hr (by decide) (by rfl) (aB (aU p7 hr (by decide) (by rfl) (aB (aA (i:=0)) (aB aH aG))) (aB (aA (i:=1)) aG)))) (aF (a_ (i:=3) (o:=false) rfl sc.nd rfl (by trivial) (aU pV hr (by decide) (by rfl) (aB (aA (i:=2)) (aB (aF6 hK (aA (i:=0)) (tL aH) (tL aH)) (aB (aU p7 hr (by decide) (by rfl) (aB (aA (i:=0)) (aB aH aG))) aG))))) (aF (a_ (i:=4) (o:=false) rfl sc.nd rfl (by trivial) (aZ (dY hK) (by rfl) B.len d9 (aB (oA (ownN:=(["end"]:List Str)) (show cQ HY (aM uN) _ (["end"]:List Str) from by refine⟨rfl,?_,?_,?_,?_,?_,?_⟩<;>decide +kernel) (n:=12) (m:=1) rfl rfl rfl (aC2 (aDs (aU p8 hr (by decide) (by rfl) (aB (aA (i:=3)) aG)))) (iC 12) (λ_=>bB (i:=12) (show((List.map (gJ (["end"]:List Str)) HY++(["end"]:List Str)):List Str).Nodup from by decide +kernel) rfl (by trivial)) (λ_=>cM (mF hu) (bV (aA (i:=12)) aH) aH (cV _)) (λ_=>aA (i:=12)) (λ_=>rfl)) aG))) (aF (a_ (i:=5) (o:=false) rfl sc.nd rfl (by trivial) (aU p3 hr (by decide) (by rfl) (aB (zY (by rfl) (by rfl) B.list (by rfl) B.range (aB (aA (i:=4)) aG)) (aB (bF fY (aA (i:=1)) aH) aG)))) (aF (rO (ownN:=(["k"]:List Str)) (show cQ HY (aM uN) _ (["k"]:List Str) from by refine⟨rfl,?_,?_,?_,?_,?_,?_⟩<;>decide +kernel) (n:=12) (m:=1) rfl rfl rfl (kZ (by rfl) B.range (aB (aZ (QV hu (by rfl)) (by rfl) B.min Q6 (aB (bF fP (aA (i:=1)) aH) (aB (bF fY (aA (i:=4)) aH) aG))) aG)) (iC 12) (λ_=>bB (i:=12) (show((List.map (gJ (["k"]:List Str)) HY++(["k"]:List Str)):List Str).Nodup from by decide +kernel) rfl (by trivial)) (λ_=>cH (aB (bV (aA (i:=5)) (bF rF aH (aA (i:=12)))) (aB (bV (aA (i:=5)) (bF cO (bF rF aH (aA (i:=12))) aH)) aG))) (λ_=>rfl) (iy:=6) (o:=false) rfl sc.nd rfl (by trivial) (Or.inl rfl) (by with_unfolding_all rfl)) (aF (a_ (i:=7) (o:=false) rfl sc.nd rfl (by trivial) (aU qo hr (by decide) (by rfl) (aB (aA (i:=3)) (aB (aA (i:=6)) aG)))) (aF (a_ (i:=8) (o:=false) rfl sc.nd rfl (by trivial) (aU pW hr (by decide) (by rfl) (aB (aU p3 hr (by decide) (by rfl) (aB (aA (i:=6)) (aB (aU p7 hr (by decide) (by rfl) (aB (aA (i:=0)) (aB aH aG))) aG))) (aB (aA (i:=1)) aG)))) (aF (a_ (i:=9) (o:=false) rfl sc.nd rfl (by trivial) (aU pW hr (by decide) (by rfl) (aB (aU p3 hr (by decide) (by rfl) (aB (aA (i:=6)) (aB (aU p7 hr (by decide) (by rfl) (aB (aA (i:=0)) (aB aH aG))) aG))) (aB (bF fY (aA (i:=1)) aH) aG)))) (aF (iD (GZ (uA (aU p6 hr (by decide) (by rfl) (aB (aU pg hr (by decide) (by rfl) (aB (aA (i:=3)) (aB (aA (i:=8)) (aB (aA (i:=4)) aG)))) (aB (aA (i:=7)) aG))))) (aP (cX MP)) dC) (aF (iD (GZ (uA (aU p6 hr (by decide) (by rfl) (aB (aU pg hr (by decide) (by rfl) (aB (aA (i:=3)) (aB (aA (i:=9)) (aB (aA (i:=4)) aG)))) (aB (aA (i:=7)) aG))))) (aP (cX MP)) dC) (aF (a_ (i:=10) (o:=false) rfl sc.nd rfl (by trivial) (aU pV hr (by decide) (by rfl) (aB (aA (i:=2)) (aB (aF6 hK (aA (i:=0)) (tL aH) (tL aH)) (aB (aA (i:=1)) aG))))) (aF (a_ (i:=11) (o:=false) rfl sc.nd rfl (by trivial) (aU pg hr (by decide) (by rfl) (aB (aU pX hr (by decide) (by rfl) (aB (aA (i:=3)) (aB (aA (i:=10)) aG))) (aB (aA (i:=8)) (aB (bF cO (aA (i:=4)) (aZ (dY hK) (by rfl) B.len d9 (aB (oA (ownN:=(["end"]:List Str)) (show cQ HY (aM uN) _ (["end"]:List Str) from by refine⟨rfl,?_,?_,?_,?_,?_,?_⟩<;>decide +kernel) (n:=12) (m:=1) rfl rfl rfl (aC2 (aDs (aU p8 hr (by decide) (by rfl) (aB (aA (i:=10)) aG)))) (iC 12) (λ_=>bB (i:=12) (show((List.map (gJ (["end"]:List Str)) HY++(["end"]:List Str)):List Str).Nodup from by decide +kernel) rfl (by trivial)) (λ_=>cM (mF hu) (bV (aA (i:=12)) aH) aH (cV _)) (λ_=>aA (i:=12)) (λ_=>rfl)) aG))) aG))))) (aP (cX (aU p6 hr (by decide) (by rfl) (aB (aA (i:=11)) (aB (aU pX hr (by decide) (by rfl) (aB (aA (i:=7)) (aB (aA (i:=10)) aG))) aG)))))))))))))))))
end
def AtN(K:Frag)(n:Str)(st:Stmt):Prop:=∃(f:Addr)(fd:FuncData),nsIn K mainGlobals n=some (some (.ref f))/\Fun K n n st f fd
theorem aLq{K:Frag}{n:Str}{st:Stmt}{f:Addr}{oc kV dc pm cd ct:Value}{od an:Option Addr}{sl:Array (Option Value)}(a:nsIn K mainGlobals n=some (some (.ref f)))(l:K.lookup f=some ⟨oc,od,.func (fnOf n n (oX st) (i_ st) (aM st) .none kV dc pm an cd ct),sl⟩)(c:codeIn K cd n=true)(k:keepIn K (.ref f)=true):AtN K n st:=⟨f,_,a,aD1 (st:=st) l c k⟩
theorem aJk{l:OpenLaw}{w:World}{K:Frag}{h:Heap}{mg:Str->Option Value}{fa:Addr}(X:K.In h)(G:h.Ns mainGlobals mg)(hfa:mg "law"=some (.ref fa))(a0:AtN K "_law_cell_at" jU)(a1:AtN K "_law_stock" nA)(a2:AtN K "_law_shuffled" jD)(a3:AtN K "_law_rimmed" k_)(a4:AtN K "_law_tied" lC)(a5:AtN K "_law_grown" fQ)(a6:AtN K "_law_mates" nG)(a7:AtN K "_law_along" nH)(a8:AtN K "_law_walked" iM)(a9:AtN K "_law_turned" lG)(a10:AtN K "is_whole" tR)(a11:AtN K "is_end" A_)(a12:AtN K "mate" YX)(a13:AtN K "arranged" oG)(a14:AtN K "closed_up" lH)(a15:AtN K "hooked" sE)(a16:AtN K "_law_hooked" iQ)(a17:AtN K "_law_same" qL)(a18:AtN K "greatest" tU)(a19:AtN K "rim_among" lK)(a20:AtN K "ends_of" v8)(a21:AtN K "rim" aFu)(a22:AtN K "moved" NZ)(a23:AtN K "beside" sI)
 {f24:Addr}{oc24 kV24 dc24 pm24 cd24 ct24:Value}{od24 an24:Option Addr}{sl24:Array (Option Value)}(a24:nsIn K mainGlobals "law"=some (some (.ref f24)))(l24:K.lookup f24=some ⟨oc24,od24,.func (fnOf "law" "law" (oX uN) (i_ uN) (aM uN) .none kV24 dc24 pm24 an24 cd24 ct24),sl24⟩)(c24:codeIn K cd24 "law"=true)(k24:keepIn K (.ref f24)=true)(ph:nsIn K mainGlobals "len"=some none)(pj:nsIn K mainGlobals "min"=some none)(po:nsIn K mainGlobals "max"=some none)(pq:nsIn K mainGlobals "list"=some none)(pz:nsIn K mainGlobals "tuple"=some none)(pA:nsIn K mainGlobals "sorted"=some none)(pB:nsIn K mainGlobals "range"=some none)(pC:nsIn K mainGlobals "isinstance"=some none)(pF:nsIn K mainGlobals "int"=some none)(pG:nsIn K mainGlobals "bool"=some none)(pH:nsIn K mainGlobals "str"=some none)(pI:nsIn K mainGlobals "dict"=some none)(pJ:nsIn K mainGlobals "all"=some none)(pK:nsIn K mainGlobals "enumerate"=some none)(pL:nsIn K mainGlobals "sum"=some none)(pM:nsIn K mainGlobals "zip"=some none)(pN:nsIn K mainGlobals "abs"=some none)(pO:nsIn K mainGlobals "reversed"=some none) :
  ∃fd:FuncData,(∀(s:Shared)(v:Value),BindsTo s fd ⟨[v],[]⟩ [("script",v)])/\∀base:Heap,K.In base->base.Ns mainGlobals mg->SN l.prog w K mg base CX0 8 fa fd ["script"] (@spD ⟨K⟩ T_ 1):=by
 have e:=hfa.symm.trans (mg_of X G a24);cases e
 letI:KFrag:=⟨K⟩
 have Y:=λ{n:Str}{v:Value}=>mg_of (n:=n) (v:=v) X G
 have Z:=λ{n:Str}=>mg_none_of (n:=n) X G
 obtain⟨f0,_,a0,F0⟩:=a0;obtain⟨f1,_,a1,F1⟩:=a1;obtain⟨f2,_,a2,F2⟩:=a2;obtain⟨f3,_,a3,F3⟩:=a3;obtain⟨f4,_,a4,F4⟩:=a4;obtain⟨f5,_,a5,F5⟩:=a5;obtain⟨f6,_,a6,F6⟩:=a6;obtain⟨f7,_,a7,F7⟩:=a7;obtain⟨f8,_,a8,F8⟩:=a8;obtain⟨f9,_,a9,F9⟩:=a9;obtain⟨f10,_,a10,F10⟩:=a10;obtain⟨f11,_,a11,F11⟩:=a11;obtain⟨f12,_,a12,F12⟩:=a12;obtain⟨f13,_,a13,F13⟩:=a13;obtain⟨f14,_,a14,F14⟩:=a14;obtain⟨f15,_,a15,F15⟩:=a15;obtain⟨f16,_,a16,F16⟩:=a16;obtain⟨f17,_,a17,F17⟩:=a17;obtain⟨f18,_,a18,F18⟩:=a18;obtain⟨f19,_,a19,F19⟩:=a19;obtain⟨f20,_,a20,F20⟩:=a20;obtain⟨f21,_,a21,F21⟩:=a21;obtain⟨f22,_,a22,F22⟩:=a22;obtain⟨f23,_,a23,F23⟩:=a23;have B:Bt mg:=⟨Z ph,Z pj,Z po,Z pq,Z pz,Z pA,Z pB,Z pC,Z pF,Z pG,Z pH,Z pI,Z pJ,Z pK,Z pL,Z pM,Z pN,Z pO⟩
 refine⟨fnOf "law" "law" (oX uN) (i_ uN) (aM uN) .none kV24 dc24 pm24 an24 cd24 ct24,λs v=>.of_eq rfl,λbase _ _=>?_⟩;have qp:=uP (P:=l.prog) (w:=w) (base:=base) rfl B  F0 (Y a0);have qr:=xH (P:=l.prog) (w:=w) (base:=base) rfl B  F1 (Y a1);have pY:=tV (P:=l.prog) (w:=w) (base:=base) rfl B  F2 (Y a2);have qt:=v_ (P:=l.prog) (w:=w) (base:=base) rfl B pY F3 (Y a3);have qu:=BW (P:=l.prog) (w:=w) (base:=base) rfl B  F4 (Y a4);have qv:=xJ (P:=l.prog) (w:=w) (base:=base) rfl B qu qt F5 (Y a5);have pZ:=xK (P:=l.prog) (w:=w) (base:=base) rfl B  F6 (Y a6);have qw:=xM (P:=l.prog) (w:=w) (base:=base) rfl B  F7 (Y a7);have qx:=wA (P:=l.prog) (w:=w) (base:=base) rfl B pZ qw F8 (Y a8);have qy:=wC (P:=l.prog) (w:=w) (base:=base) rfl B  F9 (Y a9);have qz:=I_ (P:=l.prog) (w:=w) (base:=base) rfl B  F10 (Y a10);have qA:=UJ (P:=l.prog) (w:=w) (base:=base) rfl B qz F11 (Y a11);have RC:=aCb (P:=l.prog) (w:=w) (base:=base) rfl B qA F12 (Y a12);have qa:=JB (P:=l.prog) (w:=w) (base:=base) rfl B  F13 (Y a13);have qB:=BX (P:=l.prog) (w:=w) (base:=base) rfl B  F14 (Y a14);have qC:=UL (P:=l.prog) (w:=w) (base:=base) rfl B RC qB qa F15 (Y a15);have qD:=wD (P:=l.prog) (w:=w) (base:=base) rfl B qC F16 (Y a16);have qE:=BZ (P:=l.prog) (w:=w) (base:=base) rfl B  F17 (Y a17) 6;have qF:=JC (P:=l.prog) (w:=w) (base:=base) rfl B  F18 (Y a18);have qG:=B_ (P:=l.prog) (w:=w) (base:=base) rfl B  F19 (Y a19);have qH:=N8 (P:=l.prog) (w:=w) (base:=base) rfl B  F20 (Y a20);have qI:=aFy (P:=l.prog) (w:=w) (base:=base) rfl B qH qG F21 (Y a21);have qJ:=Y8 (P:=l.prog) (w:=w) (base:=base) rfl B  F22 (Y a22);have qK:=UT (P:=l.prog) (w:=w) (base:=base) rfl B qF qI qJ qa F23 (Y a23);exact aJj rfl B qp qr qv pZ pY qx qy qD qE qK (aD1 (st:=uN) l24 c24 k24)
theorem walk{l:OpenLaw}{q:Program}{loose:List Str}{XP:(Str->Option Value)->Heap->Prop}{YP:World->Heap->Prop}{d:DefRec}{K:Params->Frag}(main:∀ns:List Int,ns.length<=63->T_ [.scr (ns.map D.int)]=.ok (.bl true))(hn:l.most=some 63)(hdf:d.params.defaults=[])
 (hY:∀(w:World) (h:Heap),YP w h->(K w.params).In h)
 (F:∀(w:World) (mg:Str->Option Value) (fa:Addr) (h:Heap),(K w.params).In h->h.Ns mainGlobals mg->mg d.name=some (.ref fa)->
   ∃fd:FuncData,(∀(s:Shared) (u:Value),BindsTo s fd ⟨[u],[]⟩ [("script",u)])/\∀base:Heap,(K w.params).In base->base.Ns mainGlobals mg->SN l.prog w (K w.params) mg base CX0 8 fa fd ["script"] (@spD ⟨K w.params⟩ T_ 1)) :
  WalkO q loose XP YP l.row.toRowW d [] (λf vs=>PySem.call f vs):=
 L2.aEq (n:=63) (k:=8) (x:= "script") (CX:=λ_=>CX0) (sp:=λw=>@spD ⟨K w.params⟩ T_ 1) hn (by decide) hdf ⟨rfl,by decide,by decide⟩ hY F (λw H a ns hl hO hS=>X5 main hl hO hS) λ_ _ _ _ _ z=>z
end Lk08
end
namespace Hk
section
variable {E:Type} [DecidableEq E]
noncomputable def hk(m:E->E)(x y:E):E->E:=λe=>if e=m x then m y else if e=m y then m x else m e
structure Mt(S:E->Prop)(m:E->E):Prop where
 in_:∀e,S e->S (m e)
 inv:∀e,S e->m (m e)=e
 ne:∀e,S e->m e≠e
theorem Mt.inj{S:E->Prop}{m:E->E}(h:Mt S m){a b:E}(ha:S a)(hb:S b)(e:m a=m b):a=b:=by rw[<-h.inv a ha,e,h.inv b hb]
def but(S:E->Prop)(x y:E):E->Prop:=λe=>S e/\e≠x/\e≠y
theorem Mt.hk{S:E->Prop}{m:E->E}(h:Mt S m){x y:E}(hx:S x)(hy:S y)(hxy:x≠y):Mt (but S x y) (hk m x y):=by
 have ix:=h.inv x hx;have iy:=h.inv y hy;have nx:=h.ne x hx;have ny:=h.ne y hy;refine⟨λe ⟨he,e1,e2⟩=>?_,λe ⟨he,e1,e2⟩=>?_,λe ⟨he,e1,e2⟩=>?_⟩
 ·have ie:=h.inv e he;unfold Hk.hk;split
  ·rename_i q;refine⟨h.in_ y hy,λz=>?_,ny⟩;subst q;rw[<-z,iy] at ix
   grind
  ·split
   ·rename_i q;refine⟨h.in_ x hx,nx,λz=>?_⟩
    grind
   ·refine⟨h.in_ e he,λz=>?_,λz=>?_⟩<;>grind
 ·have ie:=h.inv e he;have nn:=h.ne e he;unfold Hk.hk
  grind
 ·have ie:=h.inv e he;have nn:=h.ne e he;unfold Hk.hk
  grind
theorem aFz(m:E->E)(x y e:E)(h:m x≠m y):hk m y x e=hk m x y e:=by
 unfold hk
 grind
theorem aG0{S:E->Prop}{m:E->E}(h:Mt S m){x y u v:E}(hx:S x)(hy:S y)(hu:S u)(hv:S v)(xy:x≠y)(uv:u≠v)(xu:x≠u)(xv:x≠v)(yu:y≠u)(yv:y≠v)(e:E)(he:S e)(ex:e≠x)(ey:e≠y)(eu:e≠u)(ev:e≠v):hk (hk m x y) u v e=hk (hk m u v) x y e:=by
 have ix:=h.inv x hx;have iy:=h.inv y hy;have iu:=h.inv u hu;have iv:=h.inv v hv;have ie:=h.inv e he;have nx:=h.ne x hx;have ny:=h.ne y hy;have nu:=h.ne u hu;have nv:=h.ne v hv;have jxy:m x≠m y:=λz=>xy (h.inj hx hy z)
 have juv:m u≠m v:=λz=>uv (h.inj hu hv z)
 have jxu:m x≠m u:=λz=>xu (h.inj hx hu z)
 have jxv:m x≠m v:=λz=>xv (h.inj hx hv z)
 have jyu:m y≠m u:=λz=>yu (h.inj hy hu z)
 have jyv:m y≠m v:=λz=>yv (h.inj hy hv z)
 have ae:∀{a:E},S a->(e=m a↔a=m e):=λ{a} ha=>⟨λz=>by rw[z,h.inv a ha],λz=>by rw[z,ie]⟩
 have ab:∀{a b:E},S a->S b->(a=m b↔b=m a):=λ{a b} ha hb=>⟨λz=>by rw[z,h.inv b hb],λz=>by rw[z,h.inv a ha]⟩
 by_cases ux:u=m x
 ·have xu':x=m u:=(ab hu hx).mp ux;by_cases vy:v=m y
  ·have yv':y=m v:=(ab hv hy).mp vy;simp only[hk]
   grind
  ·simp only[hk]
   grind
 ·by_cases uy:u=m y
  ·have yu':y=m u:=(ab hu hy).mp uy;by_cases vx:v=m x
   ·have xv':x=m v:=(ab hv hx).mp vx;simp only[hk]
    grind
   ·simp only[hk]
    grind
  ·have xu':x≠m u:=λz=>ux ((ab hx hu).mp z)
   have yu':y≠m u:=λz=>uy ((ab hy hu).mp z)
   by_cases vx:v=m x
   ·have xv':x=m v:=(ab hv hx).mp vx;simp only[hk]
    grind
   ·by_cases vy:v=m y
    ·have yv':y=m v:=(ab hv hy).mp vy;simp only[hk]
     grind
    ·have xv':x≠m v:=λz=>vx ((ab hx hv).mp z)
     have yv':y≠m v:=λz=>vy ((ab hy hv).mp z)
     simp only[hk,if_neg ux,if_neg uy,if_neg vx,if_neg vy,if_neg xu',if_neg yu',if_neg xv',if_neg yv']
     grind
noncomputable def rg(m:E->E)(x y:E):Nat:=if m x=y then 1 else 0
theorem aG1{S:E->Prop}{m:E->E}(h:Mt S m){x y u v:E}(hx:S x)(hy:S y)(hu:S u)(hv:S v)(xy:x≠y)(uv:u≠v)(xu:x≠u)(xv:x≠v)(yu:y≠u)(yv:y≠v):rg m x y+rg (hk m x y) u v=rg m u v+rg (hk m u v) x y:=by
 have ix:=h.inv x hx;have iy:=h.inv y hy;have iu:=h.inv u hu;have iv:=h.inv v hv;have nx:=h.ne x hx;have ny:=h.ne y hy;have nu:=h.ne u hu;have nv:=h.ne v hv;unfold rg hk
 grind
def run:List (E×E)->(E->E)->Nat->(E->E)×Nat
 |[],m,r=>(m,r)
 |p::ps,m,r=>run ps (hk m p.1 p.2) (r+rg m p.1 p.2)
noncomputable def ends:List (E×E)->List E
 |[]=>[]
 |p::ps=>p.1::p.2::ends ps
def Pr(S:E->Prop)(ps:List (E×E)):Prop:=(ends ps).Nodup/\∀e∈ends ps,S e
def off(S:E->Prop):List (E×E)->E->Prop
 |[]=>S
 |p::ps=>off (but S p.1 p.2) ps
theorem cF:∀(ps:List (E×E))(S:E->Prop)(e:E),off S ps e↔S e/\e∉ends ps
 |[],S,e=>by simp[off,ends]
 |p::ps,S,e=>by
  rw[show off S (p::ps)=off (but S p.1 p.2) ps from rfl,cF ps];simp only[but,ends,List.mem_cons,not_or]
  grind
theorem Pr.tail{S:E->Prop}{p:E×E}{ps:List (E×E)}(h:Pr S (p::ps)):Pr (but S p.1 p.2) ps/\S p.1/\S p.2/\p.1≠p.2:=by
 obtain⟨nd,hs⟩:=h;have nd:(p.1::p.2::ends ps).Nodup:=nd;rw[List.nodup_cons,List.nodup_cons] at nd;refine⟨⟨nd.2.2,λe he=>⟨hs e (by simp[ends,he]),λz=>nd.1 (by simp[<-z,he]),λz=>nd.2.1 (z▸he)⟩⟩,hs _ (by simp[ends]),hs _ (by simp[ends]),λz=>nd.1 (by simp[z])⟩
theorem wF:∀{ps:List (E×E)}{S:E->Prop}{m:E->E}{r:Nat},Mt S m->Pr S ps->Mt (off S ps) (run ps m r).1
 |[],_,_,_,h,_=>h
 |p::ps,S,m,r,h,hp=>by
  obtain⟨h1,h2,h3,h4⟩:=hp.tail;exact wF (ps:=ps) (S:=but S p.1 p.2) (m:=hk m p.1 p.2) (r:=r+rg m p.1 p.2) (h.hk h2 h3 h4) h1
theorem wG:∀{ps:List (E×E)}{S:E->Prop}{m m':E->E}{r:Nat},Mt S m->(∀e,S e->m e=m' e)->Pr S ps->(run ps m r).2=(run ps m' r).2/\∀e,off S ps e->(run ps m r).1 e=(run ps m' r).1 e
 |[],_,_,_,_,_,h,_=>⟨rfl,h⟩
 |p::ps,S,m,m',r,hm,h,hp=>by
  obtain⟨h1,h2,h3,h4⟩:=hp.tail;have hh:∀e,but S p.1 p.2 e->hk m p.1 p.2 e=hk m' p.1 p.2 e:=λe he=>by
   unfold hk;rw[h _ h2,h _ h3,h e he.1]
  have hr:rg m p.1 p.2=rg m' p.1 p.2:=by unfold rg;rw[h _ h2]
  show(run ps (hk m p.1 p.2) (r+rg m p.1 p.2)).2=(run ps (hk m' p.1 p.2) (r+rg m' p.1 p.2)).2/\∀e,off (but S p.1 p.2) ps e->(run ps (hk m p.1 p.2) (r+rg m p.1 p.2)).1 e=(run ps (hk m' p.1 p.2) (r+rg m' p.1 p.2)).1 e;rw[<-hr];exact wG (hm.hk h2 h3 h4) hh h1
theorem eZ{ps qs:List (E×E)}(h:ps.Perm qs):(ends ps).Perm (ends qs):=by
 induction h with
 |nil=>exact .nil
 |cons p h ih=>exact .cons _ (.cons _ ih)
 |swap p q l=>
  show(q.1::q.2::p.1::p.2::ends l).Perm (p.1::p.2::q.1::q.2::ends l);rw[List.perm_iff_count];intro a;simp only[List.count_cons];lia
 |trans h1 h2 i1 i2=>exact i1.trans i2
theorem Pr.perm{S:E->Prop}{ps qs:List (E×E)}(h:ps.Perm qs)(hp:Pr S ps):Pr S qs:=⟨(eZ h).nodup_iff.mp hp.1,λe he=>hp.2 e ((eZ h).mem_iff.mpr he)⟩
theorem aCc{S:E->Prop}{ps qs:List (E×E)}(h:ps.Perm qs)(e:E):off S ps e↔off S qs e:=by
 rw[cF,cF,(eZ h).mem_iff]
theorem RD{ps qs:List (E×E)}(h:ps.Perm qs):∀{S:E->Prop}{m:E->E}{r:Nat},Mt S m->Pr S ps->(run ps m r).2=(run qs m r).2/\∀e,off S ps e->(run ps m r).1 e=(run qs m r).1 e:=by
 induction h with
 |nil=>intro S m r hm hp;exact⟨rfl,λ_ _=>rfl⟩
 |cons p h ih=>
  intro S m r hm hp;obtain⟨h1,h2,h3,h4⟩:=hp.tail;exact ih (hm.hk h2 h3 h4) h1
 |swap p q l=>
  intro S m r hm hp;obtain⟨h1,h2,h3,h4⟩:=hp.tail;obtain⟨g1,⟨g2,g2a,g2b⟩,⟨g3,g3a,g3b⟩,g4⟩:=h1.tail;have hq:=(hm.hk h2 h3 h4).hk (x:=p.1) (y:=p.2) ⟨g2,g2a,g2b⟩ ⟨g3,g3a,g3b⟩ g4;have e1:r+rg m q.1 q.2+rg (hk m q.1 q.2) p.1 p.2=r+rg m p.1 p.2+rg (hk m p.1 p.2) q.1 q.2:=by
   have:=aG1 hm h2 h3 g2 g3 h4 g4 (Ne.symm g2a) (Ne.symm g3a) (Ne.symm g2b) (Ne.symm g3b);lia
  show(run l (hk (hk m q.1 q.2) p.1 p.2) (r+rg m q.1 q.2+rg (hk m q.1 q.2) p.1 p.2)).2=(run l (hk (hk m p.1 p.2) q.1 q.2) (r+rg m p.1 p.2+rg (hk m p.1 p.2) q.1 q.2)).2/\∀e,off (but (but S q.1 q.2) p.1 p.2) l e->(run l (hk (hk m q.1 q.2) p.1 p.2) (r+rg m q.1 q.2+rg (hk m q.1 q.2) p.1 p.2)).1 e=(run l (hk (hk m p.1 p.2) q.1 q.2) (r+rg m p.1 p.2+rg (hk m p.1 p.2) q.1 q.2)).1 e;rw[e1];refine wG hq (λe he=>?_) g1;obtain⟨⟨s0,s1,s2⟩,s3,s4⟩:=he;exact aG0 hm h2 h3 g2 g3 h4 g4 (Ne.symm g2a) (Ne.symm g3a) (Ne.symm g2b) (Ne.symm g3b) e s0 s1 s2 s3 s4
 |trans h1 h2 i1 i2=>
  intro S m r hm hp;obtain⟨a1,a2⟩:=i1 (r:=r) hm hp;obtain⟨b1,b2⟩:=i2 (r:=r) hm (hp.perm h1);exact⟨a1.trans b1,λe he=>(a2 e he).trans (b2 e ((aCc h1 e).mp he))⟩
inductive Trn:List (E×E)->List (E×E)->Prop
 |nil:Trn [] []
 |keep {p:E×E} {ps qs:List (E×E)}:Trn ps qs->Trn (p::ps) (p::qs)
 |turn {x y:E} {ps qs:List (E×E)}:Trn ps qs->Trn ((x,y)::ps) ((y,x)::qs)
theorem Y9{ps qs:List (E×E)}(h:Trn ps qs):∀{S:E->Prop}{m:E->E}{r:Nat},Mt S m->Pr S ps->run qs m r=run ps m r/\(ends qs).Perm (ends ps):=by
 induction h with
 |nil=>intro S m r _ _;exact⟨rfl,.nil⟩
 |keep h ih=>
  intro S m r hm hp;obtain⟨h1,h2,h3,h4⟩:=hp.tail;obtain⟨a,b⟩:=ih (r:=r+_) (hm.hk h2 h3 h4) h1;exact⟨a,.cons _ (.cons _ b)⟩
 |@turn x y ps qs h ih=>
  intro S m r hm hp;obtain⟨h1,h2,h3,h4⟩:=hp.tail;have hmm:m x≠m y:=λz=>h4 (hm.inj h2 h3 z)
  have e1:hk m y x=hk m x y:=funext λe=>aFz m x y e hmm
  have e2:rg m y x=rg m x y:=by
   unfold rg;have a:=hm.inv x h2;have b:=hm.inv y h3;by_cases z:m x=y
   ·rw[if_pos z,if_pos (by rw[<-z];exact a)]
   ·rw[if_neg z,if_neg (λw=>z (by rw[<-w];exact b))]
  obtain⟨a,b⟩:=ih (r:=r+rg m x y) (hm.hk h2 h3 h4) h1;refine⟨?_,?_⟩
  ·show run qs (hk m y x) (r+rg m y x)=run ps (hk m x y) (r+rg m x y);rw[e1,e2];exact a
  ·show(y::x::ends qs).Perm (x::y::ends ps);exact(List.Perm.swap x y _).trans (.cons _ (.cons _ b))
theorem CG:∀(a b:List (E×E))(m:E->E)(r:Nat),run (a++b) m r=run b (run a m r).1 (run a m r).2
 |[],_,_,_=>rfl
 |p::a,b,m,r=>CG a b (hk m p.1 p.2) (r+rg m p.1 p.2)
theorem ends_app:∀a b:List (E×E),ends (a++b)=ends a++ends b
 |[],_=>rfl
 |p::a,b=>by show p.1::p.2::ends (a++b)=p.1::p.2::(ends a++ends b);rw[ends_app a b]
theorem len_sub{l L:List E}(nd:l.Nodup)(h:∀e∈l,e∈L):l.length<=L.length:=by
 induction l generalizing L with
 |nil=>exact Nat.zero_le _
 |cons x l ih=>
  rw[List.nodup_cons] at nd;have hx:=h x (by simp);have:=ih (L:=L.erase x) nd.2 λe he=>(List.mem_erase_of_ne (λz:e=x=>nd.1 (z▸he))).mpr (h e (by simp[he]))
  rw[List.length_erase_of_mem hx] at this;have:=List.length_pos_of_mem hx;rw[List.length_cons];lia
structure Pt(S:E->Prop)(L:List E)(p:E->E):Prop where
 in_:∀e∈L,S e
 par:∀e∈L,p e∈L
 inv:∀e∈L,p (p e)=e
 ne:∀e∈L,p e≠e
structure Sn(S:E->Prop)(L:List E)(p:E->E)(dn:List (E×E)):Prop where
 pr:Pr S dn
 pp:∀q∈dn,q.1∈L/\q.2=p q.1
theorem Sn.sub{S:E->Prop}{L:List E}{p:E->E}{dn:List (E×E)}(pt:Pt S L p)(h:Sn S L p dn):∀e∈ends dn,e∈L:=by
 replace h:=h.pp;induction dn with
 |nil=>intro e he;cases he
 |cons q dn ih=>
  intro e he;obtain⟨h1,h2⟩:=h q (by simp);have he:e∈q.1::q.2::ends dn:=he;rcases List.mem_cons.mp he with rfl|he
  ·exact h1
  ·rcases List.mem_cons.mp he with rfl|he
   ·rw[h2];exact pt.par _ h1
   ·exact ih (λq hq=>h q (by simp[hq])) e he
theorem Sn.shut{S:E->Prop}{L:List E}{p:E->E}{dn:List (E×E)}(pt:Pt S L p)(h:Sn S L p dn):∀e∈L,p e∈ends dn->e∈ends dn:=by
 replace h:=h.pp;induction dn with
 |nil=>intro e _ he;cases he
 |cons q dn ih=>
  intro e heL he;obtain⟨h1,h2⟩:=h q (by simp);have he:p e∈q.1::q.2::ends dn:=he;show e∈q.1::q.2::ends dn;rcases List.mem_cons.mp he with z|he
  ·rw[h2,<-z,pt.inv e heL];simp
  ·rcases List.mem_cons.mp he with z|he
   ·have:e=q.1:=by rw[<-pt.inv e heL,z,h2,pt.inv _ h1]
    simp[this]
   ·have:=ih (λq hq=>h q (by simp[hq])) e heL he;simp[this]
noncomputable def al(m p:E->E)(L:List E):Nat->E->List E->E×List E
 |0,e1,s=>(e1,s)
 |n+1,e1,s=>if e1∈L/\e1∉s then al m p L n (m (p e1)) (s++[e1,p e1]) else (e1,s)
section
variable {S:E->Prop} {m p:E->E} {L:List E}
structure Wk(S:E->Prop)(m p:E->E)(L:List E)(dn:List (E×E))(e e1:E):Prop where
 sn:Sn S L p dn
 he:off S dn e
 h1:(run dn m 0).1 e=e1
 fr:∀z∈L,off S dn z->z≠e1->z≠e->(run dn m 0).1 z=m z
 i5:∀z,S z->z∉L->z≠e->z≠e1->(run dn m 0).1 z∈L->(run dn m 0).1 z=m z
variable (hm:Mt S m) (pt:Pt S L p)
include hm pt
theorem Wk.off1{dn:List (E×E)}{e e1:E}(w:Wk S m p L dn e e1):off S dn e1/\e1≠e/\(run dn m 0).1 e1=e:=by
 have mt:=wF (r:=0) hm w.sn.pr;have:=mt.in_ e w.he;rw[w.h1] at this;exact⟨this,λz=>mt.ne e w.he (by rw[w.h1];exact z),by rw[<-w.h1];exact mt.inv e w.he⟩
theorem Wk.next{dn:List (E×E)}{e e1:E}(w:Wk S m p L dn e e1)(h1:e1∈L)(hne:p e1≠e):Wk S m p L (dn++[(e1,p e1)]) e (m (p e1))/\(run (dn++[(e1,p e1)]) m 0).2=(run dn m 0).2:=by
 have mt:=wF (r:=0) hm w.sn.pr;obtain⟨o1,n1,b1⟩:=w.off1 hm pt;have oy:off S dn (p e1):=by
  rw[cF] at o1 ⊢;exact⟨pt.in_ _ (pt.par _ h1),λz=>o1.2 (w.sn.shut pt e1 h1 z)⟩
 have ny:=pt.ne e1 h1;have my:=w.fr (p e1) (pt.par _ h1) oy ny hne;have ma:=CG dn [(e1,p e1)] m 0;have m1:(run (dn++[(e1,p e1)]) m 0).1=hk (run dn m 0).1 e1 (p e1):=by rw[ma];rfl
 have m2:(run (dn++[(e1,p e1)]) m 0).2=(run dn m 0).2+rg (run dn m 0).1 e1 (p e1):=by rw[ma];rfl
 have oo:∀z,off S (dn++[(e1,p e1)]) z↔off S dn z/\z≠e1/\z≠p e1:=λz=>by
  rw[cF,cF,ends_app,List.mem_append];simp only[ends,List.mem_cons,List.not_mem_nil,or_false,not_or]
  grind
 have hsn:Sn S L p (dn++[(e1,p e1)]):=by
  refine⟨⟨?_,λz hz=>?_⟩,λq hq=>?_⟩
  ·rw[ends_app,List.nodup_append];refine⟨w.sn.pr.1,by simp[ends];exact Ne.symm ny,λa ha b hb z=>?_⟩;subst z;rw[cF] at o1 oy;have hb:a∈[e1,p e1]:=hb;rcases List.mem_cons.mp hb with rfl|hb
   ·exact o1.2 ha
   ·rw[List.mem_singleton] at hb;subst hb;exact oy.2 ha
  ·rw[ends_app,List.mem_append] at hz;rcases hz with hz|hz
   ·exact w.sn.pr.2 z hz
   ·have hz:z∈[e1,p e1]:=hz;rcases List.mem_cons.mp hz with rfl|hz
    ·exact pt.in_ _ h1
    ·rw[List.mem_singleton] at hz;subst hz;exact pt.in_ _ (pt.par _ h1)
  ·rcases List.mem_append.mp hq with hq|hq
   ·exact w.sn.pp q hq
   ·rw[List.mem_singleton] at hq;subst hq;exact⟨h1,rfl⟩
 refine⟨⟨hsn,(oo e).mpr ⟨w.he,Ne.symm n1,Ne.symm hne⟩,?_,λz zL zo z1 z2=>?_,λz zS zL z1 z2=>?_⟩,?_⟩
 ·rw[m1];show(if e=(run dn m 0).1 e1 then (run dn m 0).1 (p e1) else _)=_;rw[if_pos b1.symm,my]
 ·obtain⟨y1,y2,y3⟩:=(oo z).mp zo;rw[m1];show(if z=(run dn m 0).1 e1 then _ else if z=(run dn m 0).1 (p e1) then _ else (run dn m 0).1 z)=_;rw[if_neg (by rw[b1];exact z2),if_neg (by rw[my];exact z1)];exact w.fr z zL y1 y2 z2
 ·rw[m1];show(if z=(run dn m 0).1 e1 then _ else if z=(run dn m 0).1 (p e1) then _ else (run dn m 0).1 z)∈L->(if z=(run dn m 0).1 e1 then _ else if z=(run dn m 0).1 (p e1) then _ else (run dn m 0).1 z)=_;rw[if_neg (by rw[b1];exact z1),if_neg (by rw[my];exact z2)];exact w.i5 z zS zL z1 (λq=>zL (q▸h1))
 ·rw[m2];unfold rg;rw[if_neg (by rw[b1];exact Ne.symm hne),Nat.add_zero]
theorem walk:∀(n:Nat){dn:List (E×E)}{e e1:E}{s:List E},Wk S m p L dn e e1->e∉L->(∀z,z∈s↔z∈ends dn)->L.length<2*n+(ends dn).length->∃dn',Wk S m p L (dn++dn') e (al m p L n e1 s).1/\(al m p L n e1 s).1∉L/\(∀z,z∈(al m p L n e1 s).2↔z∈ends (dn++dn'))/\(run (dn++dn') m 0).2=(run dn m 0).2
 |0,dn,e,e1,s,w,he,hs,hn=>by
  have:=len_sub w.sn.pr.1 (w.sn.sub pt);lia
 |n+1,dn,e,e1,s,w,he,hs,hn=>by
  obtain⟨o1,n1,b1⟩:=w.off1 hm pt;have hns:e1∉s:=λz=>((cF ..).mp o1).2 ((hs e1).mp z)
  by_cases h1:e1∈L
  ·have hne:p e1≠e:=λz=>he (z▸pt.par _ h1)
   obtain⟨w2,r2⟩:=w.next hm pt h1 hne
   have hs2:∀z,z∈s++[e1,p e1]↔z∈ends (dn++[(e1,p e1)]):=λz=>by
    rw[ends_app,List.mem_append,List.mem_append,hs z];rfl
   obtain⟨dn',a1,a2,a3,a4⟩:=walk n w2 he hs2 (by rw[ends_app,List.length_append];show L.length<2*n+((ends dn).length+2);lia);have e0:al m p L (n+1) e1 s=al m p L n (m (p e1)) (s++[e1,p e1]):=by rw[al,if_pos ⟨h1,hns⟩]
   rw[e0];refine⟨[(e1,p e1)]++dn',?_,a2,?_,?_⟩
   ·rw[<-List.append_assoc];exact a1
   ·rw[<-List.append_assoc];exact a3
   ·rw[<-List.append_assoc,a4,r2]
  ·have e0:al m p L (n+1) e1 s=(e1,s):=by rw[al,if_neg λz=>h1 z.1]
   rw[e0];exact⟨[],by rw[List.append_nil];exact w,h1,by rw[List.append_nil];exact hs,by rw[List.append_nil]⟩
end
section
variable {S:E->Prop} {m p:E->E} {L:List E}
structure Bw(S:E->Prop)(m p:E->E)(L:List E)(dn:List (E×E)):Prop where
 sn:Sn S L p dn
 fr:∀z∈L,off S dn z->(run dn m 0).1 z=m z
 i5:∀z,S z->z∉L->(run dn m 0).1 z∈L->(run dn m 0).1 z=m z
theorem Bw.nil:Bw S m p L []:=⟨⟨⟨List.nodup_nil,λe he=>(by cases he)⟩,λq hq=>(by cases hq)⟩,λ_ _ _=>rfl,λ_ _ _ _=>rfl⟩
variable (hm:Mt S m) (pt:Pt S L p)
include hm pt
theorem stay{z:E}(hz:S z)(hL:z∉L):∀(dn' dn:List (E×E)),Sn S L p (dn++dn')->(run dn m 0).1 z∉L->(run (dn++dn') m 0).1 z=(run dn m 0).1 z
 |[],dn,_,_=>by rw[List.append_nil]
 |q::dn',dn,hs,h=>by
  have e:dn++q::dn'=(dn++[q])++dn':=by simp
  rw[e] at hs ⊢;have hq:=hs.pp q (by simp);have h1:Pr S (dn++[q]):=by
   have:=hs.pr;refine⟨?_,λe he=>this.2 e (by rw[ends_app,List.mem_append];exact .inl he)⟩;have nd:=this.1;rw[ends_app,List.nodup_append] at nd;exact nd.1
  have h0:Pr S dn:=by
   refine⟨?_,λe he=>h1.2 e (by rw[ends_app,List.mem_append];exact .inl he)⟩;have nd:=h1.1;rw[ends_app,List.nodup_append] at nd;exact nd.1
  have mt:=wF (r:=0) hm h0;have oz:off S dn z:=(cF ..).mpr ⟨hz,λw=>hL ?_⟩
  ·have k:(run (dn++[q]) m 0).1 z=(run dn m 0).1 z:=by
    rw[CG];show(if z=(run dn m 0).1 q.1 then _ else if z=(run dn m 0).1 q.2 then _ else (run dn m 0).1 z)=_;have oq:∀x∈[q.1,q.2],off S dn x:=λx hx=>by
     have nd:=h1.1;rw[ends_app,List.nodup_append] at nd;have hx':x∈ends [q]:=hx;exact(cF ..).mpr ⟨h1.2 x (by rw[ends_app,List.mem_append];exact .inr hx'),λw=>nd.2.2 x w x hx' rfl⟩
    rw[if_neg (λw=>h (by rw[w,mt.inv _ (oq _ (by simp))];exact hq.1)),if_neg (λw=>h (by rw[w,mt.inv _ (oq _ (by simp)),hq.2];exact pt.par _ hq.1))]
   rw[stay hz hL dn' (dn++[q]) hs (by rw[k];exact h),k]
  ·have:z∈ends (dn++[q]++dn'):=by rw[ends_app,ends_app,List.mem_append,List.mem_append];exact .inl (.inl w)
   exact hs.sub pt z this
theorem path{dn:List (E×E)}(b:Bw S m p L dn){e:E}(he:S e)(heL:e∉L){n:Nat}{s:List E}(hs:∀z,z∈s↔z∈ends dn)(hn:L.length<2*n+(ends dn).length):∃dn',Bw S m p L (dn++dn')/\(∀z,z∈(al m p L n (m e) s).2↔z∈ends (dn++dn'))/\(run (dn++dn') m 0).1 e∉L/\(run (dn++dn') m 0).2=(run dn m 0).2/\((m e∈L->m e∉ends dn)->(al m p L n (m e) s).1=(run (dn++dn') m 0).1 e):=by
 have mt:=wF (r:=0) hm b.sn.pr;have oe:off S dn e:=(cF ..).mpr ⟨he,λz=>heL (b.sn.sub pt e z)⟩;have ome:=mt.in_ e oe;by_cases h1:m e∈L/\m e∉ends dn
 ·have ox:off S dn (m e):=(cF ..).mpr ⟨hm.in_ e he,h1.2⟩;have k:(run dn m 0).1 e=m e:=by
   have:=b.fr (m e) h1.1 ox;rw[hm.inv e he] at this;rw[<-mt.inv (m e) ox,this]
  have w:Wk S m p L dn e (m e):=⟨b.sn,oe,k,λz zL zo _ _=>b.fr z zL zo,λz zS zL _ _=>b.i5 z zS zL⟩
  obtain⟨dn',a1,a2,a3,a4⟩:=walk hm pt n w heL hs hn;generalize al m p L n (m e) s=A at a1 a2 a3;have mt2:=wF (r:=0) hm a1.sn.pr;refine⟨dn',⟨a1.sn,λz zL zo=>a1.fr z zL zo (λq=>a2 (q▸zL)) (λq=>heL (q▸zL)),λz zS zL=>?_⟩,a3,by rw[a1.h1];exact a2,a4,λ_=>a1.h1.symm⟩;by_cases z1:z=e
  ·subst z1;rw[a1.h1];exact λq=>absurd q a2
  ·by_cases z2:z=A.1
   ·subst z2;rw[(a1.off1 hm pt).2.2];exact λq=>absurd q heL
   ·exact a1.i5 z zS zL z1 z2
 ·have hA:al m p L n (m e) s=(m e,s):=by
   cases n with
   |zero=>rfl
   |succ n=>rw[al,if_neg (by rw[hs];exact h1)]
  rw[hA];have k:(run dn m 0).1 e∉L:=λq=>by
   have:=b.i5 e he heL q;rw[this] at q ome;exact h1 ⟨q,((cF ..).mp ome).2⟩
  refine⟨[],by rw[List.append_nil];exact b,by rw[List.append_nil];exact hs,by rw[List.append_nil];exact k,by rw[List.append_nil],λhq=>?_⟩;rw[List.append_nil];have hnL:m e∉L:=λq=>h1 ⟨q,hq q⟩
  -- m e was never hooked,so e has its mate still
  have om:off S dn (m e):=(cF ..).mpr ⟨hm.in_ e he,λq=>hnL (b.sn.sub pt _ q)⟩;have st:=stay hm pt he heL dn [] (by rw[List.nil_append];exact b.sn) hnL;rw[List.nil_append] at st;exact st.symm
end
section
variable {S:E->Prop} {m p:E->E} {L:List E}
variable (hm:Mt S m) (pt:Pt S L p)
include hm pt
theorem aG2(n:Nat){x:E}{s:List E}(h:x∈s):al m p L n x s=(x,s):=by
 cases n with
 |zero=>rfl
 |succ n=>rw[al,if_neg λz=>z.2 h]
theorem cyc:∀(n:Nat){dn:List (E×E)}{e e1:E}{s:List E},Wk S m p L dn e e1->e∈L->(m e=e1\/m e∈ends dn)->(∀z,S z->z∉L->(run dn m 0).1 z∉L)->(∀z,z∈s↔z∈ends dn)->L.length<2*n+(ends dn).length->∃dn',Bw S m p L (dn++dn')/\(∀z,z∈(al m p L n e1 s).2↔z∈ends (dn++dn'))/\(∀z,S z->z∉L->(run (dn++dn') m 0).1 z∉L)/\(run (dn++dn') m 0).2=(run dn m 0).2+1/\e∈ends (dn++dn')
 |0,dn,e,e1,s,w,he,hq,q4,hs,hn=>by
  have:=len_sub w.sn.pr.1 (w.sn.sub pt);lia
 |n+1,dn,e,e1,s,w,he,hq,q4,hs,hn=>by
  have mt:=wF (r:=0) hm w.sn.pr;obtain⟨o1,n1,b1⟩:=w.off1 hm pt;have hns:e1∉s:=λz=>((cF ..).mp o1).2 ((hs e1).mp z)
  have h1:e1∈L:=Decidable.byContradiction λz=>q4 e1 ((cF ..).mp o1).1 z (by rw[b1];exact he)
  have e0:al m p L (n+1) e1 s=al m p L n (m (p e1)) (s++[e1,p e1]):=by rw[al,if_pos ⟨h1,hns⟩]
  rw[e0];have hs2:∀z,z∈s++[e1,p e1]↔z∈ends (dn++[(e1,p e1)]):=λz=>by
   rw[ends_app,List.mem_append,List.mem_append,hs z];rfl
  have oo:∀z,off S (dn++[(e1,p e1)]) z↔off S dn z/\z≠e1/\z≠p e1:=λz=>by
   rw[cF,cF,ends_app,List.mem_append];simp only[ends,List.mem_cons,List.not_mem_nil,or_false,not_or]
   grind
  have ma:=CG dn [(e1,p e1)] m 0;have m1:(run (dn++[(e1,p e1)]) m 0).1=hk (run dn m 0).1 e1 (p e1):=by rw[ma];rfl
  have m2:(run (dn++[(e1,p e1)]) m 0).2=(run dn m 0).2+rg (run dn m 0).1 e1 (p e1):=by rw[ma];rfl
  have same:∀z,z≠e->z≠(run dn m 0).1 (p e1)->(run (dn++[(e1,p e1)]) m 0).1 z=(run dn m 0).1 z:=λz z1 z2=>by
   rw[m1];show(if z=(run dn m 0).1 e1 then _ else if z=(run dn m 0).1 (p e1) then _ else (run dn m 0).1 z)=_;rw[if_neg (by rw[b1];exact z1),if_neg z2]
  by_cases hne:p e1=e
  ·-- round
   have me:(run dn m 0).1 e=e1:=w.h1;have hst:al m p L n (m (p e1)) (s++[e1,p e1])=(m (p e1),s++[e1,p e1]):=by
    refine aG2 hm pt n ?_;rw[hne];rcases hq with z|z
    ·simp[z]
    ·exact List.mem_append_left _ ((hs _).mpr z)
   rw[hst];have hsn:Sn S L p (dn++[(e1,p e1)]):=by
    refine⟨⟨?_,λz hz=>?_⟩,λq hq=>?_⟩
    ·rw[ends_app,List.nodup_append];refine⟨w.sn.pr.1,by simp[ends];exact Ne.symm (pt.ne e1 h1),λa ha b hb z=>?_⟩;subst z;have hb:a∈[e1,p e1]:=hb;rcases List.mem_cons.mp hb with rfl|hb
     ·exact((cF ..).mp o1).2 ha
     ·rw[List.mem_singleton,hne] at hb;subst hb;exact((cF ..).mp w.he).2 ha
    ·rw[ends_app,List.mem_append] at hz;rcases hz with hz|hz
     ·exact w.sn.pr.2 z hz
     ·have hz:z∈[e1,p e1]:=hz;rcases List.mem_cons.mp hz with rfl|hz
      ·exact pt.in_ _ h1
      ·rw[List.mem_singleton] at hz;subst hz;exact pt.in_ _ (pt.par _ h1)
    ·rcases List.mem_append.mp hq with hq|hq
     ·exact w.sn.pp q hq
     ·rw[List.mem_singleton] at hq;subst hq;exact⟨h1,rfl⟩
   have q4':∀z,S z->z∉L->(run (dn++[(e1,p e1)]) m 0).1 z∉L:=λz zS zL=>by
    rw[same z (λq=>zL (q▸he)) (by rw[hne,me];exact λq=>zL (q▸h1))];exact q4 z zS zL
   refine⟨[(e1,p e1)],⟨hsn,λz zL zo=>?_,λz zS zL q=>absurd q (q4' z zS zL)⟩,hs2,q4',?_,?_⟩
   ·obtain⟨y1,y2,y3⟩:=(oo z).mp zo;rw[same z (by rw[<-hne];exact y3) (by rw[hne,me];exact y2)];exact w.fr z zL y1 y2 (by rw[<-hne];exact y3)
   ·rw[m2];unfold rg;rw[if_pos (by rw[b1,hne])]
   ·rw[ends_app,List.mem_append];exact .inr (by show e∈[e1,p e1];simp[hne])
  ·obtain⟨w2,r2⟩:=w.next hm pt h1 hne
   have oy:off S dn (p e1):=by
    rw[cF] at o1 ⊢;exact⟨pt.in_ _ (pt.par _ h1),λz=>o1.2 (w.sn.shut pt e1 h1 z)⟩
   have my:=w.fr (p e1) (pt.par _ h1) oy (pt.ne e1 h1) hne;have q4':∀z,S z->z∉L->(run (dn++[(e1,p e1)]) m 0).1 z∉L:=λz zS zL=>by
    rw[same z (λq=>zL (q▸he)) (λq=>?_)]
    ·exact q4 z zS zL
    ·refine q4 z zS zL ?_;rw[q,mt.inv _ oy];exact pt.par _ h1
   have hq':m e=m (p e1)\/m e∈ends (dn++[(e1,p e1)]):=by
    rw[ends_app,List.mem_append];rcases hq with z|z
    ·exact .inr (.inr (by show m e∈[e1,p e1];simp[z]))
    ·exact .inr (.inl z)
   obtain⟨dn',a1,a2,a3,a4,a5⟩:=cyc n w2 he hq' q4' hs2 (by rw[ends_app,List.length_append];show L.length<2*n+((ends dn).length+2);lia);refine⟨[(e1,p e1)]++dn',?_,?_,?_,?_,?_⟩
   ·rw[<-List.append_assoc];exact a1
   ·rw[<-List.append_assoc];exact a2
   ·rw[<-List.append_assoc];exact a3
   ·rw[<-List.append_assoc,a4,r2]
   ·rw[<-List.append_assoc];exact a5
theorem ring{dn:List (E×E)}(b:Bw S m p L dn)(q4:∀z,S z->z∉L->(run dn m 0).1 z∉L){x:E}(hx:x∈L)(hxn:x∉ends dn){n:Nat}{s:List E}(hs:∀z,z∈s↔z∈ends dn)(hn:L.length<2*n+(ends dn).length):∃dn',Bw S m p L (dn++dn')/\(∀z,z∈(al m p L n (m (p x)) s).2↔z∈ends (dn++dn'))/\(∀z,S z->z∉L->(run (dn++dn') m 0).1 z∉L)/\(run (dn++dn') m 0).2=(run dn m 0).2+1/\x∈ends (dn++dn'):=by
 have hpx:=pt.par x hx;have oy:off S dn (p x):=(cF ..).mpr ⟨pt.in_ _ hpx,λz=>hxn (b.sn.shut pt x hx z)⟩;have w:Wk S m p L dn (p x) (m (p x)):=⟨b.sn,oy,b.fr _ hpx oy,λz zL zo _ _=>b.fr z zL zo,λz zS zL _ _=>b.i5 z zS zL⟩
 obtain⟨dn',a1,a2,a3,a4,a5⟩:=cyc hm pt n w hpx (.inl rfl) q4 hs hn;refine⟨dn',a1,a2,a3,a4,a1.sn.shut pt x hx a5⟩
end
theorem bY:∀{d:List (E×E)}{q:E×E},q∈d->q.1∈ends d/\q.2∈ends d
 |x::d,q,h=>by
  rcases List.mem_cons.mp h with rfl|h
  ·exact⟨by simp[ends],by simp[ends]⟩
  ·obtain⟨a,b⟩:=bY h;exact⟨by simp[ends,a],by simp[ends,b]⟩
theorem N_:∀{d:List (E×E)}{e:E},e∈ends d->∃q∈d,q.1=e\/q.2=e
 |x::d,e,h=>by
  have h:e∈x.1::x.2::ends d:=h;rcases List.mem_cons.mp h with rfl|h
  ·exact⟨x,by simp,.inl rfl⟩
  ·rcases List.mem_cons.mp h with rfl|h
   ·exact⟨x,by simp,.inr rfl⟩
   ·obtain⟨q,a,b⟩:=N_ h;exact⟨q,by simp[a],b⟩
theorem cross:∀{d:List (E×E)}{q q':E×E},(ends d).Nodup->q∈d->q'∈d->q'.1≠q.2
 |x::d,q,q',nd,h,h'=>by
  have nd:(x.1::x.2::ends d).Nodup:=nd;rw[List.nodup_cons,List.nodup_cons] at nd;obtain⟨n1,n2,n3⟩:=nd;intro z;rcases List.mem_cons.mp h with e|k<;>rcases List.mem_cons.mp h' with e'|k'
  ·subst e;subst e';exact n1 (by simp[z])
  ·subst e;exact n2 (z▸(bY k').1)
  ·subst e';exact n1 (by rw[z];exact List.mem_cons_of_mem _ (bY k).2)
  ·exact cross n3 k k' z
theorem aG3:∀{d:List (E×E)},(ends d).Nodup->d.Nodup
 |[],_=>.nil
 |x::d,nd=>by
  have nd:(x.1::x.2::ends d).Nodup:=nd;rw[List.nodup_cons,List.nodup_cons] at nd;rw[List.nodup_cons];exact⟨λh=>nd.2.1 (bY h).2,aG3 nd.2.2⟩
noncomputable def tn(d2:List (E×E))(q:E×E):E×E:=if q∈d2 then q else (q.2,q.1)
theorem Y_(d2:List (E×E)):∀d:List (E×E),Trn d (d.map (tn d2))
 |[]=>.nil
 | (x,y)::d=>by
  rw[List.map_cons];unfold tn;split
  ·exact .keep (Y_ d2 d)
  ·exact .turn (Y_ d2 d)
theorem RG{S:E->Prop}{L:List E}{p m:E->E}{r:Nat}{d1 d2:List (E×E)}(hm:Mt S m)(pt:Pt S L p)(s1:Sn S L p d1)(s2:Sn S L p d2)(c1:∀e∈L,e∈ends d1)(c2:∀e∈L,e∈ends d2) :
  (run d1 m r).2=(run d2 m r).2/\∀e,off S d1 e->(run d1 m r).1 e=(run d2 m r).1 e:=by
 obtain⟨t1,t2⟩:=Y9 (Y_ d2 d1) (r:=r) hm s1.pr;have nd':(ends (d1.map (tn d2))).Nodup:=t2.nodup_iff.mpr s1.pr.1;have sub:∀q∈d1,tn d2 q∈d2:=λq hq=>by
  unfold tn;split
  ·assumption
  ·rename_i hn;obtain⟨a1,a2⟩:=s1.pp q hq;obtain⟨q',b1,b2⟩:=N_ (c2 _ a1);obtain⟨a3,a4⟩:=s2.pp q' b1;rcases b2 with b2|b2
   ·exact absurd (show q∈d2 by rw[show q=q' from Prod.ext b2.symm (by rw[a2,a4,b2])];exact b1) hn
   ·rw[show(q.2,q.1)=q' from Prod.ext (show q.2=q'.1 by rw[a2,<-b2,a4,pt.inv _ a3]) b2.symm];exact b1
 have pm:(d1.map (tn d2)).Perm d2:=by
  refine(List.perm_ext_iff_of_nodup (aG3 nd') (aG3 s2.pr.1)).mpr λq=>⟨λh=>?_,λh=>?_⟩
  ·obtain⟨q0,h1,rfl⟩:=List.mem_map.mp h;exact sub q0 h1
  ·obtain⟨a1,a2⟩:=s2.pp q h;obtain⟨q0,b1,b2⟩:=N_ (c1 _ a1);obtain⟨a3,a4⟩:=s1.pp q0 b1;refine List.mem_map.mpr ⟨q0,b1,?_⟩;rcases b2 with b2|b2
   ·have:q0=q:=Prod.ext b2 (by rw[a2,a4,b2]);rw[this,tn,if_pos h]
   ·have e1:q0.1=q.2:=by rw[a2,<-b2,a4,pt.inv _ a3]
    rw[tn,if_neg λz=>cross s2.pr.1 h z e1];exact Prod.ext b2 e1
 obtain⟨g1,g2⟩:=RD pm (S:=S) (m:=m) (r:=r) hm ⟨nd',λe he=>s1.pr.2 e (t2.mem_iff.mp he)⟩;rw[t1] at g1 g2;refine⟨g1,λe he=>g2 e ?_⟩;rw[cF] at he ⊢;exact⟨he.1,λz=>he.2 (t2.mem_iff.mp z)⟩
end
variable {E:Type} [DecidableEq E]
def pa(m p:E->E)(L:List E)(n:Nat):List E->List E->List E
 |[],s=>s
 |e::es,s=>if e∈L then pa m p L n es s else pa m p L n es (al m p L n (m e) s).2
def ri(m p:E->E)(L:List E)(n:Nat):List E->List E->Nat->List E×Nat
 |[],s,r=>(s,r)
 |x::xs,s,r=>if x∈s then ri m p L n xs s r else ri m p L n xs (al m p L n (m (p x)) s).2 (r+1)
section
variable {S:E->Prop} {m p:E->E} {L:List E}
variable (hm:Mt S m) (pt:Pt S L p)
include hm pt
theorem paths{n:Nat}(hn:L.length<2*n):∀(es:List E){dn:List (E×E)}{s:List E},Bw S m p L dn->(∀z,z∈s↔z∈ends dn)->(∀e∈es,S e)->∃dn',Bw S m p L (dn++dn')/\(∀z,z∈pa m p L n es s↔z∈ends (dn++dn'))/\(∀e∈es,e∉L->(run (dn++dn') m 0).1 e∉L)/\(run (dn++dn') m 0).2=(run dn m 0).2
 |[],dn,s,b,hs,_=>⟨[],by rw[List.append_nil];exact⟨b,hs,λe he=>(by cases he),rfl⟩⟩
 |e::es,dn,s,b,hs,he=>by
  by_cases h:e∈L
  ·obtain⟨d,a1,a2,a3,a4⟩:=paths hn es b hs λe z=>he e (by simp[z])
   refine⟨d,a1,by rw[pa,if_pos h];exact a2,λz hz hzL=>?_,a4⟩;rcases List.mem_cons.mp hz with rfl|hz
   ·exact absurd h hzL
   ·exact a3 z hz hzL
  ·obtain⟨d,a1,a2,a3,a4,_⟩:=path hm pt b (he e (by simp)) h (n:=n) hs (by lia);obtain⟨d2,b1,b2,b3,b4⟩:=paths hn es a1 a2 λe z=>he e (by simp[z])
   rw[List.append_assoc] at b1 b2 b3 b4;refine⟨d++d2,b1,by rw[pa,if_neg h];exact b2,λz hz hzL=>?_,b4.trans a4⟩;rcases List.mem_cons.mp hz with rfl|hz
   ·have:=stay hm pt (he z (by simp)) h d2 (dn++d) (by rw[List.append_assoc];exact b1.sn) a3;rw[List.append_assoc] at this;rw[this];exact a3
   ·exact b3 z hz hzL
theorem rings{n:Nat}(hn:L.length<2*n):∀(xs:List E){dn:List (E×E)}{s:List E}{r:Nat},Bw S m p L dn->(∀z,S z->z∉L->(run dn m 0).1 z∉L)->(∀z,z∈s↔z∈ends dn)->(∀x∈xs,x∈L)->∃dn',Bw S m p L (dn++dn')/\(∀z,S z->z∉L->(run (dn++dn') m 0).1 z∉L)/\(ri m p L n xs s r).2+(run dn m 0).2=r+(run (dn++dn') m 0).2/\∀x∈xs,x∈ends (dn++dn')
 |[],dn,s,r,b,q4,hs,_=>⟨[],by rw[List.append_nil];exact⟨b,q4,rfl,λe he=>(by cases he)⟩⟩
 |x::xs,dn,s,r,b,q4,hs,hx=>by
  by_cases h:x∈s
  ·obtain⟨d,a1,a2,a3,a4⟩:=rings hn xs (r:=r) b q4 hs λe z=>hx e (by simp[z])
   refine⟨d,a1,a2,by rw[ri,if_pos h];exact a3,λz hz=>?_⟩;rcases List.mem_cons.mp hz with rfl|hz
   ·rw[ends_app,List.mem_append];exact .inl ((hs z).mp h)
   ·exact a4 z hz
  ·obtain⟨d,a1,a2,a3,a4,a5⟩:=ring hm pt b q4 (hx x (by simp)) (λz=>h ((hs x).mpr z)) (n:=n) hs (by lia);obtain⟨d2,b1,b2,b3,b4⟩:=rings hn xs (r:=r+1) a1 a3 a2 λe z=>hx e (by simp[z])
   rw[List.append_assoc] at b1 b2 b3 b4;refine⟨d++d2,b1,b2,by rw[ri,if_neg h];lia,λz hz=>?_⟩;rcases List.mem_cons.mp hz with rfl|hz
   ·rw[<-List.append_assoc,ends_app,List.mem_append];exact .inl a5
   ·exact b4 z hz
theorem onto{n:Nat}(hn:L.length<2*n){es xs:List E}(hes:∀z,z∈es↔S z)(hxs:∀x,x∈xs↔x∈L){dn:List (E×E)}{s:List E}(b:Bw S m p L dn)(hs:∀z,z∈s↔z∈ends dn) :
  ∃dn',Bw S m p L (dn++dn')/\(ri m p L n xs (pa m p L n es s) 0).2+(run dn m 0).2=(run (dn++dn') m 0).2/\∀e∈L,e∈ends (dn++dn'):=by
 obtain⟨d,a1,a2,a3,a4⟩:=paths hm pt hn es b hs λe z=>(hes e).mp z
 obtain⟨d2,b1,b2,b3,b4⟩:=rings hm pt hn xs (r:=0) a1 (λz z1 z2=>a3 z ((hes z).mpr z1) z2) a2 λe z=>(hxs e).mp z
 rw[List.append_assoc] at b1 b2 b3 b4;exact⟨d++d2,b1,by lia,λe z=>b4 e ((hxs e).mpr z)⟩
theorem walked{n:Nat}(hn:L.length<2*n){es xs:List E}(hes:∀z,z∈es↔S z)(hxs:∀x,x∈xs↔x∈L){dd:List (E×E)}(sd:Sn S L p dd)(cd:∀e∈L,e∈ends dd) :
  (ri m p L n xs (pa m p L n es []) 0).2=(run dd m 0).2/\∀e,S e->e∉L->(al m p L n (m e) []).1=(run dd m 0).1 e/\(run dd m 0).1 e∉L:=by
 have h0:∀z:E,z∈([]:List E)↔z∈ends ([]:List (E×E)):=λz=>Iff.rfl
 obtain⟨d,a1,a2,a3⟩:=onto hm pt hn hes hxs Bw.nil h0;have a4:=RG (r:=0) hm pt a1.sn sd a3 cd;refine⟨by rw[<-a4.1,<-a2];rfl,λe he heL=>?_⟩;obtain⟨d1,c1,c2,c3,c4,c5⟩:=path hm pt Bw.nil he heL (n:=n) h0 (by lia);obtain⟨d2,g1,g2,g3⟩:=onto hm pt hn hes hxs c1 c2;have k1:=stay hm pt he heL d2 ([]++d1) g1.sn c3;have k2:=RG (r:=0) hm pt g1.sn sd g3 cd;have off1:off S ([]++d1++d2) e:=(cF ..).mpr ⟨he,λz=>heL (g1.sn.sub pt e z)⟩;have k3:=k2.2 e off1;refine⟨?_,?_⟩
 ·rw[c5 λ_ z=>(by cases z),<-k3,k1]
 ·rw[<-k3,k1];exact c3
end
end Hk
namespace Lk08
open PySem L2 Mi
noncomputable abbrev Pt:=Int×Int
noncomputable def enP(p:Pt):D:=.tup [.int p.1,.int p.2]
abbrev Tie:=Pt×Pt
def bI(t:Tie):D:=.tup [enP t.1,enP t.2]
theorem qO(p q:Pt):eqD (enP p) (enP q)=decide (p=q):=by
 obtain⟨a,b⟩:=p;obtain⟨c,d⟩:=q;by_cases h1:a=c<;>by_cases h2:b=d<;>simp[enP,eqD,vG,h1,h2]
def ltP(p q:Pt):Prop:=p.1<q.1\/p.1=q.1/\p.2<q.2
noncomputable instance (p q:Pt):Decidable (ltP p q):=by unfold ltP;infer_instance
theorem wH(p q:Pt):iU .lt (enP p) (enP q)=some (decide (ltP p q)):=by
 obtain⟨a,b⟩:=p;obtain⟨c,d⟩:=q;by_cases h1:a=c<;>by_cases h2:b=d<;>simp[enP,iU,jP,eqD,h1,h2,gW.int,gW.nat,ltP]
theorem aDu(p q:Pt):iU .gt (enP p) (enP q)=some (decide (ltP q p)):=by
 obtain⟨a,b⟩:=p;obtain⟨c,d⟩:=q;by_cases h1:a=c
 ·by_cases h2:b=d<;>simp[enP,iU,jP,eqD,h1,h2,gW.int,gW.nat,ltP]
 ·simp[enP,iU,jP,eqD,h1,gW.int];simp only[ltP];lia
theorem qP(p q:Pt):bR .eq (enP p) (enP q)=.ok (.bl (decide (p=q))):=by
 rw[<-qO];rfl
theorem aG4(p q:Pt):bR .ne (enP p) (enP q)=.ok (.bl (!decide (p=q))):=by
 rw[<-qO];rfl
noncomputable def ends(T:List Tie):List Pt:=T.flatMap λt=>[t.1,t.2]
noncomputable abbrev Pc:=Int×Str
def pcD(c:Pc):D:=.tup [.int c.1,.str c.2]
theorem z2:decide ((2:Nat)<=lim)=true:=rfl
def bG(Q:List Pc)(T:List Tie)(r:Int):D:=.tup [.tup (Q.map pcD),.tup (T.map bI),.int r]
theorem RJ(Q:List Pc):(D.tup (Q.map pcD)).pure=true:=by
 show D.aY (Q.map pcD)=true;induction Q with
 |nil=>rfl
 |cons q Q ih=>rw[List.map_cons,D.aY,ih];rfl
theorem sV(T:List Tie):(D.tup (T.map bI)).pure=true:=by
 show D.aY (T.map bI)=true;induction T with
 |nil=>rfl
 |cons q Q ih=>rw[List.map_cons,D.aY,ih];rfl
theorem wI(l:List Pt):D.aY (l.map enP)=true:=by
 induction l with
 |nil=>rfl
 |cons q Q ih=>rw[List.map_cons,D.aY,ih];rfl
def aG5:FS:=(bK (cC false 9 (b2 (aW .mul) (b2 (aW .mod) (b2 (aW .fdiv) cA WP) rB) (b2 (aW .add) rA rB)) true) (bK (sIf (bTB (b2 (bR .eq) rA mO)) (cC false 9 eO true) j_) (cC false 7 (b2 (aW .add) oZ (b2 getD eF (b2 (aW .mod) (b2 (aW .add) (b2 (aW .fdiv) (b2 (aW .fdiv) cA GJ) (b2 (aW .add) (b2 (aW .mul) rA rA) eO)) (b2 (aW .mul) mQ jW)) WQ))) true)))
def aLr:FS:=(bK (cC false 7 (bC (.str "")) true) (bK (GK (mV (aD cT aR) mC) (tg1 8) (bK (cC false 9 (b2 (aW .mul) (b2 (aW .mod) (b2 (aW .fdiv) cA WP) rB) (b2 (aW .add) rA rB)) true) (bK (sIf (bTB (b2 (bR .eq) rA mO)) (cC false 9 eO true) j_) (cC false 7 (b2 (aW .add) oZ (b2 getD eF (b2 (aW .mod) (b2 (aW .add) (b2 (aW .fdiv) (b2 (aW .fdiv) cA GJ) (b2 (aW .add) (b2 (aW .mul) rA rA) eO)) (b2 (aW .mul) mQ jW)) WQ))) true)))) (bK (yW 5 oZ (b2 (aW .mod) d_ aEw)) (cC false 1 (b2 (aW .fdiv) d_ aEw) true))))
noncomputable def abc:Str:= "abcdefghijklmnopqrstuvwxyz"
theorem letter(i:Int)(h0:0<=i)(h1:i<26):∃c:Str,getD (.str abc) (.int i)=.ok (.str c)/\c.length=1:=by
 have hl:decide (abc.length<=lim)=true:=by decide +kernel
 have h26:abc.cps.toList.length=26:=by decide +kernel
 have hix:ixD abc.cps.toList.length i=some i.toNat:=by
  unfold ixD;rw[if_pos h0,h26,if_pos (by lia)]
 have hlt:i.toNat<abc.cps.toList.length:=by rw[h26];lia
 refine⟨⟨#[abc.cps.toList[i.toNat]]⟩,?_,rfl⟩;show(if decide (abc.length<=lim) then Res.ofOpt (((ixD abc.cps.toList.length i).bind λj=>abc.cps.toList[j]?).map λc=>D.str ⟨#[c]⟩) else .bad)=_;rw[hl,if_pos rfl,hix];simp only[Option.bind_some];rw[List.getElem?_eq_getElem hlt];rfl
theorem xZ{c0 c1 sz at_ k:Int}{dk:D}{ab:Str}(hab:∀i:Int,0<=i->i<26->∃c:Str,getD (.str ab) (.int i)=.ok (.str c)/\c.length=1)(hk0:0<=k)(hk1:k<=10):∀(js:List Nat)(nm:Str)(x y:D),(∀j∈js,j<10)->nm.length+js.length<=1000->∃nm' x' y',nm'.length<=nm.length+js.length/\
  nY (tg1 8) aG5 (js.map λ(j:Nat)=>D.int (0+(j:Int))) [.int c0,.int c1,.str ab,.int sz,.int at_,dk,.int k,.str nm,x,y]=.ok (.nx [.int c0,.int c1,.str ab,.int sz,.int at_,dk,.int k,.str nm',x',y'])
 |[],nm,x,y,_,_=>⟨nm,x,y,by simp,rfl⟩
 |j::js,nm,x,y,hj,hl=>by
  have hj':=hj j (List.mem_cons_self ..);rw[List.length_cons] at hl;generalize hjj:(0+(j:Int))=jj;have b0:0<=jj:=by lia
  have b1:jj<10:=by lia
  have hsq:jj*jj<100:=by
   have:jj*jj<=9*9:=Int.mul_le_mul (by lia) (by lia) b0 (by lia);lia
  have hsq0:0<=jj*jj:=Int.mul_nonneg b0 b0;have f1:=gC c0 192 (by decide) (by decide);have f2:=iI (c0 / 192) 2 (by decide);have f3:=dW jj 2;have f4:=X7 (c0 / 192 % 2) (jj+2) (oE _ (by lia) (by lia));have f5:bR .eq (.int jj) (.int at_)=.ok (.bl (jj==at_)):=rfl;have f6:=gC c0 384 (by decide) (by decide);have f7:=X7 jj jj (oE _ (by lia) (by lia));have f8:=dW (jj*jj) 1;have f9:=gC (c0 / 384) (jj*jj+1) (by lia) (by lia);have pi:∀i:Int,(D.int i).pure=true:=λ_=>rfl
  have ps:∀i:Str,(D.str i).pure=true:=λ_=>rfl
  rw[List.map_cons,nY,hjj];have rest:∀st:Int,∃(cc:Str)(nm':Str)(x' y':D),nm'.length<=nm.length+(js.length+1)/\(cC false 7 (b2 (aW .add) oZ (b2 getD eF (b2 (aW .mod) (b2 (aW .add) (b2 (aW .fdiv) (b2 (aW .fdiv) cA GJ) (b2 (aW .add) (b2 (aW .mul) rA rA) eO)) (b2 (aW .mul) mQ jW)) WQ))) true) [.int c0,.int c1,.str ab,.int sz,.int at_,dk,.int k,.str nm,.int jj,.int st]=.ok (.nx [.int c0,.int c1,.str ab,.int sz,.int at_,dk,.int k,.str (nm++cc),.int jj,.int st])/\
    nY (tg1 8) aG5 (js.map λ(j:Nat)=>D.int (0+(j:Int))) [.int c0,.int c1,.str ab,.int sz,.int at_,dk,.int k,.str (nm++cc),.int jj,.int st]=.ok (.nx [.int c0,.int c1,.str ab,.int sz,.int at_,dk,.int k,.str nm',x',y']):=by
   intro st;have g1:=zW k st (oE _ (by lia) (by lia));have g2:=dW (c0 / 384 / (jj*jj+1)) (k*st);have g3:=iI (c0 / 384 / (jj*jj+1)+k*st) 26 (by decide);obtain⟨cc,g4,g5⟩:=hab ((c0 / 384 / (jj*jj+1)+k*st) % 26) (by lia) (by lia);have g6:=K7 nm cc (by rw[g5,bO];lia);obtain⟨nm',x',y',h1,h2⟩:=xZ (c0:=c0) (c1:=c1) (sz:=sz) (at_:=at_) (dk:=dk) hab hk0 hk1 js (nm++cc) (.int jj) (.int st) (λj hj2=>hj j (List.mem_cons_of_mem _ hj2)) (by rw[str_len,g5];lia);refine⟨cc,nm',x',y',by rw[str_len,g5] at h1;lia,?_,h2⟩;exact bH (aJ rfl (aJ rfl (aJ (aJ (aJ (aJ rfl rfl f6) (aJ (aJ rfl rfl f7) rfl f8) f9) (aJ rfl rfl g1) g2) rfl g3) g4) g6)
  have step:∃st:Int,aG5 [.int c0,.int c1,.str ab,.int sz,.int at_,dk,.int k,.str nm,.int jj,y]=(cC false 7 (b2 (aW .add) oZ (b2 getD eF (b2 (aW .mod) (b2 (aW .add) (b2 (aW .fdiv) (b2 (aW .fdiv) cA GJ) (b2 (aW .add) (b2 (aW .mul) rA rA) eO)) (b2 (aW .mul) mQ jW)) WQ))) true) [.int c0,.int c1,.str ab,.int sz,.int at_,dk,.int k,.str nm,.int jj,.int st]:=by
   cases he:(jj==at_) with
   |true=>
    refine⟨1,?_⟩;exact aL (bH (aJ (aJ (aJ rfl rfl f1) rfl f2) (aJ rfl rfl f3) f4)) (aL (aBu (dD (aJ rfl rfl (f5.trans (by rw[he])))) rfl) rfl)
   |false=>
    refine⟨c0 / 192 % 2*(jj+2),?_⟩;exact aL (bH (aJ (aJ (aJ rfl rfl f1) rfl f2) (aJ rfl rfl f3) f4)) (aL (aBu (dD (aJ rfl rfl (f5.trans (by rw[he])))) rfl) rfl)
  obtain⟨st,step⟩:=step;obtain⟨cc,nm',x',y',h1,s7,h2⟩:=rest st;refine⟨nm',x',y',h1,?_⟩;have tgx:tg1 8 (.int jj) [.int c0,.int c1,.str ab,.int sz,.int at_,dk,.int k,.str nm,x,y]=.ok [.int c0,.int c1,.str ab,.int sz,.int at_,dk,.int k,.str nm,.int jj,y]:=rfl;rw[tgx,Res.aV,step,s7,Res.aV];exact h2
def iG(kvs:List (D×D)):Prop:=∀p∈kvs,∃(s:Str)(v:Int),p=(.str s,.int v)/\0<=v/\v<=6
theorem JD{s:Str}{v:Int}(h0:0<=v)(h1:v<=6):∀{kvs:List (D×D)},iG kvs->iG (putD kvs (.str s) (.int v))/\(putD kvs (.str s) (.int v)).length<=kvs.length+1/\putD kvs (.str s) (.int v)≠[]
 |[],h=>⟨λp hp=>⟨s,v,by simpa[putD] using hp,h0,h1⟩,by simp[putD],by simp[putD]⟩
 | (k,w)::r,h=>by
  obtain⟨i1,i2,i3⟩:=JD (s:=s) h0 h1 (kvs:=r) λp hp=>h p (List.mem_cons_of_mem _ hp)
  rw[putD];split
  ·obtain⟨s',v',e,_⟩:=h _ (List.mem_cons_self ..);cases e;refine⟨λp hp=>?_,by simp,by simp⟩;rcases List.mem_cons.mp hp with rfl|hp
   ·exact⟨s',v,rfl,h0,h1⟩
   ·exact h p (List.mem_cons_of_mem _ hp)
  ·refine⟨λp hp=>?_,by simp only[List.length_cons];lia,by simp⟩;rcases List.mem_cons.mp hp with rfl|hp
   ·exact h _ (List.mem_cons_self ..)
   ·exact i1 p hp
theorem ZC{kvs:List (D×D)}(h:iG kvs)(s:Str):t_ kvs (.str s)=true:=by
 unfold t_;rw[show keyOk (.str s)=true from rfl,Bool.true_and,List.all_eq_true];intro p hp;obtain⟨s',v',rfl,_⟩:=h p hp;rfl
theorem range_all(n:Nat):∀j∈List.range n,j<n:=λj hj=>List.mem_range.mp hj
theorem x_{c0 sz at_:Int}{ab:Str}(hab:∀i:Int,0<=i->i<26->∃c:Str,getD (.str ab) (.int i)=.ok (.str c)/\c.length=1)(hs0:0<=sz)(hs1:sz<=9):∀(ks:List Nat)(c1:Int)(kvs:List (D×D))(x6 x7 x8 x9:D),(∀k∈ks,k<10)->iG kvs->kvs.length+ks.length<=1000->
  ∃c1' kvs' y6 y7 y8 y9,iG kvs'/\(ks≠[]\/kvs≠[]->kvs'≠[])/\kvs'.length<=kvs.length+ks.length/\
  nY (tg1 6) aLr (ks.map λ(j:Nat)=>D.int (0+(j:Int))) [.int c0,.int c1,.str ab,.int sz,.int at_,.dct kvs,x6,x7,x8,x9]=.ok (.nx [.int c0,c1',.str ab,.int sz,.int at_,.dct kvs',y6,y7,y8,y9])
 |[],c1,kvs,x6,x7,x8,x9,_,hk,_=>⟨.int c1,kvs,x6,x7,x8,x9,hk,λh=>h.elim (λz=>absurd rfl z) id,by simp,rfl⟩
 |k::ks,c1,kvs,x6,x7,x8,x9,hks,hk,hl=>by
  have hk':=hks k (List.mem_cons_self ..);rw[List.length_cons] at hl;generalize hkk:(0+(k:Int))=kk;obtain⟨nm,u8,u9,_,hin⟩:=xZ (c0:=c0) (c1:=c1) (sz:=sz) (at_:=at_) (k:=kk) (dk:=.dct kvs) hab (by lia) (by lia) (List.range sz.toNat) "" x8 x9 (λj hj=>by have:=range_all _ j hj;lia) (by
   rw[List.length_range];have:("" : Str).length=0:=rfl;lia)
  obtain⟨i1,i2,i3⟩:=JD (s:=nm) (v:=c1 % 7) (by lia) (by lia) hk;obtain⟨c1',kvs',y6,y7,y8,y9,j1,j2,j3,j4⟩:=x_ hab hs0 hs1 ks (c1 / 7) (putD kvs (.str nm) (.int (c1 % 7))) (.int kk) (.str nm) u8 u9 (λj hj=>hks j (List.mem_cons_of_mem _ hj)) i1 (by lia);refine⟨c1',kvs',y6,y7,y8,y9,j1,λ_=>j2 (.inr i3),by simp only[List.length_cons];lia,?_⟩;rw[List.map_cons,hkk];have m7:=iI c1 7 (by decide);have d7:=gC c1 7 (by decide) (by decide);refine cD (ρ1:=[.int c0,.int c1,.str ab,.int sz,.int at_,.dct kvs,.int kk,x7,x8,x9]) rfl ?_ j4;refine aL (ρ':=[.int c0,.int c1,.str ab,.int sz,.int at_,.dct kvs,.int kk,.str "",x8,x9]) (bH rfl) ?_;refine aL (ρ':=[.int c0,.int c1,.str ab,.int sz,.int at_,.dct kvs,.int kk,.str nm,u8,u9]) (m_ (rP (n:=sz) (aC rfl rfl) hs0 (by lia)) hin) ?_;refine aL (ρ':=[.int c0,.int c1,.str ab,.int sz,.int at_,.dct (putD kvs (.str nm) (.int (c1 % 7))),.int kk,.str nm,u8,u9]) (uF (kvs:=kvs) (aJ rfl rfl m7) rfl rfl (by rw[bO];lia) (ZC hk nm) rfl) ?_;exact bH (aJ rfl rfl d7)
theorem aCd(c0 c1:Int):∃kvs,iG kvs/\kvs≠[]/\kvs.length<=5/\g_ [.int c0,.int c1]=.ok (.dct kvs):=by
 have m8:=iI c0 8 (by decide);have a1:=dW 1 (c0 % 8);have f8:=gC c0 8 (by decide) (by decide);have ms:=iI (c0 / 8) (1+c0 % 8) (by lia);have f64:=gC c0 64 (by decide) (by decide);have m3:=iI (c0 / 64) 3 (by decide);have a3:=dW 3 (c0 / 64 % 3);obtain⟨c1',kvs',y6,y7,y8,y9,j1,j2,j3,j4⟩:=x_ (c0:=c0) (sz:=1+c0 % 8) (at_:=c0 / 8 % (1+c0 % 8)) (ab:=abc) letter (by lia) (by lia) (List.range (3+c0 / 64 % 3).toNat) c1 [] .uD .uD .uD .uD (λj hj=>by have:=range_all _ j hj;lia) (λp hp=>by cases hp) (by rw[List.length_range];simp;lia);refine⟨kvs',j1,j2 (.inl λz=>?_),by rw[List.length_range] at j3;simp at j3;lia,?_⟩
 ·have:=congrArg List.length z;rw[List.length_range] at this;simp at this;lia
 ·have e:nC [.int c0,.int c1,.uD,.uD,.uD,.uD,.uD,.uD,.uD,.uD]=.ok (.rt (.dct kvs')):=by
   refine aL (ρ':=[.int c0,.int c1,.str abc,.uD,.uD,.uD,.uD,.uD,.uD,.uD]) (bH rfl) ?_;refine aL (ρ':=[.int c0,.int c1,.str abc,.int (1+c0 % 8),.uD,.uD,.uD,.uD,.uD,.uD]) (bH (aJ rfl (aJ rfl rfl m8) a1)) ?_;refine aL (ρ':=[.int c0,.int c1,.str abc,.int (1+c0 % 8),.int (c0 / 8 % (1+c0 % 8)),.uD,.uD,.uD,.uD,.uD]) (bH (aJ (aJ rfl rfl f8) rfl ms)) ?_;refine aL (ρ':=[.int c0,.int c1,.str abc,.int (1+c0 % 8),.int (c0 / 8 % (1+c0 % 8)),.dct [],.uD,.uD,.uD,.uD]) (fZ rfl rfl) ?_;refine aL (m_ (rP (n:=3+c0 / 64 % 3) (aC (aJ rfl (aJ (aJ rfl rfl f64) rfl m3) a3) rfl) (by lia) (by lia)) j4) ?_;rfl
  show(do let r <- nC _;aD4 r)=_;rw[show([D.int c0,D.int c1]++List.replicate (10-2) D.uD)=[.int c0,.int c1,.uD,.uD,.uD,.uD,.uD,.uD,.uD,.uD] from rfl,e];rfl
theorem ZD(L:List Pt)(i:Int)(h0:0<=i)(h1:i<L.length):∃p∈L,getD (.lst (L.map enP)) (.int i)=.ok (enP p):=by
 obtain⟨h,e⟩:=o9 (L.map enP) i h0 (by simpa using h1);rw[List.length_map] at h;refine⟨L[i.toNat],List.getElem_mem _,?_⟩;rw[e];simp
theorem aCe(o:gW)(a b:Pt)(r:Pt->Pt->Prop)[∀x y,Decidable (r x y)](h:∀x y,iU o (enP x) (enP y)=some (decide (r x y))):fO o [enP a,enP b]=.ok (enP (if r b a then b else a)):=by
 show mR o [enP a,enP b]=_;have hall:([enP a,enP b].all λx=>x.fJ aN&&[enP a,enP b].all λy=>(iU o x y).isSome)=true:=by
  simp only[List.all_cons,List.all_nil,h,Option.isSome_some,Bool.and_true];rfl
 rw[mR,if_pos hall];simp only[List.foldl_cons,List.foldl_nil,h,Option.getD_some];by_cases hr:r b a
 ·simp[hr]
 ·simp[hr]
theorem aCf{α:Type}[DecidableEq α]{L:List α}(hn:L.Nodup){a:α}(ha:a∈L):(L.filter λx=>!decide (x=a)).length+1=L.length:=by
 induction L with
 |nil=>cases ha
 |cons x L ih=>
  rw[List.nodup_cons] at hn;rw[List.filter_cons];by_cases h:x=a
  ·subst h;have:(L.filter λy=>!decide (y=x))=L:=List.filter_eq_self.mpr λy hy=>by
    have:y≠x:=λz=>hn.1 (z▸hy)
    simp[this]
   simp[this]
  ·rw[if_pos (by simp[h])];rcases List.mem_cons.mp ha with rfl|ha
   ·exact absurd rfl h
   ·have:=ih hn.2 ha;simp only[List.length_cons];lia
theorem aG6(L:List Pt)(more:Int)(hn:L.Nodup)(h2:2<=L.length)(hl:L.length<=100000):∃a b,a∈L/\b∈L/\ltP a b/\eE [.lst (L.map enP),.int more]=.ok (bI (a,b)):=by
 have hpos:(0:Int)<(L.length:Int):=by lia
 have g0:=iI more L.length hpos;obtain⟨one,h1,e1⟩:=ZD L (more % L.length) (Int.emod_nonneg _ (by lia)) (Int.emod_lt_of_pos _ hpos);have hf:=aCf hn h1
 let R:=L.filter λx=>!decide (x=one)
 have hR:R.length+1=L.length:=hf;have hRp:(0:Int)<(R.length:Int):=by lia
 have g1:=gC more L.length hpos (by lia);have g2:=iI (more / L.length) R.length hRp;obtain⟨other,h3,e3⟩:=ZD R (more / L.length % R.length) (Int.emod_nonneg _ (by lia)) (Int.emod_lt_of_pos _ hRp);have h4:other∈L/\other≠one:=by
  have:=List.mem_filter.mp h3;exact⟨this.1,by simpa using this.2⟩
 have lL:gH [.lst (L.map enP)]=.ok (.int L.length):=by rw[l_,List.length_map]
 have lR:gH [.lst (R.map enP)]=.ok (.int R.length):=by rw[l_,List.length_map]
 have mn:=aCe .lt one other ltP wH;have mx:=aCe .gt one other (λx y=>ltP y x) aDu;have tri:ltP one other\/ltP other one:=by
  have:one≠other:=λz=>h4.2 z.symm
  simp only[ltP];by_cases hh:one.1=other.1
  ·have:one.2≠other.2:=λz=>this (Prod.ext hh z)
   lia
  ·lia
 have aAl:ltP other one->¬ltP one other:=by
  simp only[ltP];lia
 have body:p_ [.lst (L.map enP),.int more,.uD,.uD,.uD]=.ok (.rt (.tup [enP (if ltP other one then other else one),enP (if ltP one other then other else one)])):=by
  refine aL (ρ':=[.lst (L.map enP),.int more,enP one,.uD,.uD]) (o7 (aJ rfl (aJ rfl (aK (aC rfl rfl) lL) g0) e1) rfl) ?_;refine aL (ρ':=[.lst (L.map enP),.int more,enP one,.lst (R.map enP),.uD]) (bH (fK (fD rfl rfl) (by rw[List.length_map,bO];lia) ?_)) ?_
  ·rw[cY _ enP (λx=>!decide (x=one)) enP]
   ·rfl
   ·intro acc p;exact rR (ρ:=[.lst (L.map enP),.int more,enP one,.uD,.uD]) rfl (dD (aJ rfl rfl (aG4 p one))) λ_=>⟨rfl,rfl⟩
  refine aL (ρ':=[.lst (L.map enP),.int more,enP one,.lst (R.map enP),enP other]) (o7 (aJ rfl (aJ (aJ rfl (aK (aC rfl rfl) lL) g1) (aK (aC rfl rfl) lR) g2) e3) rfl) ?_;exact eX (dF (aC (aK (aC rfl (aC rfl rfl)) mn) (aC (aK (aC rfl (aC rfl rfl)) mx) rfl)) (by rw[bO];simp)) rfl
 have ev:eE [.lst (L.map enP),.int more]=.ok (.tup [enP (if ltP other one then other else one),enP (if ltP one other then other else one)]):=by
  show(do let r <- p_ _;aD4 r)=_;rw[show([D.lst (L.map enP),D.int more]++List.replicate (5-2) D.uD)=[.lst (L.map enP),.int more,.uD,.uD,.uD] from rfl,body];rfl
 rcases tri with h|h
 ·have n:¬ltP other one:=λz=>aAl z h
  rw[if_neg n,if_pos h] at ev;exact⟨one,other,h1,h4.1,h,ev⟩
 ·rw[if_pos h,if_neg (aAl h)] at ev;exact⟨other,one,h4.1,h1,h,ev⟩
def rb1:FS:=(aIb 2 (b2 (aW .mod) (b2 (aW .add) (b2 (aW .fdiv) d_ (b2 (aW .add) cT eO)) (b2 (aW .mul) cT cT)) (b2 (aW .add) cT eO)) (b2 getD cA cT))
def rb2:FS:=(xV 4 (eQ (aD (eQ (aD dI (aD (b2 getD cT iH) aR))) (aD (b2 getD cA iH) aR))))
def rb3:FS:=(bK (cC false 6 (aBd cT (vJ (b2 (aW .add) (aQ gH (aD cA aR)) (b2 (aW .mul) rB iH))) (vJ (b2 (aW .add) (b2 (aW .add) (aQ gH (aD cA aR)) (b2 (aW .mul) rB iH)) rB))) true) (xV 4 (eQ (aD (eQ (aD dI (aD (aQ (fO .lt) (aD mQ aR)) aR))) (aD (eQ (aD dI (aD (aQ (fO .gt) (aD mQ aR)) aR))) aR)))))
theorem JF{xs:List D}{seed:Int}(hp:∀x∈xs,x.pure=true)(hl:xs.length<=10000):∀(n k:Nat)(F:List D)(x3:D),k+n=xs.length->F.Perm (xs.take k)->∃(F':List D)(y3:D),F'.Perm xs/\
  nY (tg1 3) rb1 ((List.range' k n).map λ(j:Nat)=>D.int (0+(j:Int))) [.lst xs,.int seed,.lst F,x3]=.ok (.nx [.lst xs,.int seed,.lst F',y3])
 |0,k,F,x3,h1,h2=>⟨F,x3,by rw[List.take_of_length_le (by lia)] at h2;exact h2,rfl⟩
 |n+1,k,F,x3,h1,h2=>by
  rw[List.range'_succ,List.map_cons];generalize hkk:(0+(k:Int))=kk;have hkl:k<xs.length:=by lia
  have hkk':kk=(k:Int):=by lia
  have hsq:kk*kk<=10000*10000:=Int.mul_le_mul (by lia) (by lia) (by lia) (by lia);have hsq0:0<=kk*kk:=Int.mul_nonneg (by lia) (by lia);have g1:=dW kk 1;have g2:=gC seed (kk+1) (by lia) (by lia);have g3:=X7 kk kk (oE _ (by lia) (by lia));have g4:=dW (seed / (kk+1)) (kk*kk);have g5:=iI (seed / (kk+1)+kk*kk) (kk+1) (by lia);generalize hj:(seed / (kk+1)+kk*kk) % (kk+1)=j at g5;have j0:0<=j:=by rw[<-hj];exact Int.emod_nonneg _ (by lia)
  have j1:j<kk+1:=by rw[<-hj];exact Int.emod_lt_of_pos _ (by lia)
  have hF:F.length=k:=by rw[h2.length_eq,List.length_take];lia
  have hg:getD (.lst xs) (.int kk)=.ok xs[k]:=by
   obtain⟨h,e⟩:=o9 xs kk (by lia) (by lia);rw[e]
   congr 2
   lia
  have hperm:(F.take j.toNat++xs[k]::F.drop j.toNat).Perm (xs.take (k+1)):=by
   refine List.perm_middle.trans ?_;rw[List.take_append_drop,List.take_succ_eq_append_getElem hkl];exact(List.Perm.cons _ h2).trans (List.perm_append_singleton _ _).symm
  obtain⟨F',y3,i1,i2⟩:=JF hp hl n (k+1) (F.take j.toNat++xs[k]::F.drop j.toNat) (.int kk) (by lia) hperm;refine⟨F',y3,i1,?_⟩;refine cD (ρ1:=[.lst xs,.int seed,.lst F,.int kk]) rfl (aIw (xs:=F) (aJ (aJ (aJ rfl (aJ rfl rfl g1) g2) (aJ rfl rfl g3) g4) (aJ rfl rfl g1) g5) (aJ rfl rfl hg) rfl (by rw[bO];lia) (hp _ (List.getElem_mem _)) j0 (by lia)) ?_;rw[<-i2];rfl
theorem OD{xs:List D}(seed:Int)(hp:∀x∈xs,x.pure=true)(hl:xs.length<=10000):∃ys:List D,ys.Perm xs/\cR 2 bW [.lst xs,.int seed]=.ok (.lst ys):=by
 obtain⟨ys,y3,h1,h2⟩:=JF (seed:=seed) hp hl xs.length 0 [] .uD (by lia) (by simp);refine⟨ys,h1,(cU rfl).trans ?_⟩;have e:jE [.lst xs,.int seed,.uD,.uD]=.ok (.rt (.lst ys)):=by
  refine aL (ρ':=[.lst xs,.int seed,.lst [],.uD]) (fZ rfl rfl) ?_;refine aL (ρ':=[.lst xs,.int seed,.lst ys,y3]) (m_ (rP (n:=xs.length) (aC (aK (aC rfl rfl) (l_ xs)) rfl) (by lia) (by lia)) ?_) ?_
  ·rw[<-h2,show((xs.length:Int)).toNat=xs.length by lia,List.range_eq_range'];rfl
  rfl
 show(do let r <- jE _;aD4 r)=_;rw[show([D.lst xs,D.int seed]++List.replicate (4-2) D.uD)=[.lst xs,.int seed,.uD,.uD] from rfl,e];rfl
theorem CJ{α:Type}(f:α->D)(g:D->α)(h:∀a,g (f a)=a){ys:List D}{L:List α}(p:ys.Perm (L.map f)):∃L':List α,L'.Perm L/\ys=L'.map f:=by
 refine⟨ys.map g,?_,?_⟩
 ·refine(p.map g).trans ?_;rw[List.map_map];refine List.Perm.of_eq ?_
  conv=>rhs;rw[<-List.map_id L]
  exact List.map_congr_left λa _=>h a
 ·rw[List.map_map]
  conv=>lhs;rw[<-List.map_id ys]
  refine List.map_congr_left λy hy=>?_
  obtain⟨a,_,rfl⟩:=List.mem_map.mp (p.mem_iff.mp hy);show f a=f (g (f a));rw[h]
noncomputable def unI:D->Int
 |.int i=>i
 |_=>0
noncomputable def rim(s:Int):Pt:=(0,s)
theorem wJ(T:List Tie)(t:Tie):ends (T++[t])=ends T++[t.1,t.2]:=by simp[ends]
theorem aJl{bare seed:Int}{a6:D}{L:List Pt}{S:List Int}(hL:∀p∈L,0<p.1):∀(n k:Nat)(T:List Tie)(x4:D),L.length=k+n->k+n<=S.length->T.length+n<=10000->∃(T':List Tie)(y4:D),(ends T').Perm (ends T++(L.drop k++((S.drop k).take n).map rim))/\(∀t∈T',t∈T\/ltP t.1 t.2)/\T'.length=T.length+n/\
  nY (tg1 5) rb2 ((List.range' k n).map λ(j:Nat)=>D.int (0+(j:Int))) [.lst (L.map enP),.int bare,.int seed,.lst (S.map D.int),.lst (T.map bI),x4,a6]=.ok (.nx [.lst (L.map enP),.int bare,.int seed,.lst (S.map D.int),.lst (T'.map bI),y4,a6])
 |0,k,T,x4,h1,_,_=>⟨T,x4,by rw[List.drop_of_length_le (by lia)];simp,λt ht=>.inl ht,rfl,rfl⟩
 |n+1,k,T,x4,h1,h2,h3=>by
  have hk1:k<L.length:=by lia
  have hk2:k<S.length:=by lia
  have e1:getD (.lst (S.map D.int)) (.int (0+(k:Int)))=.ok (.int S[k]):=by
   obtain⟨h,e⟩:=o9 (S.map D.int) (0+(k:Int)) (by lia) (by rw[List.length_map];lia);rw[e];simp
  have e2:getD (.lst (L.map enP)) (.int (0+(k:Int)))=.ok (enP L[k]):=by
   obtain⟨h,e⟩:=o9 (L.map enP) (0+(k:Int)) (by lia) (by rw[List.length_map];lia);rw[e];simp
  have hpos:=hL L[k] (List.getElem_mem _);obtain⟨T',y4,i1,i2,i3,i4⟩:=aJl (bare:=bare) (seed:=seed) (a6:=a6) (S:=S) hL n (k+1) (T++[(rim S[k],L[k])]) (.int (0+(k:Int))) (by lia) (by lia) (by simp;lia);refine⟨T',y4,?_,λt ht=>?_,by rw[i3];simp;lia,?_⟩
  ·refine i1.trans ?_;rw[wJ,List.append_assoc];refine List.Perm.append_left _ ?_;rw[List.drop_eq_getElem_cons hk1,List.drop_eq_getElem_cons hk2,List.take_succ_cons,List.map_cons];show(rim S[k]::L[k]::(L.drop (k+1)++((S.drop (k+1)).take n).map rim)).Perm (L[k]::(L.drop (k+1)++rim S[k]::((S.drop (k+1)).take n).map rim));exact(List.Perm.swap ..).trans (List.Perm.cons _ List.perm_middle.symm)
  ·rcases i2 t ht with h|h
   ·rcases List.mem_append.mp h with h|h
    ·exact .inl h
    ·have:t=(rim S[k],L[k]):=by simpa using h
     subst this;exact .inr (.inl hpos)
   ·exact .inr h
  ·rw[List.range'_succ,List.map_cons];refine cD (ρ1:=[.lst (L.map enP),.int bare,.int seed,.lst (S.map D.int),.lst (T.map bI),.int (0+(k:Int)),a6]) rfl (rQ (xs:=T.map bI) (dF (aC (dF (aC rfl (aC (aJ rfl rfl e1) rfl)) (by rw[bO];simp)) (aC (aJ rfl rfl e2) rfl)) (by rw[bO];simp)) rfl (by rw[List.length_map,bO];lia) rfl) ?_;rw[<-i4,List.map_append];rfl
theorem aLs{a:FE}{l h:List D->Res (Option Int)}{ρ:List D}{x:D}{i j:Option Int}{d:D}(h1:a ρ=.ok x)(h2:l ρ=.ok i)(h3:h ρ=.ok j)(h4:aAo x i j=.ok d):aBd a l h ρ=.ok d:=by
 unfold aBd;rw[h1,Res.aV,h2,Res.aV,h3,Res.aV,h4]
theorem ZF{a:FE}{ρ:List D}{i:Int}(h1:a ρ=.ok (.int i)):vJ a ρ=.ok (some i):=by
 unfold vJ;rw[h1,Res.aV];rfl
theorem aJm(o:gW)(a b:Int)(r:Int->Int->Prop)[∀x y,Decidable (r x y)](h:∀x y,iU o (.int x) (.int y)=some (decide (r x y))):fO o [.lst [.int a,.int b]]=.ok (.int (if r b a then b else a)):=by
 show mR o [.int a,.int b]=_;have hall:([D.int a,D.int b].all λx=>x.fJ aN&&[D.int a,D.int b].all λy=>(iU o x y).isSome)=true:=by
  simp only[List.all_cons,List.all_nil,h,Option.isSome_some,Bool.and_true];rfl
 rw[mR,if_pos hall];simp only[List.foldl_cons,List.foldl_nil,h,Option.getD_some];by_cases hr:r b a
 ·simp[hr]
 ·simp[hr]
theorem aJn{bare seed:Int}{L:List Pt}{S:List Int}(hS:S.Nodup)(hb:S.length<=10000):∀(n k:Nat)(T:List Tie)(x4 x6:D),L.length+2*(k+n)=S.length->T.length+n<=10000->∃(T':List Tie)(y4 y6:D),(ends T').Perm (ends T++(S.drop (L.length+2*k)).map rim)/\(∀t∈T',t∈T\/ltP t.1 t.2)/\T'.length=T.length+n/\
  nY (tg1 5) rb3 ((List.range' k n).map λ(j:Nat)=>D.int (0+(j:Int))) [.lst (L.map enP),.int bare,.int seed,.lst (S.map D.int),.lst (T.map bI),x4,x6]=.ok (.nx [.lst (L.map enP),.int bare,.int seed,.lst (S.map D.int),.lst (T'.map bI),y4,y6])
 |0,k,T,x4,x6,h1,_=>⟨T,x4,x6,by rw[List.drop_of_length_le (by lia)];simp,λt ht=>.inl ht,rfl,rfl⟩
 |n+1,k,T,x4,x6,h1,h3=>by
  have hi:L.length+2*k<S.length:=by lia
  have hi2:L.length+2*k+1<S.length:=by lia
  have hd:S.drop (L.length+2*k)=S[L.length+2*k]::S[L.length+2*k+1]::S.drop (L.length+2*(k+1)):=by
   rw[List.drop_eq_getElem_cons hi,List.drop_eq_getElem_cons hi2];rfl
  generalize ha:S[L.length+2*k]=a at hd;generalize hb':S[L.length+2*k+1]=b at hd;have hab:a≠b:=by
   have:=(List.drop_sublist (L.length+2*k) S).nodup hS;rw[hd,List.nodup_cons] at this;intro z;subst z;exact this.1 (List.mem_cons_self ..)
  have lL:gH [.lst (L.map enP)]=.ok (.int L.length):=by rw[l_,List.length_map]
  generalize hkk:(0+(k:Int))=kk;have m2:=zW 2 kk (oE _ (by lia) (by lia));have a1:=dW L.length (2*kk);have a2:=dW (L.length+2*kk) 2;have sl:aAo (.lst (S.map D.int)) (some (L.length+2*kk)) (some (L.length+2*kk+2))=.ok (.lst [.int a,.int b]):=by
   simp only[aAo,xX,if_true]
   congr 2
   have e1:aAn (S.map D.int).length 0 (some ((L.length:Int)+2*kk))=L.length+2*k:=by
    simp only[aAn,List.length_map];rw[if_neg (by lia)];lia
   have e2:aAn (S.map D.int).length (S.map D.int).length (some ((L.length:Int)+2*kk+2))=L.length+2*k+2:=by
    simp only[aAn,List.length_map];rw[if_neg (by lia)];lia
   unfold cutD;rw[e1,e2,<-List.map_drop,hd,show L.length+2*k+2-(L.length+2*k)=2 by lia];rfl
  have mn:=aJm .lt a b (λx y=>x<y) λx y=>rfl
  have mx:=aJm .gt a b (λx y=>y<x) λx y=>rfl
  have main:∃u v:Int,(u=a/\v=b\/u=b/\v=a)/\u<v/\fO .lt [.lst [.int a,.int b]]=.ok (.int u)/\fO .gt [.lst [.int a,.int b]]=.ok (.int v):=by
   by_cases hlt:b<a
   ·rw[if_pos hlt] at mn;rw[if_neg (by lia)] at mx;exact⟨b,a,.inr ⟨rfl,rfl⟩,hlt,mn,mx⟩
   ·rw[if_neg hlt] at mn;rw[if_pos (by lia)] at mx;exact⟨a,b,.inl ⟨rfl,rfl⟩,by lia,mn,mx⟩
  obtain⟨u,v,huv,hlt,mn,mx⟩:=main;obtain⟨T',y4,y6,i1,i2,i3,i4⟩:=aJn (bare:=bare) (seed:=seed) (L:=L) hS hb n (k+1) (T++[(rim u,rim v)]) (.int kk) (.lst [.int a,.int b]) (by lia) (by simp;lia);refine⟨T',y4,y6,?_,λt ht=>?_,by rw[i3];simp;lia,?_⟩
  ·refine i1.trans ?_;rw[wJ,List.append_assoc];refine List.Perm.append_left _ ?_;rw[hd];rcases huv with ⟨rfl,rfl⟩|⟨rfl,rfl⟩
   ·exact List.Perm.refl _
   ·exact List.Perm.swap ..
  ·rcases i2 t ht with h|h
   ·rcases List.mem_append.mp h with h|h
    ·exact .inl h
    ·have:t=(rim u,rim v):=by simpa using h
     subst this;exact .inr (.inr ⟨rfl,hlt⟩)
   ·exact .inr h
  ·rw[List.range'_succ,List.map_cons,hkk];refine cD (ρ1:=[.lst (L.map enP),.int bare,.int seed,.lst (S.map D.int),.lst (T.map bI),.int kk,x6]) rfl (aL (ρ':=[.lst (L.map enP),.int bare,.int seed,.lst (S.map D.int),.lst (T.map bI),.int kk,.lst [.int a,.int b]]) (bH (aLs rfl (ZF (aJ (aK (aC rfl rfl) lL) (aJ rfl rfl m2) a1)) (ZF (aJ (aJ (aK (aC rfl rfl) lL) (aJ rfl rfl m2) a1) rfl a2)) sl)) (rQ (xs:=T.map bI) (dF (aC (dF (aC rfl (aC (aK (aC rfl rfl) mn) rfl)) (by rw[bO];simp)) (aC (dF (aC rfl (aC (aK (aC rfl rfl) mx) rfl)) (by rw[bO];simp)) rfl)) (by rw[bO];simp)) rfl (by rw[List.length_map,bO];lia) rfl)) ?_;rw[<-i4,List.map_append];rfl
theorem ZG(L:List Pt)(bare:Nat)(seed:Int)(hL:∀p∈L,0<p.1)(hl:L.length+2*bare<=5000):∃(R:List Tie)(S:List Int),S.Nodup/\S.Perm ((List.range S.length).map λ(k:Nat)=>(k:Int))/\(ends R).Perm (L++S.map rim)/\(∀t∈R,ltP t.1 t.2)/\R.length=L.length+bare/\gD [.lst (L.map enP),.int bare,.int seed]=.ok (.lst (R.map bI)):=by
 have lL:gH [.lst (L.map enP)]=.ok (.int L.length):=by rw[l_,List.length_map]
 have m2:=zW 2 (bare:Int) (oE _ (by lia) (by lia));have a1:=dW L.length (2*(bare:Int));have hr:vY [.int (L.length+2*(bare:Int))]=.ok (.lst (((List.range (L.length+2*bare)).map λ(k:Nat)=>(k:Int)).map D.int)):=by
  show(if decide (-1000000<=(L.length:Int)+2*(bare:Int))&&decide ((L.length:Int)+2*(bare:Int)<=1000000) then Res.ok (D.lst ((List.range ((L.length:Int)+2*(bare:Int)).toNat).map λ(k:Nat)=>D.int k)) else .bad)=_;rw[if_pos (by rw[decide_eq_true (by lia),decide_eq_true (by lia)];rfl),show((L.length:Int)+2*(bare:Int)).toNat=L.length+2*bare by lia,List.map_map];rfl
 obtain⟨ys,p0,s4⟩:=OD (xs:=((List.range (L.length+2*bare)).map λ(k:Nat)=>(k:Int)).map D.int) seed (λx hx=>by
  obtain⟨a,_,rfl⟩:=List.mem_map.mp hx;rfl) (by simp;lia)
 obtain⟨S,pS,rfl⟩:=CJ D.int unI (λ_=>rfl) p0;have s1:S.length=L.length+2*bare:=by rw[pS.length_eq];simp
 have s2:∀s∈S,0<=s/\s<S.length:=λs hs=>by
  obtain⟨k,hk,rfl⟩:=List.mem_map.mp (pS.mem_iff.mp hs);have:=List.mem_range.mp hk;lia
 have s3:S.Nodup:=pS.nodup_iff.mpr (List.Pairwise.map _ (λa b hab z=>hab (by lia)) List.nodup_range);obtain⟨T1,z4,t1,t2,t3,t4⟩:=aJl (bare:=bare) (seed:=seed) (a6:=.uD) (L:=L) (S:=S) hL L.length 0 [] .uD (by lia) (by lia) (by simp;lia);obtain⟨T2,w4,w6,u1,u2,u3,u4⟩:=aJn (bare:=bare) (seed:=seed) (L:=L) (S:=S) s3 (by lia) bare 0 T1 z4 .uD (by lia) (by rw[t3];simp;lia);refine⟨T2,S,s3,by rw[s1];exact pS,?_,λt ht=>?_,by rw[u3,t3];simp,?_⟩
 ·refine u1.trans ?_;have t1':(ends T1).Perm (L++(S.take L.length).map rim):=by simpa[ends] using t1
  refine(t1'.append_right _).trans ?_;rw[List.append_assoc,<-List.map_append];simp only[Nat.mul_zero,Nat.add_zero];rw[List.take_append_drop]
 ·rcases u2 t ht with h|h
  ·rcases t2 t h with h|h
   ·cases h
   ·exact h
  ·exact h
 ·have e:lA [.lst (L.map enP),.int bare,.int seed,.uD,.uD,.uD,.uD]=.ok (.rt (.lst (T2.map bI))):=by
   refine aL (ρ':=[.lst (L.map enP),.int bare,.int seed,.lst (S.map D.int),.uD,.uD,.uD]) (bH (i:=3) (aK (xs:=[.lst (((List.range (L.length+2*bare)).map λ(k:Nat)=>(k:Int)).map D.int),.int seed]) (aC (aK (xs:=[.int (L.length+2*(bare:Int))]) (aC (aJ (aK (aC rfl rfl) lL) (aJ rfl rfl m2) a1) rfl) hr) (aC rfl rfl)) s4)) ?_;refine aL (ρ':=[.lst (L.map enP),.int bare,.int seed,.lst (S.map D.int),.lst [],.uD,.uD]) (fZ rfl rfl) ?_;refine aL (ρ':=[.lst (L.map enP),.int bare,.int seed,.lst (S.map D.int),.lst (T1.map bI),z4,.uD]) (m_ (rP (n:=L.length) (aC (aK (aC rfl rfl) lL) rfl) (by lia) (by lia)) ?_) ?_
   ·rw[<-t4,show((L.length:Int)).toNat=L.length by lia,List.range_eq_range'];rfl
   refine aL (ρ':=[.lst (L.map enP),.int bare,.int seed,.lst (S.map D.int),.lst (T2.map bI),w4,w6]) (m_ (rP (n:=bare) (aC rfl rfl) (by lia) (by lia)) ?_) ?_
   ·rw[<-u4,show((bare:Int)).toNat=bare by lia,List.range_eq_range'];rfl
   rfl
  show(do let r <- lA _;aD4 r)=_;rw[show([D.lst (L.map enP),D.int bare,D.int seed]++List.replicate (7-3) D.uD)=[.lst (L.map enP),.int bare,.int seed,.uD,.uD,.uD,.uD] from rfl,e];rfl
def gbr:FS:=(sIf (DR (bTB (b2 (bR (.ord .lt)) (b2 (aW .mod) iB xU) aGu)) (bTB (b2 (bR (.ord .lt)) (aQ gH (aD mO aR)) aEx))) (bK (cC false 7 (b2 (aW .add) (b2 (aW .add) oZ eO) (b2 (aW .mod) (b2 (aW .fdiv) kO (aQ gH (aD cT aR))) (b2 (aW .pow) WR aKh))) true) (bK (xV 4 (eQ (aD oZ (aD (b2 getD cT (b2 (aW .mod) kO (aQ gH (aD cT aR)))) aR)))) (cC false 5 (b2 (aW .add) iH (dU 13 (mV (aD (b2 (aW .add) (b2 getD cA (b2 getD cT (b2 (aW .mod) kO (aQ gH (aD cT aR))))) eO) aR) mC) lZ jQ (eQ (aD oZ (aD jZ aR))) false)) true))) (sIf (DR (bTB (bCh (bR (.ord .le)) (bR (.ord .lt)) aGu (b2 (aW .mod) iB xU) aI8)) (bTB (b2 (bR (.ord .gt)) (aQ gH (aD gP aR)) eO))) (bK (xV 6 (aQ (cR 2 eE) (aD gP (aD kO aR)))) (cC false 5 (dU 13 (dM iH false) lZ (bTB (b2 (bR .notin) jZ (b2 getD mQ (b1 aI9 eO)))) jZ false) true)) (sIf (bTB (b2 (bR .eq) (b2 (aW .mod) iB xU) aI8)) (cC false 8 (b2 (aW .add) rA eO) true) (sIf (bTB (b2 (bR .eq) (b2 (aW .mod) iB xU) aEw)) (cC false 9 (b2 (aW .add) jW (b2 (aW .mod) kO (b2 (aW .pow) WR (bC (.int 50))))) true) j_))))
def ZJ:FS:=(bK (cC false 11 (b2 (aW .fdiv) iB xU) true) (bK (sAl 12 5) (bK (sIf (bTB (b2 (bR .eq) (b2 (aW .mod) iB xU) aI7)) (cC false 12 (dU 13 (dM iH false) lZ (bTB (b2 (bR .eq) (b2 getD jZ eO) dI)) jZ false) true) j_) gbr)))
def vOf(kvs:List (D×D))(s:Str):Nat:=match cL kvs (.str s) with
 |some (.int v)=>v.toNat
 |_=>0
theorem aJo{kvs:List (D×D)}{s:Str}{v:Nat}(h:cL kvs (.str s)=some (.int v)):vOf kvs s=v:=by
 unfold vOf;rw[h];rfl
def aMp(kvs:List (D×D))(pc:Pc):List Pt:=(List.range (vOf kvs pc.2+1)).map λ(h:Nat)=>((pc.1,(h:Int)):Pt)
def hks(kvs:List (D×D))(Q:List Pc):List Pt:=Q.flatMap (aMp kvs)
structure Gr(kvs:List (D×D))(Q:List Pc)(L:List Pt)(T:List Tie)(num:Int):Prop where
 nd:(ends T++L).Nodup
 qn:(Q.map (·.1)).Nodup
 qb:∀pc∈Q,0<pc.1/\pc.1<=num
 n0:0<=num
 chf:∀pc∈Q,(pc.1,(0:Int))∈ends T++L
 num:∀e∈ends T++L,e.1∈Q.map (·.1)
 lt:∀t∈T,ltP t.1 t.2
 ll:L.length<=7*Q.length
 ql:Q.length<=30
 qs:Q.Pairwise λa b=>a.1<b.1
 pm:(ends T++L).Perm (hks kvs Q)
 sk:∀pc∈Q,∃v:Nat,v<=6/\cL kvs (.str pc.2)=some (.int v)
theorem Gr.perm{kvs:List (D×D)}{Q:List Pc}{L L':List Pt}{T T':List Tie}{num:Int}(g:Gr kvs Q L T num)(p:(ends T'++L').Perm (ends T++L))(hlt:∀t∈T',ltP t.1 t.2)(hl:L'.length<=L.length):Gr kvs Q L' T' num:=
 ⟨p.nodup_iff.mpr g.nd,g.qn,g.qb,g.n0,λpc h=>p.mem_iff.mpr (g.chf pc h),λe h=>g.num e (p.mem_iff.mp h),hlt,Nat.le_trans hl g.ll,g.ql,g.qs,p.trans g.pm,g.sk⟩
theorem Gr.ln{kvs:List (D×D)}{Q:List Pc}{L:List Pt}{T:List Tie}{num:Int}(g:Gr kvs Q L T num):L.Nodup:=(List.nodup_append.mp g.nd).2.1
theorem Gr.tie{kvs:List (D×D)}{Q:List Pc}{L:List Pt}{T:List Tie}{num:Int}(g:Gr kvs Q L T num){a b:Pt}(ha:a∈L)(hb:b∈L)(h:ltP a b):Gr kvs Q (L.filter λx=>!(decide (a=x)||decide (b=x))) (T++[(a,b)]) num:=by
 have hab:a≠b:=λz=>by subst z;simp only[ltP] at h;lia
 have split:∀{L:List Pt},L.Nodup->a∈L->b∈L->(a::b::L.filter λx=>!(decide (a=x)||decide (b=x))).Perm L:=by
  intro L hn ha hb;refine(List.perm_iff_count).mpr λx=>?_
  rw[List.count_cons,List.count_cons];have hc:∀{M:List Pt}(y:Pt),M.Nodup->List.count y M=if y∈M then 1 else 0:=λ{M} y hm=>List.Nodup.count hm
  rw[hc x hn,hc x (List.filter_sublist.nodup hn)];simp only[List.mem_filter,Bool.not_eq_true',Bool.or_eq_false_iff,decide_eq_false_iff_not,beq_iff_eq];by_cases h1:a=x
  ·subst h1;have:¬b=a:=λz=>hab z.symm
   simp[ha,this]
  ·by_cases h2:b=x
   ·subst h2;simp[hb,h1]
   ·simp[h1,h2]
 refine g.perm ?_ (λt ht=>?_) (List.length_filter_le ..)
 ·rw[wJ,List.append_assoc];exact List.Perm.append_left _ (split g.ln ha hb)
 ·rcases List.mem_append.mp ht with ht|ht
  ·exact g.lt t ht
  ·have:t=(a,b):=by simpa using ht
   subst this;exact h
theorem Gr.piece{kvs:List (D×D)}{Q:List Pc}{L:List Pt}{T:List Tie}{num:Int}(g:Gr kvs Q L T num){n:Int}{s:Str}{v:Nat}(hn:num<n)(hv:v<=6)(hlk:cL kvs (.str s)=some (.int v))(hq:Q.length<30):Gr kvs (Q++[(n,s)]) (L++(List.range (v+1)).map λ(h:Nat)=>((n,(h:Int)):Pt)) T n:=by
 have old:∀e∈ends T++L,e.1<=num:=λe he=>by
  obtain⟨pc,h1,h2⟩:=List.mem_map.mp (g.num e he);have:=g.qb pc h1;lia
 have newm:∀e∈(List.range (v+1)).map (λ(h:Nat)=>((n,(h:Int)):Pt)),e.1=n:=λe he=>by
  obtain⟨h,_,rfl⟩:=List.mem_map.mp he;rfl
 refine⟨?_,?_,λpc h=>?_,by have:=g.n0;lia,λpc h=>?_,λe he=>?_,g.lt,?_,by simp;lia,List.pairwise_append.mpr ⟨g.qs,by simp,λa ha b hb=>by have:=g.qb a ha;rw[show b=(n,s) from by simpa using hb];show a.1<n;lia⟩,?_,λpc h=>?_⟩
 ·rw[<-List.append_assoc];refine List.nodup_append.mpr ⟨g.nd,?_,λa ha b hb z=>?_⟩
  ·refine List.Pairwise.map _ ?_ List.nodup_range;intro a b hab z;have:(a:Int)=b:=congrArg Prod.snd z;lia
  ·subst z;have:=old a ha;rw[newm a hb] at this;lia
 ·rw[List.map_append];refine List.nodup_append.mpr ⟨g.qn,by simp,λa ha b hb z=>?_⟩;subst z;obtain⟨pc,h1,h2⟩:=List.mem_map.mp ha;have:=g.qb pc h1;have:a=n:=by simpa using hb
  lia
 ·rcases List.mem_append.mp h with h|h
  ·have:=g.qb pc h;lia
  ·have:pc=(n,s):=by simpa using h
   subst this;have:=g.n0;show 0<n/\n<=n;lia
 ·rw[<-List.append_assoc];rcases List.mem_append.mp h with h|h
  ·exact List.mem_append_left _ (g.chf pc h)
  ·have:pc=(n,s):=by simpa using h
   subst this;exact List.mem_append_right _ (List.mem_map.mpr ⟨0,by simp,rfl⟩)
 ·rw[<-List.append_assoc] at he;rw[List.map_append];rcases List.mem_append.mp he with he|he
  ·exact List.mem_append_left _ (g.num e he)
  ·rw[newm e he];exact List.mem_append_right _ (by simp)
 ·have:=g.ll;simp;lia
 ·rw[<-List.append_assoc];have e:hks kvs (Q++[(n,s)])=hks kvs Q++(List.range (v+1)).map λ(h:Nat)=>((n,(h:Int)):Pt):=by
   simp only[hks,List.flatMap_append,List.flatMap_cons,List.flatMap_nil,List.append_nil,aMp,aJo hlk]
  rw[e];exact g.pm.append_right _
 ·rcases List.mem_append.mp h with h|h
  ·exact g.sk pc h
  ·have:pc=(n,s):=by simpa using h
   subst this;exact⟨v,hv,hlk⟩
section
variable {kvs:List (D×D)} {cells:D} {seed:Int} {NS:List Str}
@[reducible] noncomputable def St(kvs:List (D×D))(cells:D)(seed:Int)(NS:List Str)(Q:List Pc)(L:List Pt)(T:List Tie)(num bare rings:Int)(c m sm:D):List D:=
 [.dct kvs,cells,.int seed,.lst (NS.map D.str),.lst (Q.map pcD),.lst (L.map enP),.lst (T.map bI),.int num,.int bare,.int rings,c,m,sm]
theorem aJp{Q:List Pc}{L:List Pt}{T:List Tie}{num bare rings c:Int}{m sm:D}(hl:L.length<=10000):∃SM:List Pt,SM.Sublist L/\∀r,gbr (St kvs cells seed NS Q L T num bare rings (.int c) (.int (c / 8)) (.lst (SM.map enP)))=r->ZJ (St kvs cells seed NS Q L T num bare rings (.int c) m sm)=r:=by
 have f8:=gC c 8 (by decide) (by decide);have m8:=iI c 8 (by decide);have ce:bR .eq (.int (c % 8)) (.int 5)=.ok (.bl (c % 8==5)):=rfl;have s1:cC false 11 (b2 (aW .fdiv) iB xU) true (St kvs cells seed NS Q L T num bare rings (.int c) m sm)=.ok (.nx (St kvs cells seed NS Q L T num bare rings (.int c) (.int (c / 8)) sm)):=bH (aJ rfl rfl f8);have s2:sAl 12 5 (St kvs cells seed NS Q L T num bare rings (.int c) (.int (c / 8)) sm)=.ok (.nx (St kvs cells seed NS Q L T num bare rings (.int c) (.int (c / 8)) (.lst (L.map enP)))):=aLg rfl;have tc:bTB (b2 (bR .eq) (b2 (aW .mod) iB xU) aI7) (St kvs cells seed NS Q L T num bare rings (.int c) (.int (c / 8)) (.lst (L.map enP)))=.ok (c % 8==5):=dD (aJ (aJ rfl rfl m8) rfl ce);unfold ZJ;cases h:(c % 8==5) with
 |true=>
  rw[h] at tc;refine⟨L.filter λx=>x.2==0,List.filter_sublist,λr hr=>?_⟩;have cf:dU 13 (dM iH false) lZ (bTB (b2 (bR .eq) (b2 getD jZ eO) dI)) jZ false (St kvs cells seed NS Q L T num bare rings (.int c) (.int (c / 8)) (.lst (L.map enP)))=.ok (.lst ((L.filter λx=>x.2==0).map enP)):=by
   refine fK (fD rfl rfl) (by rw[List.length_map,bO];lia) ?_;rw[cY _ enP (λx=>x.2==0) enP]
   ·rfl
   ·intro acc p;have e1:b2 getD jZ eO (St kvs cells seed NS Q L T num bare rings (.int c) (.int (c / 8)) (.lst (L.map enP))++[enP p])=.ok (.int p.2):=aJ (x:=enP p) (y:=.int 1) rfl rfl rfl;have e2:bR .eq (.int p.2) (.int 0)=.ok (.bl (p.2==0)):=rfl;exact rR (ρ:=St kvs cells seed NS Q L T num bare rings (.int c) (.int (c / 8)) (.lst (L.map enP))) rfl (dD (aJ e1 rfl e2)) λ_=>⟨rfl,rfl⟩
  have s3:sIf (bTB (b2 (bR .eq) (b2 (aW .mod) iB xU) aI7)) (cC false 12 (dU 13 (dM iH false) lZ (bTB (b2 (bR .eq) (b2 getD jZ eO) dI)) jZ false) true) j_ (St kvs cells seed NS Q L T num bare rings (.int c) (.int (c / 8)) (.lst (L.map enP)))=.ok (.nx (St kvs cells seed NS Q L T num bare rings (.int c) (.int (c / 8)) (.lst ((L.filter λx=>x.2==0).map enP)))):=zU tc (bH cf);exact aL s1 (aL s2 (aL s3 hr))
 |false=>
  rw[h] at tc;refine⟨L,List.Sublist.refl _,λr hr=>?_⟩;exact aL s1 (aL s2 (aL (o8 tc rfl) hr))
theorem kI(NS:List Str)(i:Int)(h0:0<=i)(h1:i<NS.length):∃s∈NS,getD (.lst (NS.map D.str)) (.int i)=.ok (.str s):=by
 obtain⟨h,e⟩:=o9 (NS.map D.str) i h0 (by simpa using h1);rw[List.length_map] at h;refine⟨NS[i.toNat],List.getElem_mem _,?_⟩;rw[e];simp
theorem JG{s:Str}:∀{kvs:List (D×D)},iG kvs->D.str s∈iJ kvs->∃v:Nat,v<=6/\cL kvs (.str s)=some (.int v)
 |[],_,hm=>by cases hm
 |p::r,h,hm=>by
  obtain⟨s',v,rfl,h0,h1⟩:=h _ (List.mem_cons_self ..);rw[cL];by_cases e:eqD (.str s') (.str s)=true
  ·rw[if_pos e];exact⟨v.toNat,by lia,by congr 2;lia⟩
  ·rw[if_neg e];refine JG (λp hp=>h p (List.mem_cons_of_mem _ hp)) ?_;rcases List.mem_cons.mp (show D.str s∈D.str s'::iJ r from hm) with z|z
   ·cases z;exact absurd (by simp[eqD]) e
   ·exact z
theorem aNp(Q:List Pc):gH [.lst (Q.map pcD)]=.ok (.int Q.length):=by rw[l_,List.length_map]
theorem aLt(Q:List Str):gH [.lst (Q.map D.str)]=.ok (.int Q.length):=by rw[l_,List.length_map]
theorem aNq(Q:List Pt):gH [.lst (Q.map enP)]=.ok (.int Q.length):=by rw[l_,List.length_map]
theorem aG7(hst:iG kvs)(hNS:iJ kvs=NS.map D.str)(hne:NS≠[])(hNl:NS.length<=1000){Q:List Pc}{L:List Pt}{T:List Tie}{num rings c:Int}{bare:Nat}{m sm:D}(g:Gr kvs Q L T num)(hT:T.length<=1000)(hb:bare<=1000)(hr:0<=rings) :
  ∃(Q':List Pc)(L':List Pt)(T':List Tie)(num' rings':Int)(bare':Nat)(m' sm':D),Gr kvs Q' L' T' num'/\0<=rings'/\T'.length<=T.length+1/\bare'<=bare+1/\ZJ (St kvs cells seed NS Q L T num bare rings (.int c) m sm)=.ok (.nx (St kvs cells seed NS Q' L' T' num' bare' rings' (.int c) m' sm')):=by
 have hll:=g.ll;have hql:=g.ql;obtain⟨SM,hSM,pre⟩:=aJp (kvs:=kvs) (cells:=cells) (seed:=seed) (NS:=NS) (Q:=Q) (L:=L) (T:=T) (num:=num) (bare:=bare) (rings:=rings) (c:=c) (m:=m) (sm:=sm) (by lia);have m8:=iI c 8 (by decide);have c4:bR (.ord .lt) (.int (c % 8)) (.int 4)=.ok (.bl (decide (c % 8<4))):=rfl;have c60:bR (.ord .lt) (.int Q.length) (.int 30)=.ok (.bl (decide ((Q.length:Int)<30))):=rfl;have c46:bR (.ord .le) (.int 4) (.int (c % 8))=.ok (.bl (decide (4<=c % 8))):=rfl;have c66:bR (.ord .lt) (.int (c % 8)) (.int 6)=.ok (.bl (decide (c % 8<6))):=rfl;have c1:bR (.ord .gt) (.int SM.length) (.int 1)=.ok (.bl (decide ((1:Int)<SM.length))):=rfl;have e6:bR .eq (.int (c % 8)) (.int 6)=.ok (.bl (c % 8==6)):=rfl;have e7:bR .eq (.int (c % 8)) (.int 7)=.ok (.bl (c % 8==7)):=rfl;have hNp:(0:Int)<(NS.length:Int):=by
  cases NS with
  |nil=>exact absurd rfl hne
  |cons _ _=>simp
 -- the first test
 have t1:∀b,b=(decide (c % 8<4)&&decide ((Q.length:Int)<30))->DR (bTB (b2 (bR (.ord .lt)) (b2 (aW .mod) iB xU) aGu)) (bTB (b2 (bR (.ord .lt)) (aQ gH (aD mO aR)) aEx)) (St kvs cells seed NS Q L T num bare rings (.int c) (.int (c / 8)) (.lst (SM.map enP)))=.ok b:=by
  rintro b rfl;cases h1:decide (c % 8<4) with
  |true=>rw[h1] at c4;exact X6 (dD (aJ (aJ rfl rfl m8) rfl c4)) (dD (aJ (aK (aC rfl rfl) (aNp Q)) rfl c60))
  |false=>rw[h1] at c4;exact T3 (dD (aJ (aJ rfl rfl m8) rfl c4))
 have t2:∀b,b=(decide (4<=c % 8)&&decide (c % 8<6)&&decide ((1:Int)<SM.length))->DR (bTB (bCh (bR (.ord .le)) (bR (.ord .lt)) aGu (b2 (aW .mod) iB xU) aI8)) (bTB (b2 (bR (.ord .gt)) (aQ gH (aD gP aR)) eO)) (St kvs cells seed NS Q L T num bare rings (.int c) (.int (c / 8)) (.lst (SM.map enP)))=.ok b:=by
  rintro b rfl;cases h1:decide (4<=c % 8) with
  |false=>rw[h1] at c46;exact T3 (dD (aNm rfl (aJ rfl rfl m8) c46))
  |true=>
   rw[h1] at c46;cases h2:decide (c % 8<6) with
   |false=>rw[h2] at c66;exact T3 (dD (aMk rfl (aJ rfl rfl m8) c46 rfl c66))
   |true=>rw[h2] at c66;exact X6 (dD (aMk rfl (aJ rfl rfl m8) c46 rfl c66)) (dD (aJ (aK (aC rfl rfl) (aNq SM)) rfl c1))
 have fin:∀{r:Res Fl},gbr (St kvs cells seed NS Q L T num bare rings (.int c) (.int (c / 8)) (.lst (SM.map enP)))=r->ZJ (St kvs cells seed NS Q L T num bare rings (.int c) m sm)=r:=λ{r} h=>pre r h
 cases hA:(decide (c % 8<4)&&decide ((Q.length:Int)<30)) with
 |true=>
  rw[Bool.and_eq_true,decide_eq_true_eq,decide_eq_true_eq] at hA;have T1:=t1 true (by rw[decide_eq_true hA.1,decide_eq_true hA.2];rfl);have gm:=iI (c / 8) NS.length hNp;obtain⟨s,hs,es⟩:=kI NS (c / 8 % NS.length) (Int.emod_nonneg _ (by lia)) (Int.emod_lt_of_pos _ hNp);obtain⟨v,hv,ev⟩:=JG (s:=s) hst (by rw[hNS];exact List.mem_map.mpr ⟨s,hs,rfl⟩);have gs:getD (.dct kvs) (.str s)=.ok (.int v):=by
   show(if keyOk (.str s) then Res.ofOpt (cL kvs (.str s)) else .bad)=_;rw[ev];rfl
  have f1:=gC (c / 8) NS.length hNp (by lia);obtain⟨pw,hp,f2⟩:∃pw:Int,0<pw/\aW .pow (.int 10) (.int 9)=.ok (.int pw):=⟨10 ^ 9,by decide,aDl 9 (by decide)⟩
  have f3:=iI (c / 8 / NS.length) pw hp;have f4:=dW num 1;have f5:=dW (num+1) (c / 8 / NS.length % pw);have h9:0<=c / 8 / NS.length % pw:=Int.emod_nonneg _ (by lia);generalize hn:num+1+c / 8 / NS.length % pw=n at f5;have G:=g.piece (n:=n) (s:=s) (v:=v) (by lia) hv ev (by lia);refine⟨_,_,T,n,rings,bare,.int (c / 8),.lst (SM.map enP),G,hr,by lia,by lia,fin ?_⟩;have s1:cC false 7 (b2 (aW .add) (b2 (aW .add) oZ eO) (b2 (aW .mod) (b2 (aW .fdiv) kO (aQ gH (aD cT aR))) (b2 (aW .pow) WR aKh))) true (St kvs cells seed NS Q L T num bare rings (.int c) (.int (c / 8)) (.lst (SM.map enP)))=.ok (.nx (St kvs cells seed NS Q L T n bare rings (.int c) (.int (c / 8)) (.lst (SM.map enP)))):=
   bH (aJ (aJ rfl rfl f4) (aJ (aJ rfl (aK (aC rfl rfl) (aLt NS)) f1) (aJ rfl rfl f2) f3) f5)
  have s2:xV 4 (eQ (aD oZ (aD (b2 getD cT (b2 (aW .mod) kO (aQ gH (aD cT aR)))) aR))) (St kvs cells seed NS Q L T n bare rings (.int c) (.int (c / 8)) (.lst (SM.map enP)))=.ok (.nx (St kvs cells seed NS (Q++[(n,s)]) L T n bare rings (.int c) (.int (c / 8)) (.lst (SM.map enP)))):=by
   have d0:eQ (aD oZ (aD (b2 getD cT (b2 (aW .mod) kO (aQ gH (aD cT aR)))) aR)) (St kvs cells seed NS Q L T n bare rings (.int c) (.int (c / 8)) (.lst (SM.map enP)))=.ok (.tup [.int n,.str s]):=dF (aC rfl (aC (aJ rfl (aJ rfl (aK (aC rfl rfl) (aLt NS)) gm) es) rfl)) (by rw[bO];simp);refine(rQ (i:=4) (ρ:=St kvs cells seed NS Q L T n bare rings (.int c) (.int (c / 8)) (.lst (SM.map enP))) (xs:=Q.map pcD) (d:=.tup [.int n,.str s]) d0 rfl (by rw[List.length_map,bO];lia) rfl).trans ?_;show _=Res.ok (Fl.nx [.dct kvs,cells,.int seed,.lst (NS.map D.str),.lst ((Q++[(n,s)]).map pcD),.lst (L.map enP),.lst (T.map bI),.int n,.int bare,.int rings,.int c,.int (c / 8),.lst (SM.map enP)]);rw[List.map_append];rfl
  have cf:dU 13 (mV (aD (b2 (aW .add) (b2 getD cA (b2 getD cT (b2 (aW .mod) kO (aQ gH (aD cT aR))))) eO) aR) mC) lZ jQ (eQ (aD oZ (aD jZ aR))) false (St kvs cells seed NS (Q++[(n,s)]) L T n bare rings (.int c) (.int (c / 8)) (.lst (SM.map enP)))=.ok (.lst (((List.range (v+1)).map λ(h:Nat)=>((n,(h:Int)):Pt)).map enP)):=by
   refine fK (rP (n:=(v:Int)+1) (aC (aJ (aJ rfl (aJ rfl (aJ rfl (aK (aC rfl rfl) (aLt NS)) gm) es) gs) rfl (dW v 1)) rfl) (by lia) (by lia)) (by rw[List.length_map,List.length_range,bO];lia) ?_;rw[cY _ (λ(k:Nat)=>D.int (0+(k:Int))) (λ_=>true) (λ(k:Nat)=>enP (n,(k:Int)))]
   ·rw[show((v:Int)+1).toNat=v+1 by lia];rw[List.filter_eq_self.mpr (λ_ _=>rfl),List.map_map,List.nil_append];rfl
   ·intro acc k;refine rR (ρ:=St kvs cells seed NS (Q++[(n,s)]) L T n bare rings (.int c) (.int (c / 8)) (.lst (SM.map enP))) (b:=true) rfl rfl λ_=>⟨?_,rfl⟩
    have d1:eQ (aD oZ (aD jZ aR)) (St kvs cells seed NS (Q++[(n,s)]) L T n bare rings (.int c) (.int (c / 8)) (.lst (SM.map enP))++[D.int (0+(k:Int))])=.ok (.tup [.int n,.int (0+(k:Int))]):=dF (aC rfl (aC rfl rfl)) (by rw[bO];simp);refine d1.trans ?_;rw[Int.zero_add];rfl
  have s3:cC false 5 (b2 (aW .add) iH (dU 13 (mV (aD (b2 (aW .add) (b2 getD cA (b2 getD cT (b2 (aW .mod) kO (aQ gH (aD cT aR))))) eO) aR) mC) lZ jQ (eQ (aD oZ (aD jZ aR))) false)) true (St kvs cells seed NS (Q++[(n,s)]) L T n bare rings (.int c) (.int (c / 8)) (.lst (SM.map enP)))=.ok (.nx (St kvs cells seed NS (Q++[(n,s)]) (L++(List.range (v+1)).map λ(h:Nat)=>((n,(h:Int)):Pt)) T n bare rings (.int c) (.int (c / 8)) (.lst (SM.map enP)))):=by
   refine(bH (aJ rfl cf (zX (L.map enP) _ (by simp only[List.length_map,List.length_range,bO];lia) (wI _) (wI _)))).trans ?_;rw[<-List.map_append];rfl
  exact zU T1 (aL s1 (aL s2 s3))
 |false=>
  have T1:=t1 false hA.symm;cases hB:(decide (4<=c % 8)&&decide (c % 8<6)&&decide ((1:Int)<SM.length)) with
  |true=>
   have T2:=t2 true hB.symm;rw[Bool.and_eq_true,decide_eq_true_eq] at hB;obtain⟨a,b,ha,hb',hlt,et⟩:=aG6 SM (c / 8) (hSM.nodup g.ln) (by lia) (by have:=hSM.length_le;lia);have G:=g.tie (hSM.mem ha) (hSM.mem hb') hlt;refine⟨Q,_,T++[(a,b)],num,rings,bare,.int (c / 8),.lst (SM.map enP),G,hr,by simp,by lia,fin (o8 T1 (zU T2 ?_))⟩;have s1:xV 6 (aQ (cR 2 eE) (aD gP (aD kO aR))) (St kvs cells seed NS Q L T num bare rings (.int c) (.int (c / 8)) (.lst (SM.map enP)))=.ok (.nx (St kvs cells seed NS Q L (T++[(a,b)]) num bare rings (.int c) (.int (c / 8)) (.lst (SM.map enP)))):=by
    have d0:aQ (cR 2 eE) (aD gP (aD kO aR)) (St kvs cells seed NS Q L T num bare rings (.int c) (.int (c / 8)) (.lst (SM.map enP)))=.ok (bI (a,b)):=aK (aC rfl (aC rfl rfl)) ((cU rfl).trans et);refine(rQ (i:=6) (ρ:=St kvs cells seed NS Q L T num bare rings (.int c) (.int (c / 8)) (.lst (SM.map enP))) (xs:=T.map bI) (d:=bI (a,b)) d0 rfl (by rw[List.length_map,bO];lia) rfl).trans ?_;show _=Res.ok (Fl.nx [.dct kvs,cells,.int seed,.lst (NS.map D.str),.lst (Q.map pcD),.lst (L.map enP),.lst ((T++[(a,b)]).map bI),.int num,.int bare,.int rings,.int c,.int (c / 8),.lst (SM.map enP)]);rw[List.map_append];rfl
   have gl:getD (.lst ((T++[(a,b)]).map bI)) (.int (-1))=.ok (bI (a,b)):=by
    show Res.ofOpt ((ixD ((T++[(a,b)]).map bI).length (-1)).bind λj=>((T++[(a,b)]).map bI)[j]?)=_;have:ixD ((T++[(a,b)]).map bI).length (-1)=some T.length:=by
     unfold ixD;rw[if_neg (by decide),if_pos (by simp only[List.length_map,List.length_append,List.length_cons,List.length_nil];lia)]
     congr 1
     simp only[List.length_map,List.length_append,List.length_cons,List.length_nil];lia
    rw[this];simp
   have cf:dU 13 (dM iH false) lZ (bTB (b2 (bR .notin) jZ (b2 getD mQ (b1 aI9 eO)))) jZ false (St kvs cells seed NS Q L (T++[(a,b)]) num bare rings (.int c) (.int (c / 8)) (.lst (SM.map enP)))=.ok (.lst ((L.filter λx=>!(decide (a=x)||decide (b=x))).map enP)):=by
    refine fK (fD rfl rfl) (by rw[List.length_map,bO];lia) ?_;rw[cY _ enP (λx=>!(decide (a=x)||decide (b=x))) enP]
    ·rfl
    ·intro acc p;have cn:bR .notin (enP p) (bI (a,b))=.ok (.bl (!(decide (a=p)||decide (b=p)))):=by
      show(if (enP p).fJ aN&&D.dJ aN [enP a,enP b] then Res.ok (D.bl (!([enP a,enP b].any λy=>eqD y (enP p)))) else .bad)=_;rw[if_pos (show(D.fJ aN (enP p)&&D.dJ aN [enP a,enP b])=true from rfl)];simp only[List.any_cons,List.any_nil,qO,Bool.or_false]
     exact rR (ρ:=St kvs cells seed NS Q L (T++[(a,b)]) num bare rings (.int c) (.int (c / 8)) (.lst (SM.map enP))) rfl (dD (aJ (x:=enP p) rfl (aJ rfl (y:=.int (-1)) rfl gl) cn)) λ_=>⟨rfl,rfl⟩
   exact aL s1 (bH cf)
  |false=>
   have T2:=t2 false hB.symm;cases h6:(c % 8==6) with
   |true=>
    rw[h6] at e6;refine⟨Q,L,T,num,rings,bare+1,.int (c / 8),.lst (SM.map enP),g,hr,by lia,by lia,fin (o8 T1 (o8 T2 (zU (dD (aJ (aJ rfl rfl m8) rfl e6)) ?_)))⟩;exact bH (aJ rfl rfl (dW bare 1))
   |false=>
    rw[h6] at e6;cases h7:(c % 8==7) with
    |true=>
     rw[h7] at e7;have f2:aW .pow (.int 10) (.int 50)=.ok (.int (10 ^ 50)):=aDl 50 (by decide);have f3:=iI (c / 8) (10 ^ 50) (by decide);refine⟨Q,L,T,num,rings+c / 8 % 10 ^ 50,bare,.int (c / 8),.lst (SM.map enP),g,Int.add_nonneg hr (Int.emod_nonneg _ (by decide)),by lia,by lia,fin (o8 T1 (o8 T2 (o8 (dD (aJ (aJ rfl rfl m8) rfl e6)) (zU (dD (aJ (aJ rfl rfl m8) rfl e7)) ?_))))⟩;exact bH (aJ rfl (aJ rfl (aJ rfl rfl f2) f3) (dW rings _))
    |false=>
     rw[h7] at e7;exact⟨Q,L,T,num,rings,bare,.int (c / 8),.lst (SM.map enP),g,hr,by lia,by lia,fin (o8 T1 (o8 T2 (o8 (dD (aJ (aJ rfl rfl m8) rfl e6)) (o8 (dD (aJ (aJ rfl rfl m8) rfl e7)) rfl))))⟩
theorem JK(hst:iG kvs)(hNS:iJ kvs=NS.map D.str)(hne:NS≠[])(hNl:NS.length<=1000):∀(cs:List Int){Q:List Pc}{L:List Pt}{T:List Tie}{num rings:Int}{bare:Nat}{x m sm:D},Gr kvs Q L T num->0<=rings->T.length+cs.length<=1000->bare+cs.length<=1000->
  ∃(Q':List Pc)(L':List Pt)(T':List Tie)(num' rings':Int)(bare':Nat)(x' m' sm':D),Gr kvs Q' L' T' num'/\0<=rings'/\T'.length<=T.length+cs.length/\bare'<=bare+cs.length/\nY (tg1 10) ZJ (cs.map D.int) (St kvs cells seed NS Q L T num bare rings x m sm)=.ok (.nx (St kvs cells seed NS Q' L' T' num' bare' rings' x' m' sm'))
 |[],Q,L,T,num,rings,bare,x,m,sm,g,hr,_,_=>⟨Q,L,T,num,rings,bare,x,m,sm,g,hr,by simp,by simp,rfl⟩
 |c::cs,Q,L,T,num,rings,bare,x,m,sm,g,hr,h1,h2=>by
  rw[List.length_cons] at h1 h2;obtain⟨Q1,L1,T1,n1,r1,b1,m1,s1,g1,hr1,i1,i2,e1⟩:=aG7 (cells:=cells) (seed:=seed) (rings:=rings) (c:=c) (m:=m) (sm:=sm) hst hNS hne hNl g (bare:=bare) (by lia) (by lia) hr;obtain⟨Q2,L2,T2,n2,r2,b2,x2,m2,s2,g2,hr2,j1,j2,e2⟩:=JK hst hNS hne hNl cs (rings:=r1) (bare:=b1) (x:=.int c) (m:=m1) (sm:=s1) g1 hr1 (by lia) (by lia);refine⟨Q2,L2,T2,n2,r2,b2,x2,m2,s2,g2,hr2,by simp only[List.length_cons];lia,by simp only[List.length_cons];lia,?_⟩;exact cD (ρ1:=St kvs cells seed NS Q L T num bare rings (.int c) m sm) rfl e1 e2
end
theorem gr0{kvs:List (D×D)}:Gr kvs [] [] [] 0:=⟨by simp[ends],by simp,by simp,by lia,by simp,by simp[ends],by simp,by simp,by simp,by simp,by simp[ends,hks],by simp⟩
noncomputable def ZK:D->Tie
 |.tup [.tup [.int a,.int b],.tup [.int c,.int d]]=>((a,b),(c,d))
 |_=>((0,0),(0,0))
theorem wK(t:Tie):ZK (bI t)=t:=rfl
def fX(U:List Tie):List Tie:=(jY (U.map bI)).map ZK
theorem b_(U:List Tie):(fX U).Perm U:=by
 have h:=(eG (U.map bI)).map ZK;rw[List.map_map] at h;have e:U.map (ZK ∘ bI)=U:=by
  conv=>rhs;rw[<-List.map_id U]
  exact List.map_congr_left λt _=>wK t
 rw[e] at h;exact h
theorem ZL(U:List Tie):(fX U).map bI=jY (U.map bI):=by
 unfold fX;rw[List.map_map]
 conv=>rhs;rw[<-List.map_id (jY (U.map bI))]
 refine List.map_congr_left λd hd=>?_
 obtain⟨t,_,rfl⟩:=List.mem_map.mp ((eG (U.map bI)).mem_iff.mp hd);rfl
theorem aG8(s t:Tie):∃k,iU .lt (bI s) (bI t)=some k:=by
 have e:iU .lt (bI s) (bI t)=(if eqD (enP s.1) (enP t.1) then (if eqD (enP s.2) (enP t.2) then some (gW.lt.nat 0 0) else iU .lt (enP s.2) (enP t.2)) else iU .lt (enP s.1) (enP t.1)):=rfl;rw[e,wH,wH];split
 ·split
  ·exact⟨_,rfl⟩
  ·exact⟨_,rfl⟩
 ·exact⟨_,rfl⟩
theorem wL(U:List Tie):bJ (U.map bI)=true:=by
 unfold bJ;refine List.all_eq_true.mpr λd hd=>?_
 obtain⟨t,ht,rfl⟩:=List.mem_map.mp hd;have hk:eV ((U.map bI).headD .non)=5:=by
  cases U with
  |nil=>cases ht
  |cons u U=>rfl
 have h5:eV (bI t)=5:=rfl;have hp:(bI t).plain=true:=rfl;have hq:(bI t).fJ aN=true:=rfl;rw[hk,h5,hp,hq];refine List.all_eq_true.mpr λb hb=>?_
 obtain⟨u,_,rfl⟩:=List.mem_map.mp hb;obtain⟨k,e⟩:=aG8 t u;rw[e];rfl
theorem CK(U:List Tie):mU [.lst (U.map bI)]=.ok (.lst ((fX U).map bI)):=by
 show(if bJ (U.map bI) then Res.ok (D.lst (jY (U.map bI))) else .bad)=_;rw[wL,if_pos rfl,ZL]
def LeT(s t:Tie):Prop:=leE (bI s) (bI t)=true
theorem fV(U:List Tie):(fX U).Pairwise LeT:=by
 have h:=jK (U.map bI);rw[<-ZL,List.pairwise_map] at h;exact h
theorem ZM:∀{xs ys:List Tie},xs.map bI=ys.map bI->xs=ys
 |[],[],_=>rfl
 |x::xs,y::ys,h=>by
  rw[List.map_cons,List.map_cons,List.cons.injEq] at h;have e:=congrArg ZK h.1;rw[wK,wK] at e;rw[e,ZM h.2]
 |[],_::_,h=>by cases h
 |_::_,[],h=>by cases h
theorem eq_of_sorted{U V:List Tie}(h:U.Perm V)(h1:U.Pairwise LeT)(h2:V.Pairwise LeT):U=V:=by
 refine ZM (vM (λd hd=>?_) (h.map bI) (List.pairwise_map.mpr h1) (List.pairwise_map.mpr h2));obtain⟨t,_,rfl⟩:=List.mem_map.mp hd;rfl
theorem aCg{U:List Tie}(h:U.Pairwise LeT):fX U=U:=eq_of_sorted (b_ U) (fV U) h
theorem sW{U V:List Tie}(h:U.Perm V):fX U=fX V:=eq_of_sorted ((b_ U).trans (h.trans (b_ V).symm)) (fV U) (fV V)
theorem ZP(a b:Int):eqD (.int a) (.int b)=(a==b):=rfl
theorem aDv(a b:Pc):∃k,iU .lt (pcD a) (pcD b)=some k/\(a.1≠b.1->k=decide (a.1<b.1)):=by
 have e:iU .lt (pcD a) (pcD b)=(if eqD (.int a.1) (.int b.1) then (if eqD (.str a.2) (.str b.2) then some (gW.lt.nat 0 0) else some (gW.lt.str a.2 b.2)) else some (gW.lt.int a.1 b.1)):=rfl;rw[e,ZP];by_cases h:a.1=b.1
 ·rw[if_pos (by simp[h])];split
  ·exact⟨_,rfl,λz=>absurd h z⟩
  ·exact⟨_,rfl,λz=>absurd h z⟩
 ·rw[if_neg (by simp[h])];exact⟨_,rfl,λ_=>rfl⟩
theorem xN(U:List Pc):bJ (U.map pcD)=true:=by
 unfold bJ;refine List.all_eq_true.mpr λd hd=>?_
 obtain⟨t,ht,rfl⟩:=List.mem_map.mp hd;have hk:eV ((U.map pcD).headD .non)=3:=by
  cases U with
  |nil=>cases ht
  |cons u U=>rfl
 have h5:eV (pcD t)=3:=rfl;have hp:(pcD t).plain=true:=rfl;have hq:(pcD t).fJ aN=true:=rfl;rw[hk,h5,hp,hq];refine List.all_eq_true.mpr λb hb=>?_
 obtain⟨u,_,rfl⟩:=List.mem_map.mp hb;obtain⟨k,e,_⟩:=aDv t u;rw[e];rfl
def LtN(a b:Pc):Prop:=a.1<b.1
theorem iY(T:List Tie):D.aY (T.map bI)=true:=sV T
theorem wM(T:List Pc):D.aY (T.map pcD)=true:=RJ T
theorem sX(Q:List Pc)(V:List Tie)(r:Int):(bG Q V r).pure=true:=by
 show((D.tup (Q.map pcD)).pure&&((D.tup (V.map bI)).pure&&(true&&true)))=true;rw[RJ,sV];rfl
theorem wN:∀{kvs:List (D×D)},iG kvs->∃NS:List Str,iJ kvs=NS.map D.str
 |[],_=>⟨[],rfl⟩
 |p::kvs,h=>by
  obtain⟨s,v,e,_⟩:=h p (List.mem_cons_self ..);obtain⟨NS,ih⟩:=wN (kvs:=kvs) λq hq=>h q (List.mem_cons_of_mem _ hq)
  refine⟨s::NS,?_⟩;subst e;show D.str s::iJ kvs=_;rw[ih];rfl
theorem UV{kvs:List (D×D)}(h:iG kvs):K_ [.dct kvs]=.ok (.lst (iJ kvs)):=by
 have e:kvs.all (λp=>!isTup p.1)=true:=List.all_eq_true.mpr λp hp=>by
  obtain⟨s,v,rfl,_⟩:=h p hp;rfl
 show(if kvs.all (λp=>!isTup p.1) then Res.ok (D.lst (iJ kvs)) else .bad)=_;rw[e,if_pos rfl]
theorem RK{U W:List Pc}(p:U.Perm W)(h:W.Pairwise LtN):mU [.lst (U.map pcD)]=.ok (.lst (W.map pcD)):=by
 show(if bJ (U.map pcD) then Res.ok (D.lst (jY (U.map pcD))) else .bad)=_;rw[xN,if_pos rfl]
 congr 2
 refine vM (λd hd=>?_) ((eG _).trans (p.map pcD)) (jK _) (List.pairwise_map.mpr (h.imp λ{a b} hab=>?_))
 ·obtain⟨t,_,rfl⟩:=List.mem_map.mp ((eG (U.map pcD)).mem_iff.mp hd);rfl
 ·have hab:a.1<b.1:=hab;obtain⟨k,e,hk⟩:=aDv b a;have e1:=yZ (pcD b) (pcD a) k rfl rfl e;rw[hk (by lia),decide_eq_false (by lia)] at e1;unfold leE;rw[<-e1];rfl
theorem call_v{n m:Nat}{f:FS}{ds:List D}{d:D}(h:f (ds++List.replicate (m-n) D.uD)=.ok (.rt d)):fnS n m f ds=.ok d:=by
 show(do let r <- f (ds++List.replicate (m-n) D.uD);aD4 r)=_;rw[h];rfl
theorem e_{n:Nat}{t:D->Res (List D)}{c:FT}{f:FE}{k:Bool}{ρ acc bs:List D}{x y:D}{b:Bool}(hρ:ρ.length=n)(ht:t x=.ok bs)(h1:c (ρ++bs)=.ok b)(h2:b=true->f (ρ++bs)=.ok y/\(k||y.pure)=true):kW n t c f k ρ acc x=.ok (if b then acc++[y] else acc):=by
 unfold kW;rw[ht,Res.aV,HB hρ,h1,Res.aV];cases b with
 |false=>rfl
 |true=>
  obtain⟨h3,h4⟩:=h2 rfl;rw[if_pos rfl,h3,Res.aV,if_pos h4];rfl
theorem ZQ{f:FE}{ρ:List D}{d:D}{b:Bool}(h:f ρ=.ok d)(h2:aMh d=.ok b):bTr f ρ=.ok b:=by
 unfold bTr;rw[h];exact h2
theorem JL{f:FT}{ρ:List D}{b:Bool}(h:f ρ=.ok b):U6 f ρ=.ok (!b):=by
 unfold U6;rw[h];rfl
theorem aNr{x y:FT}{ρ:List D}{r:Res Bool}(h1:x ρ=.ok false)(h2:y ρ=r):bOr x y ρ=r:=by
 unfold bOr;rw[h1];exact h2
theorem ZR{a b:FE}{ρ:List D}{r:Res D}(h1:a ρ=.ok (.bl true))(h2:b ρ=r):vI a b ρ=r:=by
 unfold vI;rw[h1];exact h2
theorem aLu{f:D->Res D}{a:FE}{ρ:List D}{x y:D}(h1:a ρ=.ok x)(h2:f x=.ok y):b1 f a ρ=.ok y:=by
 unfold b1;rw[h1];exact h2
theorem aG9{a:FE}{ρ:List D}{k:Bool}(h:a ρ=.ok (.bl k)):WT a ρ=.ok (.bl (!k)):=by
 unfold WT;rw[h];rfl
theorem irr(a b:Pt)(h:ltP a b):¬ltP b a:=by
 simp only[ltP] at *;lia
section
variable (Q:List Pc) (T:List Tie) (r:Int)
theorem n0:getD (bG Q T r) (.int 0)=.ok (.tup (Q.map pcD)):=rfl
theorem n1:getD (bG Q T r) (.int 1)=.ok (.tup (T.map bI)):=rfl
theorem n2:getD (bG Q T r) (.int 2)=.ok (.int r):=rfl
end
theorem oO(T:List Tie):(ends T).length=2*T.length:=by
 induction T with
 |nil=>rfl
 |cons t T ih=>simp only[ends,List.flatMap_cons,List.length_append,List.length_cons,List.length_nil] at *;lia
theorem ends_app(T R:List Tie):ends (T++R)=ends T++ends R:=by simp[ends]
theorem eZ{V U:List Tie}(h:V.Perm U):(ends V).Perm (ends U):=by
 unfold ends;induction h with
 |nil=>exact .nil
 |cons x _ ih=>simpa using ih
 |swap x y l=>
  simp only[List.flatMap_cons];rw[<-List.append_assoc,<-List.append_assoc];exact List.Perm.append_right _ List.perm_append_comm
 |trans _ _ ih1 ih2=>exact ih1.trans ih2
theorem JM{f g:FS}{ρ:List D}{d:D}(h:f ρ=.ok (.rt d)):bK f g ρ=.ok (.rt d):=by
 unfold bK;rw[h];rfl
def oW:Nat->D->Bool
 |0,_=>false
 |n+1,.tup xs=>decide (xs.length<=1000000)&&xs.all (oW n)
 |_+1,.int _=>true
 |_+1,.str _=>true
 |_+1,_=>false
theorem aGa(xs:List D)(j:Nat)(h:j<xs.length):getD (.tup xs) (.int (0+(j:Int)))=.ok xs[j]:=by
 show Res.ofOpt ((ixD xs.length (0+(j:Int))).bind λi=>xs[i]?)=_;have e:ixD xs.length (0+(j:Int))=some j:=by
  unfold ixD;rw[if_pos (by lia),if_pos (by lia)]
  congr 1
  lia
 rw[e];show Res.ofOpt (xs[j]?)=_;rw[List.getElem?_eq_getElem h];rfl
theorem JN{rr:List D->Res D}{xs:List D}(ih:∀d∈xs,rr [d,d]=.ok (.bl true)):∀(m k:Nat)(x:D),k+m=xs.length->∃x',nY (tg1 2) (sIf (U6 (bTr (aQ (cR 2 rr) (aD (b2 getD cA eF) (aD (b2 getD d_ eF) aR))))) (j6 (bC (.bl false)) true) j_) ((List.range' k m).map λ(j:Nat)=>D.int (0+(j:Int))) [.tup xs,.tup xs,x]=.ok (.nx [.tup xs,.tup xs,x'])
 |0,k,x,_=>⟨x,rfl⟩
 |m+1,k,x,h=>by
  obtain⟨x',e⟩:=JN ih m (k+1) (.int (0+(k:Int))) (by lia);have hk:k<xs.length:=by lia
  have hg:=aGa xs k hk;have hr:cR 2 rr [xs[k],xs[k]]=.ok (.bl true):=(cU rfl).trans (ih _ (List.getElem_mem hk));refine⟨x',?_⟩;rw[List.range'_succ,List.map_cons];exact cD (ρ1:=[.tup xs,.tup xs,.int (0+(k:Int))]) (ρ2:=[.tup xs,.tup xs,.int (0+(k:Int))]) rfl (o8 (JL (b:=true) (ZQ (aK (xs:=[xs[k],xs[k]]) (aC (aJ (x:=.tup xs) (y:=.int (0+(k:Int))) rfl rfl hg) (aC (aJ (x:=.tup xs) (y:=.int (0+(k:Int))) rfl rfl hg) rfl)) hr) rfl)) rfl) e
theorem ZS:∀(n:Nat)(d:D),oW n d=true->b8 n [d,d]=.ok (.bl true)
 |0,_,h=>by cases h
 |n+1,.tup xs,h=>by
  simp only[oW,Bool.and_eq_true,decide_eq_true_eq] at h;obtain⟨hl,ha⟩:=h;obtain⟨x',e⟩:=JN (rr:=b8 n) (xs:=xs) (λd hd=>ZS n d (List.all_eq_true.mp ha d hd)) xs.length 0 .uD (by lia);rw[<-List.range_eq_range'] at e;have hlen:aQ gH (aD d_ aR) [.tup xs,.tup xs,.uD]=.ok (.int xs.length):=aK (xs:=[.tup xs]) (aC rfl rfl) rfl;have hlen0:aQ gH (aD cA aR) [.tup xs,.tup xs,.uD]=.ok (.int xs.length):=aK (xs:=[.tup xs]) (aC rfl rfl) rfl;have hne:bR .ne (.int xs.length) (.int xs.length)=.ok (.bl false):=by
   show Res.ok (D.bl (!((xs.length:Int)==xs.length)))=_;simp
  have hr:=rP (f:=aD (aQ gH (aD d_ aR)) aR) (ρ:=[.tup xs,.tup xs,.uD]) (n:=(xs.length:Int)) (aC hlen rfl) (by lia) (by lia);have first:(sIf (bTr (b1 (rC .tuple) d_)) (bK (sIf (bOr (U6 (bTr (b1 (rC .tuple) cA))) (bTB (b2 (bR .ne) (aQ gH (aD cA aR)) (aQ gH (aD d_ aR))))) (j6 (bC (.bl false)) true) j_) (bK (GK (mV (aD (aQ gH (aD d_ aR)) aR) mC) (tg1 2) (sIf (U6 (bTr (aQ (cR 2 (b8 n)) (aD (b2 getD cA eF) (aD (b2 getD d_ eF) aR))))) (j6 (bC (.bl false)) true) j_)) (j6 (bC (.bl true)) true))) j_) [.tup xs,.tup xs,.uD]=.ok (.rt (.bl true)):=by
   refine zU (ZQ (d:=.bl true) rfl rfl) ?_;refine aL (ρ':=[.tup xs,.tup xs,.uD]) (o8 (aNr (JL (b:=true) (ZQ (d:=.bl true) rfl rfl)) (dD (aJ hlen0 hlen hne))) rfl) ?_;exact aL (m_ hr e) rfl
  show fnS 2 3 (lJ (b8 n)) [.tup xs,.tup xs]=_;refine call_v ?_;exact JM first
 |n+1,.int i,_=>by
  show fnS 2 3 (lJ (b8 n)) [.int i,.int i]=_;refine call_v ?_;refine aL (ρ':=[.int i,.int i,.uD]) (o8 (ZQ (d:=.bl false) rfl rfl) rfl) ?_;refine aL (ρ':=[.int i,.int i,.uD]) (o8 (ZQ (d:=.bl false) rfl rfl) rfl) ?_;refine eX (d:=.bl true) (ZR rfl (ZR (aG9 (k:=false) rfl) (aJ (x:=.int i) (y:=.int i) rfl rfl ?_))) rfl;show Res.ok (D.bl (i==i))=_;simp
 |n+1,.str i,_=>by
  have e:(sIf (bTr (b1 (rC .str) d_)) (j6 (vI (b1 (rC .str) cA) (b2 (bR .eq) cA d_)) true) j_) [.str i,.str i,.uD]=.ok (.rt (.bl true)):=by
   refine zU (ZQ (d:=.bl true) rfl rfl) (eX (d:=.bl true) (ZR rfl (aJ (x:=.str i) (y:=.str i) rfl rfl ?_)) rfl);show Res.ok (D.bl (i==i))=_;simp
  show fnS 2 3 (lJ (b8 n)) [.str i,.str i]=_;refine call_v ?_;refine aL (ρ':=[.str i,.str i,.uD]) (o8 (ZQ (d:=.bl false) rfl rfl) rfl) ?_;exact JM e
 |n+1,.uD,h=>by cases h
 |n+1,.non,h=>by cases h
 |n+1,.bl _,h=>by cases h
 |n+1,.lst _,h=>by cases h
 |n+1,.dct _,h=>by cases h
 |n+1,.scr _,h=>by cases h
theorem RL{Q:List Pc}{T:List Tie}{r:Int}(hq:Q.length<=1000)(ht:T.length<=100000):cR 2 (b8 6) [bG Q T r,bG Q T r]=.ok (.bl true):=by
 refine(cU rfl).trans (ZS 6 _ ?_);have h1:oW 5 (.tup (Q.map pcD))=true:=by
  simp only[oW,Bool.and_eq_true,decide_eq_true_eq,List.length_map];refine⟨by lia,List.all_eq_true.mpr λd hd=>?_⟩;obtain⟨p,_,rfl⟩:=List.mem_map.mp hd;rfl
 have h2:oW 5 (.tup (T.map bI))=true:=by
  simp only[oW,Bool.and_eq_true,decide_eq_true_eq,List.length_map];refine⟨by lia,List.all_eq_true.mpr λd hd=>?_⟩;obtain⟨p,_,rfl⟩:=List.mem_map.mp hd;rfl
 show(decide (3<=1000000)&&(oW 5 (.tup (Q.map pcD))&&(oW 5 (.tup (T.map bI))&&(oW 5 (.int r)&&true))))=true;rw[h1,h2];rfl
structure Net(kvs:List (D×D))(Q:List Pc)(T:List Tie):Prop where
 nd:(ends T).Nodup
 small:T.length<=1000
 qs:Q.Pairwise LtN
 qpos:∀pc∈Q,0<pc.1
 ql:Q.length<=30
 sk:∀pc∈Q,∃v:Nat,v<=6/\cL kvs (.str pc.2)=some (.int v)
 lt:∀t∈T,ltP t.1 t.2
 srt:T.Pairwise LeT
 rims:∃S:List Int,S.Nodup/\S.Perm ((List.range S.length).map λ(k:Nat)=>(k:Int))/\(ends T).Perm (hks kvs Q++S.map rim)
theorem aJq{kvs:List (D×D)}{Q:List Pc}{L:List Pt}{T R:List Tie}{num:Int}{S:List Int}(g:Gr kvs Q L T num)(hS:S.Nodup)(hS2:S.Perm ((List.range S.length).map λ(k:Nat)=>(k:Int)))(pR:(ends R).Perm (L++S.map rim))(hR:∀t∈R,ltP t.1 t.2)(hsm:(T++R).length<=1000):Net kvs Q (fX (T++R)):=by
 have pE:(ends (fX (T++R))).Perm (ends T++L++S.map rim):=by
  refine(eZ (b_ _)).trans ?_;rw[ends_app,List.append_assoc];exact List.Perm.append_left _ pR
 have pos:∀e∈ends T++L,0<e.1:=λe he=>by
  obtain⟨pc,h1,h2⟩:=List.mem_map.mp (g.num e he);have:=(g.qb pc h1).1;lia
 refine⟨?_,by rw[(b_ _).length_eq];exact hsm,g.qs,λpc h=>(g.qb pc h).1,g.ql,g.sk,λt ht=>?_,fV _,S,hS,hS2,pE.trans (g.pm.append_right _)⟩
 ·refine pE.nodup_iff.mpr (List.nodup_append.mpr ⟨g.nd,?_,λa ha b hb z=>?_⟩)
  ·refine List.Pairwise.map _ ?_ hS;intro a b hab z;exact hab (congrArg Prod.snd z)
  ·obtain⟨s,_,rfl⟩:=List.mem_map.mp hb;have:=pos a ha;rw[z] at this;exact absurd this (Int.lt_irrefl 0)
 ·rcases List.mem_append.mp ((b_ _).mem_iff.mp ht) with h|h
  ·exact g.lt t h
  ·exact hR t h
theorem RM{kvs:List (D×D)}(hst:iG kvs)(hne:kvs≠[])(hl:kvs.length<=5)(cs:List Int)(hc:cs.length<=200)(seed:Int):∃(Q:List Pc)(V:List Tie)(r:Int),Net kvs Q V/\0<=r/\cR 3 h_ [.dct kvs,.lst (cs.map D.int),.int seed]=.ok (bG Q V r):=by
 obtain⟨NS,hNS⟩:=wN hst;have lNS:NS.length=kvs.length:=by
  have:=congrArg List.length hNS;simpa[iJ] using this.symm
 have nNS:NS≠[]:=λz=>hne (by rw[z] at lNS;exact List.length_eq_zero_iff.mp lNS.symm)
 obtain⟨Q,L,T,num,rings,bare,x,m,sm,g,hrg,i1,i2,e1⟩:=JK (cells:=.lst (cs.map D.int)) (seed:=seed) hst hNS nNS (by lia) cs (rings:=0) (bare:=0) (x:=.uD) (m:=.uD) (sm:=.uD) gr0 (Int.le_refl 0) (by simp;lia) (by lia);have lL:L.length<=420:=by have:=g.ll;have:=g.ql;lia
 have posE:∀p∈ends T++L,0<p.1:=λp hp=>by
  obtain⟨pc,h1,h2⟩:=List.mem_map.mp (g.num p hp);have:=(g.qb pc h1).1;lia
 simp only[List.length_nil] at i1;obtain⟨R,S,r1,rb,r2,r3,r4,r5⟩:=ZG L bare seed (λp hp=>posE p (List.mem_append_right _ hp)) (by lia);have lTR:(T++R).length<=1000:=by rw[List.length_append,r4];lia
 have hadd:aW .add (.lst (T.map bI)) (.lst (R.map bI))=.ok (.lst ((T++R).map bI)):=by
  rw[List.map_append];refine zX _ _ ?_ (iY T) (iY R);rw[List.length_map,List.length_map,bO];rw[List.length_append] at lTR;lia
 have hrim:cR 3 gD [.lst (L.map enP),.int bare,.int seed]=.ok (.lst (R.map bI)):=(cU rfl).trans r5;have hli:=UV hst;rw[hNS] at hli;have hin:inner (.lst ((T++R).map bI))=true:=iY _;refine⟨Q,fX (T++R),rings,aJq g r1 rb r2 r3 lTR,hrg,(cU rfl).trans ?_⟩;have fin:nF [.dct kvs,.lst (cs.map D.int),.int seed,.uD,.uD,.uD,.uD,.uD,.uD,.uD,.uD,.uD,.uD]=.ok (.rt (bG Q (fX (T++R)) rings)):=by
  refine aL (ρ':=[.dct kvs,.lst (cs.map D.int),.int seed,.lst (NS.map D.str),.uD,.uD,.uD,.uD,.uD,.uD,.uD,.uD,.uD]) (bH (aK (aC rfl rfl) hli)) ?_;refine aL (ρ':=[.dct kvs,.lst (cs.map D.int),.int seed,.lst (NS.map D.str),.lst [],.uD,.uD,.uD,.uD,.uD,.uD,.uD,.uD]) (fZ rfl rfl) ?_;refine aL (ρ':=[.dct kvs,.lst (cs.map D.int),.int seed,.lst (NS.map D.str),.lst [],.lst [],.uD,.uD,.uD,.uD,.uD,.uD,.uD]) (bH rfl) ?_;refine aL (ρ':=[.dct kvs,.lst (cs.map D.int),.int seed,.lst (NS.map D.str),.lst [],.lst [],.lst [],.uD,.uD,.uD,.uD,.uD,.uD]) (fZ rfl rfl) ?_;refine aL (ρ':=[.dct kvs,.lst (cs.map D.int),.int seed,.lst (NS.map D.str),.lst [],.lst [],.lst [],.int 0,.uD,.uD,.uD,.uD,.uD]) (bH rfl) ?_;refine aL (ρ':=[.dct kvs,.lst (cs.map D.int),.int seed,.lst (NS.map D.str),.lst [],.lst [],.lst [],.int 0,.int 0,.uD,.uD,.uD,.uD]) (bH rfl) ?_;refine aL (ρ':=[.dct kvs,.lst (cs.map D.int),.int seed,.lst (NS.map D.str),.lst [],.lst [],.lst [],.int 0,.int 0,.int 0,.uD,.uD,.uD]) (bH rfl) ?_;refine aL (zV (d:=.lst (cs.map D.int)) (xs:=cs.map D.int) rfl rfl e1) ?_;refine aL (ρ':=[.dct kvs,.lst (cs.map D.int),.int seed,.lst (NS.map D.str),.lst (Q.map pcD),.lst (L.map enP),.lst ((T++R).map bI),.int num,.int bare,.int rings,x,m,sm])
   (fZ (i:=6) (aJ (x:=.lst (T.map bI)) (y:=.lst (R.map bI)) rfl (aK (xs:=[.lst (L.map enP),.int bare,.int seed]) (aC rfl (aC rfl (aC rfl rfl))) hrim) hadd) hin) ?_
  refine eX (d:=bG Q (fX (T++R)) rings) (dF (xs:=[.tup (Q.map pcD),.tup ((fX (T++R)).map bI),.int rings]) (aC (aK (xs:=[.lst (Q.map pcD)]) (aC rfl rfl) rfl) (aC (aK (xs:=[.lst ((fX (T++R)).map bI)]) (aC (aK (xs:=[.lst ((T++R).map bI)]) (aC rfl rfl) (CK _)) rfl) rfl) (aC rfl rfl))) ?_) ?_
  ·rw[bO];show 3<=1000000;lia
  ·rw[sX];rfl
 show(do let r <- nF _;aD4 r)=_;rw[show([D.dct kvs,D.lst (cs.map D.int),D.int seed]++List.replicate (13-3) D.uD)=[.dct kvs,.lst (cs.map D.int),.int seed,.uD,.uD,.uD,.uD,.uD,.uD,.uD,.uD,.uD,.uD] from rfl,fin];rfl
noncomputable def cellAt(ns:List Int)(k:Nat):Int:=ns.getD k 0
theorem cell_eq(ns:List Int)(k:Nat):cR 2 cP [.scr (ns.map D.int),.int k]=.ok (.int (cellAt ns k)):=by
 refine(cU rfl).trans ?_;have hl:gH [.scr (ns.map D.int)]=.ok (.int ns.length):=by
  show Res.ok (D.int ((ns.map D.int).length:Int))=_;rw[List.length_map]
 have hc:bR (.ord .lt) (.int k) (.int ns.length)=.ok (.bl (decide ((k:Int)<ns.length))):=rfl;show(do let r <- eY [.scr (ns.map D.int),.int k];aD4 r)=_;by_cases h:k<ns.length
 ·have hg:getD (.scr (ns.map D.int)) (.int k)=.ok (.int (cellAt ns k)):=by
   show Res.ofOpt ((ixD (ns.map D.int).length k).bind λj=>(ns.map D.int)[j]?)=_;have:ixD (ns.map D.int).length k=some k:=by
    unfold ixD;rw[if_pos (by lia),if_pos (by rw[List.length_map];lia)];rfl
   rw[this];show Res.ofOpt ((ns.map D.int)[k]?)=_;rw[List.getElem?_map,List.getElem?_eq_getElem h];show Res.ok (D.int ns[k])=_;rw[cellAt,List.getD_eq_getElem?_getD,List.getElem?_eq_getElem h];rfl
  have e:eY [.scr (ns.map D.int),.int k]=.ok (.rt (.int (cellAt ns k))):=by
   have ht:(bTB (b2 (bR (.ord .lt)) d_ (aQ gH (aD cA aR)))) [.scr (ns.map D.int),.int k]=.ok true:=by
    refine dD (aJ rfl (aK (aC rfl rfl) hl) (hc.trans ?_));rw[decide_eq_true (by lia)]
   unfold eY bK;rw[zU (r:=.ok (.rt (.int (cellAt ns k)))) ht (eX (aJ rfl rfl hg) rfl)];rfl
  rw[e];rfl
 ·have e:eY [.scr (ns.map D.int),.int k]=.ok (.rt (.int (cellAt ns k))):=by
   refine aL (o8 (r:=.ok (.nx [.scr (ns.map D.int),.int k])) (dD (aJ rfl (aK (aC rfl rfl) hl) (hc.trans ?_))) rfl) (eX (d:=.int (cellAt ns k)) ?_ rfl)
   ·rw[decide_eq_false (by lia)]
   ·rw[cellAt,List.getD_eq_getElem?_getD,List.getElem?_eq_none (by lia)];rfl
  rw[e];rfl
theorem ZV{t:D->List D->Res (List D)}{body:FS}{x:D}{xs:List D}{ρ ρ1:List D}{d:D}(h1:t x ρ=.ok ρ1)(h2:body ρ1=.ok (.rt d)):nY t body (x::xs) ρ=.ok (.rt d):=by
 rw[nY,h1,Res.aV,h2,Res.aV]
theorem ZW(p:Pt):cR 1 rZ [enP p]=.ok (.bl true):=rfl
def mtb:FS:=bK (sIf (bTB (b2 (bR .eq) eF d_)) (j6 cT false) j_) (sIf (bTB (b2 (bR .eq) cT d_)) (j6 eF false) j_)
def hmt:FS:=sIf (bTr (aQ (cR 1 rZ) (aD d_ aR))) (GK (dM (b2 getD cA eO) false) (tgN [2,3]) mtb) j_
theorem aLv{n:D}{e:Pt}{t:Tie}(h:t.1=e):mtb [n,enP e,enP t.1,enP t.2]=.ok (.rt (enP t.2)):=by
 have c:=qP t.1 e;rw[decide_eq_true h] at c;exact JM (zU (dD (aJ rfl rfl c)) (eX (d:=enP t.2) rfl rfl))
theorem aLw{n:D}{e:Pt}{t:Tie}(h:t.1≠e)(h2:t.2=e):mtb [n,enP e,enP t.1,enP t.2]=.ok (.rt (enP t.1)):=by
 have c:=qP t.1 e;rw[decide_eq_false h] at c;have c2:=qP t.2 e;rw[decide_eq_true h2] at c2;exact aL (ρ':=[n,enP e,enP t.1,enP t.2]) (o8 (dD (aJ rfl rfl c)) rfl) (zU (dD (aJ rfl rfl c2)) (eX (d:=enP t.1) rfl rfl))
theorem aLx{n:D}{e:Pt}{t:Tie}(h:t.1≠e)(h2:t.2≠e):mtb [n,enP e,enP t.1,enP t.2]=.ok (.nx [n,enP e,enP t.1,enP t.2]):=by
 have c:=qP t.1 e;rw[decide_eq_false h] at c;have c2:=qP t.2 e;rw[decide_eq_false h2] at c2;exact aL (ρ':=[n,enP e,enP t.1,enP t.2]) (o8 (dD (aJ rfl rfl c)) rfl) (o8 (dD (aJ rfl rfl c2)) rfl)
theorem b7(t:Tie)(V:List Tie):ends (t::V)=t.1::t.2::ends V:=rfl
theorem bY{V:List Tie}{t:Tie}(h:t∈V):t.1∈ends V/\t.2∈ends V:=by
 unfold ends;exact⟨List.mem_flatMap.mpr ⟨t,h,by simp⟩,List.mem_flatMap.mpr ⟨t,h,by simp⟩⟩
def sY(V:List Tie)(e f:Pt):Prop:=(e,f)∈V\/(f,e)∈V
theorem sY.mem{V:List Tie}{e f:Pt}(h:sY V e f):e∈ends V/\f∈ends V:=by
 rcases h with h|h
 ·exact bY h
 ·exact⟨(bY h).2,(bY h).1⟩
theorem sY.symm{V:List Tie}{e f:Pt}(h:sY V e f):sY V f e:=Or.symm h
theorem aGb{V:List Tie}{e:Pt}(h:e∈ends V):∃f,sY V e f:=by
 obtain⟨t,ht,h⟩:=List.mem_flatMap.mp h;rcases List.mem_cons.mp h with h|h
 ·exact⟨t.2,.inl (by rw[h];exact ht)⟩
 ·exact⟨t.1,.inr (by rw[show e=t.2 by simpa using h];exact ht)⟩
theorem nO{t:Tie}{V:List Tie}{e f:Pt}(h:sY (t::V) e f)(h1:t.1≠e)(h2:t.2≠e):sY V e f:=by
 rcases h with h|h
 ·rcases List.mem_cons.mp h with h|h
  ·exact absurd (by rw[<-h]) h1
  ·exact .inl h
 ·rcases List.mem_cons.mp h with h|h
  ·exact absurd (by rw[<-h]) h2
  ·exact .inr h
theorem fB{t:Tie}{V:List Tie}{e f:Pt}(hn:(ends (t::V)).Nodup)(h:sY (t::V) e f):(t.1=e->t.2=f)/\(t.2=e->t.1=f):=by
 rw[b7,List.nodup_cons,List.nodup_cons,List.mem_cons,not_or] at hn;have key:e=t.1\/e=t.2->t=(e,f)\/t=(f,e):=λhe=>by
  have hv:e∉ends V:=by
   rcases he with he|he
   ·rw[he];exact hn.1.2
   ·rw[he];exact hn.2.1
  rcases h with h|h
  ·rcases List.mem_cons.mp h with h|h
   ·exact .inl h.symm
   ·exact absurd (bY h).1 hv
  ·rcases List.mem_cons.mp h with h|h
   ·exact .inr h.symm
   ·exact absurd (bY h).2 hv
 refine⟨λz=>?_,λz=>?_⟩
 ·rcases key (.inl z.symm) with h|h
  ·rw[h]
  ·rw[h] at hn z;exact absurd (show f=e from z) hn.1.1
 ·rcases key (.inr z.symm) with h|h
  ·rw[h] at hn z;exact absurd (show e=f from z.symm) hn.1.1
  ·rw[h]
theorem JP{e f g:Pt}:∀{V:List Tie},(ends V).Nodup->sY V e f->sY V e g->f=g
 |[],_,h,_=>by rcases h with h|h<;>cases h
 |t::V,hn,h1,h2=>by
  by_cases z:t.1=e
  ·rw[<-(fB hn h1).1 z,<-(fB hn h2).1 z]
  ·by_cases y:t.2=e
   ·rw[<-(fB hn h1).2 y,<-(fB hn h2).2 y]
   ·rw[b7,List.nodup_cons,List.nodup_cons] at hn;exact JP hn.2.2 (nO h1 z y) (nO h2 z y)
theorem nP{e f:Pt}:∀{V:List Tie},(ends V).Nodup->sY V e f->e≠f
 |[],_,h=>by rcases h with h|h<;>cases h
 |t::V,hn,h=>by
  have hn':=hn;rw[b7,List.nodup_cons,List.nodup_cons,List.mem_cons,not_or] at hn;by_cases z:t.1=e
  ·rw[<-z,<-(fB hn' h).1 z];exact hn.1.1
  ·by_cases y:t.2=e
   ·rw[<-y,<-(fB hn' h).2 y];exact λq=>hn.1.1 q.symm
   ·exact nP hn.2.2 (nO h z y)
theorem JQ{n:D}{e f:Pt}:∀(V:List Tie)(x y:D),(ends V).Nodup->sY V e f->nY (tgN [2,3]) mtb (V.map bI) [n,enP e,x,y]=.ok (.rt (enP f))
 |[],x,y,_,h=>by rcases h with h|h<;>cases h
 |t::V,x,y,hn,h=>by
  by_cases h1:t.1=e
  ·rw[<-(fB hn h).1 h1];exact ZV (ρ1:=[n,enP e,enP t.1,enP t.2]) rfl (aLv h1)
  ·by_cases h2:t.2=e
   ·rw[<-(fB hn h).2 h2];exact ZV (ρ1:=[n,enP e,enP t.1,enP t.2]) rfl (aLw h1 h2)
   ·rw[b7,List.nodup_cons,List.nodup_cons] at hn;exact cD (ρ1:=[n,enP e,enP t.1,enP t.2]) rfl (aLx h1 h2) (JQ V _ _ hn.2.2 (nO h h1 h2))
section
variable {Q:List Pc} {V:List Tie} {r:Int}
theorem OJ{ρ:List D}:dM (b2 getD cA eO) false (bG Q V r::ρ)=.ok (V.map bI,true):=by
 refine(fD (d:=.tup (V.map bI)) (xs:=V.map bI) (aJ rfl rfl rfl) rfl).trans ?_;rw[sV];rfl
theorem aLy{e:Pt}{x y:D}{res:Res Fl}(h:nY (tgN [2,3]) mtb (V.map bI) [bG Q V r,enP e,x,y]=res):hmt [bG Q V r,enP e,x,y]=res:=
 zU (ZQ (aK (xs:=[enP e]) (aC rfl rfl) (ZW e)) rfl) (m_ OJ h)
theorem ZX(hn:(ends V).Nodup){e f:Pt}(h:sY V e f):cR 2 HW [bG Q V r,enP e]=.ok (enP f):=by
 refine(cU rfl).trans (call_v ?_);exact JM (f:=hmt) (aLy (JQ V _ _ hn h))
end
noncomputable def norm(t:Tie):Tie:=(if ltP t.2 t.1 then t.2 else t.1,if ltP t.1 t.2 then t.2 else t.1)
theorem tW{t:Tie}(h:ltP t.1 t.2):norm t=t:=by
 unfold norm;rw[if_neg (irr _ _ h),if_pos h]
theorem ZZ{t:Tie}(h:ltP t.1 t.2):norm (t.2,t.1)=t:=by
 unfold norm;show((if ltP t.1 t.2 then t.1 else t.2),(if ltP t.2 t.1 then t.1 else t.2))=t;rw[if_pos h,if_neg (irr _ _ h)]
noncomputable def rem(p:Pt)(V:List Tie):List Tie:=V.filter λt=>decide (t.1≠p/\t.2≠p)
theorem sZ{p:Pt}:∀{V:List Tie},p∉ends V->rem p V=V
 |[],_=>rfl
 |t::V,h=>by
  rw[b7,List.mem_cons,List.mem_cons,not_or,not_or] at h;unfold rem;rw[List.filter_cons,if_pos (by simpa using ⟨λz=>h.1 z.symm,λz=>h.2.1 z.symm⟩)];show t::rem p V=t::V;rw[sZ h.2.2]
theorem CN{p a:Pt}:∀{V:List Tie},(ends V).Nodup->sY V p a->(ends V).Perm (p::a::ends (rem p V))
 |[],_,h=>by rcases h with h|h<;>cases h
 |t::V,hn,h=>by
  have hn':=hn;rw[b7,List.nodup_cons,List.nodup_cons,List.mem_cons,not_or] at hn;by_cases h1:t.1=p
  ·have h2:=(fB hn' h).1 h1;have e:rem p (t::V)=V:=by
    unfold rem;rw[List.filter_cons,if_neg (by simp[h1])];exact sZ (by rw[<-h1];exact hn.1.2)
   rw[e,b7,h1,h2]
  ·by_cases h2:t.2=p
   ·have h3:=(fB hn' h).2 h2;have e:rem p (t::V)=V:=by
     unfold rem;rw[List.filter_cons,if_neg (by simp[h2])];exact sZ (by rw[<-h2];exact hn.2.1)
    rw[e,b7,h3,h2];exact List.Perm.swap ..
   ·have e:rem p (t::V)=t::rem p V:=by
     unfold rem;rw[List.filter_cons,if_pos (by simpa using ⟨h1,h2⟩)]
    rw[e,b7,b7];have ih:=CN hn.2.2 (nO h h1 h2);have:(t.1::t.2::p::a::ends (rem p V)).Perm (p::a::t.1::t.2::ends (rem p V)):=by
     exact List.perm_append_comm (l₁:=[t.1,t.2]) (l₂:=[p,a]) |>.append_right (ends (rem p V))
    exact(List.Perm.cons _ (List.Perm.cons _ ih)).trans this
theorem wO{p:Pt}{V:List Tie}{t:Tie}:t∈rem p V↔t∈V/\t.1≠p/\t.2≠p:=by
 unfold rem;rw[List.mem_filter,decide_eq_true_eq]
theorem CP{p e f:Pt}{V:List Tie}(h:sY V e f)(h1:e≠p)(h2:f≠p):sY (rem p V) e f:=by
 rcases h with h|h
 ·exact .inl (wO.mpr ⟨h,h1,h2⟩)
 ·exact .inr (wO.mpr ⟨h,h2,h1⟩)
def tX(V:List Tie)(p q a b:Pt):List Tie:=if a=q then rem q (rem p V) else rem q (rem p V)++[(a,b)]
theorem Z0{V:List Tie}{p q a b:Pt}(hn:(ends V).Nodup)(hpq:p≠q)(ha:sY V p a)(hb:sY V q b):(ends V).Perm (p::q::ends (tX V p q a b)):=by
 have h1:=CN hn ha;have hn1:=h1.nodup_iff.mp hn;rw[List.nodup_cons,List.nodup_cons,List.mem_cons,not_or] at hn1;unfold tX;by_cases e:a=q
 ·rw[if_pos e,sZ (p:=q) (by rw[<-e];exact hn1.2.1)];rw[e] at h1;exact h1
 ·rw[if_neg e,ends_app];have hbp:b≠p:=λz=>by
   subst z;exact e (JP hn ha hb.symm)
  have h2:=CN hn1.2.2 (CP hb (Ne.symm hpq) hbp);refine h1.trans (List.Perm.cons _ ?_);have h3:(a::ends (rem p V)).Perm (a::q::b::ends (rem q (rem p V))):=List.Perm.cons _ h2;refine h3.trans ((List.Perm.swap ..).trans (List.Perm.cons _ ?_));show([a,b]++ends (rem q (rem p V))).Perm (ends (rem q (rem p V))++ends [(a,b)]);exact List.perm_append_comm
noncomputable def cl(k l:Int)(e:Pt):Pt:=if e.1=0 then (0,e.2-((if k<e.2 then 1 else 0)+(if l<e.2 then 1 else 0))) else e
def cl2(k l:Int)(t:Tie):Tie:=(cl k l t.1,cl k l t.2)
theorem yC{g:Pt->Pt}:∀{W:List Tie},(∀t∈W,g t.1=t.2/\g t.2=t.1/\t.1≠t.2)->((ends W).filter λe=>decide (ltP e (g e))).Perm (W.map λt=>(norm t).1)
 |[],_=>.nil
 |t::W,h=>by
  obtain⟨h1,h2,h3⟩:=h t (List.mem_cons_self ..);have ih:=yC (W:=W) λs hs=>h s (List.mem_cons_of_mem _ hs)
  rw[b7,List.map_cons,List.filter_cons,List.filter_cons,h1,h2];have tot:ltP t.1 t.2\/ltP t.2 t.1:=by
   unfold ltP;have:t.1.1≠t.2.1\/t.1.2≠t.2.2:=by
    by_cases z:t.1.1=t.2.1
    ·exact .inr λy=>h3 (Prod.ext z y)
    ·exact .inl z
   lia
  rcases tot with z|z
  ·rw[if_pos (by simpa using z),if_neg (by simpa using irr _ _ z),tW z];exact List.Perm.cons _ ih
  ·rw[if_neg (by simpa using irr _ _ z),if_pos (by simpa using z)];have:(norm t).1=t.2:=by
    unfold norm;rw[if_pos z]
   rw[this];exact List.Perm.cons _ ih
theorem UW{E:List Pt}(h:E.Pairwise ltP){i:Nat}(hi:i<E.length):(E.filter λe=>decide (ltP e E[i])).length=i:=by
 have h1:E=E.take i++E.drop i:=(List.take_append_drop i E).symm;have e1:(E.take i).filter (λe=>decide (ltP e E[i]))=E.take i:=List.filter_eq_self.mpr λe he=>by
  obtain⟨j,hj,rfl⟩:=List.mem_iff_getElem.mp he;rw[List.length_take] at hj;rw[List.getElem_take];exact decide_eq_true (List.pairwise_iff_getElem.mp h j i (by lia) hi (by lia))
 have e2:(E.drop i).filter (λe=>decide (ltP e E[i]))=[]:=List.filter_eq_nil_iff.mpr λe he=>by
  obtain⟨j,hj,rfl⟩:=List.mem_iff_getElem.mp he;rw[List.length_drop] at hj;rw[List.getElem_drop,decide_eq_true_eq];rcases Nat.eq_zero_or_pos j with z|z
  ·subst z;simp only[Nat.add_zero];intro q;exact irr _ _ q q
  ·exact irr _ _ (List.pairwise_iff_getElem.mp h i (i+j) hi (by lia) (by lia))
 generalize E[i]=x at e1 e2 ⊢
 conv=>lhs;rw[h1,List.filter_append,List.length_append]
 rw[e1,e2,List.length_take,List.length_nil];lia
theorem RN:(2:Nat)<=lim:=by rw[bO];lia
theorem aMq:(3:Nat)<=lim:=by rw[bO];lia
theorem Z1{Q:List Pc}(h:Q.Pairwise LtN):o_ [.tup (Q.map pcD)]=.ok (.lst (Q.map pcD)):=RK (U:=Q) (.refl _) h
theorem yD{Q:List Pc}{U:List Tie}(r:Int){pd:D}(hn:pd≠.uD)(hq:o_ [pd]=.ok (.lst (Q.map pcD)))(hl:U.length<=lim):cR 3 fU [pd,.lst (U.map bI),.int r]=.ok (bG Q (fX (U.map norm)) r):=by
 have v0:∀x y z:D,iV 0 [pd,x,y,z]=.ok pd:=λx y z=>by cases pd<;>first|rfl|exact absurd rfl hn
 refine(cU rfl).trans (call_v ?_);have hf:iK (kW 4 (U7 2) jQ (eQ (aD (aQ (fO .lt) (aD mO (aD iH aR))) (aD (aQ (fO .gt) (aD mO (aD iH aR))) aR))) false [pd,.lst (U.map bI),.int r,.uD]) [] (U.map bI)=.ok ((U.map norm).map bI):=by
  rw[cY _ bI (λ_=>true) (λt=>bI (norm t))]
  ·rw[List.filter_eq_self.mpr (λ_ _=>rfl),List.map_map,List.nil_append];rfl
  ·intro acc t;have e1:=aCe .lt t.1 t.2 ltP wH;have e2:=aCe .gt t.1 t.2 (λx y=>ltP y x) aDu;exact e_ (n:=4) (t:=U7 2) (c:=jQ) (k:=false) (acc:=acc) (x:=bI t) (ρ:=[pd,.lst (U.map bI),.int r,.uD]) (b:=true) (bs:=[enP t.1,enP t.2]) (y:=bI (norm t)) rfl rfl rfl λ_=>⟨dF (xs:=[enP (norm t).1,enP (norm t).2]) (aC (aK (xs:=[enP t.1,enP t.2]) (aC rfl (aC rfl rfl)) e1) (aC (aK (xs:=[enP t.1,enP t.2]) (aC rfl (aC rfl rfl)) e2) rfl)) RN,rfl⟩
 have hs:=CK (U.map norm);refine aL (ρ':=[pd,.lst (U.map bI),.int r,.lst ((U.map norm).map bI)]) (bH (i:=3) (fK (fD rfl rfl) (by rw[List.length_map];exact hl) hf)) ?_;refine eX (d:=bG Q (fX (U.map norm)) r) (dF (xs:=[.tup (Q.map pcD),.tup ((fX (U.map norm)).map bI),.int r]) (aC (aK (xs:=[.lst (Q.map pcD)]) (aC (aK (xs:=[pd]) (aC (v0 _ _ _) rfl) hq) rfl) rfl) (aC (aK (xs:=[.lst ((fX (U.map norm)).map bI)]) (aC (aK (xs:=[.lst ((U.map norm).map bI)]) (aC rfl rfl) hs) rfl) rfl) (aC rfl rfl))) aMq) ?_;rw[sX];rfl
theorem O1{Q:List Pc}{U:List Tie}(r:Int)(hQ:Q.Pairwise LtN)(hl:U.length<=lim):cR 3 fU [.tup (Q.map pcD),.lst (U.map bI),.int r]=.ok (bG Q (fX (U.map norm)) r):=yD r (λz=>by cases z) (Z1 hQ) hl
theorem JR(e:Pt)(k l:Int):cR 3 fL [enP e,.int k,.int l]=.ok (enP (cl k l e)):=by
 refine(cU rfl).trans (call_v ?_);have ht:bTB (b2 (bR .ne) (b2 getD cA dI) dI) [enP e,.int k,.int l]=.ok (!(e.1==0)):=dD (aJ (x:=.int e.1) (aJ (x:=enP e) rfl rfl rfl) rfl rfl);by_cases h:e.1=0
 ·rw[show(!(e.1==0))=false by simp[h]] at ht;have hf:iK (kW 3 lZ (bTB (b2 (bR (.ord .lt)) cT (b2 getD cA eO))) cT false [enP e,.int k,.int l]) [] ([k,l].map D.int)=.ok (([k,l].filter λx=>decide (x<e.2)).map D.int):=by
   rw[cY _ D.int (λx=>decide (x<e.2)) D.int]
   ·rfl
   ·intro acc x;exact e_ (n:=3) (t:=lZ) (k:=false) (acc:=acc) (x:=.int x) (ρ:=[enP e,.int k,.int l]) (b:=decide (x<e.2)) (bs:=[.int x]) (y:=.int x) rfl rfl (dD (aJ (x:=.int x) (y:=.int e.2) rfl (aJ (x:=enP e) rfl rfl rfl) rfl)) λ_=>⟨rfl,rfl⟩
  have hc:(dU 3 (dM (eQ (aD d_ (aD eF aR))) false) lZ (bTB (b2 (bR (.ord .lt)) cT (b2 getD cA eO))) cT false) [enP e,.int k,.int l]=.ok (.lst (([k,l].filter λx=>decide (x<e.2)).map D.int)):=
   fK (fD (d:=.tup [.int k,.int l]) (xs:=[k,l].map D.int) (dF (xs:=[.int k,.int l]) (aC rfl (aC rfl rfl)) RN) rfl) (by rw[List.length_map];exact RN) hf
  have hl:gH [.lst (([k,l].filter λx=>decide (x<e.2)).map D.int)]=.ok (.int ((if k<e.2 then 1 else 0)+(if l<e.2 then 1 else 0))):=by
   rw[l_,List.length_map]
   congr 2
   rw[List.filter_cons,List.filter_cons,List.filter_nil];by_cases h1:k<e.2<;>by_cases h2:l<e.2<;>simp[h1,h2]
  have hcl:enP (cl k l e)=.tup [.int 0,.int (e.2-((if k<e.2 then 1 else 0)+(if l<e.2 then 1 else 0)))]:=by
   unfold cl;rw[if_pos h];rfl
  rw[hcl];exact aL (ρ':=[enP e,.int k,.int l]) (o8 ht rfl) (eX (dF (xs:=[.int 0,.int (e.2-((if k<e.2 then 1 else 0)+(if l<e.2 then 1 else 0)))]) (aC rfl (aC (aJ (x:=.int e.2) (aJ (x:=enP e) rfl rfl rfl) (aK (aC hc rfl) hl) (aDk _ _)) rfl)) RN) rfl)
 ·rw[show(!(e.1==0))=true by simp[h]] at ht;have hcl:cl k l e=e:=by
   unfold cl;rw[if_neg h]
  rw[hcl];exact JM (zU ht (eX (d:=enP e) rfl rfl))
theorem aGc{V:List Tie}{p q:Pt}:(V.filter λt=>decide (t.1≠p/\t.1≠q)&&decide (t.2≠p/\t.2≠q))=rem q (rem p V):=by
 unfold rem;rw[List.filter_filter];refine List.filter_congr λt _=>?_
 rw[Bool.eq_iff_iff];simp only[Bool.and_eq_true,decide_eq_true_eq];constructor
 ·rintro⟨⟨a,b⟩,c,d⟩;exact⟨⟨b,d⟩,a,c⟩
 ·rintro⟨⟨b,d⟩,a,c⟩;exact⟨⟨a,b⟩,c,d⟩
theorem JS(e p q:Pt):bR .notin (enP e) (.tup [enP p,enP q])=.ok (.bl (decide (e≠p/\e≠q))):=by
 show Res.ok (D.bl (!(eqD (enP p) (enP e)||(eqD (enP q) (enP e)||false))))=_;rw[qO,qO]
 congr 2
 by_cases h1:p=e
 ·subst h1;simp
 ·have h1':e≠p:=λz=>h1 z.symm
  by_cases h2:q=e
  ·subst h2;simp
  ·have h2':e≠q:=λz=>h2 z.symm
   simp[h1,h2,h1',h2']
theorem RP{V:List Tie}{p q a b:Pt}:(tX V p q a b).length<=V.length+1:=by
 have h:(rem q (rem p V)).length<=V.length:=Nat.le_trans (List.length_filter_le ..) (List.length_filter_le ..);unfold tX;split
 ·lia
 ·rw[List.length_append];show _+1<=_;lia
theorem Z4{Q:List Pc}{V:List Tie}{r k l:Int}{a b:Pt}(hQ:Q.Pairwise LtN)(hn:(ends V).Nodup)(hsm:V.length<=5000)(hkl:k≠l)(ha:sY V (0,k) a)(hb:sY V (0,l) b) :
  cR 3 oH [bG Q V r,.int k,.int l]=.ok (bG Q (fX (((tX V (0,k) (0,l) a b).map (cl2 k l)).map norm)) (if a=(0,l) then r+1 else r)):=by
 have mk:=ZX (Q:=Q) (r:=r) hn ha;have ml:=ZX (Q:=Q) (r:=r) hn hb;have tk:∀{ρ:List D}{i:Nat}{j:Int},iV i ρ=.ok (.int j)->eQ (aD dI (aD (iV i) aR)) ρ=.ok (enP (0,j)):=λh=>dF (xs:=[.int 0,.int _]) (aC rfl (aC h rfl)) RN
 refine(cU rfl).trans (call_v ?_);refine aL (ρ':=[bG Q V r,.int k,.int l,enP a,.uD,.uD,.uD,.uD,.uD]) (bH (i:=3) (aK (xs:=[bG Q V r,enP (0,k)]) (aC rfl (aC (tk rfl) rfl)) mk)) ?_;refine aL (ρ':=[bG Q V r,.int k,.int l,enP a,enP b,.uD,.uD,.uD,.uD]) (bH (i:=4) (aK (xs:=[bG Q V r,enP (0,l)]) (aC rfl (aC (tk rfl) rfl)) ml)) ?_;have ce:bR .eq (.int k) (.int l)=.ok (.bl false):=by
  show Res.ok (D.bl (k==l))=_;rw[show(k==l)=false by simpa using hkl]
 refine aL (ρ':=[bG Q V r,.int k,.int l,enP a,enP b,.uD,.uD,.uD,.uD]) (o8 (dD (aJ (x:=.int k) (y:=.int l) rfl rfl ce)) rfl) ?_;refine aL (ρ':=[bG Q V r,.int k,.int l,enP a,enP b,.tup [enP (0,k),enP (0,l)],.uD,.uD,.uD]) (o7 (i:=5) (dF (xs:=[enP (0,k),enP (0,l)]) (aC (tk rfl) (aC (tk rfl) rfl)) RN) rfl) ?_;have hf:iK (kW 9 lZ (DR (bTB (b2 (bR .notin) (b2 getD jW dI) iH)) (bTB (b2 (bR .notin) (b2 getD jW eO) iH))) jW false [bG Q V r,.int k,.int l,enP a,enP b,.tup [enP (0,k),enP (0,l)],.uD,.uD,.uD]) [] (V.map bI)=.ok ((rem (0,l) (rem (0,k) V)).map bI):=by
  rw[cY _ bI (λt=>decide (t.1≠(0,k)/\t.1≠(0,l))&&decide (t.2≠(0,k)/\t.2≠(0,l))) bI,aGc]
  ·rfl
  ·intro acc t;refine e_ (n:=9) (t:=lZ) (k:=false) (acc:=acc) (x:=bI t) (ρ:=[bG Q V r,.int k,.int l,enP a,enP b,.tup [enP (0,k),enP (0,l)],.uD,.uD,.uD]) (b:=decide (t.1≠(0,k)/\t.1≠(0,l))&&decide (t.2≠(0,k)/\t.2≠(0,l))) (bs:=[bI t]) (y:=bI t) rfl rfl ?_ λ_=>⟨rfl,rfl⟩
   have q1:bTB (b2 (bR .notin) (b2 getD jW dI) iH) [bG Q V r,.int k,.int l,enP a,enP b,.tup [enP (0,k),enP (0,l)],.uD,.uD,.uD,bI t]=.ok (decide (t.1≠(0,k)/\t.1≠(0,l))):=dD (aJ (x:=enP t.1) (y:=.tup [enP (0,k),enP (0,l)]) (aJ (x:=bI t) rfl rfl rfl) rfl (JS _ _ _));have q2:bTB (b2 (bR .notin) (b2 getD jW eO) iH) [bG Q V r,.int k,.int l,enP a,enP b,.tup [enP (0,k),enP (0,l)],.uD,.uD,.uD,bI t]=.ok (decide (t.2≠(0,k)/\t.2≠(0,l))):=dD (aJ (x:=enP t.2) (y:=.tup [enP (0,k),enP (0,l)]) (aJ (x:=bI t) rfl rfl rfl) rfl (JS _ _ _));cases hq:decide (t.1≠(0,k)/\t.1≠(0,l)) with
   |true=>rw[hq] at q1;exact(X6 q1 q2).trans (by rw[Bool.true_and])
   |false=>rw[hq] at q1;exact T3 q1
 refine aL (ρ':=[bG Q V r,.int k,.int l,enP a,enP b,.tup [enP (0,k),enP (0,l)],.lst ((rem (0,l) (rem (0,k) V)).map bI),.uD,.uD]) (fZ (i:=6) (fK OJ (by rw[List.length_map,bO];lia) hf) (sV _)) ?_;refine aL (ρ':=[bG Q V r,.int k,.int l,enP a,enP b,.tup [enP (0,k),enP (0,l)],.lst ((rem (0,l) (rem (0,k) V)).map bI),.int r,.uD]) (o7 (i:=7) (aJ (x:=bG Q V r) rfl rfl (n2 Q V r)) rfl) ?_;have hrl:(rem (0,l) (rem (0,k) V)).length<=V.length:=Nat.le_trans (List.length_filter_le ..) (List.length_filter_le ..);have ht:bTB (b2 (bR .eq) cT (eQ (aD dI (aD eF aR)))) [bG Q V r,.int k,.int l,enP a,enP b,.tup [enP (0,k),enP (0,l)],.lst ((rem (0,l) (rem (0,k) V)).map bI),.int r,.uD]=.ok (decide (a=(0,l))):=dD (aJ (x:=enP a) (y:=enP (0,l)) rfl (tk rfl) (qP _ _));refine aL (ρ':=[bG Q V r,.int k,.int l,enP a,enP b,.tup [enP (0,k),enP (0,l)],.lst ((tX V (0,k) (0,l) a b).map bI),.int (if a=(0,l) then r+1 else r),.uD]) ?_ ?_
 ·unfold tX;by_cases e:a=(0,l)
  ·rw[decide_eq_true e] at ht;rw[if_pos e,if_pos e];exact zU ht (bH (i:=7) (aJ (x:=.int r) rfl rfl (dW r 1)))
  ·rw[decide_eq_false e] at ht;rw[if_neg e,if_neg e];have:=rQ (i:=6) (ρ:=[bG Q V r,.int k,.int l,enP a,enP b,.tup [enP (0,k),enP (0,l)],.lst ((rem (0,l) (rem (0,k) V)).map bI),.int r,.uD]) (f:=eQ (aD cT (aD mO aR))) (xs:=(rem (0,l) (rem (0,k) V)).map bI) (d:=bI (a,b)) (dF (xs:=[enP a,enP b]) (aC rfl (aC rfl rfl)) RN) rfl (by rw[List.length_map,bO];lia) rfl;refine(o8 ht this).trans ?_;rw[List.map_append];rfl
 have hl2:=RP (V:=V) (p:=(0,k)) (q:=(0,l)) (a:=a) (b:=b);generalize tX V (0,k) (0,l) a b=W at hl2;generalize (if a=(0,l) then r+1 else r)=r2;have hf2:iK (kW 9 (U7 2) jQ (eQ (aD (aQ (cR 3 fL) (aD jW (aD d_ (aD eF aR)))) (aD (aQ (cR 3 fL) (aD iB (aD d_ (aD eF aR)))) aR))) true [bG Q V r,.int k,.int l,enP a,enP b,.tup [enP (0,k),enP (0,l)],.lst (W.map bI),.int r2,.uD]) [] (W.map bI)=.ok ((W.map (cl2 k l)).map bI):=by
  rw[cY _ bI (λ_=>true) (λt=>bI (cl2 k l t))]
  ·rw[List.filter_eq_self.mpr (λ_ _=>rfl),List.map_map,List.nil_append];rfl
  ·intro acc t;exact e_ (n:=9) (t:=U7 2) (c:=jQ) (k:=true) (acc:=acc) (x:=bI t) (ρ:=[bG Q V r,.int k,.int l,enP a,enP b,.tup [enP (0,k),enP (0,l)],.lst (W.map bI),.int r2,.uD]) (b:=true) (bs:=[enP t.1,enP t.2]) (y:=bI (cl2 k l t)) rfl rfl rfl λ_=>⟨dF (xs:=[enP (cl k l t.1),enP (cl k l t.2)]) (aC (aK (xs:=[enP t.1,.int k,.int l]) (aC rfl (aC rfl (aC rfl rfl))) (JR t.1 k l)) (aC (aK (xs:=[enP t.2,.int k,.int l]) (aC rfl (aC rfl (aC rfl rfl))) (JR t.2 k l)) rfl)) RN,rfl⟩
 refine aL (ρ':=[bG Q V r,.int k,.int l,enP a,enP b,.tup [enP (0,k),enP (0,l)],.lst (W.map bI),.int r2,.lst ((W.map (cl2 k l)).map bI)]) (bH (i:=8) (fK (fD (d:=.lst (W.map bI)) rfl rfl) (by rw[List.length_map,bO];lia) hf2)) ?_;exact eX (aK (xs:=[.tup (Q.map pcD),.lst ((W.map (cl2 k l)).map bI),.int r2]) (aC (aJ (x:=bG Q V r) rfl rfl (n0 Q V r)) (aC rfl (aC rfl rfl))) (O1 r2 hQ (by rw[List.length_map,bO];lia))) rfl
def kvD(kv:Pt×Pt):D×D:=(enP kv.1,enP kv.2)
noncomputable def aGd:List (Pt×Pt)->Pt->Pt->List (Pt×Pt)
 |[],p,q=>[(p,q)]
 | (k,v)::r,p,q=>if k=p then (k,q)::r else (k,v)::aGd r p q
noncomputable def qQ:List (Pt×Pt)->Pt->Option Pt
 |[],_=>none
 | (k,v)::r,p=>if k=p then some v else qQ r p
theorem uJ(p q:Pt):∀m:List (Pt×Pt),putD (m.map kvD) (enP p) (enP q)=(aGd m p q).map kvD
 |[]=>rfl
 | (k,v)::r=>by
  rw[List.map_cons,kvD,putD,qO,aGd];by_cases h:k=p
  ·simp[h,kvD]
  ·simp only[h,decide_false,Bool.false_eq_true,if_false];rw[uJ p q r];rfl
theorem lW(p:Pt):∀m:List (Pt×Pt),cL (m.map kvD) (enP p)=(qQ m p).map enP
 |[]=>rfl
 | (k,v)::r=>by
  rw[List.map_cons,kvD,cL,qO,qQ];by_cases h:k=p
  ·simp[h]
  ·simp only[h,decide_false,Bool.false_eq_true,if_false];exact lW p r
theorem CQ(m:List (Pt×Pt))(p:Pt):t_ (m.map kvD) (enP p)=true:=by
 unfold t_;rw[show keyOk (enP p)=true from rfl,Bool.true_and,List.all_eq_true];intro x hx;obtain⟨y,_,rfl⟩:=List.mem_map.mp hx;rfl
theorem lX{p q:Pt}:∀{m:List (Pt×Pt)},p∉m.map (·.1)->aGd m p q=m++[(p,q)]
 |[],_=>rfl
 | (k,v)::r,h=>by
  rw[List.map_cons,List.mem_cons,not_or] at h;rw[aGd,if_neg (λz=>h.1 z.symm),lX h.2];rfl
theorem tB{p q:Pt}:∀{m:List (Pt×Pt)},(m.map (·.1)).Nodup->(p,q)∈m->qQ m p=some q
 | (k,v)::r,hn,h=>by
  rw[List.map_cons,List.nodup_cons] at hn;rw[qQ];rcases List.mem_cons.mp h with e|h
  ·cases e;rw[if_pos rfl]
  ·rw[if_neg,tB hn.2 h];rintro rfl;exact hn.1 (List.mem_map.mpr ⟨_,h,rfl⟩)
noncomputable def both(T:List Tie):List (Pt×Pt):=T.flatMap λt=>[(t.1,t.2),(t.2,t.1)]
theorem gG(T:List Tie):(both T).map (·.1)=ends T:=by
 induction T with
 |nil=>rfl
 |cons t T ih=>simp only[both,ends,List.flatMap_cons,List.map_append] at *;rw[ih];rfl
theorem RQ(T:List Tie):(both T).length=2*T.length:=by
 induction T with
 |nil=>rfl
 |cons t T ih=>simp only[both,List.flatMap_cons,List.length_append,List.length_cons,List.length_nil] at *;lia
theorem Z5(m:List (Pt×Pt)):iJ (m.map kvD)=(m.map (·.1)).map enP:=by
 unfold iJ;rw[List.map_map,List.map_map];rfl
theorem Z6{p x y:Pt}{m:List (Pt×Pt)}(h:p∉m.map (·.1)):aGd (m++[(p,x)]) p y=m++[(p,y)]:=by
 induction m with
 |nil=>show(if p=p then [(p,y)] else _)=_;rw[if_pos rfl];rfl
 |cons kv m ih=>
  rw[List.map_cons,List.mem_cons,not_or] at h;rw[List.cons_append,aGd,if_neg (λz=>h.1 z.symm),ih h.2];rfl
theorem aCh{V:List Tie}{e f:Pt}:sY V e f->(e,f)∈both V:=λh=>by
 unfold both;rcases h with h|h
 ·exact List.mem_flatMap.mpr ⟨_,h,by simp⟩
 ·exact List.mem_flatMap.mpr ⟨_,h,by simp⟩
theorem look_both{V:List Tie}{e f:Pt}(hn:(ends V).Nodup)(h:sY V e f):qQ (both V) e=some f:=tB (by rw[gG];exact hn) (aCh h)
def aLz:FS:=bK (yW 1 eF cT) (yW 1 cT eF)
theorem yE{a:D}:∀(T S:List Tie)(p q:D),(ends (S++T)).Nodup->2*(S++T).length<lim->∃p' q',nY (tgN [2,3]) aLz (T.map bI) [a,.dct ((both S).map kvD),p,q]=.ok (.nx [a,.dct ((both (S++T)).map kvD),p',q'])
 |[],S,p,q,_,_=>⟨p,q,by rw[List.append_nil];rfl⟩
 |t::T,S,p,q,hn,hl=>by
  have hS:S++t::T=S++[t]++T:=by simp
  obtain⟨p',q',e⟩:=yE (a:=a) T (S++[t]) (enP t.1) (enP t.2) (by rw[<-hS];exact hn) (by rw[<-hS];exact hl);refine⟨p',q',?_⟩;rw[hS,<-e];have hb:both (S++[t])=(both S++[(t.1,t.2)])++[(t.2,t.1)]:=by simp[both]
  have hd:(ends S++([t.1,t.2]++ends T)).Nodup:=by
   have:ends (S++t::T)=ends S++([t.1,t.2]++ends T):=by simp[ends]
   rwa [this] at hn
  have n1:t.1∉(both S).map (·.1):=by
   rw[gG];intro h;exact(List.nodup_append.mp hd).2.2 _ h t.1 (by simp) rfl
  have n2:t.2∉(both S++[(t.1,t.2)]).map (·.1):=by
   rw[List.map_append,gG];intro h;rcases List.mem_append.mp h with h|h
   ·exact(List.nodup_append.mp hd).2.2 _ h t.2 (by simp) rfl
   ·have e:t.2=t.1:=by simpa using h
    have:=(List.nodup_append.mp (List.nodup_append.mp hd).2.1).1;rw[e] at this;simp at this
  have hlen:(both S).length+1<lim:=by
   rw[RQ];rw[List.length_append,List.length_cons] at hl;lia
  have s1:=uJ t.1 t.2 (both S);have s2:=uJ t.2 t.1 (both S++[(t.1,t.2)]);rw[lX n1] at s1;rw[lX n2,<-hb] at s2;refine cD (ρ1:=[a,.dct ((both S).map kvD),enP t.1,enP t.2]) (ρ2:=[a,.dct ((both (S++[t])).map kvD),enP t.1,enP t.2]) rfl ?_ rfl;refine aL (ρ':=[a,.dct ((both S++[(t.1,t.2)]).map kvD),enP t.1,enP t.2]) ?_ ?_
  ·rw[<-s1];exact uF (i:=1) (kvs:=(both S).map kvD) (k:=enP t.1) (d:=enP t.2) rfl rfl rfl (by rw[List.length_map];lia) (CQ _ _) rfl
  ·rw[<-s2];exact uF (i:=1) (kvs:=(both S++[(t.1,t.2)]).map kvD) (k:=enP t.2) (d:=enP t.1) rfl rfl rfl (by rw[List.length_map,List.length_append];exact hlen) (CQ _ _) rfl
theorem RT{Q:List Pc}{V:List Tie}{r:Int}(hn:(ends V).Nodup)(hl:2*V.length<lim):cR 1 dN [bG Q V r]=.ok (.dct ((both V).map kvD)):=by
 obtain⟨p',q',e⟩:=yE (a:=bG Q V r) V [] .uD .uD (by simpa using hn) (by simpa using hl);refine(cU rfl).trans (call_v ?_);refine aL (ρ':=[bG Q V r,.dct [],.uD,.uD]) (fZ rfl rfl) ?_;refine aL (m_ OJ e) ?_;rfl
noncomputable def unP:D->Pt
 |.tup [.int a,.int b]=>(a,b)
 |_=>(0,0)
theorem aJr(p:Pt):unP (enP p)=p:=rfl
def gK(U:List Pt):List Pt:=(jY (U.map enP)).map unP
theorem gR(U:List Pt):(gK U).Perm U:=by
 have h:=(eG (U.map enP)).map unP;rw[List.map_map] at h;have e:U.map (unP ∘ enP)=U:=by
  conv=>rhs;rw[<-List.map_id U]
  exact List.map_congr_left λt _=>aJr t
 rw[e] at h;exact h
theorem Z7(U:List Pt):(gK U).map enP=jY (U.map enP):=by
 unfold gK;rw[List.map_map]
 conv=>rhs;rw[<-List.map_id (jY (U.map enP))]
 refine List.map_congr_left λd hd=>?_
 obtain⟨t,_,rfl⟩:=List.mem_map.mp ((eG (U.map enP)).mem_iff.mp hd);rfl
theorem xO(U:List Pt):bJ (U.map enP)=true:=by
 unfold bJ;refine List.all_eq_true.mpr λd hd=>?_
 obtain⟨t,ht,rfl⟩:=List.mem_map.mp hd;have hk:eV ((U.map enP).headD .non)=3:=by
  cases U with
  |nil=>cases ht
  |cons u U=>rfl
 have h5:eV (enP t)=3:=rfl;have hp:(enP t).plain=true:=rfl;have hq:(enP t).fJ aN=true:=rfl;rw[hk,h5,hp,hq];refine List.all_eq_true.mpr λb hb=>?_
 obtain⟨u,_,rfl⟩:=List.mem_map.mp hb;rw[wH];rfl
theorem CT(m:List (Pt×Pt)):(m.map kvD).all (λp=>isTup p.1)=true:=by
 refine List.all_eq_true.mpr λx hx=>?_
 obtain⟨y,_,rfl⟩:=List.mem_map.mp hx;rfl
theorem O2(m:List (Pt×Pt)):o_ [.dct (m.map kvD)]=.ok (.lst ((gK (m.map (·.1))).map enP)):=by
 show(if (m.map kvD).all (λp=>isTup p.1)&&bJ (iJ (m.map kvD)) then Res.ok (D.lst (jY (iJ (m.map kvD)))) else .bad)=_;rw[CT,Z5,xO,Bool.true_and,if_pos rfl,Z7]
theorem U0{U:List Pt}(hn:U.Nodup):(gK U).Pairwise ltP:=by
 have h:=jK (U.map enP);rw[<-Z7,List.pairwise_map] at h;have hn':(gK U).Nodup:=(gR U).nodup_iff.mpr hn;refine(List.pairwise_and_iff.mpr ⟨h,hn'⟩).imp λ{a b} hab=>?_
 obtain⟨h1,h2⟩:=hab;have e:=yZ (enP b) (enP a) _ rfl rfl (wH b a);unfold leE at h1;rw[<-e] at h1;have h3:¬ltP b a:=by simpa using h1
 unfold ltP at h3 ⊢;have:a.1≠b.1\/a.2≠b.2:=by
  by_cases z:a.1=b.1
  ·exact .inr λy=>h2 (Prod.ext z y)
  ·exact .inl z
 lia
theorem Z8(x y:Pt):norm (y,x)=norm (x,y):=by
 unfold norm;show((if ltP x y then x else y),(if ltP y x then x else y))=((if ltP y x then y else x),(if ltP x y then y else x));by_cases h1:ltP x y
 ·rw[if_pos h1,if_neg (irr _ _ h1),if_neg (irr _ _ h1),if_pos h1]
 ·by_cases h2:ltP y x
  ·rw[if_neg h1,if_pos h2,if_pos h2,if_neg h1]
  ·rw[if_neg h1,if_neg h2,if_neg h2,if_neg h1];have:x=y:=by
    unfold ltP at h1 h2;exact Prod.ext (by lia) (by lia)
   rw[this]
def mt(V:List Tie)(e:Pt):Pt:=(qQ (both V) e).getD e
theorem jF{V:List Tie}{e f:Pt}(hn:(ends V).Nodup)(h:sY V e f):mt V e=f:=by
 unfold mt;rw[look_both hn h];rfl
theorem jV{V:List Tie}{e:Pt}(hn:(ends V).Nodup)(h:e∈ends V):sY V e (mt V e):=by
 obtain⟨f,hf⟩:=aGb h;rw[jF hn hf];exact hf
theorem wQ{V:List Tie}(hn:(ends V).Nodup):Hk.Mt (·∈ends V) (mt V) where
 in_:=λe he=>(jV hn he).mem.2
 inv:=λe he=>jF hn (jV hn he).symm
 ne:=λe he z=>nP hn (jV hn he) z.symm
def lf(V:List Tie)(p q:Pt):List Tie:=tX V p q (mt V p) (mt V q)
section
variable {V:List Tie} {p q:Pt}
theorem aGe(hn:(ends V).Nodup)(hp:p∈ends V)(hq:q∈ends V)(hpq:p≠q):(ends V).Perm (p::q::ends (lf V p q)):=Z0 hn hpq (jV hn hp) (jV hn hq)
theorem JT(hn:(ends V).Nodup)(hp:p∈ends V)(hq:q∈ends V)(hpq:p≠q):(ends (lf V p q)).Nodup/\∀e,e∈ends (lf V p q)↔Hk.but (·∈ends V) p q e:=by
 have h:=aGe hn hp hq hpq;have nd:=h.nodup_iff.mp hn;rw[List.nodup_cons,List.nodup_cons,List.mem_cons,not_or] at nd;refine⟨nd.2.2,λe=>?_⟩;show _↔e∈ends V/\e≠p/\e≠q;rw[h.mem_iff,List.mem_cons,List.mem_cons];constructor
 ·intro he;exact⟨.inr (.inr he),λz=>nd.1.2 (z▸he),λz=>nd.2.1 (z▸he)⟩
 ·rintro⟨h1|h1|h1,h2,h3⟩
  ·exact absurd h1 h2
  ·exact absurd h1 h3
  ·exact h1
theorem aGf(hn:(ends V).Nodup)(hp:p∈ends V)(hq:q∈ends V)(hpq:p≠q){e:Pt}(he:Hk.but (·∈ends V) p q e):sY (lf V p q) e (Hk.hk (mt V) p q e):=by
 obtain⟨he,e1,e2⟩:=he;have M:=wQ hn;have te:=jV hn he;unfold lf tX Hk.hk;by_cases h1:e=mt V p
 ·rw[if_pos h1];have ha:mt V p≠q:=λz=>e2 (h1.trans z)
  rw[if_neg ha,<-h1];exact .inl (by simp)
 ·rw[if_neg h1];by_cases h2:e=mt V q
  ·rw[if_pos h2];have ha:mt V p≠q:=λz=>e1 (by rw[h2,<-z];exact M.inv p hp)
   rw[if_neg ha,<-h2];exact .inr (by simp)
  ·rw[if_neg h2];have f1:mt V e≠p:=λz=>h1 (by rw[<-z];exact(M.inv e he).symm)
   have f2:mt V e≠q:=λz=>h2 (by rw[<-z];exact(M.inv e he).symm)
   have t2:=CP (CP te e1 f1) e2 f2;split
   ·exact t2
   ·rcases t2 with t2|t2
    ·exact .inl (List.mem_append_left _ t2)
    ·exact .inr (List.mem_append_left _ t2)
theorem aM0(hn:(ends V).Nodup)(hp:p∈ends V)(hq:q∈ends V)(hpq:p≠q){e:Pt}(he:e∈ends (lf V p q)):mt (lf V p q) e=Hk.hk (mt V) p q e:=by
 obtain⟨h1,h2⟩:=JT hn hp hq hpq;exact jF h1 (aGf hn hp hq hpq ((h2 e).mp he))
end
def hkL:List (Pt×Pt)->List Tie->List Tie
 |[],V=>V
 |p::ps,V=>hkL ps (lf V p.1 p.2)
def rgL:List (Pt×Pt)->List Tie->Nat
 |[],_=>0
 |p::ps,V=>Hk.rg (mt V) p.1 p.2+rgL ps (lf V p.1 p.2)
theorem aM1{ps:List (Pt×Pt)}:∀{m:Pt->Pt}{r:Nat},(Hk.run ps m r).1=(Hk.run ps m 0).1/\(Hk.run ps m r).2=r+(Hk.run ps m 0).2:=by
 induction ps with
 |nil=>intro m r;exact⟨rfl,by show r=r+0;lia⟩
 |cons p ps ih=>
  intro m r;obtain⟨a,b⟩:=ih (m:=Hk.hk m p.1 p.2) (r:=r+Hk.rg m p.1 p.2);obtain⟨c,d⟩:=ih (m:=Hk.hk m p.1 p.2) (r:=0+Hk.rg m p.1 p.2);refine⟨a.trans c.symm,?_⟩;show(Hk.run ps (Hk.hk m p.1 p.2) (r+Hk.rg m p.1 p.2)).2=r+(Hk.run ps (Hk.hk m p.1 p.2) (0+Hk.rg m p.1 p.2)).2;lia
theorem uW:∀(ps:List (Pt×Pt)){V:List Tie},(ends V).Nodup->Hk.Pr (·∈ends V) ps->(ends (hkL ps V)).Nodup/\(∀e,e∈ends (hkL ps V)↔e∈ends V/\e∉Hk.ends ps)/\(∀e∈ends (hkL ps V),mt (hkL ps V) e=(Hk.run ps (mt V) 0).1 e)/\rgL ps V=(Hk.run ps (mt V) 0).2
 |[],V,hn,_=>⟨hn,λe=>by simp[Hk.ends,hkL],λ_ _=>rfl,rfl⟩
 |p::ps,V,hn,hp=>by
  obtain⟨h1,h2,h3,h4⟩:=hp.tail;obtain⟨n1,n2⟩:=JT hn h2 h3 h4;have hp':Hk.Pr (·∈ends (lf V p.1 p.2)) ps:=⟨h1.1,λe he=>(n2 e).mpr (h1.2 e he)⟩
  obtain⟨a1,a2,a3,a4⟩:=uW ps n1 hp';have M:=wQ hn;have hm':∀e,e∈ends (lf V p.1 p.2)->mt (lf V p.1 p.2) e=Hk.hk (mt V) p.1 p.2 e:=λe he=>aM0 hn h2 h3 h4 he
  obtain⟨c1,c2⟩:=Hk.wG (r:=0) (wQ n1) hm' hp';obtain⟨d1,d2⟩:=aM1 (ps:=ps) (m:=Hk.hk (mt V) p.1 p.2) (r:=0+Hk.rg (mt V) p.1 p.2);refine⟨a1,λe=>?_,λe he=>?_,?_⟩
  ·show e∈ends (hkL ps (lf V p.1 p.2))↔_;rw[a2,n2];show(e∈ends V/\e≠p.1/\e≠p.2)/\e∉Hk.ends ps↔e∈ends V/\e∉p.1::p.2::Hk.ends ps;rw[List.mem_cons,List.mem_cons,not_or,not_or];constructor
   ·rintro⟨⟨x,y,z⟩,w⟩;exact⟨x,y,z,w⟩
   ·rintro⟨x,y,z,w⟩;exact⟨⟨x,y,z⟩,w⟩
  ·have he:e∈ends (hkL ps (lf V p.1 p.2)):=he;show mt (hkL ps (lf V p.1 p.2)) e=(Hk.run ps (Hk.hk (mt V) p.1 p.2) (0+Hk.rg (mt V) p.1 p.2)).1 e;rw[a3 e he,c2 e ((Hk.cF ..).mpr ((a2 e).mp he)),d1]
  ·show Hk.rg (mt V) p.1 p.2+rgL ps (lf V p.1 p.2)=(Hk.run ps (Hk.hk (mt V) p.1 p.2) (0+Hk.rg (mt V) p.1 p.2)).2;rw[a4,c1,d2];lia
theorem aDw(V:List Tie)(p q:Pt):(lf V p q).length<=V.length+1:=RP
theorem O3:∀(ps:List (Pt×Pt))(V:List Tie),(hkL ps V).length<=V.length+ps.length
 |[],V=>Nat.le_refl _
 |p::ps,V=>by
  have:=O3 ps (lf V p.1 p.2);have:=aDw V p.1 p.2;show(hkL ps (lf V p.1 p.2)).length<=V.length+(ps.length+1);lia
theorem aJs{V V' Y:List Tie}{p q:Pt}(hv:V'.Perm (V++Y))(hn:(ends (V++Y)).Nodup)(hp:p∈ends V)(hq:q∈ends V):(lf V' p q).Perm (lf V p q++Y)/\mt V' p=mt V p:=by
 have hn':(ends V').Nodup:=(eZ hv).nodup_iff.mpr hn;have nn:=hn;rw[ends_app,List.nodup_append] at nn;have same:∀e,e∈ends V->mt V' e=mt V e:=λe he=>jF hn' (by
  rcases jV nn.1 he with h|h
  ·exact .inl (hv.mem_iff.mpr (List.mem_append_left _ h))
  ·exact .inr (hv.mem_iff.mpr (List.mem_append_left _ h)))
 have ry:∀x,x∈ends V->rem x Y=Y:=λx hx=>sZ λz=>nn.2.2 x hx x z rfl
 have hr:(rem q (rem p V')).Perm (rem q (rem p V)++Y):=by
  have h1:(rem p V').Perm (rem p V++Y):=by
   have:=hv.filter λt:Tie=>decide (t.1≠p/\t.2≠p)
   rw[List.filter_append] at this;have e:=ry p hp;unfold rem at e ⊢;rw[e] at this;exact this
  have:=h1.filter λt:Tie=>decide (t.1≠q/\t.2≠q)
  rw[List.filter_append] at this;have e:=ry q hq;unfold rem at e this ⊢;rw[e] at this;exact this
 refine⟨?_,same p hp⟩;unfold lf tX;rw[same p hp,same q hq];split
 ·exact hr
 ·rw[List.append_assoc];refine(hr.append_right _).trans ?_;rw[List.append_assoc];exact List.perm_append_comm.append_left _
theorem Z9:∀(ps:List (Pt×Pt)){V V' Y:List Tie},V'.Perm (V++Y)->(ends (V++Y)).Nodup->Hk.Pr (·∈ends V) ps->(hkL ps V').Perm (hkL ps V++Y)/\rgL ps V'=rgL ps V
 |[],V,V',Y,hv,_,_=>⟨hv,rfl⟩
 |p::ps,V,V',Y,hv,hn,hp=>by
  obtain⟨h1,h2,h3,h4⟩:=hp.tail;have nn:=hn;rw[ends_app,List.nodup_append] at nn;obtain⟨n1,n2⟩:=JT nn.1 h2 h3 h4;obtain⟨g1,g2⟩:=aJs hv hn h2 h3;have hn2:(ends (lf V p.1 p.2++Y)).Nodup:=by
   rw[ends_app,List.nodup_append];exact⟨n1,nn.2.1,λa ha b hb=>nn.2.2 a ((n2 a).mp ha).1 b hb⟩
  obtain⟨a,b⟩:=Z9 ps g1 hn2 ⟨h1.1,λe he=>(n2 e).mpr (h1.2 e he)⟩;refine⟨a,?_⟩;show Hk.rg (mt V') p.1 p.2+rgL ps (lf V' p.1 p.2)=Hk.rg (mt V) p.1 p.2+rgL ps (lf V p.1 p.2);rw[b];unfold Hk.rg;rw[g2]
noncomputable def cnt(st:List Int)(x:Int):Nat:=(st.filter λy=>decide (y<x)).length
theorem cnt_cons(a:Int)(st:List Int)(x:Int):cnt (a::st) x=(if a<x then 1 else 0)+cnt st x:=by
 unfold cnt;rw[List.filter_cons];by_cases h:a<x
 ·rw[if_pos h,if_pos (by simpa using h),List.length_cons];lia
 ·rw[if_neg h,if_neg (by simpa using h)];lia
theorem CV{x y:Int}(h:x<=y):∀st:List Int,cnt st x<=cnt st y
 |[]=>Nat.le_refl _
 |a::st=>by
  have:=CV h st;rw[cnt_cons,cnt_cons];split<;>split<;>lia
theorem Z_{x y:Int}(h:x<y):∀{st:List Int},x∈st->cnt st x<cnt st y
 |a::st,hm=>by
  have m:=CV (Int.le_of_lt h) st;rw[cnt_cons,cnt_cons];rcases List.mem_cons.mp hm with e|e
  ·subst e;rw[if_neg (Int.lt_irrefl _),if_pos h];lia
  ·have:=Z_ h e;split<;>split<;>lia
theorem aA0{st:List Int}{x y:Int}(hx:x∈st)(hy:y∈st):cnt st x<cnt st y↔x<y:=by
 refine⟨λh=>?_,λh=>Z_ h hx⟩;rcases Int.lt_or_le x y with z|z
 ·exact z
 ·have:=CV z st;lia
theorem aA1{k x:Int}:∀{st:List Int},st.Nodup->k∈st->cnt (st.filter λy=>decide (y≠k)) x+(if k<x then 1 else 0)=cnt st x
 |a::st,hn,hm=>by
  rw[List.nodup_cons] at hn;rw[List.filter_cons,cnt_cons];by_cases e:a=k
  ·subst e;rw[if_neg (by simp),show(st.filter λy=>decide (y≠a))=st from List.filter_eq_self.mpr λy hy=>decide_eq_true (show y≠a from λz=>hn.1 (z▸hy))];lia
  ·rw[if_pos (by simpa using e),cnt_cons];have:=aA1 (x:=x) hn.2 (by rcases List.mem_cons.mp hm with z|z;exact absurd z.symm e;exact z);lia
noncomputable def stand(st:List Int)(k l:Int):List Int:=st.filter λx=>!decide (x=k)&&!decide (x=l)
theorem JV{st:List Int}{k l x:Int}:x∈stand st k l↔x∈st/\x≠k/\x≠l:=by
 unfold stand;rw[List.mem_filter];simp
theorem aA2(st:List Int)(k l:Int):stand st k l=(st.filter λy=>decide (y≠k)).filter λy=>decide (y≠l):=by
 unfold stand;rw[List.filter_filter];refine List.filter_congr λx _=>?_
 by_cases a:x=k<;>by_cases b:x=l<;>simp[a,b]
theorem aA3{st:List Int}{k l x:Int}(hn:st.Nodup)(hk:k∈st)(hl:l∈st)(hkl:k≠l):(cnt (stand st k l) x:Int)=cnt st x-((if k<x then 1 else 0)+(if l<x then 1 else 0)):=by
 have h1:=aA1 (x:=x) hn hk;have h2:=aA1 (x:=x) (st:=st.filter λy=>decide (y≠k)) (k:=l) (hn.sublist List.filter_sublist) (List.mem_filter.mpr ⟨hl,by simpa using Ne.symm hkl⟩);rw[aA2];split<;>split<;>simp_all<;>lia
def rk(st:List Int)(e:Pt):Pt:=if e.1=0 then (0,(cnt st e.2:Int)) else e
def rk2(st:List Int)(t:Tie):Tie:=(rk st t.1,rk st t.2)
theorem yF(st:List Int)(e:Pt):(rk st e).1=e.1:=by
 unfold rk;split
 ·rename_i h;rw[h]
 ·rfl
def Tk(st:List Int)(W:List Tie):List Tie:=fX ((W.map (rk2 st)).map norm)
structure Wd(st:List Int)(W:List Tie):Prop where
 nd:(ends W).Nodup
 nn:∀e∈ends W,0<=e.1
 rim:∀j:Int,((0,j):Pt)∈ends W↔j∈st
 ss:st.Pairwise (·<·)
theorem Wd.sn{st:List Int}{W:List Tie}(w:Wd st W):st.Nodup:=w.ss.imp λh=>Int.ne_of_lt h
section
variable {st:List Int} {W:List Tie}
theorem Wd.at{e:Pt}(w:Wd st W)(he:e∈ends W)(h:e.1=0):e.2∈st:=(w.rim e.2).mp (by rw[<-h];exact he)
theorem aCi(w:Wd st W){e f:Pt}(he:e∈ends W)(hf:f∈ends W)(h:ltP e f):ltP (rk st e) (rk st f):=by
 unfold ltP at h ⊢;rw[yF,yF];rcases h with h|⟨h,h2⟩
 ·exact .inl h
 ·refine .inr ⟨h,?_⟩;unfold rk;by_cases z:e.1=0
  ·rw[if_pos z,if_pos (h▸z)];have:=Z_ h2 (w.at he z);show(cnt st e.2:Int)<cnt st f.2;lia
  ·rw[if_neg z,if_neg (h▸z)];exact h2
theorem O4{e f:Pt}(h:e≠f):ltP e f\/ltP f e:=by
 unfold ltP;have:e.1≠f.1\/e.2≠f.2:=by
  by_cases z:e.1=f.1
  ·exact .inr λy=>h (Prod.ext z y)
  ·exact .inl z
 lia
theorem yG(w:Wd st W){e f:Pt}(he:e∈ends W)(hf:f∈ends W)(h:rk st e=rk st f):e=f:=by
 refine Decidable.byContradiction λz=>?_
 rcases O4 z with y|y
 ·have:=aCi w he hf y;rw[h] at this;exact irr _ _ this this
 ·have:=aCi w hf he y;rw[h] at this;exact irr _ _ this this
theorem CW(t:Tie):norm t=t\/norm t=(t.2,t.1):=by
 unfold norm;by_cases h1:ltP t.1 t.2
 ·rw[if_neg (irr _ _ h1),if_pos h1];exact .inl rfl
 ·by_cases h2:ltP t.2 t.1
  ·rw[if_pos h2,if_neg h1];exact .inr rfl
  ·rw[if_neg h2,if_neg h1];have:t.1=t.2:=by
    unfold ltP at h1 h2;exact Prod.ext (by lia) (by lia)
   exact .inl (Prod.ext rfl this)
theorem CZ:∀U:List Tie,(ends (U.map norm)).Perm (ends U)
 |[]=>.nil
 |t::U=>by
  rw[List.map_cons,b7,b7];rcases CW t with h|h<;>rw[h]
  ·exact .cons _ (.cons _ (CZ U))
  ·exact(List.Perm.swap ..).trans (.cons _ (.cons _ (CZ U)))
theorem RV(st:List Int):∀W:List Tie,ends (W.map (rk2 st))=(ends W).map (rk st)
 |[]=>rfl
 |t::W=>by
  rw[List.map_cons,b7,b7,RV st W];rfl
theorem O5(st:List Int)(W:List Tie):(ends (Tk st W)).Perm ((ends W).map (rk st)):=by
 refine(eZ (b_ _)).trans ((CZ _).trans ?_);rw[RV]
theorem j9{α β:Type}{f:α->β}:∀{l:List α},l.Nodup->(∀a∈l,∀b∈l,f a=f b->a=b)->(l.map f).Nodup
 |[],_,_=>.nil
 |a::l,h,hf=>by
  rw[List.nodup_cons] at h;rw[List.map_cons,List.nodup_cons];refine⟨λz=>?_,j9 h.2 λx hx y hy=>hf x (by simp[hx]) y (by simp[hy])⟩;obtain⟨b,hb,e⟩:=List.mem_map.mp z;have:=hf b (by simp[hb]) a (by simp) e;exact h.1 (this▸hb)
theorem aCj(w:Wd st W):(ends (Tk st W)).Nodup:=(O5 st W).nodup_iff.mpr (j9 w.nd λa ha b hb h=>yG w ha hb h)
theorem RW(st:List Int)(W:List Tie):(Tk st W).length=W.length:=by
 unfold Tk;rw[(b_ _).length_eq,List.length_map,List.length_map]
theorem aA4{e f:Pt}(h:sY W e f):sY (Tk st W) (rk st e) (rk st f):=by
 have key:∀t∈W,sY (Tk st W) (rk st t.1) (rk st t.2):=λt ht=>by
  have hm:norm (rk2 st t)∈Tk st W:=(b_ _).mem_iff.mpr (List.mem_map.mpr ⟨_,List.mem_map.mpr ⟨t,ht,rfl⟩,rfl⟩);rcases CW (rk2 st t) with z|z<;>rw[z] at hm
  ·exact .inl hm
  ·exact .inr hm
 rcases h with h|h
 ·exact key _ h
 ·exact(key _ h).symm
theorem aDx(w:Wd st W){p:Pt}(hp:p∈ends W){X Y:List Tie}(hX:∀t∈X,t.1∈ends W/\t.2∈ends W)(hY:Y.Perm ((X.map (rk2 st)).map norm)):(rem (rk st p) Y).Perm (((rem p X).map (rk2 st)).map norm):=by
 unfold rem;refine(hY.filter _).trans (List.Perm.of_eq ?_);rw[List.map_map,List.map_map,List.filter_map];refine congrArg _ (List.filter_congr λt ht=>?_);obtain⟨h1,h2⟩:=hX t ht;have i1:rk st t.1=rk st p↔t.1=p:=⟨λz=>yG w h1 hp z,λz=>by rw[z]⟩
 have i2:rk st t.2=rk st p↔t.2=p:=⟨λz=>yG w h2 hp z,λz=>by rw[z]⟩
 show decide ((norm (rk2 st t)).1≠rk st p/\(norm (rk2 st t)).2≠rk st p)=decide (t.1≠p/\t.2≠p);rcases CW (rk2 st t) with z|z<;>rw[z]<;>simp only[rk2,ne_eq,i1,i2]
 exact decide_eq_decide.mpr And.comm
theorem aCk(w:Wd st W){k l:Int}(hk:k∈st)(hl:l∈st)(hkl:k≠l){e:Pt}(he:e∈ends W)(h1:e≠(0,k))(h2:e≠(0,l)):cl (cnt st k) (cnt st l) (rk st e)=rk (stand st k l) e:=by
 unfold cl;rw[yF];unfold rk;by_cases z:e.1=0
 ·rw[if_pos z,if_pos z,if_pos z];have m:=w.at he z;refine Prod.ext rfl ?_;show(cnt st e.2:Int)-((if (cnt st k:Int)<cnt st e.2 then 1 else 0)+(if (cnt st l:Int)<cnt st e.2 then 1 else 0))=cnt (stand st k l) e.2;rw[aA3 w.sn hk hl hkl];have a:=aA0 hk m;have b:=aA0 hl m;have a':((cnt st k:Int)<cnt st e.2)=(k<e.2):=propext (by rw[<-a];lia);have b':((cnt st l:Int)<cnt st e.2)=(l<e.2):=propext (by rw[<-b];lia);simp only[a',b']
 ·rw[if_neg z,if_neg z,if_neg z]
theorem aGg(k l:Int)(t:Tie):norm (cl2 k l (norm t))=norm (cl2 k l t):=by
 rcases CW t with z|z<;>rw[z]
 exact Z8 _ _
theorem aCl{X:List Tie}{p:Pt}(hX:∀t∈X,t.1∈ends W/\t.2∈ends W):∀t∈rem p X,t.1∈ends W/\t.2∈ends W:=λt ht=>hX t (wO.mp ht).1
theorem Wd.next(w:Wd st W){k l:Int}(hk:k∈st)(hl:l∈st)(hkl:k≠l):Wd (stand st k l) (lf W (0,k) (0,l)):=by
 have pk:=(w.rim k).mpr hk;have pl:=(w.rim l).mpr hl;have hne:((0,k):Pt)≠(0,l):=λz=>hkl (congrArg Prod.snd z)
 obtain⟨n1,n2⟩:=JT w.nd pk pl hne;refine⟨n1,λe he=>w.nn e ((n2 e).mp he).1,λj=>?_,w.ss.sublist List.filter_sublist⟩;rw[n2,JV,<-w.rim j];show(((0,j):Pt)∈ends W/\((0,j):Pt)≠(0,k)/\((0,j):Pt)≠(0,l))↔_;simp only[ne_eq,Prod.mk.injEq,true_and]
theorem aA5{Q:List Pc}{r:Int}(hQ:Q.Pairwise LtN)(w:Wd st W)(hsm:W.length<=5000){k l:Int}(hk:k∈st)(hl:l∈st)(hkl:k≠l) :
  cR 3 oH [bG Q (Tk st W) r,.int (cnt st k),.int (cnt st l)]=.ok (bG Q (Tk (stand st k l) (lf W (0,k) (0,l))) (r+(Hk.rg (mt W) (0,k) (0,l):Nat))):=by
 have pk:=(w.rim k).mpr hk;have pl:=(w.rim l).mpr hl;have hne:((0,k):Pt)≠(0,l):=λz=>hkl (congrArg Prod.snd z)
 have tk:=jV w.nd pk;have tl:=jV w.nd pl;have rkk:∀j:Int,rk st (0,j)=(0,(cnt st j:Int)):=λj=>by unfold rk;rw[if_pos rfl]
 have hcc:(cnt st k:Int)≠cnt st l:=λz=>hne (yG w pk pl (by rw[rkk,rkk,z]))
 have tk':=aA4 (st:=st) tk;have tl':=aA4 (st:=st) tl;rw[rkk] at tk' tl';rw[Z4 hQ (aCj w) (by rw[RW];exact hsm) hcc tk' tl'];have hX:∀t∈W,t.1∈ends W/\t.2∈ends W:=λt ht=>bY ht
 have p0:(Tk st W).Perm ((W.map (rk2 st)).map norm):=b_ _;have p1:=aDx w pk hX p0;have p2:=aDx w pl (aCl hX) p1;rw[rkk] at p1 p2;rw[rkk] at p2;have ia:rk st (mt W (0,k))=(0,(cnt st l:Int))↔mt W (0,k)=(0,l):=by
  rw[<-rkk l];exact⟨λz=>yG w tk.mem.2 pl z,λz=>by rw[z]⟩
 have conv:∀t∈rem (0,l) (rem (0,k) W),norm (cl2 (cnt st k) (cnt st l) (norm (rk2 st t)))=norm (rk2 (stand st k l) t):=λt ht=>by
  obtain⟨h1,h2,h3⟩:=wO.mp ht;obtain⟨h4,h5,h6⟩:=wO.mp h1;rw[aGg];unfold cl2 rk2;rw[aCk w hk hl hkl (hX t h4).1 h5 h2,aCk w hk hl hkl (hX t h4).2 h6 h3]
 have e1:(if rk st (mt W (0,k))=(0,(cnt st l:Int)) then r+1 else r)=r+(Hk.rg (mt W) (0,k) (0,l):Nat):=by
  unfold Hk.rg;by_cases z:mt W (0,k)=(0,l)
  ·rw[if_pos (ia.mpr z),if_pos z];rfl
  ·rw[if_neg λy=>z (ia.mp y),if_neg z];simp
 rw[e1];have pp:(((rem (0,(cnt st l:Int)) (rem (0,(cnt st k:Int)) (Tk st W))).map (cl2 (cnt st k) (cnt st l))).map norm).Perm (((rem (0,l) (rem (0,k) W)).map (rk2 (stand st k l))).map norm):=by
  refine((p2.map _).map _).trans (List.Perm.of_eq ?_);simp only[List.map_map];exact List.map_congr_left λt ht=>conv t ht
 have key:(((tX (Tk st W) (0,(cnt st k:Int)) (0,(cnt st l:Int)) (rk st (mt W (0,k))) (rk st (mt W (0,l)))).map (cl2 (cnt st k) (cnt st l))).map norm).Perm (((lf W (0,k) (0,l)).map (rk2 (stand st k l))).map norm):=by
  unfold lf tX;by_cases z:mt W (0,k)=(0,l)
  ·rw[if_pos (ia.mpr z),if_pos z];exact pp
  ·rw[if_neg λy=>z (ia.mp y),if_neg z,List.map_append,List.map_append,List.map_append,List.map_append];refine pp.append (List.Perm.of_eq ?_);have hb:mt W (0,l)≠(0,k):=λy=>z (by rw[<-y];exact(wQ w.nd).inv _ pl)
   show[norm (cl (cnt st k) (cnt st l) (rk st (mt W (0,k))),cl (cnt st k) (cnt st l) (rk st (mt W (0,l))))]=[norm (rk (stand st k l) (mt W (0,k)),rk (stand st k l) (mt W (0,l)))];rw[aCk w hk hl hkl tk.mem.2 (Ne.symm (nP w.nd tk)) z,aCk w hk hl hkl tl.mem.2 hb (Ne.symm (nP w.nd tl))]
 rw[sW key];rfl
end
theorem yH:∀L:List Int,D.dJ aN (L.map D.int)=true
 |[]=>rfl
 |x::L=>by
  rw[List.map_cons,D.dJ,yH L];rfl
theorem aDy{k:Int}:∀{st:List Int},st.Pairwise (·<·)->k∈st->aFi (.int k) (st.map D.int)=some (cnt st k)
 |a::st,hs,hm=>by
  rw[List.pairwise_cons] at hs;rw[List.map_cons,aFi,ZP,cnt_cons];by_cases e:a=k
  ·subst e;rw[if_pos (by simp),if_neg (Int.lt_irrefl _)];have:cnt st a=0:=by
    unfold cnt;rw[List.filter_eq_nil_iff.mpr λy hy=>by have:=hs.1 y hy;simp;lia];rfl
   rw[this]
  ·have hm':k∈st:=by
    rcases List.mem_cons.mp hm with z|z
    ·exact absurd z.symm e
    ·exact z
   rw[if_neg (by simpa using e),aDy hs.2 hm',if_pos (hs.1 k hm')];show some (cnt st k+1)=some (1+cnt st k);rw[Nat.add_comm]
theorem RX{st:List Int}{k:Int}(hs:st.Pairwise (·<·))(hk:k∈st):rW (.lst (st.map D.int)) [.int k]=.ok (.int (cnt st k)):=by
 show(if (D.int k).fJ aN&&D.dJ aN (st.map D.int) then (match aFi (.int k) (st.map D.int) with|some j=>Res.ok (D.int j)|none=>.bad) else .bad)=_;rw[yH,aDy hs hk];rfl
theorem aJt{f:D->List D->Res D}{o:FE}{a:FA}{ρ xs:List D}{x d:D}(h1:o ρ=.ok x)(h2:a ρ=.ok xs)(h3:f x xs=.ok d):bM f o a ρ=.ok d:=by
 unfold bM;rw[h1];show(do let xs <- a ρ;f x xs)=_;rw[h2];exact h3
noncomputable def prD(p:Int×Int):D:=.tup [.int p.1,.int p.2]
noncomputable def bA(p:Int×Int):Pt×Pt:=((0,p.1),(0,p.2))
def bZ:List (Int×Int)->List Int->List Int
 |[],st=>st
 |p::ps,st=>bZ ps (stand st p.1 p.2)
def hkb:FS:=(bK (cC false 0 (aQ (cR 3 oH) (aD cA (aD (bM rW cT (aD mO aR)) (aD (bM rW cT (aD iH aR)) aR)))) true) (cC false 3 (dU 6 (dM cT false) lZ (DR (bTB (b2 (bR .ne) mQ mO)) (bTB (b2 (bR .ne) mQ iH))) mQ false) true))
theorem ne_int(a b:Int):bR .ne (.int a) (.int b)=.ok (.bl (!decide (a=b))):=by
 show Res.ok (D.bl (!(a==b)))=_
 congr 2
theorem aCm{st:List Int}{k l:Int}{x0 x1 x2:D}:iK (kW 6 lZ (DR (bTB (b2 (bR .ne) mQ mO)) (bTB (b2 (bR .ne) mQ iH))) mQ false [x0,x1,x2,.lst (st.map D.int),.int k,.int l]) [] (st.map D.int)=.ok ((stand st k l).map D.int):=by
 rw[cY _ D.int (λx=>!decide (x=k)&&!decide (x=l)) D.int]
 ·rfl
 ·intro acc x;refine e_ (n:=6) (t:=lZ) (k:=false) (acc:=acc) (x:=.int x) (ρ:=[x0,x1,x2,.lst (st.map D.int),.int k,.int l]) (b:=!decide (x=k)&&!decide (x=l)) (bs:=[.int x]) (y:=.int x) rfl rfl ?_ λ_=>⟨rfl,rfl⟩
  have q1:bTB (b2 (bR .ne) mQ mO) [x0,x1,x2,.lst (st.map D.int),.int k,.int l,.int x]=.ok (!decide (x=k)):=dD (aJ (x:=.int x) (y:=.int k) rfl rfl (ne_int _ _));have q2:bTB (b2 (bR .ne) mQ iH) [x0,x1,x2,.lst (st.map D.int),.int k,.int l,.int x]=.ok (!decide (x=l)):=dD (aJ (x:=.int x) (y:=.int l) rfl rfl (ne_int _ _));cases hq:(!decide (x=k)) with
  |true=>rw[hq] at q1;exact(X6 q1 q2).trans (by rw[Bool.true_and])
  |false=>rw[hq] at q1;exact T3 q1
theorem aA6{Q:List Pc}(hQ:Q.Pairwise LtN){x1 x2:D}:∀(ps:List (Int×Int)){st:List Int}{W:List Tie}(r:Int)(x4 x5:D),Wd st W->Hk.Pr (·∈ends W) (ps.map bA)->W.length+ps.length<=5000->st.length<=5000->∃y4 y5,Wd (bZ ps st) (hkL (ps.map bA) W)/\
  nY (tgN [4,5]) hkb (ps.map prD) [bG Q (Tk st W) r,x1,x2,.lst (st.map D.int),x4,x5]=.ok (.nx [bG Q (Tk (bZ ps st) (hkL (ps.map bA) W)) (r+(rgL (ps.map bA) W:Nat)),x1,x2,.lst ((bZ ps st).map D.int),y4,y5])
 |[],st,W,r,x4,x5,w,_,_,_=>⟨x4,x5,w,by
  show Res.ok (Fl.nx [bG Q (Tk st W) r,x1,x2,.lst (st.map D.int),x4,x5])=Res.ok (Fl.nx [bG Q (Tk st W) (r+((0:Nat):Int)),x1,x2,.lst (st.map D.int),x4,x5]);rw[show r+((0:Nat):Int)=r by lia]⟩
 |p::ps,st,W,r,x4,x5,w,hp,hl,hst=>by
  obtain⟨h1,h2,h3,h4⟩:=hp.tail;have hk:=(w.rim p.1).mp h2;have hl':=(w.rim p.2).mp h3;have hkl:p.1≠p.2:=λz=>h4 (by show((0,p.1):Pt)=(0,p.2);rw[z])
  have w2:=w.next hk hl' hkl
  obtain⟨n1,n2⟩:=JT w.nd h2 h3 h4;have len:=aDw W (0,p.1) (0,p.2);have hll:W.length+(ps.length+1)<=5000:=hl;obtain⟨y4,y5,g1,g2⟩:=aA6 hQ (x1:=x1) (x2:=x2) ps (r+(Hk.rg (mt W) (0,p.1) (0,p.2):Nat)) (.int p.1) (.int p.2) w2 ⟨h1.1,λe he=>(n2 e).mpr (h1.2 e he)⟩ (by lia) (Nat.le_trans (List.length_filter_le ..) hst);refine⟨y4,y5,g1,?_⟩;rw[List.map_cons];have hh:=aA5 (r:=r) hQ w (by lia) hk hl' hkl;refine cD (ρ1:=[bG Q (Tk st W) r,x1,x2,.lst (st.map D.int),.int p.1,.int p.2]) rfl (aL (ρ':=[bG Q (Tk (stand st p.1 p.2) (lf W (0,p.1) (0,p.2))) (r+(Hk.rg (mt W) (0,p.1) (0,p.2):Nat)),x1,x2,.lst (st.map D.int),.int p.1,.int p.2]) (bH (i:=0) (aK (xs:=[bG Q (Tk st W) r,.int (cnt st p.1),.int (cnt st p.2)]) (aC rfl (aC (aJt (x:=.lst (st.map D.int)) (xs:=[.int p.1]) rfl (aC rfl rfl) (RX w.ss hk)) (aC (aJt (x:=.lst (st.map D.int)) (xs:=[.int p.2]) rfl (aC rfl rfl) (RX w.ss hl')) rfl))) hh)) (bH (i:=3) (fK (fD (d:=.lst (st.map D.int)) rfl rfl) (by rw[List.length_map,bO];lia) aCm))) ?_;refine g2.trans ?_;show Res.ok (Fl.nx [bG Q (Tk (bZ ps (stand st p.1 p.2)) (hkL (ps.map bA) (lf W (0,p.1) (0,p.2)))) (r+(Hk.rg (mt W) (0,p.1) (0,p.2):Nat)+(rgL (ps.map bA) (lf W (0,p.1) (0,p.2)):Nat)),x1,x2,.lst ((bZ ps (stand st p.1 p.2)).map D.int),y4,y5])=Res.ok (Fl.nx [bG Q (Tk (bZ ps (stand st p.1 p.2)) (hkL (ps.map bA) (lf W (0,p.1) (0,p.2)))) (r+((Hk.rg (mt W) (0,p.1) (0,p.2)+rgL (ps.map bA) (lf W (0,p.1) (0,p.2)):Nat):Int)),x1,x2,.lst ((bZ ps (stand st p.1 p.2)).map D.int),y4,y5]);rw[Int.natCast_add,Int.add_assoc]
noncomputable def upto(n:Nat):List Int:=(List.range n).map λ(k:Nat)=>(k:Int)
theorem nQ(n:Nat):(upto n).Pairwise (·<·):=by
 unfold upto;rw[List.pairwise_map];exact List.pairwise_lt_range.imp λh=>by lia
theorem RZ(n:Nat)(h:n<=100000):vY [.int n]=.ok (.lst ((upto n).map D.int)):=by
 show(if decide (-1000000<=(n:Int))&&decide ((n:Int)<=1000000) then Res.ok (D.lst ((List.range ((n:Int)).toNat).map λ(k:Nat)=>D.int k)) else .bad)=_;rw[if_pos (by rw[decide_eq_true (by lia),decide_eq_true (by lia)];rfl),show((n:Int)).toNat=n by lia];unfold upto;rw[List.map_map];rfl
theorem iZ{Q:List Pc}(hQ:Q.Pairwise LtN){n:Nat}{W:List Tie}{r:Int}{ps:List (Int×Int)}(w:Wd (upto n) W)(hp:Hk.Pr (·∈ends W) (ps.map bA))(hl:W.length+ps.length<=5000)(hn:n<=5000) :
  Wd (bZ ps (upto n)) (hkL (ps.map bA) W)/\cR 3 c7 [bG Q (Tk (upto n) W) r,.lst (ps.map prD),.int n]=.ok (bG Q (Tk (bZ ps (upto n)) (hkL (ps.map bA) W)) (r+(rgL (ps.map bA) W:Nat))):=by
 obtain⟨y4,y5,g1,g2⟩:=aA6 hQ (x1:=.lst (ps.map prD)) (x2:=.int n) ps r .uD .uD w hp hl (by unfold upto;simp;lia);refine⟨g1,(cU rfl).trans (call_v ?_)⟩;refine aL (ρ':=[bG Q (Tk (upto n) W) r,.lst (ps.map prD),.int n,.lst ((upto n).map D.int),.uD,.uD]) (bH (i:=3) (aK (aC rfl rfl) (RZ n (by lia)))) ?_;refine aL (ρ':=[bG Q (Tk (bZ ps (upto n)) (hkL (ps.map bA) W)) (r+(rgL (ps.map bA) W:Nat)),.lst (ps.map prD),.int n,.lst ((bZ ps (upto n)).map D.int),y4,y5]) (zV (d:=.lst (ps.map prD)) rfl rfl g2) ?_;exact eX rfl (sX _ _ _)
theorem C_{V:List Tie}{e:Pt}(hn:(ends V).Nodup)(h:e∈ends V):qQ (both V) e=some (mt V e):=by
 have:=look_both hn (jV hn h);exact this
theorem aA7{p:Pt}:∀{m:List (Pt×Pt)},p∉m.map (·.1)->qQ m p=none
 |[],_=>rfl
 |kv::m,h=>by
  rw[List.map_cons,List.mem_cons,not_or] at h;unfold qQ;rw[if_neg λz=>h.1 z.symm];exact aA7 h.2
def sD(e:Pt):D×D:=(enP e,.bl true)
noncomputable def xP(S:List Pt)(e:Pt):List Pt:=if e∈S then S else S++[e]
theorem gY{S:List Pt}{e z:Pt}:z∈xP S e↔z∈S\/z=e:=by
 unfold xP;split
 ·rename_i h;exact⟨.inl,λy=>y.elim id λy=>y▸h⟩
 ·simp
theorem DG{S:List Pt}{e:Pt}(h:S.Nodup):(xP S e).Nodup:=by
 unfold xP;split
 ·exact h
 ·rename_i z;exact List.nodup_append.mpr ⟨h,by simp,λa ha b hb=>by rw[List.mem_singleton] at hb;subst hb;exact λy=>z (y▸ha)⟩
theorem aJu(a b:Pt):eqD (enP a) (enP b)=decide (a=b):=by
 have:=qP a b;have e:bR .eq (enP a) (enP b)=.ok (.bl (eqD (enP a) (enP b))):=rfl;rw[e] at this;injection this with this
 injection this
theorem aDz(e:Pt):∀S:List Pt,putD (S.map sD) (enP e) (.bl true)=(xP S e).map sD
 |[]=>rfl
 |a::S=>by
  show(if eqD (enP a) (enP e) then (enP a,D.bl true)::S.map sD else (enP a,D.bl true)::putD (S.map sD) (enP e) (.bl true))=_;rw[aJu,aDz e S];unfold xP;by_cases h:a=e
  ·rw[if_pos (by simpa using h),if_pos (by simp[h])];rfl
  ·rw[if_neg (by simpa using h)];by_cases h2:e∈S
   ·rw[if_pos h2,if_pos (by simp[h2])];rfl
   ·rw[if_neg h2,if_neg (by simp[h2];exact λz=>h z.symm)];rfl
theorem O6(e:Pt):∀S:List Pt,(cL (S.map sD) (enP e)).isSome=decide (e∈S)
 |[]=>rfl
 |a::S=>by
  show(if eqD (enP a) (enP e) then some (D.bl true) else cL (S.map sD) (enP e)).isSome=_;rw[aJu];by_cases h:a=e
  ·rw[if_pos (by simpa using h)];simp[h]
  ·rw[if_neg (by simpa using h),O6 e S];have:(e∈a::S)↔e∈S:=by
    rw[List.mem_cons];exact⟨λy=>y.elim (λz=>absurd z.symm h) id,.inr⟩
   simp only[this]
theorem aGh(S:List Pt)(e:Pt):t_ (S.map sD) (enP e)=true:=by
 unfold t_;rw[Bool.and_eq_true];refine⟨rfl,List.all_eq_true.mpr λx hx=>?_⟩;obtain⟨a,_,rfl⟩:=List.mem_map.mp hx;rfl
theorem O7:∀S:List Pt,D.aY ((S.map sD).map (·.2))=true
 |[]=>rfl
 |a::S=>by rw[List.map_cons,List.map_cons,D.aY,O7 S];rfl
def alS(m p:Pt->Pt)(L:List Pt):Nat->Pt->List Pt->Pt×List Pt
 |0,e,s=>(e,s)
 |n+1,e,s=>if e∈L/\e∉s then alS m p L n (m (p e)) (xP (xP s e) (p e)) else (e,s)
theorem R0{m p:Pt->Pt}{L:List Pt}:∀(n:Nat)(e:Pt){s s':List Pt},(∀z,z∈s↔z∈s')->(alS m p L n e s).1=(Hk.al m p L n e s').1/\∀z,z∈(alS m p L n e s).2↔z∈(Hk.al m p L n e s').2
 |0,e,s,s',h=>⟨rfl,h⟩
 |n+1,e,s,s',h=>by
  unfold alS Hk.al;by_cases c:e∈L/\e∉s
  ·rw[if_pos c,if_pos (by rw[<-h];exact c)];refine R0 n _ λz=>?_
   rw[gY,gY,h,List.mem_append];simp only[List.mem_cons,List.not_mem_nil,or_false];exact or_assoc
  ·rw[if_neg c,if_neg (by rw[<-h];exact c)];exact⟨rfl,h⟩
def aJv:FT:=(DR (bTB (b2 inF eF d_)) (bTB (b2 (bR .notin) eF (bDc 3))))
def aM2:FS:=(bK (M8 3 eF (bC (.bl true))) (bK (M8 3 (b2 getD d_ eF) (bC (.bl true))) (cC false 2 (b2 getD cA (b2 getD d_ eF)) false)))
structure PtD(PS:List Tie)(d:D):Prop where
 asks:∀e:Pt,inF (enP e) d=.ok (.bl (decide (e∈ends PS)))
 gets:∀e∈ends PS,getD d (enP e)=.ok (enP (mt PS e))
 ne:d≠.uD
theorem aMr{d a c x:D}(h:d≠.uD):iV 1 [a,d,c,x]=.ok d:=by
 cases d<;>first|rfl|exact absurd rfl h
section
variable {V PS:List Tie} {pd:D} {a:Addr}
theorem aA8{i:Nat}{f g:FE}{ρ:List D}{S:List Pt}{e:Pt}(h1:g ρ=.ok (.bl true))(h2:f ρ=.ok (enP e))(h3:ρ.getD i .uD=.dcl a (S.map sD))(h4:S.length<lim):M8 i f g ρ=.ok (.nx (ρ.set i (.dcl a ((xP S e).map sD)))):=by
 unfold M8;rw[h1];show(do let k <- f ρ;_)=_;rw[h2];show(match ρ.getD i .uD with|.dcl a kvs=>if decide (kvs.length<lim)&&t_ kvs (enP e)&&(D.bl true).pure then Res.ok (Fl.nx (ρ.set i (.dcl a (putD kvs (enP e) (.bl true))))) else .bad|_=>.bad)=_;rw[h3];show(if decide ((S.map sD).length<lim)&&t_ (S.map sD) (enP e)&&(D.bl true).pure then Res.ok (Fl.nx (ρ.set i (.dcl a (putD (S.map sD) (enP e) (.bl true))))) else .bad)=_;rw[aGh,aDz,List.length_map,decide_eq_true h4];rfl
theorem aM3{c:FT}{body:FS}{n:Nat}{ρ ρ':List D}{r:Res Fl}(h1:c ρ=.ok true)(h2:body ρ=.ok (.nx ρ'))(h3:Q8 c body n ρ'=r):Q8 c body (n+1) ρ=r:=by
 unfold Q8;rw[h1,<-h3];show(do let r <- body ρ;match r with|.nx ρ'=>Q8 c body n ρ'|.ct ρ'=>Q8 c body n ρ'|.bk ρ'=>Res.ok (Fl.nx ρ')|.rt d=>.ok (.rt d))=_;rw[h2];rfl
theorem aJw{c:FT}{body:FS}{n:Nat}{ρ:List D}(h1:c ρ=.ok false):Q8 c body (n+1) ρ=.ok (.nx ρ):=by
 unfold Q8;rw[h1];rfl
theorem aJx{L S:List Pt}{e:Pt}(h:e∈L)(hs:e∉S){S':List Pt}(h1:∀z∈S,z∈S')(h2:e∈S'):(L.filter λz=>decide (z∉S')).length<(L.filter λz=>decide (z∉S)).length:=by
 induction L with
 |nil=>cases h
 |cons x L ih=>
  have mono:(L.filter λz=>decide (z∉S')).length<=(L.filter λz=>decide (z∉S)).length:=by
   clear ih h;induction L with
   |nil=>exact Nat.le_refl _
   |cons y L ih=>
    rw[List.filter_cons,List.filter_cons];by_cases q:y∈S
    ·rw[if_neg (by simpa using h1 y q),if_neg (by simpa using q)];exact ih
    ·rw[if_pos (show decide (y∉S)=true by simpa using q)];split<;>simp only[List.length_cons]<;>lia
  rw[List.filter_cons,List.filter_cons];by_cases q:x=e
  ·subst q;rw[if_neg (by simpa using h2),if_pos (by simpa using hs),List.length_cons];lia
  ·have:=ih (by rcases List.mem_cons.mp h with z|z;exact absurd z.symm q;exact z);by_cases y:x∈S
   ·rw[if_neg (by simpa using h1 x y),if_neg (by simpa using y)];exact this
   ·rw[if_pos (show decide (x∉S)=true by simpa using y)];split<;>simp only[List.length_cons]<;>lia
theorem U3(hn:(ends V).Nodup)(hp:(ends PS).Nodup)(hs:∀e∈ends PS,e∈ends V)(P:PtD PS pd)(hl:(ends PS).length<=900):∀(n:Nat)(e:Pt)(S:List Pt),S.Nodup->(∀z∈S,z∈ends PS)->((ends PS).filter λz=>decide (z∉S)).length<=n->
  Q8 aJv aM2 (n+1) [.dct ((both V).map kvD),pd,enP e,.dcl a (S.map sD)]=.ok (.nx [.dct ((both V).map kvD),pd,enP (alS (mt V) (mt PS) (ends PS) n e S).1,.dcl a ((alS (mt V) (mt PS) (ends PS) n e S).2.map sD)]):=by
 have M:=wQ hp;have cnd:∀(e:Pt)(S:List Pt),aJv [.dct ((both V).map kvD),pd,enP e,.dcl a (S.map sD)]=.ok (decide (e∈ends PS/\e∉S)):=λe S=>by
  have q1:bTB (b2 inF eF d_) [.dct ((both V).map kvD),pd,enP e,.dcl a (S.map sD)]=.ok (decide (e∈ends PS)):=dD (aJ (x:=enP e) (y:=pd) rfl (aMr P.ne) (P.asks e));have q2:bTB (b2 (bR .notin) eF (bDc 3)) [.dct ((both V).map kvD),pd,enP e,.dcl a (S.map sD)]=.ok (decide (e∉S)):=dD (aJ (x:=enP e) (y:=.dct (S.map sD)) rfl rfl (by
   show(if t_ (S.map sD) (enP e) then Res.ok (D.bl (!(cL (S.map sD) (enP e)).isSome)) else .bad)=_;rw[aGh,if_pos rfl,O6]
   congr 2
   by_cases h:e∈S<;>simp[h]))
  by_cases h:e∈ends PS
  ·rw[decide_eq_true h] at q1;refine(X6 q1 q2).trans ?_
   congr 1
   simp[h]
  ·rw[decide_eq_false h] at q1;refine(T3 q1).trans ?_
   congr 1
   simp[h]
 intro n;induction n with
 |zero=>
  intro e S nS sS hc;have h0:¬(e∈ends PS/\e∉S):=λz=>by
   have:e∈(ends PS).filter λz=>decide (z∉S):=List.mem_filter.mpr ⟨z.1,by simpa using z.2⟩
   have:=List.length_pos_of_mem this;lia
  exact aJw ((cnd e S).trans (by rw[decide_eq_false h0]))
 |succ n ih=>
  intro e S nS sS hc;unfold alS;by_cases h:e∈ends PS/\e∉S
  ·rw[if_pos h];have pe:=M.in_ e h.1;have lS:S.length<=(ends PS).length:=Hk.len_sub nS sS;have nS1:=DG (e:=e) nS;have sS1:∀z∈xP S e,z∈ends PS:=λz hz=>(gY.mp hz).elim (sS z) λy=>y▸h.1
   have nS2:=DG (e:=mt PS e) nS1;have sS2:∀z∈xP (xP S e) (mt PS e),z∈ends PS:=λz hz=>(gY.mp hz).elim (sS1 z) λy=>y▸pe
   have lS1:(xP S e).length<=(ends PS).length:=Hk.len_sub nS1 sS1;have hlt:=aJx h.1 h.2 (S':=xP (xP S e) (mt PS e)) (λz hz=>gY.mpr (.inl (gY.mpr (.inl hz)))) (gY.mpr (.inl (gY.mpr (.inr rfl))));refine aM3 ((cnd e S).trans (by rw[decide_eq_true h])) ?_ (ih (mt V (mt PS e)) (xP (xP S e) (mt PS e)) nS2 sS2 (by lia));have gp:∀S:List Pt,b2 getD d_ eF [.dct ((both V).map kvD),pd,enP e,.dcl a (S.map sD)]=.ok (enP (mt PS e)):=λS=>aJ (x:=pd) (y:=enP e) (aMr P.ne) rfl (P.gets e h.1)
   refine aL (ρ':=[.dct ((both V).map kvD),pd,enP e,.dcl a ((xP S e).map sD)]) (aA8 (S:=S) (e:=e) rfl rfl rfl (by rw[bO];lia)) ?_;refine aL (ρ':=[.dct ((both V).map kvD),pd,enP e,.dcl a ((xP (xP S e) (mt PS e)).map sD)]) (aA8 (S:=xP S e) (e:=mt PS e) rfl (gp _) rfl (by rw[bO];lia)) ?_;refine o7 (i:=2) (aJ (x:=.dct ((both V).map kvD)) (y:=enP (mt PS e)) rfl (gp _) ?_) rfl;show(if keyOk (enP (mt PS e)) then Res.ofOpt (cL ((both V).map kvD) (enP (mt PS e))) else .bad)=_;rw[lW,C_ hn (hs _ pe)];rfl
  ·rw[if_neg h];exact aJw ((cnd e S).trans (by rw[decide_eq_false h]))
theorem aE0(hn:(ends V).Nodup){e:Pt}(he:e∈ends V):getD (.dct ((both V).map kvD)) (enP e)=.ok (enP (mt V e)):=by
 show(if keyOk (enP e) then Res.ofOpt (cL ((both V).map kvD) (enP e)) else .bad)=_;rw[lW,C_ hn he];rfl
theorem DK(hn:(ends V).Nodup)(hp:(ends PS).Nodup)(hs:∀e∈ends PS,e∈ends V)(P:PtD PS pd)(hl:(ends PS).length<=900){e:Pt}(he:e∈ends V){S:List Pt}(nS:S.Nodup)(sS:∀z∈S,z∈ends PS) :
  chD cZ 3 (S.map sD) [.dct ((both V).map kvD),pd,enP e,.uD]=.ok (enP (alS (mt V) (mt PS) (ends PS) 999 (mt V e) S).1,(alS (mt V) (mt PS) (ends PS) 999 (mt V e) S).2.map sD):=by
 refine aJ4 λb=>?_
 show(do let r <- nJ [.dct ((both V).map kvD),pd,enP e,.dcl b (S.map sD)];endC 3 r)=_;have hb:nJ [.dct ((both V).map kvD),pd,enP e,.dcl b (S.map sD)]=.ok (.rt (.tup (enP (alS (mt V) (mt PS) (ends PS) 999 (mt V e) S).1::[.dct ((both V).map kvD),pd,enP (alS (mt V) (mt PS) (ends PS) 999 (mt V e) S).1,.dcl b ((alS (mt V) (mt PS) (ends PS) 999 (mt V e) S).2.map sD)]))):=by
  refine aL (ρ':=[.dct ((both V).map kvD),pd,enP (mt V e),.dcl b (S.map sD)]) (o7 (i:=2) (aJ (x:=.dct ((both V).map kvD)) (y:=enP e) rfl rfl (aE0 hn he)) rfl) ?_;refine aL (ρ':=[.dct ((both V).map kvD),pd,enP (alS (mt V) (mt PS) (ends PS) 999 (mt V e) S).1,.dcl b ((alS (mt V) (mt PS) (ends PS) 999 (mt V e) S).2.map sD)]) (U3 (a:=b) hn hp hs P hl 999 (mt V e) S nS sS (Nat.le_trans (List.length_filter_le ..) (by lia))) rfl
 rw[hb];rfl
theorem DN:∀(n:Nat)(e:Pt){S:List Pt},(∀x∈ends PS,mt PS x∈ends PS)->S.Nodup->(∀z∈S,z∈ends PS)->(alS (mt V) (mt PS) (ends PS) n e S).2.Nodup/\∀z∈(alS (mt V) (mt PS) (ends PS) n e S).2,z∈ends PS
 |0,e,S,_,h1,h2=>⟨h1,h2⟩
 |n+1,e,S,hm,h1,h2=>by
  unfold alS;split
  ·rename_i c;exact DN n _ hm (DG (DG h1)) λz hz=>(gY.mp hz).elim (λy=>(gY.mp y).elim (h2 z) λw=>w▸c.1) λy=>y▸hm _ c.1
  ·exact⟨h1,h2⟩
end
theorem O8{PS:List Tie}(hp:(ends PS).Nodup)(e:Pt):(qQ (both PS) e).isSome=decide (e∈ends PS):=by
 by_cases h:e∈ends PS
 ·rw[C_ hp h,decide_eq_true h];rfl
 ·rw[aA7 (by rw[gG];exact h),decide_eq_false h];rfl
theorem aGi{PS:List Tie}(hp:(ends PS).Nodup):PtD PS (.dct ((both PS).map kvD)) where
 asks:=λe=>by
  show(if t_ ((both PS).map kvD) (enP e) then Res.ok (D.bl (cL ((both PS).map kvD) (enP e)).isSome) else .bad)=_;rw[CQ,if_pos rfl,lW,Option.isSome_map,O8 hp]
 gets:=λe he=>aE0 hp he
 ne:=λz=>by cases z
theorem aGj{PS:List Tie}(hp:(ends PS).Nodup)(h0:PS≠[]):PtD PS (.fdc ((both PS).map kvD)) where
 asks:=λe=>by
  have h1:((both PS).map kvD).isEmpty=false:=by
   cases PS with
   |nil=>exact absurd rfl h0
   |cons t PS=>rfl
  show(if (!((both PS).map kvD).isEmpty&&YS ((both PS).map kvD))&&(keyOk (enP e)&&isTup (enP e)) then Res.ok (D.bl (cL ((both PS).map kvD) (enP e)).isSome) else .bad)=_;rw[h1,show YS ((both PS).map kvD)=true from CT _,lW,Option.isSome_map,O8 hp];rfl
 gets:=λe he=>by
  show(if keyOk (enP e) then Res.ofOpt (cL ((both PS).map kvD) (enP e)) else .bad)=_;rw[lW,C_ hp he];rfl
 ne:=λz=>by cases z
def aM4:FS:=(bK (yW 3 (eQ (aD dI (aD mO aR))) (eQ (aD dI (aD iH aR)))) (yW 3 (eQ (aD dI (aD iH aR))) (eQ (aD dI (aD mO aR)))))
theorem JW{x0 x1 x2 x6 x7 x8 x9 x10 x11:D}:∀(T:List (Int×Int))(S:List Tie)(p q:D),(ends (S++T.map bA)).Nodup->2*(S.length+T.length)<lim->∃p' q',nY (tgN [4,5]) aM4 (T.map prD) [x0,x1,x2,.dct ((both S).map kvD),p,q,x6,x7,x8,x9,x10,x11]=.ok (.nx [x0,x1,x2,.dct ((both (S++T.map bA)).map kvD),p',q',x6,x7,x8,x9,x10,x11])
 |[],S,p,q,_,_=>⟨p,q,by rw[show S++([]:List (Int×Int)).map bA=S by simp];rfl⟩
 |t::T,S,p,q,hn,hl=>by
  have hS:S++(t::T).map bA=S++[bA t]++T.map bA:=by simp
  obtain⟨p',q',e⟩:=JW (x0:=x0) (x1:=x1) (x2:=x2) (x6:=x6) (x7:=x7) (x8:=x8) (x9:=x9) (x10:=x10) (x11:=x11) T (S++[bA t]) (.int t.1) (.int t.2) (by rw[<-hS];exact hn) (by simp only[List.length_append,List.length_cons,List.length_nil] at hl ⊢;lia);refine⟨p',q',?_⟩;rw[hS,<-e];have hb:both (S++[bA t])=(both S++[((bA t).1,(bA t).2)])++[((bA t).2,(bA t).1)]:=by simp[both]
  have hd:(ends S++([(bA t).1,(bA t).2]++ends (T.map bA))).Nodup:=by
   have:ends (S++(t::T).map bA)=ends S++([(bA t).1,(bA t).2]++ends (T.map bA)):=by simp[ends]
   rwa [this] at hn
  have n1:(bA t).1∉(both S).map (·.1):=by
   rw[gG];intro h;exact(List.nodup_append.mp hd).2.2 _ h (bA t).1 (by simp) rfl
  have n2:(bA t).2∉(both S++[((bA t).1,(bA t).2)]).map (·.1):=by
   rw[List.map_append,gG];intro h;rcases List.mem_append.mp h with h|h
   ·exact(List.nodup_append.mp hd).2.2 _ h (bA t).2 (by simp) rfl
   ·have e:(bA t).2=(bA t).1:=by simpa using h
    have:=(List.nodup_append.mp (List.nodup_append.mp hd).2.1).1;rw[e] at this;simp at this
  have hlen:(both S).length+1<lim:=by
   rw[RQ];rw[List.length_cons] at hl;lia
  have s1:=uJ (bA t).1 (bA t).2 (both S);have s2:=uJ (bA t).2 (bA t).1 (both S++[((bA t).1,(bA t).2)]);rw[lX n1] at s1;rw[lX n2,<-hb] at s2;have tk:∀{ρ:List D}{i:Nat}{j:Int},iV i ρ=.ok (.int j)->eQ (aD dI (aD (iV i) aR)) ρ=.ok (enP (0,j)):=λh=>dF (xs:=[.int 0,.int _]) (aC rfl (aC h rfl)) RN
  refine cD (ρ1:=[x0,x1,x2,.dct ((both S).map kvD),.int t.1,.int t.2,x6,x7,x8,x9,x10,x11]) (ρ2:=[x0,x1,x2,.dct ((both (S++[bA t])).map kvD),.int t.1,.int t.2,x6,x7,x8,x9,x10,x11]) rfl ?_ rfl;refine aL (ρ':=[x0,x1,x2,.dct ((both S++[((bA t).1,(bA t).2)]).map kvD),.int t.1,.int t.2,x6,x7,x8,x9,x10,x11]) ?_ ?_
  ·rw[<-s1];exact uF (i:=3) (kvs:=(both S).map kvD) (k:=enP (bA t).1) (d:=enP (bA t).2) (tk rfl) (tk rfl) rfl (by rw[List.length_map];lia) (CQ _ _) rfl
  ·rw[<-s2];exact uF (i:=3) (kvs:=(both S++[((bA t).1,(bA t).2)]).map kvD) (k:=enP (bA t).2) (d:=enP (bA t).1) (tk rfl) (tk rfl) rfl (by rw[List.length_map,List.length_append];exact hlen) (CQ _ _) rfl
def paS(m p:Pt->Pt)(L:List Pt):List Pt->List Pt->List Pt
 |[],s=>s
 |e::es,s=>if e∈L then paS m p L es s else paS m p L es (alS m p L 999 (m e) s).2
theorem aA9{m p:Pt->Pt}{L:List Pt}:∀(es:List Pt){s s':List Pt},(∀z,z∈s↔z∈s')->∀z,z∈paS m p L es s↔z∈Hk.pa m p L 999 es s'
 |[],_,_,h=>h
 |e::es,s,s',h=>by
  unfold paS Hk.pa;split
  ·exact aA9 es h
  ·exact aA9 es (R0 999 (m e) h).2
def riS(m p:Pt->Pt)(L:List Pt):List Pt->List Pt->Nat->List Pt×Nat
 |[],s,r=>(s,r)
 |x::xs,s,r=>if x∈s then riS m p L xs s r else riS m p L xs (alS m p L 999 (m (p x)) s).2 (r+1)
theorem aAa{m p:Pt->Pt}{L:List Pt}:∀(xs:List Pt){s s':List Pt}(r:Nat),(∀z,z∈s↔z∈s')->(riS m p L xs s r).2=(Hk.ri m p L 999 xs s' r).2
 |[],_,_,r,_=>rfl
 |x::xs,s,s',r,h=>by
  unfold riS Hk.ri;by_cases c:x∈s
  ·rw[if_pos c,if_pos ((h x).mp c)];exact aAa xs r h
  ·rw[if_neg c,if_neg λz=>c ((h x).mpr z)];exact aAa xs (r+1) (R0 999 _ h).2
theorem aCn{f:List D->Res D}{fs:FA}{ρ:List D}{a b c d:D}{kvs:List (D×D)}(h1:fs ρ=.ok [a,b,c,.uD])(h2:chD f 3 [] [a,b,c,.uD]=.ok (d,kvs))(h3:d.pure=true):HH f 4 3 fs ρ=.ok d:=by
 unfold HH;rw[h1];show(do let p <- chD f 3 [] [a,b,c,.uD];if p.1.pure then Res.ok p.1 else .bad)=_;rw[h2];show(if d.pure then Res.ok d else .bad)=_;rw[if_pos h3]
theorem R1{f:List D->Res D}{fs:FA}{ρ:List D}{a b c d:D}{kv kvs:List (D×D)}(h0:ρ.getD 6 .uD=.dct kv)(h1:fs ρ=.ok [a,b,c,.uD])(h2:chD f 3 kv [a,b,c,.uD]=.ok (d,kvs))(h3:d.pure=true)(h4:D.aY (kvs.map (·.2))=true):aFr (rY f 4 3 6 fs) ρ=.ok (.nx (ρ.set 6 (.dct kvs))):=by
 have:rY f 4 3 6 fs ρ=.ok (d,ρ.set 6 (.dct kvs)):=by
  unfold rY;rw[h1];show(match ρ.getD 6 .uD with|.dct kvs=>(if decide (([a,b,c,.uD]:List D).length=4)&&(decide (3<4)&&isU (([a,b,c,.uD]:List D).getD 3 .non)) then (do let p <- chD f 3 kvs [a,b,c,.uD];if p.1.pure&&D.aY (p.2.map λq:D×D=>q.2) then Res.ok (p.1,ρ.set 6 (.dct p.2)) else .bad) else .bad)|_=>.bad)=_;rw[h0];show(do let p <- chD f 3 kv [a,b,c,.uD];if p.1.pure&&D.aY (p.2.map λq:D×D=>q.2) then Res.ok (p.1,ρ.set 6 (.dct p.2)) else .bad)=_;rw[h2];show(if d.pure&&D.aY (kvs.map λq:D×D=>q.2) then Res.ok (d,ρ.set 6 (.dct kvs)) else .bad)=_;rw[h3,h4];rfl
 unfold aFr;rw[this];rfl
def wb:FS:=(sIf (bTB (b2 (bR .notin) jW cT)) (bK (yW 7 jW (HH cZ 4 3 (aD eF (aD cT (aD jW (aD aFs aR)))))) (bK (aFr (rY cZ 4 3 6 (aD eF (aD (bOd 3) (aD jW (aD (bUo 6) aR)))))) (bK (yW 8 jW jW) (sIf (bTB (b2 (bR .eq) (b2 getD jW dI) dI)) (yW 8 jW (eQ (aD dI (aD (b2 (aW .sub) (aQ aJ2 (aD rA aR)) eO) aR)))) j_)))) j_)
section
variable {V PS:List Tie} {st:List Int} {x0 x1 x4 x5 x10 x11:D}
def g0(V PS:List Tie)(e:Pt):Pt:=(alS (mt V) (mt PS) (ends PS) 999 (mt V e) []).1
def gKv(V PS:List Tie)(e:Pt):Pt×Pt:=(e,g0 V PS e)
def aKv(st:List Int)(e:Pt):Pt×Pt:=(e,rk st e)
theorem aE1(A:List Pt):(A.map (gKv V PS)).map (·.1)=A:=by
 rw[List.map_map]
 conv=>rhs;rw[<-List.map_id A]
 rfl
theorem JX(A:List Pt):(A.map (aKv st)).map (·.1)=A:=by
 rw[List.map_map]
 conv=>rhs;rw[<-List.map_id A]
 rfl
@[reducible] noncomputable def stt(V PS:List Tie)(st:List Int)(x0 x1 x4 x5 x10 x11:D)(S A:List Pt)(x9:D):List D:=[x0,x1,.dct ((both V).map kvD),.dct ((both PS).map kvD),x4,x5,.dct (S.map sD),.dct ((A.map (gKv V PS)).map kvD),.dct ((A.map (aKv st)).map kvD),x9,x10,x11]
theorem O9(hn:(ends V).Nodup)(hp:(ends PS).Nodup)(hs:∀e∈ends PS,e∈ends V)(hl:(ends PS).length<=900){E':List Pt}(hE:E'.Nodup)(hlE:E'.length<=10000)(plc:∀(i:Nat) (h:i<E'.length),E'[i].1=0->rk st E'[i]=(0,(i:Int))) :
  ∀(B A S:List Pt)(x9:D),(∀e∈B,e∈ends V)->E'=A++B.filter (λe=>decide (e∉ends PS))->S.Nodup->(∀z∈S,z∈ends PS)->∃y9,(paS (mt V) (mt PS) (ends PS) B S).Nodup/\(∀z∈paS (mt V) (mt PS) (ends PS) B S,z∈ends PS)/\
   nY (tg1 9) wb (B.map enP) (stt V PS st x0 x1 x4 x5 x10 x11 S A x9)=.ok (.nx (stt V PS st x0 x1 x4 x5 x10 x11 (paS (mt V) (mt PS) (ends PS) B S) E' y9))
 |[],A,S,x9,_,h,n1,n2=>⟨x9,n1,n2,by rw[List.filter_nil,List.append_nil] at h;subst h;rfl⟩
 |e::B,A,S,x9,hB,h,n1,n2=>by
  have heV:=hB e (by simp);have P:=aGi hp;have ntn:bTB (b2 (bR .notin) jW cT) (stt V PS st x0 x1 x4 x5 x10 x11 S A (enP e))=.ok (!decide (e∈ends PS)):=dD (aJ (x:=enP e) (y:=.dct ((both PS).map kvD)) rfl rfl (by
   show(if t_ ((both PS).map kvD) (enP e) then Res.ok (D.bl (!(cL ((both PS).map kvD) (enP e)).isSome)) else .bad)=_;rw[CQ,if_pos rfl,lW,Option.isSome_map,O8 hp]))
  by_cases hm:e∈ends PS
  ·rw[List.filter_cons,if_neg (by simpa using hm)] at h;obtain⟨y9,g1,g2,g3⟩:=O9 hn hp hs hl hE hlE plc B A S (enP e) (λx hx=>hB x (by simp[hx])) h n1 n2;refine⟨y9,?_⟩;unfold paS;rw[if_pos hm];refine⟨g1,g2,?_⟩;rw[decide_eq_true hm] at ntn;exact cD (ρ1:=stt V PS st x0 x1 x4 x5 x10 x11 S A (enP e)) rfl (o8 ntn rfl) g3
  ·rw[List.filter_cons,if_pos (by simpa using hm)] at h;have kp:=DN (V:=V) (PS:=PS) 999 (mt V e) (λx hx=>(wQ hp).in_ x hx) n1 n2;obtain⟨y9,g1,g2,g3⟩:=O9 hn hp hs hl hE hlE plc B (A++[e]) (alS (mt V) (mt PS) (ends PS) 999 (mt V e) S).2 (enP e) (λx hx=>hB x (by simp[hx])) (by rw[h];simp) kp.1 kp.2;refine⟨y9,?_⟩;unfold paS;rw[if_neg hm];refine⟨g1,g2,?_⟩;rw[decide_eq_false hm] at ntn;have al0:=DK hn hp hs P hl heV (S:=[]) List.nodup_nil (λz hz=>by cases hz);have al1:=DK hn hp hs P hl heV n1 n2;have hlen:A.length<E'.length:=by rw[h,List.length_append,List.length_cons];lia
   have he:E'[A.length]=e:=by
    subst h;simp
   have hnA:e∉A:=by
    rw[h] at hE;intro z;exact(List.nodup_append.mp hE).2.2 _ z e (by simp) rfl
   have q1:=uJ e (g0 V PS e) (A.map (gKv V PS));rw[lX (by rw[aE1];exact hnA)] at q1;have p1:=uJ e e (A.map (aKv st));rw[lX (by rw[JX];exact hnA)] at p1;have p2:putD ((A.map (aKv st)++[(e,e)]).map kvD) (enP e) (enP (0,(A.length:Int)))=(A.map (aKv st)++[(e,(0,(A.length:Int)))]).map kvD:=(uJ e (0,(A.length:Int)) _).trans (by rw[Z6 (by rw[JX];exact hnA)]);have l1:((A.map (gKv V PS)).map kvD).length<lim:=by
    rw[List.length_map,List.length_map,bO];lia
   have l1':((A.map (aKv st)).map kvD).length<lim:=by
    rw[List.length_map,List.length_map,bO];lia
   have l2:((A.map (aKv st)++[(e,e)]).map kvD).length=A.length+1:=by simp
   refine cD (ρ1:=stt V PS st x0 x1 x4 x5 x10 x11 S A (enP e)) (ρ2:=stt V PS st x0 x1 x4 x5 x10 x11 (alS (mt V) (mt PS) (ends PS) 999 (mt V e) S).2 (A++[e]) (enP e)) rfl (zU ntn ?_) g3;have eg:((A++[e]).map (gKv V PS)).map kvD=(A.map (gKv V PS)++[(e,g0 V PS e)]).map kvD:=by
    rw[List.map_append (l₁:=A)];rfl
   refine aL (ρ':=[x0,x1,.dct ((both V).map kvD),.dct ((both PS).map kvD),x4,x5,.dct (S.map sD),.dct (((A++[e]).map (gKv V PS)).map kvD),.dct ((A.map (aKv st)).map kvD),enP e,x10,x11]) ?_ ?_
   ·rw[eg,<-q1];exact uF (i:=7) (kvs:=(A.map (gKv V PS)).map kvD) (k:=enP e) (d:=enP (g0 V PS e)) (aCn (a:=.dct ((both V).map kvD)) (b:=.dct ((both PS).map kvD)) (c:=enP e) (aC rfl (aC rfl (aC rfl (aC rfl rfl)))) al0 rfl) rfl rfl l1 (CQ _ _) rfl
   refine aL (ρ':=[x0,x1,.dct ((both V).map kvD),.dct ((both PS).map kvD),x4,x5,.dct ((alS (mt V) (mt PS) (ends PS) 999 (mt V e) S).2.map sD),.dct (((A++[e]).map (gKv V PS)).map kvD),.dct ((A.map (aKv st)).map kvD),enP e,x10,x11]) (R1 (kv:=S.map sD) (a:=.dct ((both V).map kvD)) (b:=.dct ((both PS).map kvD)) (c:=enP e) rfl (aC rfl (aC rfl (aC rfl (aC rfl rfl)))) al1 rfl (O7 _)) ?_;generalize (alS (mt V) (mt PS) (ends PS) 999 (mt V e) S).2=S2;refine aL (ρ':=[x0,x1,.dct ((both V).map kvD),.dct ((both PS).map kvD),x4,x5,.dct (S2.map sD),.dct (((A++[e]).map (gKv V PS)).map kvD),.dct ((A.map (aKv st)++[(e,e)]).map kvD),enP e,x10,x11]) ?_ ?_
   ·rw[<-p1];exact uF (i:=8) (kvs:=(A.map (aKv st)).map kvD) (k:=enP e) (d:=enP e) rfl rfl rfl l1' (CQ _ _) rfl
   have ht:bTB (b2 (bR .eq) (b2 getD jW dI) dI) [x0,x1,.dct ((both V).map kvD),.dct ((both PS).map kvD),x4,x5,.dct (S2.map sD),.dct (((A++[e]).map (gKv V PS)).map kvD),.dct ((A.map (aKv st)++[(e,e)]).map kvD),enP e,x10,x11]=.ok (e.1==0):=dD (aJ (x:=.int e.1) (aJ (x:=enP e) rfl rfl rfl) rfl rfl);by_cases z:e.1=0
   ·rw[show(e.1==0)=true by simpa using z] at ht;have ea:((A++[e]).map (aKv st)).map kvD=(A.map (aKv st)++[(e,(0,(A.length:Int)))]).map kvD:=by
     have:=plc A.length hlen (by rw[he];exact z);rw[he] at this;rw[List.map_append (l₁:=A),List.map_cons,aKv,this];rfl
    have hlx:aJ2 [.dct ((A.map (aKv st)++[(e,e)]).map kvD)]=.ok (.int ((A.length:Int)+1)):=by
     show(if ((A.map (aKv st)++[(e,e)]).map kvD).all (λp=>isTup p.1) then Res.ok (D.int (((A.map (aKv st)++[(e,e)]).map kvD).length:Int)) else .bad)=_;rw[if_pos (CT _),l2];rfl
    have hs:aW .sub (.int ((A.length:Int)+1)) (.int 1)=.ok (.int (A.length:Int)):=by
     rw[aDk]
     congr 2
     lia
    refine zU ht ?_;unfold stt;rw[ea,<-p2];exact uF (i:=8) (kvs:=(A.map (aKv st)++[(e,e)]).map kvD) (k:=enP e) (d:=enP (0,(A.length:Int))) (dF (xs:=[.int 0,.int (A.length:Int)]) (aC rfl (aC (aJ (x:=.int ((A.length:Int)+1)) (aK (xs:=[.dct ((A.map (aKv st)++[(e,e)]).map kvD)]) (aC rfl rfl) hlx) rfl hs) rfl)) RN) rfl rfl (by rw[l2,bO];lia) (CQ _ _) rfl
   ·rw[show(e.1==0)=false by simpa using z] at ht;refine(o8 ht rfl).trans ?_;have ea:((A++[e]).map (aKv st)).map kvD=(A.map (aKv st)++[(e,e)]).map kvD:=by
     rw[List.map_append (l₁:=A),List.map_cons,aKv,rk,if_neg z];rfl
    unfold stt;rw[ea];rfl
def rb:FS:=(sIf (bTB (b2 (bR .notin) jW mQ)) (bK (aFr (rY cZ 4 3 6 (aD eF (aD cT (aD (bPu (b2 getD cT jW)) (aD (bUo 6) aR)))))) (cC false 10 (b2 (aW .add) iB eO) true)) j_)
theorem aM5{f:FE}{ρ:List D}{d:D}(h:f ρ=.ok d)(hp:d.pure=true):bPu f ρ=.ok d:=by
 unfold bPu;rw[h];show(if d.pure then Res.ok d else .bad)=_;rw[if_pos hp]
theorem O_{x7 x8:D}(hn:(ends V).Nodup)(hp:(ends PS).Nodup)(hs:∀e∈ends PS,e∈ends V)(hl:(ends PS).length<=900)(h0:PS≠[])(r:Int) :
  ∀(B S:List Pt)(q:Nat)(x9:D),(∀e∈B,e∈ends PS)->S.Nodup->(∀z∈S,z∈ends PS)->∃(y9:D)(S':List Pt),nY (tg1 9) rb (B.map enP) [x0,x1,.dct ((both V).map kvD),.fdc ((both PS).map kvD),x4,x5,.dct (S.map sD),x7,x8,x9,.int (r+(q:Nat)),x11]=.ok (.nx [x0,x1,.dct ((both V).map kvD),.fdc ((both PS).map kvD),x4,x5,.dct (S'.map sD),x7,x8,y9,.int (r+((riS (mt V) (mt PS) (ends PS) B S q).2:Nat)),x11])
 |[],S,q,x9,_,n1,n2=>⟨x9,S,rfl⟩
 |e::B,S,q,x9,hB,n1,n2=>by
  have heP:=hB e (by simp);have P:=aGj hp h0;have M:=wQ hp;have ntn:bTB (b2 (bR .notin) jW mQ) [x0,x1,.dct ((both V).map kvD),.fdc ((both PS).map kvD),x4,x5,.dct (S.map sD),x7,x8,enP e,.int (r+(q:Nat)),x11]=.ok (!decide (e∈S)):=dD (aJ (x:=enP e) (y:=.dct (S.map sD)) rfl rfl (by
   show(if t_ (S.map sD) (enP e) then Res.ok (D.bl (!(cL (S.map sD) (enP e)).isSome)) else .bad)=_;rw[aGh,if_pos rfl,O6]))
  by_cases hm:e∈S
  ·obtain⟨y9,S',g⟩:=O_ hn hp hs hl h0 r B S q (enP e) (λx hx=>hB x (by simp[hx])) n1 n2;refine⟨y9,S',?_⟩;unfold riS;rw[if_pos hm];rw[decide_eq_true hm] at ntn;exact cD (ρ1:=[x0,x1,.dct ((both V).map kvD),.fdc ((both PS).map kvD),x4,x5,.dct (S.map sD),x7,x8,enP e,.int (r+(q:Nat)),x11]) rfl (o8 ntn rfl) g
  ·have kp:=DN (V:=V) (PS:=PS) 999 (mt V (mt PS e)) (λx hx=>M.in_ x hx) n1 n2;obtain⟨y9,S',g⟩:=O_ hn hp hs hl h0 r B (alS (mt V) (mt PS) (ends PS) 999 (mt V (mt PS e)) S).2 (q+1) (enP e) (λx hx=>hB x (by simp[hx])) kp.1 kp.2;refine⟨y9,S',?_⟩;unfold riS;rw[if_neg hm];rw[decide_eq_false hm] at ntn;have al1:=DK hn hp hs P hl (hs _ (M.in_ e heP)) n1 n2;refine cD (ρ1:=[x0,x1,.dct ((both V).map kvD),.fdc ((both PS).map kvD),x4,x5,.dct (S.map sD),x7,x8,enP e,.int (r+(q:Nat)),x11]) rfl (zU ntn ?_) g;refine aL (ρ':=[x0,x1,.dct ((both V).map kvD),.fdc ((both PS).map kvD),x4,x5,.dct ((alS (mt V) (mt PS) (ends PS) 999 (mt V (mt PS e)) S).2.map sD),x7,x8,enP e,.int (r+(q:Nat)),x11]) (R1 (kv:=S.map sD) (a:=.dct ((both V).map kvD)) (b:=.fdc ((both PS).map kvD)) (c:=enP (mt PS e)) rfl (aC rfl (aC rfl (aC (aM5 (aJ (x:=.fdc ((both PS).map kvD)) (y:=enP e) rfl rfl (P.gets e heP)) rfl) (aC rfl rfl)))) al1 rfl (O7 _)) ?_;refine(bH (i:=10) (aJ (x:=.int (r+(q:Nat))) rfl rfl (dW _ 1))).trans ?_;rw[show r+((q+1:Nat):Int)=r+(q:Nat)+1 by lia];rfl
end
theorem aE2{m:List (Pt×Pt)}{p v:Pt}(h:qQ m p=some v):getD (.dct (m.map kvD)) (enP p)=.ok (enP v):=by
 show(if keyOk (enP p) then Res.ofOpt (cL (m.map kvD) (enP p)) else .bad)=_;rw[lW,h];rfl
theorem aAb{m:List (Pt×Pt)}{p v:Pt}(h:qQ m p=some v):getD (.fdc (m.map kvD)) (enP p)=.ok (enP v):=by
 show(if keyOk (enP p) then Res.ofOpt (cL (m.map kvD) (enP p)) else .bad)=_;rw[lW,h];rfl
theorem aE3{i:Nat}{g:FS}{ρ:List D}{kvs:List (D×D)}{d:D}(h1:iV i ρ=.ok (.dct kvs))(h2:g (ρ.set i (.fdc kvs))=.ok (.rt d)):aJb i g ρ=.ok (.rt d):=by
 unfold aJb;rw[h1];show(do let r <- g (ρ.set i (.fdc kvs));match r with|.rt d=>Res.ok (Fl.rt d)|_=>.bad)=_;rw[h2];rfl
theorem aAc{f:FE}{ρ:List D}{m:List (Pt×Pt)}(h:f ρ=.ok (.fdc (m.map kvD))):aDr f ρ=.ok ((m.map (·.1)).map enP,true):=by
 unfold aDr;rw[h];show(if YS (m.map kvD) then Res.ok (iJ (m.map kvD),true) else .bad)=_;rw[show YS (m.map kvD)=true from CT m,Z5];rfl
section
variable {V:List Tie} {ps:List (Int×Int)} {st:List Int} {Q:List Pc} {r:Int}
def aJy:FT:=bTB (b2 (bR (.ord .lt)) gP (b2 getD oZ gP))
def aMs:FE:=eQ (aD (b2 getD rA gP) (aD (b2 getD rA (b2 getD oZ gP)) aR))
theorem aE4{PS:List Tie}{E:List Pt}(hE:E.Nodup)(hg:∀e∈E,g0 V PS e∈E){x0 x1 x2 x3 x4 x5 x6 x9 x10 x11:D}:∀(R:List Pt)(acc:List D),(∀e∈R,e∈E)->
  iK (kW 12 lZ aJy aMs false [x0,x1,x2,x3,x4,x5,x6,.dct ((E.map (gKv V PS)).map kvD),.fdc ((E.map (aKv st)).map kvD),x9,x10,x11]) acc (R.map enP)=.ok (acc++((R.filter λe=>decide (ltP e (g0 V PS e))).map λe=>(rk st e,rk st (g0 V PS e))).map bI)
 |[],acc,_=>by simp[iK]
 |e::R,acc,hR=>by
  have he:=hR e (List.mem_cons_self ..);have m1:qQ (E.map (gKv V PS)) e=some (g0 V PS e):=tB (by rw[aE1];exact hE) (List.mem_map.mpr ⟨e,he,rfl⟩);have hA:∀e∈E,qQ (E.map (aKv st)) e=some (rk st e):=λe he=>tB (by rw[JX];exact hE) (List.mem_map.mpr ⟨e,he,rfl⟩)
  have stp:=e_ (n:=12) (t:=lZ) (c:=aJy) (f:=aMs) (k:=false) (acc:=acc) (x:=enP e) (ρ:=[x0,x1,x2,x3,x4,x5,x6,.dct ((E.map (gKv V PS)).map kvD),.fdc ((E.map (aKv st)).map kvD),x9,x10,x11]) (b:=decide (ltP e (g0 V PS e))) (bs:=[enP e]) (y:=bI (rk st e,rk st (g0 V PS e))) rfl rfl (dD (aJ (x:=enP e) (y:=enP (g0 V PS e)) rfl (aJ (x:=.dct ((E.map (gKv V PS)).map kvD)) (y:=enP e) rfl rfl (aE2 m1)) (aFg rfl rfl (wH _ _)))) λ_=>⟨dF (xs:=[enP (rk st e),enP (rk st (g0 V PS e))]) (aC (aJ (x:=.fdc ((E.map (aKv st)).map kvD)) (y:=enP e) rfl rfl (aAb (hA e he))) (aC (aJ (x:=.fdc ((E.map (aKv st)).map kvD)) (y:=enP (g0 V PS e)) rfl (aJ (x:=.dct ((E.map (gKv V PS)).map kvD)) (y:=enP e) rfl rfl (aE2 m1)) (aAb (hA _ (hg e he)))) rfl)) RN,rfl⟩
  rw[List.map_cons,iK,stp];show iK _ _ _=_;rw[aE4 hE hg R _ λx hx=>hR x (List.mem_cons_of_mem _ hx),List.filter_cons];by_cases z:ltP e (g0 V PS e)
  ·rw[if_pos (by simpa using z),if_pos (by simpa using z),List.append_assoc];rfl
  ·rw[if_neg (by simpa using z),if_neg (by simpa using z)]
theorem U4(hn:(ends V).Nodup)(hp:(ends (ps.map bA)).Nodup)(hs:∀e∈ends (ps.map bA),e∈ends V)(hl:ps.length<=400)(hV:V.length<=1000)
 (plc:∀(i:Nat) (h:i<((gK (ends V)).filter λe=>decide (e∉ends (ps.map bA))).length),(((gK (ends V)).filter λe=>decide (e∉ends (ps.map bA)))[i]).1=0->rk st (((gK (ends V)).filter λe=>decide (e∉ends (ps.map bA)))[i])=(0,(i:Int)))
 (hg:∀e∈(gK (ends V)).filter (λe=>decide (e∉ends (ps.map bA))),g0 V (ps.map bA) e∈(gK (ends V)).filter λe=>decide (e∉ends (ps.map bA))) :
  cR 2 gF [bG Q V r,.lst (ps.map prD)]=.ok (bG Q (fX ((((gK (ends V)).filter λe=>decide (e∉ends (ps.map bA))).filter λe=>decide (ltP e (g0 V (ps.map bA) e))).map λe=>(rk st e,rk st (g0 V (ps.map bA) e)))) (r+((riS (mt V) (mt (ps.map bA)) (ends (ps.map bA)) (ends (ps.map bA)) (paS (mt V) (mt (ps.map bA)) (ends (ps.map bA)) (gK (ends V)) []) 0).2:Nat))):=by
 have mts:=RT (Q:=Q) (r:=r) hn (by rw[bO];lia);have lPS:(ends (ps.map bA)).length<=900:=by rw[oO,List.length_map];lia
 have nE:((gK (ends V)).filter λe=>decide (e∉ends (ps.map bA))).Nodup:=((gR _).nodup_iff.mpr hn).filter _;have lE:((gK (ends V)).filter λe=>decide (e∉ends (ps.map bA))).length<=10000:=by
  refine Nat.le_trans (List.length_filter_le ..) ?_;rw[(gR _).length_eq,oO];lia
 obtain⟨p4,p5,lp1⟩:=JW (x0:=bG Q V r) (x1:=.lst (ps.map prD)) (x2:=.dct ((both V).map kvD)) (x6:=.uD) (x7:=.uD) (x8:=.uD) (x9:=.uD) (x10:=.uD) (x11:=.uD) ps [] .uD .uD (by simpa using hp) (by rw[bO];simp;lia);rw[List.nil_append] at lp1;generalize hPS:ps.map bA=PS at hp hs plc hg lPS nE lE lp1;obtain⟨y9,w1,w2,lp2⟩:=O9 (x0:=bG Q V r) (x1:=.lst (ps.map prD)) (x4:=p4) (x5:=p5) (x10:=.uD) (x11:=.uD) (st:=st) hn hp hs lPS nE lE plc (gK (ends V)) [] [] .uD (λe he=>(gR _).mem_iff.mp he) rfl List.nodup_nil (λz hz=>by cases hz);have sk:=O2 (both V);rw[gG] at sk;generalize hE':((gK (ends V)).filter λe=>decide (e∉ends PS))=E' at plc hg nE lE lp2;generalize hSS:paS (mt V) (mt PS) (ends PS) (gK (ends V)) []=SS at w1 w2 lp2;have lp3:∃(z9:D)(S':List Pt),nY (tg1 9) rb ((ends PS).map enP) [bG Q V r,.lst (ps.map prD),.dct ((both V).map kvD),.fdc ((both PS).map kvD),p4,p5,.dct (SS.map sD),.dct ((E'.map (gKv V PS)).map kvD),.dct ((E'.map (aKv st)).map kvD),y9,.int r,.uD]=.ok (.nx [bG Q V r,.lst (ps.map prD),.dct ((both V).map kvD),.fdc ((both PS).map kvD),p4,p5,.dct (S'.map sD),.dct ((E'.map (gKv V PS)).map kvD),.dct ((E'.map (aKv st)).map kvD),z9,.int (r+((riS (mt V) (mt PS) (ends PS) (ends PS) SS 0).2:Nat)),.uD]):=by
  by_cases h0:PS=[]
  ·subst h0;exact⟨y9,SS,by show Res.ok (Fl.nx [bG Q V r,.lst (ps.map prD),.dct ((both V).map kvD),.fdc ((both []).map kvD),p4,p5,.dct (SS.map sD),.dct ((E'.map (gKv V [])).map kvD),.dct ((E'.map (aKv st)).map kvD),y9,.int r,.uD])=Res.ok (Fl.nx [bG Q V r,.lst (ps.map prD),.dct ((both V).map kvD),.fdc ((both []).map kvD),p4,p5,.dct (SS.map sD),.dct ((E'.map (gKv V [])).map kvD),.dct ((E'.map (aKv st)).map kvD),y9,.int (r+((0:Nat):Int)),.uD]);rw[show r+((0:Nat):Int)=r by lia]⟩
  ·obtain⟨z9,S',g⟩:=O_ (x0:=bG Q V r) (x1:=.lst (ps.map prD)) (x4:=p4) (x5:=p5) (x11:=.uD) (x7:=.dct ((E'.map (gKv V PS)).map kvD)) (x8:=.dct ((E'.map (aKv st)).map kvD)) hn hp hs lPS h0 r (ends PS) SS 0 y9 (λ_ h=>h) w1 w2;rw[show r+((0:Nat):Int)=r by lia] at g;exact⟨z9,S',g⟩
 obtain⟨z9,S',lp3⟩:=lp3;have hf:=aE4 (V:=V) (PS:=PS) (st:=st) nE hg (x0:=bG Q V r) (x1:=.lst (ps.map prD)) (x2:=.dct ((both V).map kvD)) (x3:=.fdc ((both PS).map kvD)) (x4:=p4) (x5:=p5) (x6:=.dct (S'.map sD)) (x9:=z9) (x10:=.int (r+((riS (mt V) (mt PS) (ends PS) (ends PS) SS 0).2:Nat))) (x11:=.uD) E' [] λ_ h=>h
 rw[List.nil_append] at hf;generalize hR:r+((riS (mt V) (mt PS) (ends PS) (ends PS) SS 0).2:Nat)=R at lp3 hf;generalize hT:((E'.filter λe=>decide (ltP e (g0 V PS e))).map λe=>(rk st e,rk st (g0 V PS e)))=TT at hf;refine(cU rfl).trans (call_v ?_);refine aL (ρ':=[bG Q V r,.lst (ps.map prD),.dct ((both V).map kvD),.uD,.uD,.uD,.uD,.uD,.uD,.uD,.uD,.uD]) (bH (i:=2) (aK (xs:=[bG Q V r]) (aC rfl rfl) mts)) ?_;refine aL (ρ':=[bG Q V r,.lst (ps.map prD),.dct ((both V).map kvD),.dct [],.uD,.uD,.uD,.uD,.uD,.uD,.uD,.uD]) (fZ (i:=3) rfl rfl) ?_;refine aL (ρ':=[bG Q V r,.lst (ps.map prD),.dct ((both V).map kvD),.dct ((both PS).map kvD),p4,p5,.uD,.uD,.uD,.uD,.uD,.uD]) (zV (d:=.lst (ps.map prD)) rfl rfl lp1) ?_;refine aL (ρ':=[bG Q V r,.lst (ps.map prD),.dct ((both V).map kvD),.dct ((both PS).map kvD),p4,p5,.dct [],.uD,.uD,.uD,.uD,.uD]) (fZ (i:=6) rfl rfl) ?_;refine aL (ρ':=[bG Q V r,.lst (ps.map prD),.dct ((both V).map kvD),.dct ((both PS).map kvD),p4,p5,.dct [],.dct [],.uD,.uD,.uD,.uD]) (fZ (i:=7) rfl rfl) ?_;refine aL (ρ':=[bG Q V r,.lst (ps.map prD),.dct ((both V).map kvD),.dct ((both PS).map kvD),p4,p5,.dct [],.dct [],.dct [],.uD,.uD,.uD]) (fZ (i:=8) rfl rfl) ?_;refine aL (ρ':=stt V PS st (bG Q V r) (.lst (ps.map prD)) p4 p5 .uD .uD SS E' y9) (m_ (fD (d:=.lst ((gK (ends V)).map enP)) (aK (xs:=[.dct ((both V).map kvD)]) (aC rfl rfl) sk) rfl) lp2) ?_;refine aL (ρ':=[bG Q V r,.lst (ps.map prD),.dct ((both V).map kvD),.dct ((both PS).map kvD),p4,p5,.dct (SS.map sD),.dct ((E'.map (gKv V PS)).map kvD),.dct ((E'.map (aKv st)).map kvD),y9,.int r,.uD]) (o7 (i:=10) (aJ (x:=bG Q V r) rfl rfl (n2 Q V r)) rfl) ?_;refine aE3 (kvs:=(both PS).map kvD) rfl ?_;refine aL (ρ':=[bG Q V r,.lst (ps.map prD),.dct ((both V).map kvD),.fdc ((both PS).map kvD),p4,p5,.dct (S'.map sD),.dct ((E'.map (gKv V PS)).map kvD),.dct ((E'.map (aKv st)).map kvD),z9,.int R,.uD]) (m_ (aAc (m:=both PS) rfl) (by rw[gG];exact lp3)) ?_;refine aE3 (kvs:=(E'.map (aKv st)).map kvD) rfl ?_;refine aL (ρ':=[bG Q V r,.lst (ps.map prD),.dct ((both V).map kvD),.fdc ((both PS).map kvD),p4,p5,.dct (S'.map sD),.dct ((E'.map (gKv V PS)).map kvD),.fdc ((E'.map (aKv st)).map kvD),z9,.int R,.lst (TT.map bI)]) (bH (i:=11) (fK (aAc (m:=E'.map (aKv st)) rfl) (by rw[JX,List.length_map,bO];lia) (by rw[JX];exact hf))) ?_
 refine eX (d:=bG Q (fX TT) R) (dF (xs:=[.tup (Q.map pcD),.tup ((fX TT).map bI),.int R]) (aC (aJ (x:=bG Q V r) rfl rfl (n0 Q V r)) (aC (aK (xs:=[.lst ((fX TT).map bI)]) (aC (aK (xs:=[.lst (TT.map bI)]) (aC rfl rfl) (CK TT)) rfl) rfl) (aC rfl rfl))) aMq) ?_;rw[sX];rfl
end
structure Wf(Q:List Pc)(T:List Tie):Prop where
 qs:Q.Pairwise LtN
 qpos:∀pc∈Q,0<pc.1
 lt:∀t∈T,ltP t.1 t.2
 nn:∀t∈T,0<=t.1.1/\0<=t.2.1
 srt:T.Pairwise LeT
def gr(Q:List Pc):Int:=(Q.getLast?.map (·.1)).getD 0
theorem aCo{Q:List Pc}(h:Q≠[]):getD (.tup (Q.map pcD)) (.int (-1))=.ok (pcD (Q.getLast h)):=by
 have hl:0<Q.length:=List.length_pos_iff.mpr h;show Res.ofOpt ((ixD (Q.map pcD).length (-1)).bind λj=>(Q.map pcD)[j]?)=_;have e:ixD (Q.map pcD).length (-1)=some (Q.length-1):=by
  unfold ixD;rw[if_neg (by lia),if_pos (by rw[List.length_map];lia),List.length_map]
  congr 1
  lia
 rw[e];show Res.ofOpt ((Q.map pcD)[Q.length-1]?)=_;rw[List.getElem?_map,<-List.getLast?_eq_getElem?,List.getLast?_eq_some_getLast h];rfl
theorem PB{Q:List Pc}(h:Q≠[]):gr Q=(Q.getLast h).1:=by
 unfold gr;rw[List.getLast?_eq_some_getLast h];rfl
theorem PJ(Q:List Pc)(T:List Tie)(r:Int):cR 1 oK [bG Q T r]=.ok (.int (gr Q)):=by
 refine(cU rfl).trans (call_v ?_);show oJ [bG Q T r]=_;by_cases h:Q=[]
 ·subst h;have e:oJ [bG [] T r]=.ok (.rt (.int 0)):=by
   unfold oJ bK;rw[zU (r:=.ok (.rt (.int 0))) (JL (b:=false) (ZQ (aJ (x:=bG [] T r) rfl rfl (n0 [] T r)) rfl)) rfl];rfl
  exact e
 ·refine aL (ρ':=[bG Q T r]) (o8 (JL (b:=true) (ZQ (aJ (x:=bG Q T r) rfl rfl (n0 Q T r)) ?_)) rfl) ?_
  ·cases Q with
   |nil=>exact absurd rfl h
   |cons a b=>rfl
  ·refine eX (d:=.int (gr Q)) (aJ (aJ (aJ (x:=bG Q T r) rfl rfl (n0 Q T r)) (aLu (x:=.int 1) rfl rfl) (aCo h)) rfl ?_) rfl;rw[PB h];rfl
theorem JZ{tt:D}:∀(T:List Tie)(E:List Pt)(x y:D),E.length+2*T.length<lim->∃x' y',nY (tgN [2,3]) (bK (xV 1 eF) (xV 1 cT)) (T.map bI) [tt,.lst (E.map enP),x,y]=.ok (.nx [tt,.lst ((E++ends T).map enP),x',y'])
 |[],E,x,y,_=>⟨x,y,by simp[ends,nY]⟩
 |t::T,E,x,y,h=>by
  rw[List.length_cons] at h;obtain⟨x',y',ih⟩:=JZ (tt:=tt) T (E++[t.1,t.2]) (enP t.1) (enP t.2) (by rw[List.length_append];simp only[List.length_cons,List.length_nil];lia);refine⟨x',y',cD (ρ1:=[tt,.lst (E.map enP),enP t.1,enP t.2]) (ρ2:=[tt,.lst ((E++[t.1,t.2]).map enP),enP t.1,enP t.2]) rfl (aL (ρ':=[tt,.lst (E.map enP++[enP t.1]),enP t.1,enP t.2]) (rQ (i:=1) (ρ:=[tt,.lst (E.map enP),enP t.1,enP t.2]) rfl rfl (by rw[List.length_map];lia) rfl) ?_) ?_⟩
  ·rw[rQ (i:=1) (ρ:=[tt,.lst (E.map enP++[enP t.1]),enP t.1,enP t.2]) (d:=enP t.2) rfl rfl (by rw[List.length_append,List.length_map];simp only[List.length_cons,List.length_nil];lia) rfl];simp
  ·rw[ih];simp[ends]
theorem aGk(T:List Tie)(h:2*T.length<lim):cR 1 sG [.tup (T.map bI)]=.ok (.lst ((ends T).map enP)):=by
 obtain⟨x',y',e⟩:=JZ (tt:=.tup (T.map bI)) T [] .uD .uD (by simpa using h);refine(cU rfl).trans (call_v ?_);refine aL (ρ':=[.tup (T.map bI),.lst [],.uD,.uD]) (fZ rfl rfl) ?_;refine aL (zV (d:=.tup (T.map bI)) (xs:=T.map bI) rfl rfl e) ?_;rfl
noncomputable def aJz(E:List Pt):Nat:=(E.filter λe=>e.1==0).length
def uK(T:List Tie):Nat:=aJz (ends T)
theorem rim_step{n:Nat}{ρ:List D}(hρ:ρ.length=n)(hv:∀e:Pt,iV n (ρ++[enP e])=.ok (enP e))(acc:List D)(e:Pt):kW n lZ (bTB (b2 (bR .eq) (b2 getD (iV n) dI) dI)) (iV n) false ρ acc (enP e)=.ok (if (e.1==0) then acc++[enP e] else acc):=
 e_ hρ rfl (dD (aJ (aJ (x:=enP e) (hv e) rfl (z:=.int e.1) rfl) rfl rfl)) λ_=>⟨hv e,rfl⟩
theorem aCp(E:List Pt)(h:E.length<=lim):cR 1 lM [.lst (E.map enP)]=.ok (.int (aJz E)):=by
 refine(cU rfl).trans (call_v ?_);have hf:=cY (kW 1 lZ (bTB (b2 (bR .eq) (b2 getD d_ dI) dI)) d_ false [.lst (E.map enP)]) enP (λe:Pt=>e.1==0) enP (λacc e=>rim_step rfl (λ_=>rfl) acc e) E [];refine eX (d:=.int (aJz E)) (aK (xs:=[.lst ((E.filter λe=>e.1==0).map enP)]) (aC (fK (fD rfl rfl) (by rw[List.length_map];exact h) (by simpa using hf)) rfl) ?_) rfl;rw[l_,List.length_map];rfl
theorem aK0(Q:List Pc)(T:List Tie)(r:Int)(h:2*T.length<lim):cR 1 aC7 [bG Q T r]=.ok (.int (uK T)):=by
 refine(cU rfl).trans (call_v ?_);exact eX (d:=.int (uK T)) (aK (xs:=[.lst ((ends T).map enP)]) (aC (aK (xs:=[.tup (T.map bI)]) (aC (aJ (x:=bG Q T r) rfl rfl (n1 Q T r)) rfl) (aGk T h)) rfl) (aCp _ (by rw[oO];lia))) rfl
noncomputable def mv(g k:Int)(e:Pt):Pt:=if e.1=0 then (0,e.2+k) else (e.1+g,e.2)
theorem aGl{g k:Int}(e:Pt):(bK (sIf (bTB (b2 (bR .eq) (b2 getD cA dI) dI)) (j6 (eQ (aD dI (aD (b2 (aW .add) (b2 getD cA eO) eF) aR))) true) j_) (j6 (eQ (aD (b2 (aW .add) (b2 getD cA dI) d_) (aD (b2 getD cA eO) aR))) false)) [enP e,.int g,.int k]=.ok (.rt (enP (mv g k e))):=by
 have hc:bTB (b2 (bR .eq) (b2 getD cA dI) dI) [enP e,.int g,.int k]=.ok (e.1==0):=dD (aJ (aJ (x:=enP e) rfl rfl (z:=.int e.1) rfl) rfl rfl);have hl:(2:Nat)<=lim:=by rw[bO];lia
 unfold mv;by_cases h:e.1=0
 ·rw[show(e.1==0)=true by simpa using h] at hc;rw[if_pos h];unfold bK;rw[zU (r:=.ok (.rt (enP (0,e.2+k)))) hc (eX (dF (xs:=[.int 0,.int (e.2+k)]) (aC rfl (aC (aJ (aJ (x:=enP e) rfl rfl (z:=.int e.2) rfl) rfl (dW _ _)) rfl)) hl) rfl)];rfl
 ·rw[show(e.1==0)=false by simpa using h] at hc;rw[if_neg h];exact aL (ρ':=[enP e,.int g,.int k]) (o8 hc rfl) (eX (d:=enP (e.1+g,e.2)) (dF (xs:=[.int (e.1+g),.int e.2]) (aC (aJ (aJ (x:=enP e) rfl rfl (z:=.int e.1) rfl) rfl (dW _ _)) (aC (aJ (x:=enP e) rfl rfl (z:=.int e.2) rfl) rfl)) hl) rfl)
theorem R3(g k:Int)(e:Pt):cR 3 qM [enP e,.int g,.int k]=.ok (enP (mv g k e)):=(cU rfl).trans (call_v (aGl e))
noncomputable def shq(g:Int)(p:Pc):Pc:=(p.1+g,p.2)
def sht(g k:Int)(t:Tie):Tie:=(mv g k t.1,mv g k t.2)
def Bq(Q1 Q2:List Pc):List Pc:=Q1++Q2.map (shq (gr Q1))
def Bt(Q1:List Pc)(T1 T2:List Tie):List Tie:=fX (T1++T2.map (sht (gr Q1) (uK T1)))
theorem U5{P:List Pc}{U:List Tie}(r:Int)(hP:P.Pairwise LtN)(hU:∀t∈U,ltP t.1 t.2)(hl:U.length<=lim):cR 3 fU [.lst (P.map pcD),.lst (U.map bI),.int r]=.ok (bG P (fX U) r):=by
 have h:=yD (U:=U) r (pd:=.lst (P.map pcD)) (λz=>by cases z) (RK (.refl _) hP) hl;rw[show U.map norm=U from (List.map_congr_left λt ht=>tW (hU t ht)).trans (List.map_id U)] at h;exact h
section
variable {Q1 Q2:List Pc} {T1 T2:List Tie} {r1 r2:Int}
theorem aK1{Q:List Pc}(h:Q.Pairwise LtN):∀p∈Q,p.1<=gr Q:=by
 intro p hp;have hne:Q≠[]:=λz=>by rw[z] at hp;cases hp
 rw[PB hne];rw[<-List.dropLast_concat_getLast hne] at hp h;rcases List.mem_append.mp hp with hp|hp
 ·have:=(List.pairwise_append.mp h).2.2 p hp (Q.getLast hne) (by simp);exact Int.le_of_lt this
 ·have e:p=Q.getLast hne:=by simpa using hp
  rw[e];exact Int.le_refl _
theorem aGm{Q:List Pc}(h:∀pc∈Q,0<pc.1):0<=gr Q:=by
 by_cases hne:Q=[]
 ·subst hne;exact Int.le_refl 0
 ·rw[PB hne];exact Int.le_of_lt (h _ (List.getLast_mem hne))
theorem aAd{Q1 Q2:List Pc}{T1 T2:List Tie}(w1:Wf Q1 T1)(w2:Wf Q2 T2):(Bq Q1 Q2).Pairwise LtN:=by
 refine List.pairwise_append.mpr ⟨w1.qs,List.pairwise_map.mpr (w2.qs.imp λ{a b} h=>?_),λa ha b hb=>?_⟩
 ·have h:a.1<b.1:=h;show a.1+gr Q1<b.1+gr Q1;lia
 ·obtain⟨c,hc,rfl⟩:=List.mem_map.mp hb;have h1:=aK1 w1.qs a ha;have h2:=w2.qpos c hc;show a.1<c.1+gr Q1;lia
theorem aK2{g k:Int}{a b:Pt}(hg:0<=g)(ha:0<=a.1)(hb:0<=b.1)(h:ltP a b):ltP (mv g k a) (mv g k b):=by
 unfold mv;by_cases h1:a.1=0
 ·by_cases h2:b.1=0
  ·rw[if_pos h1,if_pos h2];dsimp only[ltP] at *;lia
  ·rw[if_pos h1,if_neg h2];dsimp only[ltP] at *;lia
 ·by_cases h2:b.1=0
  ·simp only[ltP] at h;lia
  ·rw[if_neg h1,if_neg h2];dsimp only[ltP] at *;lia
theorem aM6{g k:Int}{a:Pt}(hg:0<=g)(ha:0<=a.1):0<=(mv g k a).1:=by
 unfold mv;split
 ·exact Int.le_refl 0
 ·show 0<=a.1+g;lia
theorem aK3{Q1 Q2:List Pc}{T1 T2:List Tie}(w1:Wf Q1 T1)(w2:Wf Q2 T2):∀t∈T1++T2.map (sht (gr Q1) (uK T1)),ltP t.1 t.2:=by
 intro t ht;rcases List.mem_append.mp ht with h|h
 ·exact w1.lt t h
 ·obtain⟨u,hu,rfl⟩:=List.mem_map.mp h;exact aK2 (aGm w1.qpos) (w2.nn u hu).1 (w2.nn u hu).2 (w2.lt u hu)
theorem R4{xs:List D}(h:D.aY xs=true):K_ [.tup xs]=.ok (.lst xs):=by
 show(if D.aY xs then Res.ok (D.lst xs) else .bad)=_;rw[h,if_pos rfl]
theorem aCq{ρ:List D}{n:Nat}{g:Int}(i:Nat)(hρ:ρ.length=n)(hg:∀a b:D,iV i (ρ++[a,b])=.ok (.int g))(h0:∀(a:Int) (b:D),iV n (ρ++[.int a,b])=.ok (.int a))(h1:∀(a:D) (b:Str),iV (n+1) (ρ++[a,.str b])=.ok (.str b)) :
  iK (kW n (U7 2) jQ (eQ (aD (b2 (aW .add) (iV n) (iV i)) (aD (iV (n+1)) aR))) false ρ) [] (Q2.map pcD)=.ok ((Q2.map (shq g)).map pcD):=by
 rw[cY _ pcD (λ_=>true) (λp=>pcD (shq g p))]
 ·rw[List.map_map,List.filter_eq_self.mpr (λ_ _=>rfl)];rfl
 ·intro acc p;exact e_ (b:=true) (bs:=[.int p.1,.str p.2]) (y:=pcD (shq g p)) hρ rfl rfl λ_=>⟨dF (xs:=[.int (p.1+g),.str p.2]) (aC (aJ (h0 _ _) (hg _ _) (dW _ _)) (aC (h1 _ _) rfl)) (by rw[bO];show 2<=1000000;lia),rfl⟩
theorem J1(w1:Wf Q1 T1)(w2:Wf Q2 T2)(hq:Q1.length<=1000/\Q2.length<=1000)(ht:T1.length<=100000/\T2.length<=100000):cR 2 lN [bG Q1 T1 r1,bG Q2 T2 r2]=.ok (bG (Bq Q1 Q2) (Bt Q1 T1 T2) (r1+r2)):=by
 refine(cU rfl).trans (call_v ?_);have hlim:lim=1000000:=bO;have h2:(2:Nat)<=lim:=by lia
 have hp:=aCq (Q2:=Q2) (ρ:=[bG Q1 T1 r1,bG Q2 T2 r2,.int (gr Q1),.int (uK T1),.uD,.uD]) (n:=6) (g:=gr Q1) 2 rfl (λ_ _=>rfl) (λ_ _=>rfl) λ_ _=>rfl
 have hm:iK (kW 6 (U7 2) jQ (eQ (aD (aQ (cR 3 qM) (aD mQ (aD eF (aD cT aR)))) (aD (aQ (cR 3 qM) (aD oZ (aD eF (aD cT aR)))) aR))) true [bG Q1 T1 r1,bG Q2 T2 r2,.int (gr Q1),.int (uK T1),.lst ((Q2.map (shq (gr Q1))).map pcD),.uD]) [] (T2.map bI)=.ok ((T2.map (sht (gr Q1) (uK T1))).map bI):=by
  rw[cY _ bI (λ_=>true) (λt=>bI (sht (gr Q1) (uK T1) t))]
  ·rw[List.map_map,List.filter_eq_self.mpr (λ_ _=>rfl)];rfl
  ·intro acc t;exact e_ (b:=true) (bs:=[enP t.1,enP t.2]) (y:=bI (sht (gr Q1) (uK T1) t)) rfl rfl rfl λ_=>⟨dF (xs:=[enP (mv (gr Q1) (uK T1) t.1),enP (mv (gr Q1) (uK T1) t.2)]) (aC (aK (xs:=[enP t.1,.int (gr Q1),.int (uK T1)]) (aC rfl (aC rfl (aC rfl rfl))) (R3 _ _ _)) (aC (aK (xs:=[enP t.2,.int (gr Q1),.int (uK T1)]) (aC rfl (aC rfl (aC rfl rfl))) (R3 _ _ _)) rfl)) h2,rfl⟩
 refine aL (ρ':=[bG Q1 T1 r1,bG Q2 T2 r2,.int (gr Q1),.uD,.uD,.uD]) (bH (i:=2) (aK (xs:=[bG Q1 T1 r1]) (aC rfl rfl) (PJ Q1 T1 r1))) ?_;refine aL (ρ':=[bG Q1 T1 r1,bG Q2 T2 r2,.int (gr Q1),.int (uK T1),.uD,.uD]) (bH (i:=3) (aK (xs:=[bG Q1 T1 r1]) (aC rfl rfl) (aK0 Q1 T1 r1 (by lia)))) ?_;refine aL (ρ':=[bG Q1 T1 r1,bG Q2 T2 r2,.int (gr Q1),.int (uK T1),.lst ((Q2.map (shq (gr Q1))).map pcD),.uD]) (bH (i:=4) (fK (fD (d:=.tup (Q2.map pcD)) (aJ (x:=bG Q2 T2 r2) rfl rfl (n0 Q2 T2 r2)) rfl) (by rw[List.length_map];lia) hp)) ?_;refine aL (ρ':=[bG Q1 T1 r1,bG Q2 T2 r2,.int (gr Q1),.int (uK T1),.lst ((Q2.map (shq (gr Q1))).map pcD),.lst ((T2.map (sht (gr Q1) (uK T1))).map bI)]) (bH (i:=5) (fK (fD (d:=.tup (T2.map bI)) (aJ (x:=bG Q2 T2 r2) rfl rfl (n1 Q2 T2 r2)) rfl) (by rw[List.length_map];lia) hm)) ?_;refine eX (d:=bG (Bq Q1 Q2) (Bt Q1 T1 T2) (r1+r2)) (aK (xs:=[.lst ((Bq Q1 Q2).map pcD),.lst ((T1++T2.map (sht (gr Q1) (uK T1))).map bI),.int (r1+r2)]) (aC (aJ (aK (xs:=[.tup (Q1.map pcD)]) (aC (aJ (x:=bG Q1 T1 r1) rfl rfl (n0 Q1 T1 r1)) rfl) (R4 (wM Q1))) (y:=.lst ((Q2.map (shq (gr Q1))).map pcD)) rfl ?_)
  (aC (aJ (aK (xs:=[.tup (T1.map bI)]) (aC (aJ (x:=bG Q1 T1 r1) rfl rfl (n1 Q1 T1 r1)) rfl) (R4 (iY T1))) (y:=.lst ((T2.map (sht (gr Q1) (uK T1))).map bI)) rfl ?_) (aC (aJ (aJ (x:=bG Q1 T1 r1) rfl rfl (n2 Q1 T1 r1)) (aJ (x:=bG Q2 T2 r2) rfl rfl (n2 Q2 T2 r2)) (dW _ _)) rfl))) ?_) rfl
 ·unfold Bq;rw[List.map_append];exact zX _ _ (by simp only[List.length_map];lia) (wM _) (wM _)
 ·rw[List.map_append];exact zX _ _ (by simp only[List.length_map];lia) (iY _) (iY _)
 ·exact U5 _ (aAd w1 w2) (aK3 w1 w2) (by rw[List.length_append,List.length_map];lia)
end
theorem tY:∀PS:List Tie,Hk.ends PS=ends PS
 |[]=>rfl
 |t::PS=>by rw[b7,<-tY PS];rfl
section
variable {st:List Int} {W:List Tie}
theorem PK(w:Wd st W){g:Pt->Pt}{E:List Pt}(hE:E.Perm (ends W))(hg:∀t∈W,g t.1=t.2/\g t.2=t.1/\t.1≠t.2) :
  ((W.map (rk2 st)).map norm).Perm ((E.filter λe=>decide (ltP e (g e))).map λe=>(rk st e,rk st (g e))):=by
 refine List.Perm.symm (((hE.filter _).map _).trans (((yC hg).map _).trans ?_));rw[List.map_map,List.map_map];refine List.Perm.of_eq (List.map_congr_left λt ht=>?_);obtain⟨h1,h2,h3⟩:=hg t ht;obtain⟨m1,m2⟩:=bY ht;show(rk st (norm t).1,rk st (g (norm t).1))=norm (rk2 st t);rcases O4 h3 with z|z
 ·rw[tW z,h1];exact(tW (t:=rk2 st t) (aCi w m1 m2 z)).symm
 ·have:(norm t).1=t.2:=by
   unfold norm;rw[if_pos z]
  rw[this,h2];exact(ZZ (t:=(rk st t.2,rk st t.1)) (aCi w m2 m1 z)).symm
theorem aCr(w:Wd st W){E:List Pt}(hm:∀e,e∈E↔e∈ends W)(hr:E.Pairwise ltP)(i:Nat)(h:i<E.length)(h0:E[i].1=0):rk st E[i]=(0,(i:Int)):=by
 have nE:E.Nodup:=hr.imp λ{a b} hab z=>by subst z;exact irr _ _ hab hab
 have hi:=UW hr h;unfold rk;rw[if_pos h0];refine Prod.ext rfl ?_;show(cnt st E[i].2:Int)=i;have:(((E.filter λe=>decide (ltP e E[i])).map λe:Pt=>e.2)).Perm (st.filter λy=>decide (y<E[i].2)):=by
  have only:∀e∈E.filter (λe=>decide (ltP e E[i])),e.1=0/\e.2<E[i].2/\e∈E:=λe he=>by
   obtain⟨h1,h2⟩:=List.mem_filter.mp he;have h2:ltP e E[i]:=by simpa using h2
   have:=w.nn e ((hm e).mp h1);unfold ltP at h2;rw[h0] at h2;exact⟨by lia,by lia,h1⟩
  refine(List.perm_ext_iff_of_nodup (j9 (nE.filter _) λa ha b hb z=>Prod.ext ((only a ha).1.trans (only b hb).1.symm) z) (w.sn.filter _)).mpr λj=>?_
  rw[List.mem_map,List.mem_filter];constructor
  ·rintro⟨e,he,rfl⟩;obtain⟨a,b,c⟩:=only e he;exact⟨w.at ((hm e).mp c) a,by simpa using b⟩
  ·rintro⟨hj,hlt⟩;refine⟨(0,j),List.mem_filter.mpr ⟨(hm _).mpr ((w.rim j).mpr hj),?_⟩,rfl⟩;have:j<E[i].2:=by simpa using hlt
   have:ltP (0,j) E[i]:=.inr ⟨h0.symm,this⟩;simpa using this
 have:=this.length_eq;rw[List.length_map,hi] at this;unfold cnt;lia
end
theorem aAe{Q:List Pc}(hQ:Q.Pairwise LtN){n:Nat}{V:List Tie}{r:Int}{ps:List (Int×Int)}(w:Wd (upto n) V)(hp:Hk.Pr (·∈ends V) (ps.map bA))(hV:V.length<=1000)(hl:ps.length<=400)(hn:n<=2000) :
  cR 2 gF [bG Q V r,.lst (ps.map prD)]=.ok (bG Q (Tk (bZ ps (upto n)) (hkL (ps.map bA) V)) (r+(rgL (ps.map bA) V:Nat))):=by
 obtain⟨w',_⟩:=iZ (r:=r) hQ w hp (by lia) (by lia);obtain⟨s1,s2,s3,s4⟩:=uW (ps.map bA) w.nd hp;have np:(ends (ps.map bA)).Nodup:=by rw[<-tY];exact hp.1
 have hs:∀e∈ends (ps.map bA),e∈ends V:=λe he=>hp.2 e (by rw[tY];exact he)
 have M:=wQ np;have MV:=wQ w.nd;have pt:Hk.Pt (·∈ends V) (ends (ps.map bA)) (mt (ps.map bA)):=⟨hs,M.in_,M.inv,M.ne⟩
 have sn:Hk.Sn (·∈ends V) (ends (ps.map bA)) (mt (ps.map bA)) (ps.map bA):=⟨hp,λq hq=>⟨(bY hq).1,(jF np (.inl hq)).symm⟩⟩
 have lPS:(ends (ps.map bA)).length<=900:=by rw[oO,List.length_map];lia
 obtain⟨k1,k2⟩:=Hk.walked MV pt (n:=999) (by lia) (es:=gK (ends V)) (xs:=ends (ps.map bA)) (λz=>(gR _).mem_iff) (λ_=>Iff.rfl) sn λe he=>by rw[tY];exact he
 have memE:∀e,e∈(gK (ends V)).filter (λe=>decide (e∉ends (ps.map bA)))↔e∈ends (hkL (ps.map bA) V):=λe=>by
  rw[List.mem_filter,(gR _).mem_iff,s2,tY];simp
 have rE:((gK (ends V)).filter λe=>decide (e∉ends (ps.map bA))).Pairwise ltP:=(U0 w.nd).sublist List.filter_sublist;have nE:((gK (ends V)).filter λe=>decide (e∉ends (ps.map bA))).Nodup:=((gR _).nodup_iff.mpr w.nd).filter _;have hg0:∀e∈ends (hkL (ps.map bA) V),g0 V (ps.map bA) e=mt (hkL (ps.map bA) V) e:=λe he=>by
  obtain⟨h1,h2⟩:=(s2 e).mp he;rw[tY] at h2;rw[s3 e he,<-(k2 e h1 h2).1];exact(R0 999 (mt V e) λ_=>Iff.rfl).1
 have hgE:∀e∈(gK (ends V)).filter (λe=>decide (e∉ends (ps.map bA))),g0 V (ps.map bA) e∈(gK (ends V)).filter λe=>decide (e∉ends (ps.map bA)):=λe he=>by
  have he':=(memE e).mp he;rw[memE,hg0 e he'];exact(wQ s1).in_ e he'
 rw[U4 (st:=bZ ps (upto n)) w.nd np hs hl (by lia) (aCr w' memE rE) hgE];have e1:(riS (mt V) (mt (ps.map bA)) (ends (ps.map bA)) (ends (ps.map bA)) (paS (mt V) (mt (ps.map bA)) (ends (ps.map bA)) (gK (ends V)) []) 0).2=rgL (ps.map bA) V:=by
  rw[aAa _ 0 (aA9 (gK (ends V)) λ_=>Iff.rfl),k1,s4]
 rw[e1];have pE:((gK (ends V)).filter λe=>decide (e∉ends (ps.map bA))).Perm (ends (hkL (ps.map bA) V)):=(List.perm_ext_iff_of_nodup nE s1).mpr memE;have told:=PK w' (g:=g0 V (ps.map bA)) pE λt ht=>by
  obtain⟨m1,m2⟩:=bY ht;rw[hg0 _ m1,hg0 _ m2];exact⟨jF s1 (.inl ht),jF s1 (.inr ht),nP s1 (.inl ht)⟩
 rw[sW told.symm];rfl
theorem dH{n:Nat}{j:Int}:j∈upto n↔0<=j/\j<n:=by
 unfold upto;rw[List.mem_map];constructor
 ·rintro⟨k,hk,rfl⟩;have:=List.mem_range.mp hk;lia
 ·rintro⟨h1,h2⟩;exact⟨j.toNat,List.mem_range.mpr (by lia),by lia⟩
theorem aGn{kvs:List (D×D)}{Q:List Pc}{V:List Tie}(N:Net kvs Q V):∀e∈hks kvs Q,0<e.1:=λe he=>by
 obtain⟨pc,m,h⟩:=List.mem_flatMap.mp he;obtain⟨j,_,rfl⟩:=List.mem_map.mp h;exact N.qpos pc m
theorem aE5{kvs:List (D×D)}{Q:List Pc}{V:List Tie}(N:Net kvs Q V):∃n:Nat,Wd (upto n) V/\uK V=n/\n<=2000:=by
 obtain⟨S,s1,s2,s3⟩:=N.rims;have pos:=aGn N;have hu:S.Perm (upto S.length):=s2;have hr:uK V=S.length:=by
  unfold uK aJz;rw[(s3.filter _).length_eq,List.filter_append];have e1:(hks kvs Q).filter (λe=>e.1==0)=[]:=List.filter_eq_nil_iff.mpr λe he=>by
   have:=pos e he;simp;lia
  have e2:(S.map rim).filter (λe=>e.1==0)=S.map rim:=List.filter_eq_self.mpr λe he=>by
   obtain⟨s,_,rfl⟩:=List.mem_map.mp he;rfl
  rw[e1,e2,List.nil_append,List.length_map]
 refine⟨S.length,⟨N.nd,λe he=>?_,λj=>?_,nQ _⟩,hr,?_⟩
 ·rcases List.mem_append.mp (s3.mem_iff.mp he) with h|h
  ·exact Int.le_of_lt (pos e h)
  ·obtain⟨s,_,rfl⟩:=List.mem_map.mp h;exact Int.le_refl 0
 ·rw[s3.mem_iff,List.mem_append,<-hu.mem_iff];constructor
  ·rintro(h|h)
   ·exact absurd (pos _ h) (by simp)
   ·obtain⟨s,hs,e⟩:=List.mem_map.mp h;have e:s=j:=congrArg Prod.snd e;exact e▸hs
  ·exact λh=>.inr (List.mem_map.mpr ⟨j,h,rfl⟩)
 ·have:=N.small;have h:=s3.length_eq;rw[oO,List.length_append,List.length_map] at h;lia
theorem R5{n:Nat}{j:Int}(h0:0<=j)(hj:j<=n):(cnt (upto n) j:Int)=j:=by
 have hr:(upto n).Pairwise (·<·):=nQ n;have:((upto n).filter λy=>decide (y<j)).Perm (upto j.toNat):=(List.perm_ext_iff_of_nodup ((hr.imp λh=>Int.ne_of_lt h).filter _) ((nQ _).imp λh=>Int.ne_of_lt h)).mpr λx=>by
  rw[List.mem_filter,dH,dH];simp;lia
 unfold cnt;rw[this.length_eq];unfold upto;simp;lia
theorem aK4{n:Nat}{V:List Tie}(w:Wd (upto n) V)(hlt:∀t∈V,ltP t.1 t.2)(hs:V.Pairwise LeT):Tk (upto n) V=V:=by
 have e:∀p∈ends V,rk (upto n) p=p:=λp hp=>by
  unfold rk;split
  ·rename_i z;have:=dH.mp (w.at hp z);exact Prod.ext z.symm (R5 this.1 (Int.le_of_lt this.2))
  ·rfl
 unfold Tk;rw[show(V.map (rk2 (upto n))).map norm=V from by
  rw[List.map_map];refine(List.map_congr_left λt ht=>?_).trans (List.map_id V);obtain⟨m1,m2⟩:=bY ht;show norm (rk (upto n) t.1,rk (upto n) t.2)=t;rw[e _ m1,e _ m2];exact tW (hlt t ht)]
 exact aCg hs
theorem aAf:∀{a b:List Int},a.Pairwise (·<·)->b.Pairwise (·<·)->(∀x,x∈a↔x∈b)->a=b
 |[],[],_,_,_=>rfl
 |[],y::b,_,_,h=>absurd ((h y).mpr (by simp)) (by simp)
 |x::a,[],_,_,h=>absurd ((h x).mp (by simp)) (by simp)
 |x::a,y::b,ha,hb,h=>by
  rw[List.pairwise_cons] at ha hb;have exy:x=y:=by
   have h1:=(h x).mp (by simp);have h2:=(h y).mpr (by simp);rcases List.mem_cons.mp h1 with z|z
   ·exact z
   ·rcases List.mem_cons.mp h2 with y'|y'
    ·exact y'.symm
    ·have:=ha.1 y y';have:=hb.1 x z;lia
  subst exy;rw[aAf ha.2 hb.2 λz=>?_];constructor
  ·intro hz;have:=ha.1 z hz;rcases List.mem_cons.mp ((h z).mp (by simp[hz])) with q|q
   ·lia
   ·exact q
  ·intro hz;have:=hb.1 z hz;rcases List.mem_cons.mp ((h z).mpr (by simp[hz])) with q|q
   ·lia
   ·exact q
theorem aGo{s1 s2:List Int}{W1 W2:List Tie}(w1:Wd s1 W1)(w2:Wd s2 W2)(he:∀e,e∈ends W1↔e∈ends W2)(hm:∀e∈ends W1,mt W1 e=mt W2 e):s1=s2/\((W1.map (rk2 s1)).map norm).Perm ((W2.map (rk2 s2)).map norm):=by
 have es:s1=s2:=aAf w1.ss w2.ss λj=>by rw[<-w1.rim,<-w2.rim,he]
 subst es;refine⟨rfl,?_⟩;have t1:=PK w1 (g:=mt W2) (E:=ends W1) (.refl _) λt ht=>by
  obtain⟨m1,m2⟩:=bY ht;rw[<-hm _ m1,<-hm _ m2];exact⟨jF w1.nd (.inl ht),jF w1.nd (.inr ht),nP w1.nd (.inl ht)⟩
 have t2:=PK w2 (g:=mt W2) (E:=ends W1) ((List.perm_ext_iff_of_nodup w1.nd w2.nd).mpr he) λt ht=>⟨jF w2.nd (.inl ht),jF w2.nd (.inr ht),nP w2.nd (.inl ht)⟩
 exact t1.trans t2.symm
structure Sh(p q:List (Int×Int)):Prop where
 sh:∃m:List (Int×Int),p.Perm m/\Hk.Trn (m.map bA) (q.map bA)
theorem aGp{S:Pt->Prop}{V:List Tie}{p q:List (Int×Int)}(h:Sh p q)(hn:(ends V).Nodup)(hp:Hk.Pr (·∈ends V) (p.map bA)):Hk.Pr (·∈ends V) (q.map bA)/\(∀e,e∈Hk.ends (q.map bA)↔e∈Hk.ends (p.map bA))/\(Hk.run (q.map bA) (mt V) 0).2=(Hk.run (p.map bA) (mt V) 0).2/\∀e,Hk.off (·∈ends V) (p.map bA) e->(Hk.run (q.map bA) (mt V) 0).1 e=(Hk.run (p.map bA) (mt V) 0).1 e:=by
 obtain⟨m,h1,h2⟩:=h;have M:=wQ hn;have pm:(p.map bA).Perm (m.map bA):=h1.map _;have hpm:=hp.perm pm;obtain⟨a1,a2⟩:=Hk.RD pm (r:=0) M hp;obtain⟨b1,b2⟩:=Hk.Y9 h2 (r:=0) M hpm;have mem:∀e,e∈Hk.ends (q.map bA)↔e∈Hk.ends (p.map bA):=λe=>b2.mem_iff.trans (Hk.eZ pm).mem_iff.symm
 refine⟨⟨b2.nodup_iff.mpr hpm.1,λe he=>hp.2 e ((mem e).mp he)⟩,mem,by rw[b1,a1],λe he=>by rw[b1,a2 e he]⟩
theorem wR{V:List Tie}{s1 s2:List Int}{p q:List (Int×Int)}(h:Sh p q)(hn:(ends V).Nodup)(hp:Hk.Pr (·∈ends V) (p.map bA))(w1:Wd s1 (hkL (p.map bA) V))(w2:Wd s2 (hkL (q.map bA) V)):s2=s1/\(((hkL (q.map bA) V).map (rk2 s2)).map norm).Perm (((hkL (p.map bA) V).map (rk2 s1)).map norm)/\rgL (q.map bA) V=rgL (p.map bA) V:=by
 obtain⟨g1,g2,g3,g4⟩:=aGp (S:=λ_=>True) h hn hp;obtain⟨a1,a2,a3,a4⟩:=uW _ hn hp;obtain⟨b1,b2,b3,b4⟩:=uW _ hn g1;have he:∀e,e∈ends (hkL (q.map bA) V)↔e∈ends (hkL (p.map bA) V):=λe=>by rw[a2,b2,g2]
 obtain⟨c1,c2⟩:=aGo w2 w1 he λe h=>by
  have h':=(he e).mp h;rw[b3 e h,a3 e h',g4 e ((Hk.cF ..).mpr ((a2 e).mp h'))]
 exact⟨c1,c2,by rw[a4,b4,g3]⟩
theorem aAg(a b:List Int)(x:Int):cnt (a++b) x=cnt a x+cnt b x:=by
 unfold cnt;rw[List.filter_append,List.length_append]
theorem cnt_none{a:List Int}{x:Int}(h:∀y∈a,x<=y):cnt a x=0:=by
 unfold cnt;rw[List.filter_eq_nil_iff.mpr λy hy=>by have:=h y hy;simp;lia];rfl
theorem aGq{a:List Int}{x:Int}(h:∀y∈a,y<x):cnt a x=a.length:=by
 unfold cnt;rw[List.filter_eq_self.mpr λy hy=>decide_eq_true (h y hy)]
theorem aK5{a:List Int}{x k:Int}:cnt (a.map (·+k)) (x+k)=cnt a x:=by
 induction a with
 |nil=>rfl
 |cons y a ih=>
  rw[List.map_cons,cnt_cons,cnt_cons,ih];by_cases h:y<x
  ·rw[if_pos h,if_pos (show y+k<x+k by lia)]
  ·rw[if_neg h,if_neg (show ¬(y+k<x+k) by lia)]
theorem aCs(n m:Nat):upto (n+m)=upto n++(upto m).map (·+(n:Int)):=by
 unfold upto;rw[List.range_add,List.map_append,List.map_map,List.map_map]
 congr 1
 refine List.map_congr_left λk _=>?_
 show((n+k:Nat):Int)=(k:Int)+n;lia
theorem yI:∀(q:List (Int×Int)){A B:List Int},(∀p∈q,p.1∉B/\p.2∉B)->bZ q (A++B)=bZ q A++B
 |[],_,_,_=>rfl
 |p::q,A,B,h=>by
  show bZ q (stand (A++B) p.1 p.2)=bZ q (stand A p.1 p.2)++B;have e:stand (A++B) p.1 p.2=stand A p.1 p.2++B:=by
   unfold stand;rw[List.filter_append]
   congr 1
   obtain⟨h1,h2⟩:=h p (by simp);refine List.filter_eq_self.mpr λx hx=>?_
   have a:x≠p.1:=λz=>h1 (z▸hx)
   have b:x≠p.2:=λz=>h2 (z▸hx)
   simp[a,b]
  rw[e];exact yI q λp hp=>h p (by simp[hp])
theorem DP(g k:Int):∀T:List Tie,ends (T.map (sht g k))=(ends T).map (mv g k)
 |[]=>rfl
 |t::T=>by
  rw[List.map_cons,b7,b7,DP g k T];rfl
theorem aK6{A B:List Int}{e:Pt}(h:e.1=0->∀y∈B,e.2<=y):rk (A++B) e=rk A e:=by
 unfold rk;split
 ·rename_i z;rw[aAg,cnt_none (h z),Nat.add_zero]
 ·rfl
section
variable {Q Q2:List Pc} {V V2:List Tie} {n n2:Nat}
structure Two(Q Q2:List Pc)(V V2:List Tie)(n n2:Nat):Prop where
 w1:Wd (upto n) V
 w2:Wd (upto n2) V2
 r1:uK V=n
 f1:Wf Q V
 f2:Wf Q2 V2
 le:∀e∈ends V,e.1<=gr Q
theorem Two.g0(t:Two Q Q2 V V2 n n2):0<=gr Q:=aGm t.f1.qpos
theorem aK7{g k:Int}(hg:0<=g){a b:Pt}(ha:0<=a.1)(hb:0<=b.1)(h:mv g k a=mv g k b):a=b:=by
 have h1:=congrArg Prod.fst h;have h2:=congrArg Prod.snd h;unfold mv at h1 h2;by_cases x:a.1=0<;>by_cases y:b.1=0
 ·rw[if_pos x,if_pos y] at h2;have h2:a.2+k=b.2+k:=h2;exact Prod.ext (by lia) (by lia)
 ·rw[if_pos x,if_neg y] at h1;have h1:(0:Int)=b.1+g:=h1;lia
 ·rw[if_neg x,if_pos y] at h1;have h1:a.1+g=0:=h1;lia
 ·rw[if_neg x,if_neg y] at h1 h2;have h1:a.1+g=b.1+g:=h1;have h2:a.2=b.2:=h2;exact Prod.ext (by lia) h2
theorem aE6(t:Two Q Q2 V V2 n n2):(ends (V++V2.map (sht (gr Q) n))).Nodup:=by
 have hg:=t.g0;rw[ends_app,DP,List.nodup_append];refine⟨t.w1.nd,j9 t.w2.nd λa ha b hb h=>aK7 hg (t.w2.nn a ha) (t.w2.nn b hb) h,λa ha b hb z=>?_⟩;obtain⟨f,hf,rfl⟩:=List.mem_map.mp hb;have f0:=t.w2.nn f hf;have a1:=t.le a ha;subst z;unfold mv at ha a1;by_cases y:f.1=0
 ·rw[if_pos y] at ha;have:=dH.mp ((t.w1.rim _).mp ha);have:=dH.mp (t.w2.at hf y);lia
 ·rw[if_neg y] at a1;have a1:f.1+gr Q<=gr Q:=a1;lia
theorem DQ(t:Two Q Q2 V V2 n n2):(Bt Q V V2).Perm (V++V2.map (sht (gr Q) n)):=by
 unfold Bt;rw[t.r1];exact b_ _
theorem aK8(t:Two Q Q2 V V2 n n2):Wd (upto (n+n2)) (Bt Q V V2):=by
 have hg:=t.g0;have pe:=eZ (DQ t);have mem:∀e,e∈ends (Bt Q V V2)↔e∈ends V\/∃f∈ends V2,mv (gr Q) n f=e:=λe=>by rw[pe.mem_iff,ends_app,DP,List.mem_append,List.mem_map]
 refine⟨pe.nodup_iff.mpr (aE6 t),λe he=>?_,λj=>?_,nQ _⟩
 ·rcases(mem e).mp he with h|⟨f,hf,rfl⟩
  ·exact t.w1.nn e h
  ·exact aM6 hg (t.w2.nn f hf)
 ·rw[mem,t.w1.rim,dH,dH];constructor
  ·rintro(h|⟨f,hf,e⟩)
   ·lia
   ·have f0:=t.w2.nn f hf;unfold mv at e;by_cases y:f.1=0
    ·rw[if_pos y] at e;have e:f.2+n=j:=congrArg Prod.snd e;have:=dH.mp (t.w2.at hf y);lia
    ·rw[if_neg y] at e;have e:f.1+gr Q=0:=congrArg Prod.fst e;lia
  ·rintro⟨h1,h2⟩;rcases Int.lt_or_le j n with z|z
   ·exact .inl ⟨h1,z⟩
   ·refine .inr ⟨(0,j-n),(t.w2.rim _).mpr (dH.mpr (by lia)),?_⟩;unfold mv;rw[if_pos rfl];exact Prod.ext rfl (by show j-n+n=j;lia)
theorem aK9(t:Two Q Q2 V V2 n n2):(Bq Q Q2).Pairwise LtN/\(∀s∈Bt Q V V2,ltP s.1 s.2)/\(Bt Q V V2).Pairwise LeT:=by
 refine⟨aAd t.f1 t.f2,λs hs=>?_,fV _⟩;exact aK3 t.f1 t.f2 s ((b_ _).mem_iff.mp hs)
theorem aAh(t:Two Q Q2 V V2 n n2){q:List (Int×Int)}(hp:Hk.Pr (·∈ends V) (q.map bA))(w:Wd (bZ q (upto n)) (hkL (q.map bA) V)) :
  Tk (bZ q (upto (n+n2))) (hkL (q.map bA) (Bt Q V V2))=fX (((hkL (q.map bA) V).map (rk2 (bZ q (upto n)))).map norm++V2.map (sht (gr Q) (bZ q (upto n)).length))/\rgL (q.map bA) (Bt Q V V2)=rgL (q.map bA) V:=by
 have hg:=t.g0;obtain⟨p1,p2⟩:=Z9 (q.map bA) (DQ t) (aE6 t) hp;refine⟨?_,p2⟩;have hq:∀p∈q,p.1∉(upto n2).map (·+(n:Int))/\p.2∉(upto n2).map (·+(n:Int)):=λp hpq=>by
  have hm:=Hk.bY (List.mem_map.mpr ⟨p,hpq,rfl⟩:bA p∈q.map bA);have h1:=dH.mp ((t.w1.rim p.1).mp (hp.2 _ hm.1));have h2:=dH.mp ((t.w1.rim p.2).mp (hp.2 _ hm.2));constructor
  ·intro z;obtain⟨k,hk,e⟩:=List.mem_map.mp z;have:=dH.mp hk;have e:k+(n:Int)=p.1:=e;lia
  ·intro z;obtain⟨k,hk,e⟩:=List.mem_map.mp z;have:=dH.mp hk;have e:k+(n:Int)=p.2:=e;lia
 have hst:bZ q (upto (n+n2))=bZ q (upto n)++(upto n2).map (·+(n:Int)):=by rw[aCs,yI q hq]
 have sub:∀{q:List (Int×Int)}{s:List Int}{j:Int},j∈bZ q s->j∈s:=by
  intro q;induction q with
  |nil=>intro s j h;exact h
  |cons p q ih=>intro s j h;exact(JV.mp (ih (s:=stand s p.1 p.2) h)).1
 have bel:∀j∈bZ q (upto n),0<=j/\j<n:=λj hj=>dH.mp (sub hj)
 unfold Tk;rw[hst];generalize bZ q (upto n)=st at w bel;refine sW (((p1.map _).map _).trans (List.Perm.of_eq ?_));rw[List.map_append,List.map_append]
 congr 1
 ·rw[List.map_map,List.map_map];refine List.map_congr_left λs hs=>?_
  obtain⟨m1,m2⟩:=bY hs;have e:∀e∈ends (hkL (q.map bA) V),rk (st++(upto n2).map (·+(n:Int))) e=rk st e:=λe he=>aK6 λz y hy=>by
   obtain⟨k,hk,rfl⟩:=List.mem_map.mp hy;have:=dH.mp hk;have:=bel _ (w.at he z);show e.2<=k+(n:Int);lia
  show norm (rk _ s.1,rk _ s.2)=norm (rk _ s.1,rk _ s.2);rw[e _ m1,e _ m2]
 ·rw[List.map_map,List.map_map];refine List.map_congr_left λs hs=>?_
  obtain⟨m1,m2⟩:=bY hs;have e:∀f∈ends V2,rk (st++(upto n2).map (·+(n:Int))) (mv (gr Q) n f)=mv (gr Q) st.length f:=λf hf=>by
   have f0:=t.w2.nn f hf;by_cases y:f.1=0
   ·have:=dH.mp (t.w2.at hf y);unfold mv;rw[if_pos y,if_pos y];unfold rk;rw[if_pos rfl];refine Prod.ext rfl ?_;show((cnt (st++(upto n2).map (·+(n:Int))) (f.2+n):Nat):Int)=f.2+st.length;rw[aAg,aK5,aGq λy hy=>by have:=bel y hy;lia];have:=R5 this.1 (Int.le_of_lt this.2);lia
   ·unfold mv;rw[if_neg y,if_neg y];unfold rk;rw[if_neg (show ¬(f.1+gr Q=0) by lia)]
  show norm (rk _ (mv (gr Q) n s.1),rk _ (mv (gr Q) n s.2))=sht (gr Q) st.length s;rw[e _ m1,e _ m2];exact tW (t:=sht (gr Q) st.length s) (aK2 hg (t.w2.nn _ m1) (t.w2.nn _ m2) (t.f2.lt s hs))
theorem aCt{t:Tie}(h:t.1≠t.2):ltP (norm t).1 (norm t).2:=by
 unfold norm;rcases O4 h with z|z
 ·rw[if_neg (irr _ _ z),if_pos z];exact z
 ·rw[if_pos z,if_neg (irr _ _ z)];exact z
theorem aM7{Q:List Pc}{st:List Int}{W:List Tie}(hq:Q.Pairwise LtN)(hp:∀pc∈Q,0<pc.1)(w:Wd st W):Wf Q (Tk st W)/\uK (Tk st W)=st.length:=by
 refine⟨⟨hq,hp,λt ht=>?_,λt ht=>?_,fV _⟩,?_⟩
 ·obtain⟨s,hs,rfl⟩:=List.mem_map.mp ((b_ _).mem_iff.mp ht);obtain⟨u,hu,rfl⟩:=List.mem_map.mp hs;obtain⟨m1,m2⟩:=bY hu;exact aCt λz=>nP w.nd (.inl hu) (yG w m1 m2 z)
 ·have hm:=bY ht;have key:∀e∈ends (Tk st W),0<=e.1:=λe he=>by
   obtain⟨f,hf,rfl⟩:=List.mem_map.mp ((O5 st W).mem_iff.mp he);rw[yF];exact w.nn f hf
  exact⟨key _ hm.1,key _ hm.2⟩
 ·unfold uK aJz;rw[((O5 st W).filter _).length_eq,List.filter_map,List.length_map];have:(((ends W).filter ((λe:Pt=>e.1==0) ∘ rk st)).map λe:Pt=>e.2).Perm st:=by
   have only:∀e∈(ends W).filter ((λe:Pt=>e.1==0) ∘ rk st),e.1=0/\e∈ends W:=λe he=>by
    obtain⟨h1,h2⟩:=List.mem_filter.mp he;have h2:((rk st e).1==0)=true:=h2;rw[yF] at h2;exact⟨by simpa using h2,h1⟩
   refine(List.perm_ext_iff_of_nodup (j9 (w.nd.filter _) λa ha b hb z=>Prod.ext ((only a ha).1.trans (only b hb).1.symm) z) w.sn).mpr λj=>?_
   rw[List.mem_map];constructor
   ·rintro⟨e,he,rfl⟩;exact w.at (only e he).2 (only e he).1
   ·intro hj;refine⟨(0,j),List.mem_filter.mpr ⟨(w.rim j).mpr hj,?_⟩,rfl⟩;show((rk st (0,j)).1==0)=true;rw[yF];rfl
  have:=this.length_eq;rw[List.length_map] at this;exact this
end
theorem aCu{p:Pt×Pt}{a b:List (Pt×Pt)}(h:Hk.Trn a b):Hk.Trn (a++[p]) (b++[p]):=by
 induction h with
 |nil=>exact .keep .nil
 |keep _ ih=>exact .keep ih
 |turn _ ih=>exact .turn ih
theorem aCv{x y:Pt}{a b:List (Pt×Pt)}(h:Hk.Trn a b):Hk.Trn (a++[(x,y)]) (b++[(y,x)]):=by
 induction h with
 |nil=>exact .turn .nil
 |keep _ ih=>exact .keep ih
 |turn _ ih=>exact .turn ih
theorem aE7{f:FE}{t:D->List D->Res (List D)}{ρ ρ':List D}{d:D}(h:f ρ=.ok d)(hp:d.pure=true)(h2:t d ρ=.ok ρ'):aIx f t ρ=.ok (.nx ρ'):=by
 unfold aIx;rw[h];show(if d.pure then (do let ρ' <- t d ρ;Res.ok (Fl.nx ρ')) else .bad)=_;rw[if_pos hp,h2];rfl
def tb:FS:=(bK (aIx (b2 getD cA cT) (tgN [4,5])) (bK (sIf (bTB (b2 (bR .eq) (b2 (aW .mod) (b2 (aW .add) (b2 (aW .fdiv) d_ (b2 (aW .add) cT eO)) cT) rB) eO)) (aLh 4 5 (aD iH (aD mO aR))) j_) (xV 2 (eQ (aD mO (aD iH aR))))))
theorem wU{ps:List (Int×Int)}{seed:Int}(hl:ps.length<=10000):∀(n k:Nat)(F:List (Int×Int))(x3 x4 x5:D),k+n=ps.length->F.length=k->Hk.Trn ((ps.take k).map bA) (F.map bA)->∃(F':List (Int×Int))(y3 y4 y5:D),F'.length=ps.length/\Hk.Trn (ps.map bA) (F'.map bA)/\
  nY (tg1 3) tb ((List.range' k n).map λ(j:Nat)=>D.int (0+(j:Int))) [.lst (ps.map prD),.int seed,.lst (F.map prD),x3,x4,x5]=.ok (.nx [.lst (ps.map prD),.int seed,.lst (F'.map prD),y3,y4,y5])
 |0,k,F,x3,x4,x5,h1,h2,h3=>⟨F,x3,x4,x5,by lia,by rw[List.take_of_length_le (by lia)] at h3;exact h3,rfl⟩
 |n+1,k,F,x3,x4,x5,h1,h2,h3=>by
  rw[List.range'_succ,List.map_cons];generalize hkk:(0+(k:Int))=kk;have hkl:k<ps.length:=by lia
  have hkk':kk=(k:Int):=by lia
  have g1:=dW kk 1;have g2:=gC seed (kk+1) (by lia) (by lia);have g4:=dW (seed / (kk+1)) kk;have g5:=iI (seed / (kk+1)+kk) 2 (by lia);generalize hj:(seed / (kk+1)+kk) % 2=j at g5;have hg:getD (.lst (ps.map prD)) (.int kk)=.ok (prD ps[k]):=by
   obtain⟨h,e⟩:=o9 (ps.map prD) kk (by lia) (by rw[List.length_map];lia);rw[e,List.getElem_map]
   congr 3
   lia
  have tk:(ps.take (k+1)).map bA=(ps.take k).map bA++[bA ps[k]]:=by rw[List.take_succ_eq_append_getElem hkl,List.map_append];rfl
  have ht:bTB (b2 (bR .eq) (b2 (aW .mod) (b2 (aW .add) (b2 (aW .fdiv) d_ (b2 (aW .add) cT eO)) cT) rB) eO) [.lst (ps.map prD),.int seed,.lst (F.map prD),.int kk,.int ps[k].1,.int ps[k].2]=.ok (j==1):=dD (aJ (x:=.int j) (aJ (aJ (aJ rfl (aJ rfl rfl g1) g2) rfl g4) rfl g5) rfl rfl);have lF:(F.map prD).length<lim:=by rw[List.length_map,bO];lia
  by_cases z:j=1
  ·obtain⟨F',y3,y4,y5,i1,i2,i3⟩:=wU (seed:=seed) hl n (k+1) (F++[(ps[k].2,ps[k].1)]) (.int kk) (.int ps[k].2) (.int ps[k].1) (by lia) (by simp[h2]) (by rw[tk,List.map_append];exact aCv h3);refine⟨F',y3,y4,y5,i1,i2,?_⟩;rw[show(j==1)=true by simpa using z] at ht;refine cD (ρ1:=[.lst (ps.map prD),.int seed,.lst (F.map prD),.int kk,x4,x5]) rfl (aL (ρ':=[.lst (ps.map prD),.int seed,.lst (F.map prD),.int kk,.int ps[k].1,.int ps[k].2]) (aE7 (d:=prD ps[k]) (aJ rfl rfl hg) rfl rfl) (aL (ρ':=[.lst (ps.map prD),.int seed,.lst (F.map prD),.int kk,.int ps[k].2,.int ps[k].1]) (zU ht rfl) (rQ (i:=2) (xs:=F.map prD) (d:=prD (ps[k].2,ps[k].1)) (dF (xs:=[.int ps[k].2,.int ps[k].1]) (aC rfl (aC rfl rfl)) RN) rfl lF rfl))) ?_;rw[<-i3,List.map_append];rfl
  ·obtain⟨F',y3,y4,y5,i1,i2,i3⟩:=wU (seed:=seed) hl n (k+1) (F++[ps[k]]) (.int kk) (.int ps[k].1) (.int ps[k].2) (by lia) (by simp[h2]) (by rw[tk,List.map_append];exact aCu h3);refine⟨F',y3,y4,y5,i1,i2,?_⟩;rw[show(j==1)=false by simpa using z] at ht;refine cD (ρ1:=[.lst (ps.map prD),.int seed,.lst (F.map prD),.int kk,x4,x5]) rfl (aL (ρ':=[.lst (ps.map prD),.int seed,.lst (F.map prD),.int kk,.int ps[k].1,.int ps[k].2]) (aE7 (d:=prD ps[k]) (aJ rfl rfl hg) rfl rfl) (aL (ρ':=[.lst (ps.map prD),.int seed,.lst (F.map prD),.int kk,.int ps[k].1,.int ps[k].2]) (o8 ht rfl) (rQ (i:=2) (xs:=F.map prD) (d:=prD ps[k]) (dF (xs:=[.int ps[k].1,.int ps[k].2]) (aC rfl (aC rfl rfl)) RN) rfl lF rfl))) ?_;rw[<-i3,List.map_append];rfl
theorem aAi{ps:List (Int×Int)}(seed:Int)(hl:ps.length<=10000):∃qs:List (Int×Int),qs.length=ps.length/\Hk.Trn (ps.map bA) (qs.map bA)/\cR 2 eN [.lst (ps.map prD),.int seed]=.ok (.lst (qs.map prD)):=by
 obtain⟨F',y3,y4,y5,i1,i2,i3⟩:=wU (ps:=ps) (seed:=seed) hl ps.length 0 [] .uD .uD .uD (by lia) rfl .nil;refine⟨F',i1,i2,(cU rfl).trans (call_v ?_)⟩;refine aL (ρ':=[.lst (ps.map prD),.int seed,.lst [],.uD,.uD,.uD]) (fZ rfl rfl) ?_;refine aL (ρ':=[.lst (ps.map prD),.int seed,.lst (F'.map prD),y3,y4,y5]) (m_ (rP (n:=ps.length) (aC (aK (xs:=[.lst (ps.map prD)]) (aC rfl rfl) (by rw[l_,List.length_map])) rfl) (by lia) (by lia)) ?_) rfl;rw[show((ps.length:Int)).toNat=ps.length by lia,List.range_eq_range'];exact i3
noncomputable def aNs:D->Int×Int
 |.tup [.int a,.int b]=>(a,b)
 |_=>(0,0)
theorem R6{ps:List (Int×Int)}(s1 s2:Int)(hl:ps.length<=10000):∃qs ms:List (Int×Int),Sh ps qs/\qs.length=ps.length/\cR 2 bW [.lst (ps.map prD),.int s1]=.ok (.lst (ms.map prD))/\cR 2 eN [.lst (ms.map prD),.int s2]=.ok (.lst (qs.map prD)):=by
 obtain⟨ys,py,sh⟩:=OD (xs:=ps.map prD) s1 (λx hx=>by
  obtain⟨a,_,rfl⟩:=List.mem_map.mp hx;rfl) (by rw[List.length_map];exact hl)
 obtain⟨ms,pm,rfl⟩:=CJ prD aNs (λ_=>rfl) py;obtain⟨qs,q1,q2,q3⟩:=aAi (ps:=ms) s2 (by rw[pm.length_eq];exact hl);exact⟨qs,ms,⟨ms,pm.symm,q2⟩,by rw[q1,pm.length_eq],sh,q3⟩
theorem aKa(a b:Int):fO .lt [.int a,.int b]=.ok (.int (if b<a then b else a)):=by
 show mR .lt [.int a,.int b]=_;have h:∀x y:Int,iU .lt (.int x) (.int y)=some (decide (x<y)):=λx y=>rfl
 have hall:([D.int a,D.int b].all λx=>x.fJ aN&&[D.int a,D.int b].all λy=>(iU .lt x y).isSome)=true:=by
  simp only[List.all_cons,List.all_nil,h,Option.isSome_some,Bool.and_true];rfl
 rw[mR,if_pos hall];simp only[List.foldl_cons,List.foldl_nil,h,Option.getD_some];by_cases hr:b<a
 ·simp[hr]
 ·simp[hr]
theorem J2{α:Type}{g:List D->D->Res (List D)}{d y:α->D}:∀(xs:List α)(acc:List D),(∀a∈xs,∀acc,g acc (d a)=.ok (acc++[y a]))->iK g acc (xs.map d)=.ok (acc++xs.map y)
 |[],acc,_=>by simp[iK]
 |x::xs,acc,h=>by
  rw[List.map_cons,iK,h x (by simp)];show iK g (acc++[y x]) (xs.map d)=_;rw[J2 xs _ λa ha=>h a (by simp[ha]),List.map_cons,List.append_assoc];rfl
noncomputable def pairUp(row:List Int)(m:Nat):List (Int×Int):=(List.range m).map λk=>(row.getD (2*k) 0,row.getD (2*k+1) 0)
theorem J3(row:List Int):∀m:Nat,2*m<=row.length->Hk.ends ((pairUp row m).map bA)=(row.take (2*m)).map λj=>((0,j):Pt)
 |0,_=>rfl
 |m+1,h=>by
  have ih:=J3 row m (by lia);unfold pairUp at ih ⊢;rw[List.range_succ,List.map_append,List.map_append,Hk.ends_app,ih,show 2*(m+1)=2*m+1+1 by lia,List.take_succ_eq_append_getElem (by lia),List.take_succ_eq_append_getElem (by lia),List.map_append,List.map_append,List.append_assoc]
  congr 1
  show[((0,row.getD (2*m) 0):Pt),(0,row.getD (2*m+1) 0)]=[((0,row[2*m]):Pt),(0,row[2*m+1])];rw[List.getD_eq_getElem?_getD,List.getD_eq_getElem?_getD,List.getElem?_eq_getElem (by lia),List.getElem?_eq_getElem (by lia)];rfl
theorem aCw(m:List (Pt×Pt)):D.aY ((m.map kvD).map (·.2))=true:=by
 rw[List.map_map,show((λx:D×D=>x.2) ∘ kvD)=enP ∘ (λx:Pt×Pt=>x.2) from rfl,<-List.map_map];exact wI _
theorem aKb{f:FE}{ρ:List D}{m:List (Pt×Pt)}(h:f ρ=.ok (.dct (m.map kvD))):aH0 f ρ=.ok (.fdc (m.map kvD)):=by
 unfold aH0;rw[h];show(if D.aY ((m.map kvD).map (·.2)) then Res.ok (D.fdc (m.map kvD)) else .bad)=_;rw[aCw];rfl
theorem aAj{Q:List Pc}{V:List Tie}{r:Int}{i:Nat}{ρ:List D}(hn:(ends V).Nodup)(hV:V.length<=1000)(h1:ρ.length=12)(h2:iV i ρ=.ok (bG Q V r))(h3:∀e:Pt,iV 12 (ρ++[enP e])=.ok (enP e)):aQ gH (aD (dU 12 (aDr (aH0 (aQ (cR 1 dN) (aD (iV i) aR)))) lZ (bTB (b2 (bR .eq) (b2 getD gP dI) dI)) gP false) aR) ρ=.ok (.int (uK V)):=by
 have mts:=RT (Q:=Q) (r:=r) hn (by rw[bO];lia);have hc:aD (iV i) aR ρ=.ok [bG Q V r]:=aC h2 rfl;have it:=aAc (m:=both V) (aKb (aK (xs:=[bG Q V r]) hc mts));rw[gG] at it;have hf:=cY (kW 12 lZ (bTB (b2 (bR .eq) (b2 getD gP dI) dI)) gP false ρ) enP (λe:Pt=>e.1==0) enP (λacc e=>rim_step h1 h3 acc e) (ends V) [];refine aK (xs:=[.lst ([]++((ends V).filter λe=>e.1==0).map enP)]) (aC (fK it (by rw[List.length_map,oO,bO];lia) hf) rfl) ?_;rw[l_,List.nil_append,List.length_map];rfl
theorem aE8{a:FE}{lo hi:List D->Res (Option Int)}{ρ:List D}{x d:D}{l h:Option Int}(h1:a ρ=.ok x)(h2:lo ρ=.ok l)(h3:hi ρ=.ok h)(h4:aAo x l h=.ok d):aBd a lo hi ρ=.ok d:=by
 unfold aBd;rw[h1];show(do let l <- lo ρ;let h <- hi ρ;aAo x l h)=_;rw[h2];show(do let h <- hi ρ;aAo x l h)=_;rw[h3];exact h4
theorem nt{f:FE}{ρ:List D}(h:f ρ=.ok (.bl true)):U6 (bTr f) ρ=.ok false:=JL (b:=true) (ZQ h rfl)
theorem aGr{kvs:List (D×D)}{Q:List Pc}{V:List Tie}(N:Net kvs Q V):∀e∈ends V,e.1<=gr Q:=λe he=>by
 obtain⟨S,_,_,s3⟩:=N.rims;rcases List.mem_append.mp (s3.mem_iff.mp he) with h|h
 ·obtain⟨pc,m,h⟩:=List.mem_flatMap.mp h;obtain⟨j,_,rfl⟩:=List.mem_map.mp h;exact aK1 N.qs pc m
 ·obtain⟨s,_,rfl⟩:=List.mem_map.mp h;exact aGm N.qpos
theorem aE9{kvs:List (D×D)}{Q:List Pc}{V:List Tie}{n:Nat}(N:Net kvs Q V)(w:Wd (upto n) V):Wf Q V:=⟨N.qs,N.qpos,N.lt,λt ht=>⟨w.nn _ (bY ht).1,w.nn _ (bY ht).2⟩,N.srt⟩
theorem aMt(ns:List Int)(lo hi:Option Int):aAo (.scr (ns.map D.int)) lo hi=.ok (.lst ((cutD ns lo hi).map D.int)):=by
 show(if D.aY (ns.map D.int) then Res.ok (D.lst (cutD (ns.map D.int) lo hi)) else .bad)=_;rw[xX,if_pos rfl,aFh]
section
variable {Q Q2:List Pc} {V V2:List Tie} {n n2:Nat} {r r2:Int} {ps:List (Int×Int)}
theorem J4(hQ:Q.Pairwise LtN)(hlt:∀t∈V,ltP t.1 t.2)(hsr:V.Pairwise LeT)(w:Wd (upto n) V)(hV:V.length<=1000)(hn:n<=2000)(hp:Hk.Pr (·∈ends V) (ps.map bA))(hl:ps.length<=400){qs:List (Int×Int)}(hs:Sh ps qs)(lq:qs.length=ps.length) :
  cR 3 c7 [bG Q V r,.lst (qs.map prD),.int n]=.ok (bG Q (Tk (bZ ps (upto n)) (hkL (ps.map bA) V)) (r+(rgL (ps.map bA) V:Nat))):=by
 obtain⟨g1,_⟩:=aGp (S:=λ_=>True) hs w.nd hp;obtain⟨w0,_⟩:=iZ (r:=r) hQ w hp (by lia) (by lia);obtain⟨w1,h1⟩:=iZ (r:=r) hQ w g1 (by lia) (by lia);rw[aK4 w hlt hsr] at h1;obtain⟨c1,c2,c3⟩:=wR hs w.nd hp w0 w1;rw[h1,c3];unfold Tk;rw[sW c2]
theorem J5(t:Two Q Q2 V V2 n n2)(hV:V.length<=1000)(hV2:V2.length<=1000)(hn:n<=2000)(hn2:n2<=2000)(hq:Q.length<=1000/\Q2.length<=1000)(hp:Hk.Pr (·∈ends V) (ps.map bA))(hl:ps.length<=400){qs:List (Int×Int)}(hs:Sh ps qs)(lq:qs.length=ps.length) :
  ∃(T:List Tie)(R:Int),T.length<=100000/\cR 2 lN [bG Q V r,bG Q2 V2 r2]=.ok (bG (Bq Q Q2) (Bt Q V V2) (r+r2))/\cR 3 c7 [bG (Bq Q Q2) (Bt Q V V2) (r+r2),.lst (qs.map prD),.int ((n:Int)+n2)]=.ok (bG (Bq Q Q2) T R)/\cR 2 lN [bG Q (Tk (bZ ps (upto n)) (hkL (ps.map bA) V)) (r+(rgL (ps.map bA) V:Nat)),bG Q2 V2 r2]=.ok (bG (Bq Q Q2) T R):=by
 obtain⟨g1,_⟩:=aGp (S:=λ_=>True) hs t.w1.nd hp;obtain⟨w0,_⟩:=iZ (r:=r) t.f1.qs t.w1 hp (by lia) (by lia);obtain⟨w1,_⟩:=iZ (r:=r) t.f1.qs t.w1 g1 (by lia) (by lia);obtain⟨c1,c2,c3⟩:=wR hs t.w1.nd hp w0 w1;obtain⟨b1,b2,b3⟩:=aK9 t;have pe:=DQ t;have wB:=aK8 t;have memB:∀e∈ends V,e∈ends (Bt Q V V2):=λe he=>(eZ pe).mem_iff.mpr (by rw[ends_app];exact List.mem_append_left _ he)
 have gB:Hk.Pr (·∈ends (Bt Q V V2)) (qs.map bA):=⟨g1.1,λe he=>memB e (g1.2 e he)⟩
 have lB:(Bt Q V V2).length=V.length+V2.length:=by rw[pe.length_eq,List.length_append,List.length_map]
 obtain⟨wq,hq2⟩:=iZ (r:=r+r2) b1 wB gB (by lia) (by lia);rw[aK4 wB b2 b3] at hq2;obtain⟨k1,k2⟩:=aAh t g1 w1;obtain⟨f0,rm⟩:=aM7 t.f1.qs t.f1.qpos w0;have lh:(hkL (ps.map bA) V).length<=V.length+ps.length:=by
  have:=O3 (ps.map bA) V;rwa [List.length_map] at this
 have bs:=J1 (r1:=r+(rgL (ps.map bA) V:Nat)) (r2:=r2) f0 t.f2 hq ⟨by rw[RW];lia,by lia⟩;refine⟨Bt Q (Tk (bZ ps (upto n)) (hkL (ps.map bA) V)) V2,r+(rgL (ps.map bA) V:Nat)+r2,?_,J1 t.f1 t.f2 hq ⟨by lia,by lia⟩,?_,bs⟩
 ·unfold Bt;rw[(b_ _).length_eq,List.length_append,List.length_map,RW];lia
 ·rw[Int.natCast_add] at hq2;rw[hq2,k1,k2,c3];have eT:fX (((hkL (qs.map bA) V).map (rk2 (bZ qs (upto n)))).map norm++V2.map (sht (gr Q) (bZ qs (upto n)).length))=Bt Q (Tk (bZ ps (upto n)) (hkL (ps.map bA) V)) V2:=by
   unfold Bt;rw[rm,c1];refine sW (List.Perm.append_right _ ?_);rw[c1] at c2;exact c2.trans (b_ _).symm
  rw[eT,show r+r2+((rgL (ps.map bA) V:Nat):Int)=r+(rgL (ps.map bA) V:Nat)+r2 by lia]
end
theorem main:∀ns:List Int,ns.length<=63->T_ [.scr (ns.map D.int)]=.ok (.bl true):=by
 intro ns hlen;have c0:=cell_eq ns 0;have c1:=cell_eq ns 1;have c2:=cell_eq ns 2;obtain⟨kvs,k1,k2,k3,k4⟩:=aCd (cellAt ns 0) (cellAt ns 1);have k4':cR 2 g_ [.int (cellAt ns 0),.int (cellAt ns 1)]=.ok (.dct kvs):=(cU rfl).trans k4;have hs:=aMt ns (some 2) (some 66);have hcl:=X8 ns (some 2) (some 66);have hs2:=aMt ns (some 2) (some 8);have hcl2:=X8 ns (some 2) (some 8);generalize cutD ns (some 2) (some 66)=cs at hs hcl;generalize cutD ns (some 2) (some 8)=cs2 at hs2 hcl2;obtain⟨Q,V,r,N,hr0,gw⟩:=RM k1 k2 k3 cs (by lia) (cellAt ns 0);obtain⟨Q2,V2,r2,N2,hr2,gw2⟩:=RM k1 k2 k3 cs2 (by lia) (cellAt ns 1);generalize cellAt ns 0=a0 at c0 k4' gw;generalize cellAt ns 1=seed at c1 k4' gw2;generalize cellAt ns 2=a2 at c2;obtain⟨n,w,rn,hn⟩:=aE5 N;obtain⟨n2,w2,rn2,hn2⟩:=aE5 N2;have hV:=N.small;have hV2:=N2.small;have hlQ:=N.ql;have hlQ2:=N2.ql
 -- the pairs
 obtain⟨ys,py,sh⟩:=OD (xs:=(upto n).map D.int) (seed / 5) (λx hx=>by
  obtain⟨a,_,rfl⟩:=List.mem_map.mp hx;rfl) (by unfold upto;simp;lia)
 obtain⟨row,prow,rfl⟩:=CJ D.int unI (λ_=>rfl) py;have lrow:row.length=n:=by rw[prow.length_eq];unfold upto;simp
 have m9:=iI seed 9 (by lia);have f2:=gC (n:Int) 2 (by lia) (by lia);have mn:=aKa (seed % 9) ((n:Int) / 2);have hm0:0<=seed % 9:=Int.emod_nonneg _ (by lia);have hm1:seed % 9<9:=Int.emod_lt_of_pos _ (by lia);have hmm:∃m:Nat,(if (n:Int) / 2<seed % 9 then (n:Int) / 2 else seed % 9)=(m:Int)/\2*m<=n/\m<=8:=by
  split
  ·exact⟨((n:Int) / 2).toNat,by lia,by lia,by lia⟩
  ·exact⟨(seed % 9).toNat,by lia,by lia,by lia⟩
 obtain⟨m,em,hm2,hm8⟩:=hmm;rw[em] at mn;have lps:(pairUp row m).length=m:=by unfold pairUp;simp
 have hp:Hk.Pr (·∈ends V) ((pairUp row m).map bA):=by
  have pe:=J3 row m (by lia);constructor
  ·rw[pe];exact j9 ((prow.nodup_iff.mpr ((nQ n).imp λh=>Int.ne_of_lt h)).sublist (List.take_sublist ..)) λa _ b _ z=>congrArg Prod.snd z
  ·intro e he;rw[pe] at he;obtain⟨j,hj,rfl⟩:=List.mem_map.mp he;exact(w.rim j).mpr (prow.mem_iff.mp (List.mem_of_mem_take hj))
 have hpf:iK (kW 12 lZ jQ (eQ (aD (b2 getD iH (b2 (aW .mul) rB gP)) (aD (b2 getD iH (b2 (aW .add) (b2 (aW .mul) rB gP) eO)) aR))) false [.scr (ns.map D.int),.int seed,.dct kvs,bG Q V r,.int n,.lst (row.map D.int),.uD,.uD,.uD,.uD,.uD,.uD]) [] ((List.range ((m:Int)).toNat).map λ(k:Nat)=>D.int (0+(k:Int)))=.ok ((pairUp row m).map prD):=by
  rw[show((m:Int)).toNat=m by lia];refine(J2 (y:=λk=>prD (row.getD (2*k) 0,row.getD (2*k+1) 0)) (List.range m) [] λk hk acc=>?_).trans ?_
  ·have hk:=List.mem_range.mp hk;have get:∀i:Int,∀j:Nat,i=(j:Int)->j<row.length->getD (.lst (row.map D.int)) (.int i)=.ok (.int (row.getD j 0)):=λi j e hj=>by
    obtain⟨h,g⟩:=o9 (row.map D.int) i (by lia) (by rw[List.length_map];lia);rw[g,List.getElem_map,List.getD_eq_getElem?_getD,List.getElem?_eq_getElem hj];subst e;rfl
   have g1:=zW 2 (0+(k:Int)) rfl;refine(e_ (n:=12) (t:=lZ) (c:=jQ) (k:=false) (acc:=acc) (x:=.int (0+(k:Int))) (ρ:=[.scr (ns.map D.int),.int seed,.dct kvs,bG Q V r,.int n,.lst (row.map D.int),.uD,.uD,.uD,.uD,.uD,.uD]) (b:=true) (bs:=[.int (0+(k:Int))]) (y:=prD (row.getD (2*k) 0,row.getD (2*k+1) 0)) rfl rfl rfl λ_=>⟨dF (xs:=[.int (row.getD (2*k) 0),.int (row.getD (2*k+1) 0)]) (aC (aJ (x:=.lst (row.map D.int)) rfl (aJ rfl rfl g1) (get _ _ (by lia) (by lia))) (aC (aJ (x:=.lst (row.map D.int)) rfl (aJ (aJ rfl rfl g1) rfl (dW _ 1)) (get _ _ (by lia) (by lia))) rfl)) RN,rfl⟩).trans ?_;rw[if_pos rfl]
  ·unfold pairUp;rw[List.map_map,List.nil_append];rfl
 have lp:(pairUp row m).length<=400:=by lia
 generalize pairUp row m=ps at hp hpf lps lp;obtain⟨q1,ms1,s1,l1,sh1,tn1⟩:=R6 (ps:=ps) a0 seed (by lia);obtain⟨q2,ms2,s2,l2,sh2,tn2⟩:=R6 (ps:=ps) a2 (seed / 7) (by lia);have due:=aAe (r:=r) N.qs w hp hV lp hn;have o1:=J4 (r:=r) N.qs N.lt N.srt w hV hn hp lp s1 l1;have o2:=J4 (r:=r) N.qs N.lt N.srt w hV hn hp lp s2 l2;have tw:Two Q Q2 V V2 n n2:=⟨w,w2,rn,aE9 N w,aE9 N2 w2,aGr N⟩
 obtain⟨T,R,lT,b1,b2,b3⟩:=J5 (r:=r) (r2:=r2) tw hV hV2 hn hn2 ⟨by lia,by lia⟩ hp lp s1 l1;have lD:(Tk (bZ ps (upto n)) (hkL (ps.map bA) V)).length<=100000:=by
  rw[RW];have:=O3 (ps.map bA) V;rw[List.length_map] at this;lia
 have sm:=RL (Q:=Q) (T:=Tk (bZ ps (upto n)) (hkL (ps.map bA) V)) (r:=r+(rgL (ps.map bA) V:Nat)) (by lia) lD;have smT:=RL (Q:=Bq Q Q2) (T:=T) (r:=R) (by unfold Bq;rw[List.length_append,List.length_map];lia) lT;have pD:=sX Q (Tk (bZ ps (upto n)) (hkL (ps.map bA) V)) (r+(rgL (ps.map bA) V:Nat));have nD:bG Q (Tk (bZ ps (upto n)) (hkL (ps.map bA) V)) (r+(rgL (ps.map bA) V:Nat))≠.uD:=λz=>by cases z
 generalize bG Q (Tk (bZ ps (upto n)) (hkL (ps.map bA) V)) (r+(rgL (ps.map bA) V:Nat))=dd at due o1 o2 b3 sm pD nD;generalize bG (Bq Q Q2) T R=ee at b2 b3 smT;generalize hbb:bG (Bq Q Q2) (Bt Q V V2) (r+r2)=bb at b1 b2;have vd:∀{x0 x1 x2 x3 x4 x5 x6 x8 x9 x10 x11:D},iV 7 [x0,x1,x2,x3,x4,x5,x6,dd,x8,x9,x10,x11]=.ok dd:=λ{_ _ _ _ _ _ _ _ _ _ _}=>by cases dd<;>first|rfl|exact absurd rfl nD
 have ve:∀{x0 x1 x2 x3 x4 x5 x6 x7 x8 x9 x10:D},ee≠.uD->iV 11 [x0,x1,x2,x3,x4,x5,x6,x7,x8,x9,x10,ee]=.ok ee:=λ{_ _ _ _ _ _ _ _ _ _ _} h=>by cases ee<;>first|rfl|exact absurd rfl h
 have ne:ee≠.uD:=λz=>by subst z;cases smT
 refine call_v ?_;refine aL (ρ':=[.scr (ns.map D.int),.int seed,.uD,.uD,.uD,.uD,.uD,.uD,.uD,.uD,.uD,.uD]) (bH (i:=1) (aK (xs:=[.scr (ns.map D.int),.int 1]) (aC rfl (aC rfl rfl)) c1)) ?_;refine aL (ρ':=[.scr (ns.map D.int),.int seed,.dct kvs,.uD,.uD,.uD,.uD,.uD,.uD,.uD,.uD,.uD]) (bH (i:=2) (aK (xs:=[.int a0,.int seed]) (aC (aK (xs:=[.scr (ns.map D.int),.int 0]) (aC rfl (aC rfl rfl)) c0) (aC rfl rfl)) k4')) ?_;refine aL (ρ':=[.scr (ns.map D.int),.int seed,.dct kvs,bG Q V r,.uD,.uD,.uD,.uD,.uD,.uD,.uD,.uD]) (bH (i:=3) (aK (xs:=[.dct kvs,.lst (cs.map D.int),.int a0]) (aC rfl (aC (aE8 (x:=.scr (ns.map D.int)) (l:=some 2) (h:=some 66) rfl rfl rfl hs) (aC (aK (xs:=[.scr (ns.map D.int),.int 0]) (aC rfl (aC rfl rfl)) c0) rfl))) gw)) ?_;have mny:=aAj (Q:=Q) (r:=r) (i:=3) (ρ:=[.scr (ns.map D.int),.int seed,.dct kvs,bG Q V r,.uD,.uD,.uD,.uD,.uD,.uD,.uD,.uD]) w.nd hV rfl rfl λ_=>rfl
 rw[rn] at mny;refine aL (ρ':=[.scr (ns.map D.int),.int seed,.dct kvs,bG Q V r,.int n,.uD,.uD,.uD,.uD,.uD,.uD,.uD]) (bH (i:=4) mny) ?_;refine aL (ρ':=[.scr (ns.map D.int),.int seed,.dct kvs,bG Q V r,.int n,.lst (row.map D.int),.uD,.uD,.uD,.uD,.uD,.uD]) (bH (i:=5) (aK (xs:=[.lst ((upto n).map D.int),.int (seed / 5)]) (aC (aK (xs:=[.int n]) (aC rfl rfl) (RZ n (by lia))) (aC (aJ (x:=.int seed) rfl rfl (gC seed 5 (by lia) (by lia))) rfl)) sh)) ?_;refine aL (ρ':=[.scr (ns.map D.int),.int seed,.dct kvs,bG Q V r,.int n,.lst (row.map D.int),.lst (ps.map prD),.uD,.uD,.uD,.uD,.uD]) (bH (i:=6) (fK (rP (n:=m) (aC (aK (xs:=[.int (seed % 9),.int ((n:Int) / 2)]) (aC (aJ (x:=.int seed) rfl rfl m9) (aC (aJ (x:=.int n) rfl rfl f2) rfl)) mn) rfl) (by lia) (by lia)) (by rw[List.length_map,List.length_range,bO];lia) hpf)) ?_;refine aL (ρ':=[.scr (ns.map D.int),.int seed,.dct kvs,bG Q V r,.int n,.lst (row.map D.int),.lst (ps.map prD),dd,.uD,.uD,.uD,.uD]) (bH (i:=7) (aK (xs:=[bG Q V r,.lst (ps.map prD)]) (aC rfl (aC rfl rfl)) due)) ?_;refine aL (ρ':=[.scr (ns.map D.int),.int seed,.dct kvs,bG Q V r,.int n,.lst (row.map D.int),.lst (ps.map prD),dd,.lst (q1.map prD),.uD,.uD,.uD]) (bH (i:=8) (aK (xs:=[.lst (ms1.map prD),.int seed]) (aC (aK (xs:=[.lst (ps.map prD),.int a0]) (aC rfl (aC (aK (xs:=[.scr (ns.map D.int),.int 0]) (aC rfl (aC rfl rfl)) c0) rfl)) sh1) (aC rfl rfl)) tn1)) ?_;refine aL (ρ':=[.scr (ns.map D.int),.int seed,.dct kvs,bG Q V r,.int n,.lst (row.map D.int),.lst (ps.map prD),dd,.lst (q1.map prD),.lst (q2.map prD),.uD,.uD]) (bH (i:=9) (aK (xs:=[.lst (ms2.map prD),.int (seed / 7)]) (aC (aK (xs:=[.lst (ps.map prD),.int a2]) (aC rfl (aC (aK (xs:=[.scr (ns.map D.int),.int 2]) (aC rfl (aC rfl rfl)) c2) rfl)) sh2) (aC (aJ (x:=.int seed) rfl rfl (gC seed 7 (by lia) (by lia))) rfl)) tn2)) ?_;refine aL (ρ':=[.scr (ns.map D.int),.int seed,.dct kvs,bG Q V r,.int n,.lst (row.map D.int),.lst (ps.map prD),dd,.lst (q1.map prD),.lst (q2.map prD),.uD,.uD]) (o8 (nt (aK (xs:=[dd,dd]) (aC (aK (xs:=[bG Q V r,.lst (q1.map prD),.int n]) (aC rfl (aC rfl (aC rfl rfl))) o1) (aC vd rfl)) sm)) rfl) ?_;refine aL (ρ':=[.scr (ns.map D.int),.int seed,.dct kvs,bG Q V r,.int n,.lst (row.map D.int),.lst (ps.map prD),dd,.lst (q1.map prD),.lst (q2.map prD),.uD,.uD]) (o8 (nt (aK (xs:=[dd,dd]) (aC (aK (xs:=[bG Q V r,.lst (q2.map prD),.int n]) (aC rfl (aC rfl (aC rfl rfl))) o2) (aC vd rfl)) sm)) rfl) ?_
 refine aL (ρ':=[.scr (ns.map D.int),.int seed,.dct kvs,bG Q V r,.int n,.lst (row.map D.int),.lst (ps.map prD),dd,.lst (q1.map prD),.lst (q2.map prD),bG Q2 V2 r2,.uD]) (bH (i:=10) (aK (xs:=[.dct kvs,.lst (cs2.map D.int),.int seed]) (aC rfl (aC (aE8 (x:=.scr (ns.map D.int)) (l:=some 2) (h:=some 8) rfl rfl rfl hs2) (aC rfl rfl))) gw2)) ?_;have mny2:=aAj (Q:=Q2) (r:=r2) (i:=10) (ρ:=[.scr (ns.map D.int),.int seed,.dct kvs,bG Q V r,.int n,.lst (row.map D.int),.lst (ps.map prD),dd,.lst (q1.map prD),.lst (q2.map prD),bG Q2 V2 r2,.uD]) w2.nd hV2 rfl rfl λ_=>rfl
 rw[rn2] at mny2;refine aL (ρ':=[.scr (ns.map D.int),.int seed,.dct kvs,bG Q V r,.int n,.lst (row.map D.int),.lst (ps.map prD),dd,.lst (q1.map prD),.lst (q2.map prD),bG Q2 V2 r2,ee]) (bH (i:=11) (aK (xs:=[bb,.lst (q1.map prD),.int ((n:Int)+n2)]) (aC (aK (xs:=[bG Q V r,bG Q2 V2 r2]) (aC rfl (aC rfl rfl)) b1) (aC rfl (aC (aJ (x:=.int n) rfl mny2 (dW _ _)) rfl))) b2)) ?_;exact eX (d:=.bl true) (aK (xs:=[ee,ee]) (aC (ve ne) (aC (aK (xs:=[dd,bG Q2 V2 r2]) (aC vd (aC rfl rfl)) b3) rfl)) smT) rfl
end Lk08
section
open PySem PySem.W PyProof.Rows
namespace PySem.W.Fast
def tw7336281470200751681:=()
def tw3999497988959009975:=()
def tw12238002999567984572:=()
def tw16898754476315329439:=()
def tw12261689127658834290:=()
def tw17025273808148473423:=()
def tw2770532183796063655:=()
def tw18151371624590023787:=()
def tw1218485966755858390:=()
def tw17938190227094320923:=()
def tw8445927004947926792:=()
def tw12919803539200139046:=()
def tw11316543639565712727:=()
def tw16020809631827614106:=()
def tw14090150414687089553:=()
def tw464891438481278366:=()
def tw261965699911095689:=()
def tw8454024860175759868:=()
def tw16830855892983259407:=()
def tw10749349648650676521:=()
def tw9297876130183827927:=()
def tw6986631674586251089:=()
def tw457113565038674968:=()
def tw11459365392424617301:=()
def tw3077671739835651168:=()
def tw516005749252012284:=()
def tw16264542457394518708:=()
def tw5891161112385605707:=()
def tw5187455933300175387:=()
def tw13543441020435357881:=()
def tw17738190114618849235:=()
def tw12714681716672321418:=()
def tw374016370865687922:=()
def tw12836003397309674242:=()
def tw17454455776153695781:=()
def tw14372800171263643421:=()
def tw12742539969228392401:=()
def tw1346896877459074691:=()
def tw216369355902044947:=()
def tw14600773684062775177:=()
def tw18046032065822396945:=()
def tw12045007905671975018:=()
def tw10861129031846516596:=()
def tw7319872781718474013:=()
def tw2575507398055796758:=()
def tw7820346315382954995:=()
def tw13419258302507885559:=()
def tw2316881782264682537:=()
def tw8257158713577340814:=()
def tw2152144985561440478:=()
def tw7578012744462680226:=()
def tw2970328868868990590:=()
def tw5532472782071588218:=()
def tw968935972842988528:=()
def tw10737002143029907441:=()
def tw16097568828447526319:=()
def tw18384742870365851133:=()
def tw5394344250158759934:=()
def tw1687904746310976665:=()
def tw5736658376675233358:=()
def tw6135982268923252300:=()
def tw7492736364444634245:=()
def tw12022860094172997384:=()
def tw9956193291786001218:=()
def tw17446368927176551764:=()
def tw18055410511570263026:=()
def tw2008717089952257128:=()
def tw15407882745208838367:=()
def tw15135659657956779016:=()
def tw12688864098915103335:=()
def tw18372314264978130029:=()
def tw17483869301751010718:=()
def tw2466446340127760196:=()
def tw16558961793981844168:=()
def tw9006051188628673372:=()
def tw3898611684009726731:=()
def tw6172844046555069367:=()
def tw15047556898587557938:=()
def tw6411993192460980129:=()
def tw13752855246267704021:=()
def tw8376640883645512494:=()
def tw10018931595638194366:=()
def tw7673177949567860568:=()
def tw5593157155718378190:=()
def tw17817002416501146889:=()
def tw16525173425946823365:=()
def tw13527598715001559753:=()
def tw7460787882381511588:=()
def tw7755732728114125777:=()
def tw15993908707229138603:=()
def tw14799616198811380926:=()
def tw11513717332631013770:=()
def tw16711394222260552610:=()
def tw9792500356600455834:=()
def tw14738525893972003725:=()
def tw10595495676504395385:=()
def tw13675222466992364469:=()
def tw11476936604884258671:=()
def tw12756089982734714292:=()
def tw1336583616074891512:=()
def tw6314398155504217924:=()
def tw11205794414908431398:=()
def tw8239674064794470105:=()
def tw9996973556524115916:=()
def tw13969008863138238453:=()
def tw15734450992376803383:=()
def tw17479338257024050903:=()
def tw11418609537002696461:=()
def tw12410687055998071063:=()
def tw9756694525556298242:=()
end PySem.W.Fast
set_option maxRecDepth 100000 in
set_option maxHeartbeats 0 in
theorem PySem.Challenge.cw_hookmill_k08_whole_hooked_in_any_order_holds : PySem.Challenge.rw_hookmill_k08_whole_hooked_in_any_order.Holds := by
 w_on;o_law;k_head;(case hw=>w_witness2)
 k_fill
 refine Lk08.walk (l:=PySem.Challenge.rw_hookmill_k08_whole_hooked_in_any_order) Lk08.main rfl rfl (fun w h Y=>PySem.W.kIn_of Y) ?F
 case F=>
  intro w mg fa h KX G hmg
  refine' Lk08.aJk KX G hmg ?a0 ?a1 ?a2 ?a3 ?a4 ?a5 ?a6 ?a7 ?a8 ?a9 ?a10 ?a11 ?a12 ?a13 ?a14 ?a15 ?a16 ?a17 ?a18 ?a19 ?a20 ?a21 ?a22 ?a23 ?a24 ?l24 ?c24 ?k24 ?ph ?pj ?po ?pq ?pz ?pA ?pB ?pC ?pF ?pG ?pH ?pI ?pJ ?pK ?pL ?pM ?pN ?pO
  (case a0|a1|a2|a3|a4|a5|a6|a7|a8|a9|a10|a11|a12|a13|a14|a15|a16|a17|a18|a19|a20|a21|a22|a23=>refine' Lk08.aLq ?a ?b ?c ?d;(case a=>k_is);(case b=>k_is);(case c=>k_is);case d=>k_is)
  (case a24|l24|c24|k24|ph|pj|po|pq|pz|pA|pB|pC|pF|pG|pH|pI|pJ|pK|pL|pM|pN|pO=>k_is)
end
