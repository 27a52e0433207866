import PyProof.Rows.All
import Wide.All
import OpenK.AllK
import Wide.FinOn
import PyProof.EqAt
import PyProof.EqKinds
import PyProof.TupleCall
import Lean
import PyProof.Rows.SortRuns
import PySem.Syntax
import PyProof.NeKinds
import PyProof.WalkInts
import KE.KDictList
import PyProof.CompUse
import PyProof.StrWalks
import PyProof.EnumMake
import PyProof.EnumFor
import PyProof.StrCalls2
import PyProof.StrBlock2
import PyProof.StrBlockI
import PyProof.SliceStr2
import PyProof.ConsumeWalk
import PyProof.StrLawsJoin
import KE.KTryMore
import KE.KTryDeep
import OpenK.KOwn
import PyProof.ExcClass3
import KE.KIsAll
import PyProof.ExcArgsOwn
import PyProof.NsDelKeeps
import PyProof.ListRange
import PyProof.DictWalks
import KE.KEqDict
import PyProof.Rows.TupAdd
import PyProof.DictIter
import PyProof.AttrMissHeap
import PyProof.ZipIter
import PyProof.TupleIter
import PyProof.WalksMore
import PyProof.FactsAll.zip
import KE.KDictOf
import PyProof.Conv_int
import PyProof.Conv_int_bool
import PyProof.StrBlockL
import PyProof.MakeMany
import PyProof.MeetsStr2
import PyProof.CallRoads3
import PyProof.Rows.TupIn
import PyProof.DictRoadsH
import PyProof.DictList
import KE.KDictSum
import PyProof.TupleOfSeq
import PyProof.CallType
import PyProof.EnumStmt
import PyProof.Draws
import PySem.Challenge.RW_hookmill_k11_parts
set_option Elab.async false
set_option maxRecDepth 100000
set_option maxHeartbeats 4000000
noncomputable section
set_option linter.all false
set_option autoImplicit false
set_option genSizeOfSpec false
set_option genInjectivity true
abbrev nDb (x:PySem.Str):Prop := (x==("__debug__" : PySem.Str))=false
abbrev nCd (x:PySem.Str):Prop := (x==("__classdict__" : PySem.Str))=false
section
namespace L2
open PySem PySem.Spec PyProof.Rows
abbrev Key:=Sum Int Str
noncomputable def yK:Key->Value->Bool
 | .inl k,v=>Value.isInt k v
 | .inr x,v=>Value.isStrOf x v
noncomputable def aFa (w:World):Key->Int
 | .inl k=>hashInt k
 | .inr x=>hashStr w x
theorem bW:∀{k:Key} {v:Value},yK k v=true->(∃i t,k=Sum.inl i/\v=Value.int i t)\/(∃x t,k=Sum.inr x/\v=Value.str x t)
 | .inl i,v,h=>by
  obtain ⟨t,e⟩:=Value.isInt_shape (k:=i) (v:=v) h;exact .inl ⟨i,t,rfl,e⟩
 | .inr x,v,h=>by
  obtain ⟨t,e⟩:=Value.isStrOf_shape (x:=x) (v:=v) h;exact .inr ⟨x,t,rfl,e⟩
theorem J6 (i:Int) (t:Tok):yK (.inl i) (.int i t)=true:=by simp [yK,Value.isInt]
theorem J7 (x:Str) (t:Tok):yK (.inr x) (.str x t)=true:=by simp [yK,Value.isStrOf]
theorem aAr (a b:Int):decide ((Sum.inl a:Key)=Sum.inl b)=(a==b):=by
 by_cases e:a=b
 ·subst e;simp
 ·have h:¬(Sum.inl a:Key)=Sum.inl b:=fun q=>e (Sum.inl.inj q)
  rw [decide_eq_false h];exact (beq_eq_false_iff_ne.mpr e).symm
theorem aAs (a b:Str):decide ((Sum.inr a:Key)=Sum.inr b)=decide (a=b):=by
 by_cases e:a=b
 ·subst e;simp
 ·have h:¬(Sum.inr a:Key)=Sum.inr b:=fun q=>e (Sum.inr.inj q)
  rw [decide_eq_false h,decide_eq_false e]
theorem aAt (a:Int) (b:Str):decide ((Sum.inl a:Key)=Sum.inr b)=false:=decide_eq_false (fun q=>nomatch q)
theorem aAu (a:Str) (b:Int):decide ((Sum.inr a:Key)=Sum.inl b)=false:=decide_eq_false (fun q=>nomatch q)
noncomputable def b_ (prog:Program) (w:World):PySem.KeyKind prog w Key where
 is:=yK
 hash:=aFa w
 inj:=fun v a b ha hb=>by
  rcases bW ha with ⟨i,t,rfl,rfl⟩|⟨x,t,rfl,rfl⟩
  ·rcases bW hb with ⟨j,u,rfl,e⟩|⟨y,u,rfl,e⟩
   ·injection e with e1 _;rw [e1]
   ·exact nomatch e
  ·rcases bW hb with ⟨j,u,rfl,e⟩|⟨y,u,rfl,e⟩
   ·exact nomatch e
   ·injection e with e1 _;rw [e1]
 byValue:=fun k v h=>by
  rcases bW h with ⟨i,t,rfl,rfl⟩|⟨x,t,rfl,rfl⟩ <;> rfl
 pyHash:=fun hv h=>by
  rcases bW hv with ⟨i,t,rfl,rfl⟩|⟨x,t,rfl,rfl⟩
  ·exact wpAny_pyHash_int h
  ·exact wpAny_pyHash_str h
 eqBool:=fun hu hv h=>by
  rcases bW hu with ⟨i,t,rfl,rfl⟩|⟨x,t,rfl,rfl⟩
  ·rcases bW hv with ⟨j,u,rfl,rfl⟩|⟨y,u,rfl,rfl⟩
   ·rw [aAr] at h;exact wpAny_eqBool_int h
   ·rw [aAt] at h;exact SeqAt.EqAt.int_str i t y u _ _ _ _ h
  ·rcases bW hv with ⟨j,u,rfl,rfl⟩|⟨y,u,rfl,rfl⟩
   ·rw [aAu] at h;exact SeqAt.EqAt.str_int x t j u _ _ _ _ h
   ·rw [aAs] at h;exact wpAny_eqBool_str h
 «strs»:=fun k x t v h=>by
  rcases bW h with ⟨i,u,rfl,e⟩|⟨y,u,rfl,e⟩
  ·exact nomatch e
  ·injection e with e1 _
   subst e1;cases v <;> rfl
theorem yL (prog:Program) (w:World) (i:Int) (t:Tok):(b_ prog w).is (.inl i) (.int i t)=true:=J6 i t
theorem yM (prog:Program) (w:World) (x:Str) (t:Tok):(b_ prog w).is (.inr x) (.str x t)=true:=J7 x t
end L2
namespace L2
open PySem PySem.Spec PyProof.Rows
inductive V where
 | non|bl (b:Bool)|int (i:Int)|str (x:Str)|byt (b:Array UInt8)|flt (b:UInt64)|ref (a:Addr)|ty (n:String)
 deriving DecidableEq
noncomputable def RelV:V->Value->Prop
 | .non,u=>u=Value.none
 | .bl b,u=>u=Value.bool b
 | .int i,u=>∃t,u=Value.int i t
 | .str x,u=>∃t,u=Value.str x t
 | .byt b,u=>∃t,u=Value.bytes b t
 | .flt b,u=>∃t,u=Value.float b t
 | .ref a,u=>u=Value.ref a
 | .ty n,u=>u=Value.type n
abbrev Vals:List V->List Value->Prop:=Paired RelV
theorem Vals.length {xs:List V} {us:List Value} (r:Vals xs us):xs.length=us.length:=Paired.length r
theorem Vals.get:∀{xs:List V} {us:List Value} {i:Nat} {x:V},Vals xs us->xs[i]?=some x->∃u,us[i]?=some u/\RelV x u
 | _,_,_,_,.nil,e=>by simp at e
 | _,_,0,_,.cons r _,e=>by simp at e;subst e;exact ⟨_,rfl,r⟩
 | _,_,i+1,x,.cons _ t,e=>by
  obtain ⟨u,h1,h2⟩:=Vals.get (i:=i) (x:=x) t (by simpa using e);exact ⟨u,by simpa using h1,h2⟩
theorem Vals.append:∀{xs ys:List V} {us ws:List Value},Vals xs us->Vals ys ws->Vals (xs++ys) (us++ws)
 | _,_,_,_,.nil,s=>s
 | _,_,_,_,.cons r t,s=>.cons r (Vals.append t s)
theorem Vals.take:∀{xs:List V} {us:List Value} (n:Nat),Vals xs us->Vals (xs.take n) (us.take n)
 | _,_,0,_=>.nil
 | _,_,_+1,.nil=>.nil
 | _,_,n+1,.cons r t=>.cons r (Vals.take n t)
theorem Vals.drop:∀{xs:List V} {us:List Value} (n:Nat),Vals xs us->Vals (xs.drop n) (us.drop n)
 | _,_,0,r=>r
 | _,_,_+1,.nil=>.nil
 | _,_,n+1,.cons _ t=>Vals.drop n t
noncomputable def R3:Option V->Option Value->Prop
 | some v,some u=>RelV v u
 | none,none=>True
 | _,_=>False
noncomputable def KV {κ:Type}:List (κ×V)->List (κ×Value)->Prop:=Paired fun (p:κ×V) (q:κ×Value)=>p.1=q.1/\RelV p.2 q.2
noncomputable def kV:Key->V
 | .inl i=>.int i
 | .inr x=>.str x
inductive HO where
 | lst (xs:List V)
 | tup (xs:List V)
 | dK (kvs:List (Key×V))|dT (kvs:List (List Key×V))
 | set (S:Int->Bool) (n:Nat)
 | ins (C dx:Addr) (fs:List (Str×V))
 | own (x:Addr)
 | xd (fs:List (Str×V))
 | met (f x:Addr)
 | rng (lo hi:Int)
 | frz (o:Obj) (u:HO)
 | tbl (ps:Array Value)
 | ext (φ:Heap->Prop)
abbrev Hp:=Addr->Option HO
def upd (H:Hp) (a:Addr) (o:HO):Hp:=fun b=>if b=a then some o else H b
theorem aC {H:Hp} {a:Addr} {o:HO}:upd H a o a=some o:=by unfold upd;rw [if_pos rfl]
theorem aR {H:Hp} {a b:Addr} {o:HO} (h:b≠a):upd H a o b=H b:=by unfold upd;rw [if_neg h]
theorem yN {H:Hp} {a:Addr} {o u:HO}:upd (upd H a o) a u=upd H a u:=by
 funext b;unfold upd;split <;> rfl
theorem XS {H:Hp} {a b:Addr} {o u:HO} (h:H a=some o) (h':H b=some u) (d:o≠u):a≠b:=by
 intro e;subst e;rw [h] at h';exact d (Option.some.inj h')
theorem bZ {H:Hp} {a b:Addr} {o:HO} (h:H a=some o) (h':H b=none):a≠b:=by
 intro e;subst e;rw [h] at h';cases h'
noncomputable def iZ (h:Heap) (a:Addr) (its:Array Value):Prop:=∃o,h.get? a=some o/\o.cls=.type "tuple"/\∃n,(o.data,o.dict)=(Data.seq its n,none)
theorem iZ.tup {h:Heap} {a:Addr} {its:Array Value} (t:iZ h a its):IsTup h a its:=let ⟨o,e,c,n,d⟩:=t;⟨o,e,c,n,congrArg (·.1) d⟩
theorem iZ.bare {h:Heap} {a:Addr} {its:Array Value} (t:iZ h a its):∃o,h.get? a=some o/\o.dict=none:=let ⟨o,e,_,_,d⟩:=t;⟨o,e,congrArg (·.2) d⟩
theorem iZ.new (h:Heap) (items:Array Value):iZ (h.push {cls:=.type "tuple",data:=.seq items}) h.objs.size items:=⟨_,Heap.get?_push_size _ rfl,rfl,_,rfl⟩
section
variable (P:Program) (w:World)
noncomputable def gJ (H:Hp) (h:Heap) (a:Addr):HO->Prop
 | .lst xs=>xs.length<=sizeLine/\∃(its:List Value) (n:Nat),Vals xs its/\h.get? a=some {cls:=.type "list",data:=.seq its.toArray n}
 | .tup xs=>xs.length<=sizeLine/\∃its:List Value,Vals xs its/\iZ h a its.toArray
 | .dK kvs=>kvs.length<=sizeLine/\(a==sysModules)=false/\∃vs,KV kvs vs/\h.DictOf (b_ P w) a vs
 | .dT kvs=>kvs.length<=sizeLine/\(a==sysModules)=false/\∃xs:List (List Key×Addr×Value),
   Paired (fun (p:List Key×V) (q:List Key×Addr×Value)=>p.1=q.1/\H q.2.1=some (.tup (p.1.map kV))/\RelV p.2 q.2.2) kvs xs/\
   ∃o es ep,h.get? a=some o/\o.ExactDict/\o.data=.dict es ep/\es.toList=xs.map (entryOfKey (tupleKind (b_ P w)))/\(xs.map (·.1)).Nodup
 | .set S n=>h.SetOf (intKind P w) a S n
 | .ins C dx fs=>H dx=some (.own a)/\fs.length<=1000/\dx≠a/\h.get? a=some (PySem.W.instObj C dx)/\
   ∃mA,h.Ns1 dx mA/\(∀f,R3 (fs.lookup f) (mA f))/\PySem.Within mA (fs.map (·.1))
 | .own _=>∃o,h.get? a=some o
 | .xd fs=>∃mA,h.Ns1 a mA/\∀f,R3 (fs.lookup f) (mA f)
 | .rng lo hi=>∃t u v,h.get? a=some {cls:=.type "range",data:=.fields #[.int lo t,.int hi u,.int 1 v]}
 | .frz o u=>h.get? a=some o/\gJ H h a u
 | .tbl ps=>h.get? a=some {cls:=.none,data:=.fields ps}
 | .met f x=>h.get? a=some (PySem.W.methodObj (.ref f) (.ref x))
 | .ext φ=>φ h/\(∃o,h.get? a=some o)/\∀h1 h2:Heap,φ h1->(∀o,h1.get? a=some o->h2.get? a=some o)->φ h2
def HOk (H:Hp) (h:Heap):Prop:=∀a o,H a=some o->gJ P w H h a o
end
section
variable {P:Program} {w:World} {H H':Hp} {h h':Heap} {a:Addr} {o:HO}
theorem gJ.lt (x:gJ P w H h a o):a<h.objs.size:=by
 cases o with
 | lst xs=>obtain ⟨_,_,_,_,e⟩:=x;exact Heap.lt_size e
 | tup xs=>obtain ⟨_,_,_,p⟩:=x;exact p.tup.lt
 | dK kvs=>obtain ⟨_,_,_,_,o,_,_,e,_⟩:=x;exact Heap.lt_size e
 | dT kvs=>obtain ⟨_,_,_,_,o,_,_,e,_⟩:=x;exact Heap.lt_size e
 | set S n=>obtain ⟨o,_,_,_,e,_⟩:=x;exact Heap.lt_size e
 | ins C dx fs=>obtain ⟨_,_,_,e,_⟩:=x;exact Heap.lt_size e
 | own y=>obtain ⟨_,e⟩:=x;exact Heap.lt_size e
 | xd fs=>obtain ⟨_,⟨_,_,_,e,_⟩,_⟩:=x;exact Heap.lt_size e
 | rng lo hi=>obtain ⟨_,_,_,e⟩:=x;exact Heap.lt_size e
 | frz ob u=>obtain ⟨e,_⟩:=x;exact Heap.lt_size e
 | tbl ps=>exact Heap.lt_size (show h.get? a=some _ from x)
 | met f y=>exact Heap.lt_size (show h.get? a=some _ from x)
 | ext φ=>obtain ⟨_,⟨_,e⟩,_⟩:=x;exact Heap.lt_size e
theorem Paired.aDi {α β:Type} {F G:α->β->Prop}:∀{l₁:List α} {l₂:List β},Paired F l₁ l₂->(∀a b,F a b->G a b)->Paired G l₁ l₂
 | _,_,.nil,_=>.nil
 | _,_,.cons r t,f=>.cons (f _ _ r) (Paired.aDi t f)
theorem gJ.stay (x:gJ P w H h a o) (k:∀b u,(b=a\/H b=some (.own a))->h.get? b=some u->h'.get? b=some u)
  (ho:∀b,H b=some (.own a)->H' b=some (.own a)) (ht:∀b xs,H b=some (.tup xs)->H' b=some (.tup xs)):gJ P w H' h' a o:=by
 induction o with
 | lst xs=>obtain ⟨z,its,n,r,e⟩:=x;exact ⟨z,its,n,r,k _ _ (.inl rfl) e⟩
 | tup xs=>obtain ⟨z,its,r,ob,e,c⟩:=x;exact ⟨z,its,r,ob,k _ _ (.inl rfl) e,c⟩
 | dK kvs=>obtain ⟨z,y,vs,r,ob,es,ep,e,c⟩:=x;exact ⟨z,y,vs,r,ob,es,ep,k _ _ (.inl rfl) e,c⟩
 | dT kvs=>
  obtain ⟨z,y,xs,r,ob,es,ep,e,c⟩:=x;exact ⟨z,y,xs,Paired.aDi r fun p q z=>⟨z.1,ht _ _ z.2.1,z.2.2⟩,ob,es,ep,k _ _ (.inl rfl) e,c⟩
 | set S n=>obtain ⟨ob,es,ep,t,e,c⟩:=x;exact ⟨ob,es,ep,t,k _ _ (.inl rfl) e,c⟩
 | ins C dx fs=>
  obtain ⟨d,z,ne,e,mA,⟨od,es,ep,e2,c⟩,r⟩:=x;exact ⟨ho _ d,z,ne,k _ _ (.inl rfl) e,mA,⟨od,es,ep,k _ _ (.inr d) e2,c⟩,r⟩
 | own y=>obtain ⟨ob,e⟩:=x;exact ⟨ob,k _ _ (.inl rfl) e⟩
 | xd fs=>obtain ⟨mA,⟨od,es,ep,e,c⟩,r⟩:=x;exact ⟨mA,⟨od,es,ep,k _ _ (.inl rfl) e,c⟩,r⟩
 | rng lo hi=>obtain ⟨t,u,v,e⟩:=x;exact ⟨t,u,v,k _ _ (.inl rfl) e⟩
 | frz ob u ih=>obtain ⟨e,q⟩:=x;exact ⟨k _ _ (.inl rfl) e,ih q⟩
 | tbl ps=>
  have e:h.get? a=some {cls:=.none,data:=.fields ps}:=x;show h'.get? a=some {cls:=.none,data:=.fields ps};exact k a _ (.inl rfl) e
 | met f y=>
  have e:h.get? a=some (PySem.W.methodObj (.ref f) (.ref y)):=x;show h'.get? a=some (PySem.W.methodObj (.ref f) (.ref y));exact k a _ (.inl rfl) e
 | ext φ=>obtain ⟨p,⟨o,e⟩,st⟩:=x;exact ⟨st _ _ p fun o q=>k _ _ (.inl rfl) q,⟨o,k _ _ (.inl rfl) e⟩,st⟩
theorem HOk.lt (x:HOk P w H h) (e:H a=some o):a<h.objs.size:=(x a o e).lt
theorem HOk.fresh (x:HOk P w H h) (e:h.objs.size<=a):H a=none:=by
 cases q:H a with
 | none=>rfl
 | some u=>exact absurd (Nat.lt_of_lt_of_le (x.lt q) e) (Nat.lt_irrefl _)
theorem HOk.kept (x:HOk P w H h) (k:∀b u,h.get? b=some u->h'.get? b=some u):HOk P w H h':=fun a o e=>
 (x a o e).stay (fun b u _ q=>k b u q) (fun _ q=>q) fun _ _ q=>q
theorem HOk.laid (x:HOk P w H h) (k:∀b u,h.get? b=some u->h'.get? b=some u) (hp:h.objs.size<=a) (new:gJ P w (upd H a o) h' a o):HOk P w (upd H a o) h':=fun b u e=>by
 have hn:=x.fresh hp;by_cases hb:b=a
 ·subst hb;rw [aC] at e;cases e;exact new
 ·rw [aR hb] at e;exact (x b u e).stay (fun c v _ q=>k c v q) (fun c q=>by rw [aR (bZ q hn)];exact q) fun c xs q=>by rw [aR (bZ q hn)];exact q
end
def Rd (H:Hp) (a:Addr) (u:HO):Prop:=H a=some u\/∃o,H a=some (.frz o u)
theorem Rd.ok {P:Program} {w:World} {H:Hp} {h:Heap} {a:Addr} {u:HO} (r:Rd H a u) (x:HOk P w H h):gJ P w H h a u:=by
 rcases r with r|⟨o,r⟩
 ·exact x a u r
 ·obtain ⟨_,q⟩:=x a _ r;exact q
noncomputable def Mut:Option HO->Prop
 | some (.lst _)=>True
 | some (.dK _)=>True
 | some (.dT _)=>True
 | some (.set _ _)=>True
 | some (.ins _ _ _)=>True
 | some (.ext _)=>True
 | _=>False
section
variable {P:Program} {w:World} {H:Hp} {h h':Heap} {x e:Addr} {o':HO}
theorem HOk.write (ok:HOk P w H h) (mu:Mut (H x)) (he:e=x\/H e=some (.own x)) (k:∀b u,b≠e->h.get? b=some u->h'.get? b=some u) (heo:∃u,h'.get? e=some u)
  (new:gJ P w (upd H x o') h' x o'):HOk P w (upd H x o') h':=fun b u q=>by
 have nown:∀c y,H c=some (.own y)->c≠x:=fun c y r z=>by subst z;rw [r] at mu;exact mu
 have ntup:∀c xs,H c=some (.tup xs)->c≠x:=fun c xs r z=>by subst z;rw [r] at mu;exact mu
 by_cases hb:b=x
 ·subst hb;rw [aC] at q;cases q;exact new
 ·rw [aR hb] at q;by_cases hbe:b=e
  ·have q':H b=some (.own x):=by
    rcases he with z|z
    ·exact absurd (hbe.trans z) hb
    ·rw [hbe];exact z
   rw [q] at q';cases q';obtain ⟨v,hv⟩:=heo;exact ⟨v,by rw [hbe];exact hv⟩
  ·refine (ok b u q).stay (fun c v hc r=>k c v ?_ r) (fun c r=>by rw [aR (nown c b r)];exact r) fun c xs r=>by rw [aR (ntup c xs r)];exact r
   rcases hc with rfl|hc
   ·exact hbe
   ·rintro rfl;rcases he with z|z
    ·exact nown c b hc z
    ·rw [hc] at z;cases z;exact hb rfl
end
structure Un (fs ex:List Addr) (H H':Hp) (h h':Heap):Prop where
 keep:∀b o,h.get? b=some o->H b=none->b∉fs->b∉ex->h'.get? b=some o
 slot:∀b o,h.get? b=some o->H b=none->b∈fs->b∉ex->∃sl,h'.get? b=some {o with slots:=sl}
 free:∀b o,h.get? b=some o->H b=none->b∉ex->H' b=none
 there:∀b o,h.get? b=some o->b∉ex->∃o',h'.get? b=some o'
 tups:∀b xs,H b=some (.tup xs)->H' b=some (.tup xs)
 frzs:∀b o u,H b=some (.frz o u)->H' b=some (.frz o u)
 tbls:∀b ps,H b=some (.tbl ps)->∃more,H' b=some (.tbl (ps++more))
section
variable {fs fs' ex ex':List Addr} {H H1 H2:Hp} {h h1 h2 h':Heap} {a x e:Addr} {o:HO}
theorem Un.any (u:Un fs ex H H1 h h1) {b:Addr} {ob:Obj} (q:h.get? b=some ob) (n:H b=none) (hx:b∉ex):∃sl,h1.get? b=some {ob with slots:=sl}:=by
 by_cases hb:b∈fs
 ·exact u.slot b ob q n hb hx
 ·exact ⟨ob.slots,u.keep b ob q n hb hx⟩
theorem Un.kept (k:∀b u,h.get? b=some u->h'.get? b=some u):Un fs ex H H h h':=
 ⟨fun b ob q _ _ _=>k b ob q,fun b ob q _ _ _=>⟨ob.slots,k b ob q⟩,fun _ _ _ n _=>n,fun b ob q _=>⟨ob,k b ob q⟩,fun _ _ q=>q,fun _ _ _ q=>q,fun _ ps q=>⟨#[],by rw [q];simp⟩⟩
theorem Un.refl:Un fs ex H H h h:=Un.kept fun _ _ q=>q
theorem Un.laid (k:∀b u,h.get? b=some u->h'.get? b=some u) (hp:h.objs.size<=a) (hn:H a=none):Un fs ex H (upd H a o) h h' where
 keep:=fun b u q _ _ _=>k b u q
 slot:=fun b u q _ _ _=>⟨u.slots,k b u q⟩
 free:=fun b u q n _=>by rw [aR (Nat.ne_of_lt (Nat.lt_of_lt_of_le (Heap.lt_size q) hp))];exact n
 there:=fun b u q _=>⟨u,k b u q⟩
 tups:=fun b xs q=>by rw [aR (bZ q hn)];exact q
 frzs:=fun b u xs q=>by rw [aR (bZ q hn)];exact q
 tbls:=fun b ps q=>⟨#[],by rw [aR (bZ q hn),q];simp⟩
theorem Un.write (mu:Mut (H x)) (he:e=x\/H e=some (.own x)) (k:∀b u,b≠e->h.get? b=some u->h'.get? b=some u) (heo:∃u,h'.get? e=some u):Un fs ex H (upd H x o) h h':=by
 have hx:∀b,H b=none->b≠x:=fun b n z=>by subst z;rw [n] at mu;exact mu
 have hb:∀b,H b=none->b≠e:=fun b n z=>by
  subst z;rcases he with r|r
  ·exact hx b n r
  ·rw [n] at r;cases r
 have hm:∀b u,H b=some u->¬Mut (some u)->b≠x:=fun b u q nm z=>by subst z;rw [q] at mu;exact nm mu
 refine ⟨fun b u q n _ _=>k b u (hb b n) q,fun b u q n _ _=>⟨u.slots,k b u (hb b n) q⟩,fun b u q n _=>by rw [aR (hx b n)];exact n,fun b u q _=>?_,
  fun b xs q=>by rw [aR (hm b _ q fun z=>z)];exact q,fun b u xs q=>by rw [aR (hm b _ q fun z=>z)];exact q,fun b ps q=>⟨#[],by rw [aR (hm b _ q fun z=>z),q];simp⟩⟩
 by_cases hbe:b=e
 ·subst hbe;exact heo
 ·exact ⟨u,k b u hbe q⟩
end
noncomputable def trk (h:Heap) (H:Hp):List Addr:=(List.range h.objs.size).filter fun a=>(H a).isSome
def SJ (h:Heap) (H:Hp):Heap:=PySem.W.hideAll h (trk h H)
theorem J8 (h:Heap) (H:Hp):(SJ h H).objs.size=h.objs.size:=PySem.W.hideAll_size _ _
theorem SN {h:Heap} {H:Hp} {b:Addr} {o:Obj} (e:h.get? b=some o) (n:H b=none):(SJ h H).get? b=some o:=
 PySem.W.hideAll_get _ e fun hm=>by
  have q:(H b).isSome=true:=(List.mem_filter.mp hm).2;rw [n] at q;simp at q
theorem XX {h:Heap} {H:Hp} {b:Addr} {o:Obj} (e:(SJ h H).get? b=some o):h.get? b=some o/\H b=none:=by
 have e':h.get? b=some o:=PySem.W.of_hideAll (trk h H) e;refine ⟨e',?_⟩;cases q:H b with
 | none=>rfl
 | some x=>
  have hm:b∈trk h H:=List.mem_filter.mpr ⟨List.mem_range.mpr (Heap.lt_size e'),by simp [q]⟩;have z:(SJ h H).get? b=none:=PySem.W.hideAll_none (trk h H) hm;rw [z] at e;cases e
end L2
namespace L2
open PySem PySem.Spec PyProof.Rows
structure Mod (K:PySem.W.Frag) (mg:Str->Option Value) (base:Heap):Prop where
 kin:K.In base
 glob:base.Ns mainGlobals mg
 blt:∃mb,base.Ns builtinsNs mb/\∀x:Str,x ≠ "__name__"->mb x=bootBuiltins x
 nolimit:base.NoLimit
/-- the context: a def's body (or a comprehension's block) running. base: fixed through the whole law; s₀, H₀: the entry; outer: the frames whose slots others may change (a def's callers); stack: all frames that run;
   ex: iterators that were made ahead of the entry and are walked here (a comprehension's); fn: the names whose cells were made at the entry (a def: all; a comprehension's block: its own); calm: not within an except suite; pn: pins that every state bears; xe: what is wanted of an exception that leaves the code -/
structure Cx where
 prog:Program
 w:World
 K:PySem.W.Frag
 mg:Str->Option Value
 base:Heap
 A:Around
 N:List Str
 s₀:Shared
 H₀:Hp
 env:Env
 outer:List Env
 stack:List Env
 ex:List Addr
 fn:Str->Bool
 calm:Bool
 pn:List (Addr×Obj)
 xe:Value->Shared->Prop
def frs (l:List Env):List Addr:=l.filterMap (·.frame)
abbrev Cx.fs (X:Cx):List Addr:=frs X.outer
noncomputable def Vis (sc:Scope) (x:Str):Prop:=sc.names.lookup x=some .local\/sc.names.lookup x=some .cell\/sc.names.lookup x=some .free
noncomputable def Loc (sc:Scope) (x:Str):Prop:=sc.names.lookup x=some .local\/sc.names.lookup x=some .cell
noncomputable def Look (env:Env) (h:Heap) (m:Str->Option Value) (x:Str) (u:Value):Prop:=
 (env.kindOf x=some .local/\m x=some u)\/((env.kindOf x=some .cell\/env.kindOf x=some .free)/\∃c,env.cells.lookup x=some c/\h.IsCell c (some u))
structure Cx.Ok (X:Cx):Prop where
 mod:Mod X.K X.mg X.base
 kind:X.env.scope.kind=.function
 glob:X.env.globals=mainGlobals
 blt:X.env.builtins=builtinsNs
 above:X.s₀.heap.objs.size<=X.env.locals
 inj:∀x y c,X.env.cells.lookup x=some c->X.env.cells.lookup y=some c->x=y
 has:∀x,(X.env.kindOf x=some .cell\/X.env.kindOf x=some .free)->∃c,X.env.cells.lookup x=some c
 cab:∀x c,X.fn x=true->X.env.cells.lookup x=some c->X.s₀.heap.objs.size<=c
 hd:X.calm=true->X.A.handled=none
 frames:X.A.frames=some X.stack
 stk:X.stack=X.outer\/(X.stack=X.env::X.outer/\X.env.frame=some X.env.locals)
 exf:∀b∈X.ex,b≠X.env.locals/\∀x c,X.env.cells.lookup x=some c->c≠b
 bs:∀b o,X.base.get? b=some o->X.s₀.heap.get? b=some o/\X.H₀ b=none
 bsz:X.base.objs.size<=X.s₀.heap.objs.size
 noex:∀b o,X.base.get? b=some o->b∉X.ex
 exfs:∀b∈X.ex,b∉X.fs
 J9:X.s₀.heap.FunFrames X.base X.outer
 frf:∀b∈X.fs,X.H₀ b=none
structure Inv (X:Cx) (pins:List (Addr×Obj)) (σ:List (Option V)) (H:Hp) (s:Shared):Prop where
 ok:X.Ok
 os:s.os=X.s₀.os
 bare:AllBare s.gens
 base:Un X.fs X.ex X.H₀ H X.s₀.heap s.heap
 loc:∃m,s.heap.Ns X.env.locals m/\∀(i:Nat) (x:Str) (v:V),X.N[i]?=some x->σ[i]?=some (some v)->Vis X.env.scope x->∃u,RelV v u/\Look X.env s.heap m x u
 cell:∀x c,X.env.cells.lookup x=some c->∃v,s.heap.IsCell c v
 free:H X.env.locals=none
 freeC:∀x c,X.env.cells.lookup x=some c->H c=none
 pin:∀p∈X.pn++pins,s.heap.get? p.1=some p.2/\H p.1=none/\p.1≠X.env.locals/\p.1∉X.fs/\∀v,p.2.data≠.cell v
 hok:HOk X.prog X.w H s.heap
 len:σ.length=X.N.length
section
variable {X:Cx} {pins:List (Addr×Obj)} {σ:List (Option V)} {H H':Hp} {s:Shared} {h':Heap}
theorem Cx.Ok.aFb (ok:X.Ok) {b:Addr} {o:Obj} (e:X.base.get? b=some o):b∉X.fs:=fun hb=>by
 have:=(ok.J9.mem hb).1;rw [e] at this;cases this
theorem Inv.bs (I:Inv X pins σ H s):∀b o,X.base.get? b=some o->s.heap.get? b=some o/\H b=none:=fun b o e=>
 ⟨I.base.keep b o (I.ok.bs b o e).1 (I.ok.bs b o e).2 (I.ok.aFb e) (I.ok.noex b o e),I.base.free b o (I.ok.bs b o e).1 (I.ok.bs b o e).2 (I.ok.noex b o e)⟩
theorem Inv.bk (I:Inv X pins σ H s):∀b o,X.base.get? b=some o->s.heap.get? b=some o:=fun b o e=>(I.bs b o e).1
theorem Inv.mod (I:Inv X pins σ H s):Mod X.K X.mg X.base:=I.ok.mod
theorem Inv.kIn (I:Inv X pins σ H s):X.K.In s.heap:=I.ok.mod.kin.keeps I.bk
theorem Inv.lt (I:Inv X pins σ H s):X.env.locals<s.heap.objs.size:=let ⟨_,hn,_⟩:=I.loc;hn.lt
theorem Inv.sz (I:Inv X pins σ H s):X.s₀.heap.objs.size<=s.heap.objs.size:=Nat.le_trans I.ok.above (Nat.le_of_lt I.lt)
theorem Inv.aF0 (I:Inv X pins σ H s) {a:Addr} (h:s.heap.objs.size<=a):a∉X.fs:=fun hb=>by
 obtain ⟨_,o,ho,_⟩:=I.ok.J9.mem hb;exact absurd (Nat.lt_of_lt_of_le (Heap.lt_size ho) (Nat.le_trans I.sz h)) (Nat.lt_irrefl _)
theorem Inv.cne (I:Inv X pins σ H s):∀x c,X.env.cells.lookup x=some c->c≠X.env.locals:=fun x c e z=>by
 obtain ⟨v,o,ho,hd⟩:=I.cell x c e;obtain ⟨m,⟨o',es,ep,ho',hd',_⟩,_⟩:=I.loc;rw [z,ho'] at ho;cases ho;rw [hd'] at hd;cases hd
theorem Inv.J9 (I:Inv X pins σ H s):s.heap.FunFrames X.base X.outer:=by
 have all:∀(l:List Env),(∀b∈frs l,b∈X.fs)->X.s₀.heap.FunFrames X.base l->s.heap.FunFrames X.base l:=by
  intro l;induction l with
  | nil=>intro _ _;trivial
  | cons env r ih=>
   intro hs hl;obtain ⟨hk,⟨L,o,hf,hn,ho,hd⟩,hr⟩:=hl;have hL:L∈X.fs:=hs L (by unfold frs;rw [List.filterMap_cons,hf];exact List.mem_cons_self);obtain ⟨sl,e⟩:=I.base.slot L o ho (I.ok.frf L hL) hL fun z=>I.ok.exfs L z hL
   exact ⟨hk,⟨L,_,hf,hn,e,hd⟩,ih (fun b hb=>hs b (by unfold frs;rw [List.filterMap_cons,hf];exact List.mem_cons_of_mem _ hb)) hr⟩
 exact all X.outer (fun _ hb=>hb) I.ok.J9
theorem Inv.stack (I:Inv X pins σ H s):s.heap.FunFrames X.base X.stack:=by
 rcases I.ok.stk with e|⟨e,hf⟩
 ·rw [e];exact I.J9
 ·rw [e];obtain ⟨m,hn,_⟩:=I.loc;refine .cons (by rw [I.ok.kind];decide) hf hn ?_ I.J9;exact Heap.get?_none_of_le (Nat.le_trans I.ok.bsz I.ok.above)
theorem Inv.A_ (I:Inv X pins σ H s):∀b∈frs X.stack,b∈X.env.locals::X.fs:=fun b hb=>by
 rcases I.ok.stk with e|⟨e,hf⟩
 ·rw [e] at hb;exact List.mem_cons_of_mem _ hb
 ·rw [e] at hb;unfold frs at hb;rw [List.filterMap_cons,hf] at hb;exact hb
theorem Inv.J_ (I:Inv X pins σ H s):∀b∈frs X.stack,H b=none:=fun b hb=>by
 rcases List.mem_cons.mp (I.A_ b hb) with e|hb
 ·rw [e];exact I.free
 ·obtain ⟨_,o,ho,_⟩:=I.ok.J9.mem hb;exact I.base.free b o ho (I.ok.frf b hb) fun z=>I.ok.exfs b z hb
theorem Inv.step {g':Array GenState} {t':Nat} {d':Drawn} {ch:List Addr} (I:Inv X pins σ H s)
  (hch:∀b∈ch,(b∈X.ex\/X.s₀.heap.objs.size<=b)/\b≠X.env.locals/\(∀x c,X.env.cells.lookup x=some c->c≠b)/\∀p∈X.pn++pins,p.1≠b)
  (keep:∀b o,b≠X.env.locals->b∉X.fs->b∉ch->s.heap.get? b=some o->H b=none->h'.get? b=some o)
  (slot:∀b o,b≠X.env.locals->b∈X.fs->b∉ch->s.heap.get? b=some o->H b=none->∃sl,h'.get? b=some {o with slots:=sl}) (free:∀b o,b∉ch->s.heap.get? b=some o->H b=none->H' b=none)
  (there:∀b o,b∉ch->s.heap.get? b=some o->∃o',h'.get? b=some o')
  (tups:∀b xs,H b=some (.tup xs)->H' b=some (.tup xs)) (frzs:∀b o u,H b=some (.frz o u)->H' b=some (.frz o u)) (tbls:∀b ps,H b=some (.tbl ps)->∃more,H' b=some (.tbl (ps++more)))
  (ns:∀m,s.heap.Ns X.env.locals m->h'.Ns X.env.locals m) (hok:HOk X.prog X.w H' h') (hg:AllBare g') :
  Inv X pins σ H' {s with heap:=h',gens:=g',drawn:=d',toks:=t'}:=by
 have neL:∀b o,X.s₀.heap.get? b=some o->b≠X.env.locals:=fun b o e=>Nat.ne_of_lt (Nat.lt_of_lt_of_le (Heap.lt_size e) I.ok.above)
 have neC:∀b o,X.s₀.heap.get? b=some o->b∉X.ex->b∉ch:=fun b o e hx hb=>by
  rcases (hch b hb).1 with z|z
  ·exact hx z
  ·exact absurd (Nat.lt_of_lt_of_le (Heap.lt_size e) z) (Nat.lt_irrefl _)
 have cellK:∀x c,X.env.cells.lookup x=some c->∀v,s.heap.IsCell c v->h'.IsCell c v:=fun x c e v ⟨o,ho,hd⟩=>by
  have nch:c∉ch:=fun z=>(hch c z).2.2.1 x c e rfl
  by_cases hc:c∈X.fs
  ·obtain ⟨sl,q⟩:=slot c o (I.cne x c e) hc nch ho (I.freeC x c e);exact ⟨_,q,hd⟩
  ·exact ⟨o,keep c o (I.cne x c e) hc nch ho (I.freeC x c e),hd⟩
 refine ⟨I.ok,I.os,hg,⟨fun b o e n hb hx=>?_,fun b o e n hb hx=>?_,fun b o e n hx=>?_,fun b o e hx=>?_,fun b xs e=>tups b xs (I.base.tups b xs e),fun b o xs e=>frzs b o xs (I.base.frzs b o xs e),fun b ps e=>?_⟩,?_,fun x c e=>?_,?_,fun x c e=>?_,fun p hp=>?_,hok,I.len⟩
 ·exact keep b o (neL b o e) hb (neC b o e hx) (I.base.keep b o e n hb hx) (I.base.free b o e n hx)
 ·obtain ⟨sl,e1⟩:=I.base.slot b o e n hb hx;obtain ⟨sl',e2⟩:=slot b _ (neL b o e) hb (neC b o e hx) e1 (I.base.free b o e n hx);exact ⟨sl',e2⟩
 ·obtain ⟨o',e1⟩:=I.base.there b o e hx;exact free b o' (neC b o e hx) e1 (I.base.free b o e n hx)
 ·obtain ⟨o',e1⟩:=I.base.there b o e hx;exact there b o' (neC b o e hx) e1
 ·obtain ⟨m1,e1⟩:=I.base.tbls b ps e;obtain ⟨m2,e2⟩:=tbls b _ e1;exact ⟨m1++m2,by rw [e2,Array.append_assoc]⟩
 ·obtain ⟨m,hn,hl⟩:=I.loc;refine ⟨m,ns m hn,fun i x v e1 e2 e3=>?_⟩;obtain ⟨u,r,l⟩:=hl i x v e1 e2 e3;refine ⟨u,r,?_⟩;rcases l with l|⟨k,c,e,z⟩
  ·exact .inl l
  ·exact .inr ⟨k,c,e,cellK x c e _ z⟩
 ·obtain ⟨v,z⟩:=I.cell x c e;exact ⟨v,cellK x c e v z⟩
 ·obtain ⟨m,⟨o,_,_,ho,_⟩,_⟩:=I.loc;exact free _ o (fun z=>(hch _ z).2.1 rfl) ho I.free
 ·obtain ⟨v,o,ho,hd⟩:=I.cell x c e;exact free c o (fun z=>(hch c z).2.2.1 x c e rfl) ho (I.freeC x c e)
 ·obtain ⟨e,n,ne,nf,d⟩:=I.pin p hp;have nch:p.1∉ch:=fun z=>(hch p.1 z).2.2.2 p hp rfl
  exact ⟨keep p.1 p.2 ne nf nch e n,free p.1 p.2 nch e n,ne,nf,d⟩
theorem Inv.un {t':Nat} (I:Inv X pins σ H s) (u:Un X.fs [] H H' s.heap h') (hok:HOk X.prog X.w H' h'):Inv X pins σ H' {s with heap:=h',toks:=t'}:=by
 obtain ⟨m,⟨o,es,ep,ho,r⟩,_⟩:=id I.loc;obtain ⟨sl,hL⟩:=u.any ho I.free (by simp);exact I.step (g':=s.gens) (d':=s.drawn) (ch:=[]) (fun _ z=>nomatch z) (fun b o _ hb _ e n=>u.keep b o e n hb (by simp)) (fun b o _ hb _ e n=>u.slot b o e n hb (by simp)) (fun b o _ e n=>u.free b o e n (by simp)) (fun b o _ e=>u.there b o e (by simp)) u.tups u.frzs u.tbls (fun m' hm=>by
  obtain ⟨o',es',ep',ho',r'⟩:=hm;rw [ho] at ho';cases ho';exact ⟨_,es',ep',hL,r'⟩) hok I.bare
theorem Inv.call {g':Array GenState} {t':Nat} {d':Drawn} {ch:List Addr} (I:Inv X pins σ H s) (u:Un (frs X.stack) ch H H' s.heap h') (hok:HOk X.prog X.w H' h') (hg:AllBare g')
  (hch:∀b∈ch,(b∈X.ex\/X.s₀.heap.objs.size<=b)/\b≠X.env.locals/\(∀x c,X.env.cells.lookup x=some c->c≠b)/\∀p∈X.pn++pins,p.1≠b) :
  Inv X pins σ H' {s with heap:=h',gens:=g',drawn:=d',toks:=t'}:=by
 obtain ⟨m,⟨o,es,ep,ho,r⟩,_⟩:=id I.loc;obtain ⟨sl,hL⟩:=u.any ho I.free fun z=>(hch _ z).2.1 rfl
 exact I.step (ch:=ch) hch (fun b o hL hb hc e n=>u.keep b o e n (fun z=>(List.mem_cons.mp (I.A_ b z)).elim hL hb) hc) (fun b o _ _ hc e n=>u.any e n hc) (fun b o hc e n=>u.free b o e n hc) (fun b o hc e=>u.there b o e hc) u.tups u.frzs u.tbls (fun m' hm=>by
  obtain ⟨o',es',ep',ho',r'⟩:=hm;rw [ho] at ho';cases ho';exact ⟨_,es',ep',hL,r'⟩) hok hg
theorem Inv.turned {t':Nat} {it:Addr} (I:Inv X pins σ H s) (k:∀b o,b≠it->s.heap.get? b=some o->h'.get? b=some o) (hn:H it=none) (hL:it≠X.env.locals)
  (h1:it∈X.ex\/X.s₀.heap.objs.size<=it) (h2:∀x c,X.env.cells.lookup x=some c->c≠it) (h3:∀p∈X.pn++pins,p.1≠it):Inv X pins σ H {s with heap:=h',toks:=t'}:=by
 have nit:∀b u,H b=some u->b≠it:=fun b u e z=>by rw [z,hn] at e;cases e
 refine I.step (g':=s.gens) (d':=s.drawn) (ch:=[it]) (fun b hb=>?_) (fun b o _ _ hc e _=>k b o (fun z=>hc (by simp [z])) e) (fun b o _ _ hc e _=>⟨o.slots,k b o (fun z=>hc (by simp [z])) e⟩) (fun _ _ _ _ n=>n)
  (fun b o hc e=>⟨o,k b o (fun z=>hc (by simp [z])) e⟩) (fun _ _ e=>e) (fun _ _ _ e=>e) (fun b ps e=>⟨#[],by rw [e];simp⟩) (fun m hm=>?_) (fun b u e=>?_) I.bare
 ·have e:b=it:=by simpa using hb
  subst e;exact ⟨h1,hL,h2,h3⟩
 ·obtain ⟨o,es,ep,ho,r⟩:=hm;exact ⟨o,es,ep,k _ o (Ne.symm hL) ho,r⟩
 ·refine (I.hok b u e).stay (fun c v hc q=>k c v ?_ q) (fun _ q=>q) fun _ _ q=>q
  rcases hc with z|z
  ·rw [z];exact nit b u e
  ·exact nit c _ z
theorem Inv.tok (I:Inv X pins σ H s) (t:Nat):Inv X pins σ H {s with toks:=t}:=I.un (h':=s.heap) (t':=t) Un.refl I.hok
theorem Inv.kept {t':Nat} (I:Inv X pins σ H s) (k:∀b u,s.heap.get? b=some u->h'.get? b=some u):Inv X pins σ H {s with heap:=h',toks:=t'}:=I.un (Un.kept k) (I.hok.kept k)
theorem Inv.laid {a:Addr} {o:HO} {t':Nat} (I:Inv X pins σ H s) (k:∀b u,s.heap.get? b=some u->h'.get? b=some u) (hp:s.heap.objs.size<=a) (new:gJ X.prog X.w (upd H a o) h' a o) :
  Inv X pins σ (upd H a o) {s with heap:=h',toks:=t'}:=I.un (Un.laid k hp (I.hok.fresh hp)) (I.hok.laid k hp new)
theorem Inv.write {x e:Addr} {o:HO} {t':Nat} (I:Inv X pins σ H s) (mu:Mut (H x)) (he:e=x\/H e=some (.own x)) (k:∀b u,b≠e->s.heap.get? b=some u->h'.get? b=some u) (heo:∃u,h'.get? e=some u)
  (new:gJ X.prog X.w (upd H x o) h' x o):Inv X pins σ (upd H x o) {s with heap:=h',toks:=t'}:=I.un (Un.write mu he k heo) (I.hok.write mu he k heo new)
theorem Inv.weak {σ':List (Option V)} (I:Inv X pins σ H s) (hl:σ'.length=σ.length) (w:∀(i:Nat) v,σ'[i]?=some (some v)->σ[i]?=some (some v)):Inv X pins σ' H s:=
 ⟨I.ok,I.os,I.bare,I.base,let ⟨m,hn,hl'⟩:=I.loc;⟨m,hn,fun i x v e1 e2 e3=>hl' i x v e1 (w i v e2) e3⟩,I.cell,I.free,I.freeC,I.pin,I.hok,hl.trans I.len⟩
theorem Inv.yO {pins':List (Addr×Obj)} (I:Inv X pins σ H s) (h:∀p∈pins',s.heap.get? p.1=some p.2/\H p.1=none/\p.1≠X.env.locals/\p.1∉X.fs/\∀v,p.2.data≠.cell v):Inv X pins' σ H s:=
 ⟨I.ok,I.os,I.bare,I.base,I.loc,I.cell,I.free,I.freeC,fun p hp=>(List.mem_append.mp hp).elim (fun z=>I.pin p (List.mem_append_left _ z)) (h p),I.hok,I.len⟩
theorem BJ {N:List Str} (hN:N.Nodup) {i j:Nat} {x:Str} (a:N[i]?=some x) (b:N[j]?=some x):i=j:=by
 obtain ⟨h1,e1⟩:=List.getElem?_eq_some_iff.mp a;obtain ⟨h2,e2⟩:=List.getElem?_eq_some_iff.mp b;exact (List.getElem_inj hN).mp (e1.trans e2.symm)
theorem KD {M:Model} {A:Around} {E:Value->Shared->Prop} {i:Nat} {x:Str} {v:V} {u:Value} {Q:Unit->Shared->Prop} (I:Inv X pins σ H s) (hN:X.N.Nodup) (hi:X.N[i]?=some x) (hx:Loc X.env.scope x) (r:RelV v u)
  (h:∀s',Inv X pins (σ.set i (some v)) H s'->(∃a,Heap.SameBut a s.heap s'.heap/\(a=X.env.locals\/X.env.cells.lookup x=some a))->Q () s') (hf:X.fn x=true\/X.env.scope.names.lookup x=some .local:=by first|exact .inl rfl|exact .inr rfl|assumption):wpAny M A (storeName X.env x u) Q E s:=by
 obtain ⟨m,hn,hl⟩:=id I.loc;have hcls:(X.env.scope.kind==.class||(X.env.scope.kind==.module&&X.env.locals != X.env.globals))=false:=by rw [I.ok.kind];rfl
 have hiσ:i<σ.length:=by rw [I.len];exact (List.getElem?_eq_some_iff.mp hi).1
 have cne:=I.cne;have tracked:∀{a:Addr} {h':Heap},(∃o,s.heap.get? a=some o/\H a=none)->Heap.SameBut a s.heap h'->HOk X.prog X.w H h':=fun {a h'} ha hs b ob e=>by
  obtain ⟨_,_,hfree⟩:=ha;refine (I.hok b ob e).stay (fun c w' hc q=>(hs.2 c ?_).trans q) (fun _ q=>q) fun _ _ q=>q
  rintro rfl;rcases hc with rfl|hc
  ·rw [hfree] at e;cases e
  ·rw [hfree] at hc;cases hc
 rcases hx with hk|hk
 ·refine wpAny_storeName_local hk hn (fun h' hn' hs=>?_) hcls;obtain ⟨oL,_,_,hoL,_⟩:=id hn;refine h _ ⟨I.ok,I.os,I.bare,⟨fun b o e n hb hx=>?_,fun b o e n hb hx=>?_,I.base.free,fun b o e hx=>?_,I.base.tups,I.base.frzs,I.base.tbls⟩,⟨_,hn',fun j y v' e1 e2 e3=>?_⟩,fun y c e=>?_,I.free,I.freeC,fun p hp=>?_,tracked ⟨oL,hoL,I.free⟩ hs,by simpa using I.len⟩ ⟨_,hs,.inl rfl⟩
  ·exact (hs.2 b (Nat.ne_of_lt (Nat.lt_of_lt_of_le (Heap.lt_size e) I.ok.above))).trans (I.base.keep b o e n hb hx)
  ·obtain ⟨sl,e1⟩:=I.base.slot b o e n hb hx;exact ⟨sl,(hs.2 b (Nat.ne_of_lt (Nat.lt_of_lt_of_le (Heap.lt_size e) I.ok.above))).trans e1⟩
  ·obtain ⟨o',e1⟩:=I.base.there b o e hx;exact ⟨o',(hs.2 b (Nat.ne_of_lt (Nat.lt_of_lt_of_le (Heap.lt_size e) I.ok.above))).trans e1⟩
  ·by_cases hj:j=i
   ·subst hj;rw [hi] at e1;cases e1;rw [List.getElem?_set_self hiσ] at e2;cases e2;exact ⟨u,r,.inl ⟨hk,by simp⟩⟩
   ·rw [List.getElem?_set_ne (Ne.symm hj)] at e2;obtain ⟨u',r',q⟩:=hl j y v' e1 e2 e3;refine ⟨u',r',?_⟩;rcases q with ⟨k,e⟩|⟨k,c,e,z⟩
    ·refine .inl ⟨k,?_⟩;have:y≠x:=fun e=>hj (BJ hN e1 (e▸hi))
     simp [this,e]
    ·exact .inr ⟨k,c,e,z.sameBut hs (cne y c e)⟩
  ·obtain ⟨w',z⟩:=I.cell y c e;exact ⟨w',z.sameBut hs (cne y c e)⟩
  ·obtain ⟨e,n,ne,nf,d⟩:=I.pin p hp;exact ⟨(hs.2 p.1 ne).trans e,n,ne,nf,d⟩
 ·have hfn:X.fn x=true:=by
   rcases hf with z|z
   ·exact z
   ·rw [z] at hk;cases hk
  obtain ⟨c,hc⟩:=I.ok.has x (.inl hk);obtain ⟨w',z⟩:=I.cell x c hc;refine wpAny_storeName_cell I.ok.kind hk hc z (fun h' hc' hs=>?_);obtain ⟨oc,hoc,hocd⟩:=id z;refine h {s with heap:=h'} ⟨I.ok,I.os,I.bare,⟨fun b o e n hb hx=>?_,fun b o e n hb hx=>?_,I.base.free,fun b o e hx=>?_,I.base.tups,I.base.frzs,I.base.tbls⟩,⟨m,hn.sameBut hs (Ne.symm (cne x c hc)),fun j y v' e1 e2 e3=>?_⟩,fun y c' e=>?_,I.free,I.freeC,fun p hp=>?_,tracked ⟨oc,hoc,I.freeC x c hc⟩ hs,by simpa using I.len⟩ ⟨c,hs,.inr hc⟩
  ·exact (hs.2 b (Nat.ne_of_lt (Nat.lt_of_lt_of_le (Heap.lt_size e) (I.ok.cab x c hfn hc)))).trans (I.base.keep b o e n hb hx)
  ·obtain ⟨sl,e1⟩:=I.base.slot b o e n hb hx;exact ⟨sl,(hs.2 b (Nat.ne_of_lt (Nat.lt_of_lt_of_le (Heap.lt_size e) (I.ok.cab x c hfn hc)))).trans e1⟩
  ·obtain ⟨o',e1⟩:=I.base.there b o e hx;exact ⟨o',(hs.2 b (Nat.ne_of_lt (Nat.lt_of_lt_of_le (Heap.lt_size e) (I.ok.cab x c hfn hc)))).trans e1⟩
  ·by_cases hj:j=i
   ·subst hj;rw [hi] at e1;cases e1;rw [List.getElem?_set_self hiσ] at e2;cases e2;exact ⟨u,r,.inr ⟨.inl hk,c,hc,hc'⟩⟩
   ·rw [List.getElem?_set_ne (Ne.symm hj)] at e2;obtain ⟨u',r',q⟩:=hl j y v' e1 e2 e3;refine ⟨u',r',?_⟩;rcases q with q|⟨k,c',e,z'⟩
    ·exact .inl q
    ·refine .inr ⟨k,c',e,z'.sameBut hs ?_⟩;rintro rfl;exact hj (BJ hN e1 (I.ok.inj _ _ _ e hc▸hi))
  ·by_cases hcc:c'=c
   ·subst hcc;exact ⟨_,hc'⟩
   ·obtain ⟨w2,z2⟩:=I.cell y c' e;exact ⟨w2,z2.sameBut hs hcc⟩
  ·obtain ⟨e,n,ne,nf,d⟩:=I.pin p hp;refine ⟨(hs.2 p.1 ?_).trans e,n,ne,nf,d⟩;intro q;rw [q,hoc] at e;have q':oc=p.2:=Option.some.inj e;exact d w' (by rw [<-q'];exact hocd)
theorem BK {M:Model} {A:Around} {E:Value->Shared->Prop} {i:Nat} {x:Str} {v:V} {u:Value} {Q:Unit->Shared->Prop} (I:Inv X pins σ H s) (hN:X.N.Nodup) (hi:X.N[i]?=some x) (hx:Loc X.env.scope x) (r:RelV v u)
  (h:∀s',Inv X pins (σ.set i (some v)) H s'->Q () s') (hf:X.fn x=true\/X.env.scope.names.lookup x=some .local:=by first|exact .inl rfl|exact .inr rfl|assumption):wpAny M A (storeName X.env x u) Q E s:=
 KD I hN hi hx r (fun s' I' _=>h s' I') hf
end
abbrev XK:=Value->Option Addr->Hp->Prop
abbrev St:=List (Option V)
abbrev VK:=V->Hp->Prop
abbrev TE:=St->Hp->VK->Prop
abbrev TT:=St->Hp->(Bool->Hp->Prop)->Prop
abbrev TA:=St->Hp->(List V->Hp->Prop)->Prop
structure Ends where
 nx:St->Hp->Prop
 rt:VK
 bk:St->Hp->Prop:=fun _ _=>False
 ct:St->Hp->Prop:=fun _ _=>False
abbrev TS:=Ends->St->Hp->Prop
noncomputable def EP (X:Cx) (pins:List (Addr×Obj)) (σ:St) (Q:VK) (u:Value) (s':Shared):Prop:=∃v H',Inv X pins σ H' s'/\RelV v u/\Q v H'
noncomputable def TP (X:Cx) (pins:List (Addr×Obj)) (σ:St) (Q:Bool->Hp->Prop) (b:Bool) (s':Shared):Prop:=∃H',Inv X pins σ H' s'/\Q b H'
noncomputable def AP (X:Cx) (pins:List (Addr×Obj)) (σ:St) (Q:List V->Hp->Prop) (us:List Value) (s':Shared):Prop:=∃vs H',Inv X pins σ H' s'/\Vals vs us/\Q vs H'
noncomputable def SP (X:Cx) (pins:List (Addr×Obj)) (D:Ends) (f:Flow) (s':Shared):Prop:=
 match f with
 | .next=>∃σ' H',Inv X pins σ' H' s'/\D.nx σ' H'
 | .brk=>∃σ' H',Inv X pins σ' H' s'/\D.bk σ' H'
 | .cont=>∃σ' H',Inv X pins σ' H' s'/\D.ct σ' H'
 | .ret u=>∃v σ' H',Inv X pins σ' H' s'/\RelV v u/\D.rt v H'
noncomputable def PE (X:Cx) (e:Expr) (t:TE):Prop:=
 ∀(pins:List (Addr×Obj)) (s:Shared) (σ:St) (H:Hp) (Q:VK),Inv X pins σ H s->t σ H Q->wpAny (model X.prog X.w) X.A (eval e X.env) (EP X pins σ Q) X.xe s
noncomputable def PT (X:Cx) (e:Expr) (t:TT):Prop:=
 ∀(pins:List (Addr×Obj)) (s:Shared) (σ:St) (H:Hp) (Q:Bool->Hp->Prop),Inv X pins σ H s->t σ H Q->wpAny (model X.prog X.w) X.A (isTrue e X.env (eval e X.env)) (TP X pins σ Q) X.xe s
noncomputable def PW (X:Cx) (e:Expr) (t:TT):Prop:=
 ∀(whole:Sem Value) (pins:List (Addr×Obj)) (s:Shared) (σ:St) (H:Hp) (Q:Bool->Hp->Prop),Inv X pins σ H s->t σ H Q->wpAny (model X.prog X.w) X.A (isTrue e X.env whole) (TP X pins σ Q) X.xe s
theorem PW.pt {X:Cx} {e:Expr} {t:TT} (h:PW X e t):PT X e t:=h _
noncomputable def PA (X:Cx) (es:List Expr) (t:TA):Prop:=
 ∀(pos:Pos) (pins:List (Addr×Obj)) (s:Shared) (σ:St) (H:Hp) (Q:List V->Hp->Prop),Inv X pins σ H s->t σ H Q->wpAny (model X.prog X.w) X.A (spliced (backTo pos (starEach es X.env))) (AP X pins σ Q) X.xe s
noncomputable def PS (X:Cx) (st:Stmt) (t:TS):Prop:=
 ∀(pins:List (Addr×Obj)) (s:Shared) (σ:St) (H:Hp) (D:Ends),Inv X pins σ H s->t D σ H->wpAny (model X.prog X.w) X.A (exec st X.env) (SP X pins D) X.xe s
noncomputable def PSs (X:Cx) (st:List Stmt) (t:TS):Prop:=
 ∀(pins:List (Addr×Obj)) (s:Shared) (σ:St) (H:Hp) (D:Ends),Inv X pins σ H s->t D σ H->wpAny (model X.prog X.w) X.A (execs st X.env) (SP X pins D) X.xe s
theorem thn {α:Type} {t:Sem α} {Q Q':α->Shared->Prop} {M:Model} {A:Around} {E:Value->Shared->Prop} {s:Shared} (h:wpAny M A t Q E s) (hQ:∀a s,Q a s->Q' a s):wpAny M A t Q' E s:=wpAny_mono h hQ fun _ _ x=>x
end L2
namespace L2
open PySem PySem.Spec PyProof.Rows
section
variable {X:Cx}
def aFc (i:Nat):TE:=fun σ H Q=>∃v,σ[i]?=some (some v)/\Q v H
def tC (v:V):TE:=fun _ H Q=>Q v H
theorem dH {i:Nat} {x:Str} {pos:Pos} (hN:X.N[i]?=some x) (hv:Vis X.env.scope x) (hd:nDb x:=by decide) (hcd:nCd x:=by decide):PE X (.Name x pos) (aFc i):=by
 intro pins s σ H Q I h;obtain ⟨v,e,h⟩:=h;obtain ⟨m,hn,hl⟩:=I.loc;obtain ⟨u,r,l⟩:=hl i x v hN e hv;have fin:EP X pins σ Q u s:=⟨v,H,I,r,h⟩
 rcases l with ⟨hk,hm⟩|⟨hk,c,hc,hcell⟩
 ·exact wpAny_Name (wpAny_loadName_local I.ok.kind hk hn hm fin) hd
 ·rcases hk with hk|hk
  ·exact wpAny_Name (wpAny_loadName_cell I.ok.kind hk hc hcell fin) hd
  ·exact wpAny_Name (wpAny_loadName_free I.ok.kind hk hc hcell fin hcd) hd
theorem BL {i j pos}:PE X (.Constant (.int i) j pos) (tC (.int i)):=fun _ _ _ H _ I h=>wpAny_Constant_int ⟨.int i,H,I.tok _,⟨_,rfl⟩,h⟩
theorem aDj {b j pos}:PE X (.Constant (.bool b) j pos) (tC (.bl b)):=fun _ _ _ H _ I h=>Constant_bool ⟨.bl b,H,I,rfl,h⟩
theorem aAv {x j pos}:PE X (.Constant (.str x) j pos) (tC (.str x)):=fun _ _ _ H _ I h=>Calls.Constant_str ⟨.str x,H,I.tok _,⟨_,rfl⟩,h⟩
def Gl (X:Cx) (x:Str):Prop:=X.env.kindOf x=some .globalImplicit
theorem X3 {E:Value->Shared->Prop} {pins:List (Addr×Obj)} {s:Shared} {σ:St} {H:Hp} {x:Str} {u:Value} {pos:Pos} {Q:Value->Shared->Prop} (I:Inv X pins σ H s) (hg:Gl X x) (hm:X.mg x=some u) (h:Q u s)
  (hd:nDb x:=by decide):wpAny (model X.prog X.w) X.A (eval (.Name x pos) X.env) Q E s:=
 Calls.Name_function_global I.ok.kind hg (Calls.loadGlobal_global (by rw [I.ok.glob];exact I.mod.glob.keeps I.bk) hm h) hd
theorem v7 {E:Value->Shared->Prop} {pins:List (Addr×Obj)} {s:Shared} {σ:St} {H:Hp} {x:Str} {u:Value} {pos:Pos} {Q:Value->Shared->Prop} (I:Inv X pins σ H s) (hg:Gl X x) (hm:X.mg x=none) (hv:bootBuiltins x=some u) (h:Q u s)
  (hn:x ≠ "__name__":=by decide) (hd:nDb x:=by decide):wpAny (model X.prog X.w) X.A (eval (.Name x pos) X.env) Q E s:=by
 obtain ⟨mb,h1,h2⟩:=I.mod.blt;exact Calls.Name_function_global I.ok.kind hg (Calls.loadGlobal_builtin (by rw [I.ok.glob];exact I.mod.glob.keeps I.bk) hm (by rw [I.ok.blt];exact h1.keeps I.bk) ((h2 x hn).trans hv) h) hd
theorem X4 {x:Str} {v:V} {u:Value} {pos:Pos} (hg:Gl X x) (hm:X.mg x=none) (hv:bootBuiltins x=some u) (r:RelV v u) (hn:x ≠ "__name__":=by decide) (hd:nDb x:=by decide):PE X (.Name x pos) (tC v):=
 fun _ _ _ H _ I h=>v7 I hg hm hv ⟨v,H,I,r,h⟩ hn hd
variable {a b:Expr} {ta tb:TE} {pos:Pos}
variable {tA tB':TT} {rest:List Expr}
noncomputable def aFd (t u:TT):TT:=fun σ H Q=>t σ H fun c H1=>if c=true then u σ H1 Q else Q false H1
noncomputable def tOr (t u:TT):TT:=fun σ H Q=>t σ H fun c H1=>if c=true then Q true H1 else u σ H1 Q
def aFe (t:TT):TT:=fun σ H Q=>t σ H fun c H1=>Q (!c) H1
theorem X5 (ha:PT X a tA):PW X (.BoolOp .And [a] pos) tA:=by
 intro wh pins s σ H Q I h;refine isTrue_and (thn (ha pins s σ H Q I h) fun c s1 e=>?_);cases c with
 | true=>exact isTrue_and_nil e
 | false=>exact e
theorem aAw (ha:PT X a tA):PW X (.BoolOp .Or [a] pos) tA:=by
 intro wh pins s σ H Q I h;refine isTrue_or (thn (ha pins s σ H Q I h) fun c s1 e=>?_);cases c with
 | false=>exact isTrue_or_nil e
 | true=>exact e
theorem aAx (ha:PT X a tA) (hb:PW X (.BoolOp .And (b::rest) pos) tB'):PW X (.BoolOp .And (a::b::rest) pos) (aFd tA tB'):=by
 intro wh pins s σ H Q I h;refine isTrue_and (thn (ha pins s σ H _ I h) fun c s1 ⟨H1,I1,q1⟩=>?_);cases c with
 | true=>exact hb wh pins s1 σ H1 Q I1 q1
 | false=>exact ⟨H1,I1,q1⟩
theorem aDk (ha:PT X a tA) (hb:PW X (.BoolOp .Or (b::rest) pos) tB'):PW X (.BoolOp .Or (a::b::rest) pos) (tOr tA tB'):=by
 intro wh pins s σ H Q I h;refine isTrue_or (thn (ha pins s σ H _ I h) fun c s1 ⟨H1,I1,q1⟩=>?_);cases c with
 | true=>exact ⟨H1,I1,q1⟩
 | false=>exact hb wh pins s1 σ H1 Q I1 q1
theorem aAy (ha:PT X a tA):PT X (.UnaryOp .Not a pos) (aFe tA):=by
 intro pins s σ H Q I h;exact isTrue_not (ha pins s σ H (fun c H1=>Q (!c) H1) I h)
noncomputable def aDl (ta tb:TE):TE:=fun σ H Q=>ta σ H fun x H1=>∃c,x=.bl c/\if c=true then tb σ H1 Q else Q (.bl false) H1
def aDm (ta:TE):TE:=fun σ H Q=>ta σ H fun x H1=>∃c,x=.bl c/\Q (.bl (!c)) H1
theorem aAz {op} {t:TE} (h:PE X a t):PE X (.BoolOp op [a] pos) t:=fun pins s σ H Q I hw=>BoolOp_one (h pins s σ H Q I hw)
theorem aB0 (ha:PE X a ta) (hb:PE X (.BoolOp .And (b::rest) pos) tb):PE X (.BoolOp .And (a::b::rest) pos) (aDl ta tb):=by
 intro pins s σ H Q I h;refine BoolOp_and (thn (ha pins s σ H _ I h) fun v s1 ⟨x,H1,I1,r1,q1⟩=>?_);obtain ⟨c,rfl,q1⟩:=q1;cases r1;refine wpAny_truthy_bool ?_;cases c with
 | true=>exact hb pins s1 σ H1 Q I1 q1
 | false=>exact ⟨.bl false,H1,I1,rfl,q1⟩
theorem aB1 (ha:PE X a ta):PE X (.UnaryOp .Not a pos) (aDm ta):=by
 intro pins s σ H Q I h;refine UnaryOp_ (thn (ha pins s σ H _ I h) fun v s1 ⟨x,H1,I1,r1,q1⟩=>?_);obtain ⟨c,rfl,q1⟩:=q1;cases r1;exact not_of (wpAny_truthy_bool ⟨.bl (!c),H1,I1,rfl,q1⟩)
end
end L2
namespace L2
open PySem PySem.Spec PyProof.Rows
noncomputable def SqL (K:PySem.W.Frag) (H:Hp) (a:Addr) (xs:List V):Prop:=
 Rd H a (.lst xs)\/
  ∃(o:Obj) (its:Array Value) (n:Nat),K.lookup a=some o/\o.cls=.type "list"/\o.dict=none/\o.data=.seq its n/\its.size<=sizeLine/\Vals xs its.toList
noncomputable def SqT (K:PySem.W.Frag) (H:Hp) (a:Addr) (xs:List V):Prop:=
 Rd H a (.tup xs)\/
  ∃(o:Obj) (its:Array Value) (n:Nat),K.lookup a=some o/\o.cls=.type "tuple"/\o.data=.seq its n/\its.size<=sizeLine/\Vals xs its.toList
noncomputable def aFf:Value->Option V
 | .none=>some .non
 | .bool b=>some (.bl b)
 | .int i _=>some (.int i)
 | .str x _=>some (.str x)
 | .bytes b _=>some (.byt b)
 | .float b _=>some (.flt b)
 | .ref a=>some (.ref a)
 | .type n=>some (.ty n)
 | _=>none
theorem RelV.abs {x:V} {u:Value} (r:RelV x u):aFf u=some x:=by
 cases x with
 | non=>cases r;rfl
 | bl _=>cases r;rfl
 | int _=>obtain ⟨t,rfl⟩:=r;rfl
 | str _=>obtain ⟨t,rfl⟩:=r;rfl
 | byt _=>obtain ⟨t,rfl⟩:=r;rfl
 | flt _=>obtain ⟨t,rfl⟩:=r;rfl
 | ref _=>cases r;rfl
 | ty _=>cases r;rfl
theorem RelV.inj {x y:V} {u:Value} (r:RelV x u) (q:RelV y u):x=y:=Option.some.inj (r.abs.symm.trans q.abs)
theorem Vals.inj:∀{xs ys:List V} {us:List Value},Vals xs us->Vals ys us->xs=ys
 | _,_,_,.nil,.nil=>rfl
 | _,_,_,.cons r t,.cons r' t'=>by rw [r.inj r',Vals.inj t t']
section
variable {X:Cx} {pins:List (Addr×Obj)} {σ:St} {H:Hp} {s:Shared} {a:Addr} {xs ys:List V}
theorem SqL.of {K:PySem.W.Frag} (h:H a=some (.lst xs)):SqL K H a xs:=.inl (.inl h)
theorem SqT.of {K:PySem.W.Frag} (h:H a=some (.tup xs)):SqT K H a xs:=.inl (.inl h)
theorem Inv.list (I:Inv X pins σ H s) (h:SqL X.K H a xs):∃its:List Value,Vals xs its/\PlainL s.heap a its.toArray/\xs.length<=sizeLine:=by
 rcases h with h|⟨o,its,n,hk,hc,hd,hs,hz,r⟩
 ·obtain ⟨z,its,n,r,e⟩:=h.ok I.hok;exact ⟨its,r,⟨_,n,e,rfl,rfl,rfl⟩,z⟩
 ·refine ⟨its.toList,r,⟨o,n,I.kIn a o hk,hc,hd,by simpa using hs⟩,?_⟩;have e:=r.length;simp only [Array.length_toList] at e;lia
theorem Inv.tuple (I:Inv X pins σ H s) (h:SqT X.K H a xs):∃its:List Value,Vals xs its/\IsTup s.heap a its.toArray/\xs.length<=sizeLine:=by
 rcases h with h|⟨o,its,n,hk,hc,hs,hz,r⟩
 ·obtain ⟨z,its,r,p⟩:=h.ok I.hok;exact ⟨its,r,p.tup,z⟩
 ·refine ⟨its.toList,r,⟨o,I.kIn a o hk,hc,n,by simpa using hs⟩,?_⟩;have e:=r.length;simp only [Array.length_toList] at e;lia
theorem Inv.SQ (I:Inv X pins σ H s) (h:SqL X.K H a xs) (h':SqL X.K H a ys):xs=ys:=by
 obtain ⟨its,r,⟨o,n,e,_,_,d⟩,_⟩:=I.list h;obtain ⟨its',r',⟨o',n',e',_,_,d'⟩,_⟩:=I.list h';rw [e] at e';cases e';rw [d] at d';injection d' with d1 _
 have:its=its':=by simpa using congrArg Array.toList d1
 subst this;exact r.inj r'
theorem Inv.KH (I:Inv X pins σ H s) (h:SqT X.K H a xs) (h':SqT X.K H a ys):xs=ys:=by
 obtain ⟨its,r,⟨o,e,_,n,d⟩,_⟩:=I.tuple h;obtain ⟨its',r',⟨o',e',_,n',d'⟩,_⟩:=I.tuple h';rw [e] at e';cases e';rw [d] at d';injection d' with d1 _
 have:its=its':=by simpa using congrArg Array.toList d1
 subst this;exact r.inj r'
end
abbrev Cx.wish (X:Cx) (E:Value->Shared->Prop):Cx:={X with xe:=E}
abbrev Cx.nox (X:Cx):Cx:=X.wish fun _ _=>False
theorem Cx.Ok.wish {X:Cx} (ok:X.Ok) (E:Value->Shared->Prop):(X.wish E).Ok:=
 ⟨ok.mod,ok.kind,ok.glob,ok.blt,ok.above,ok.inj,ok.has,ok.cab,ok.hd,ok.frames,ok.stk,ok.exf,ok.bs,ok.bsz,ok.noex,ok.exfs,ok.J9,ok.frf⟩
theorem Cx.Ok.oG {X:Cx} {E:Value->Shared->Prop} (ok:(X.wish E).Ok):X.Ok:=
 ⟨ok.mod,ok.kind,ok.glob,ok.blt,ok.above,ok.inj,ok.has,ok.cab,ok.hd,ok.frames,ok.stk,ok.exf,ok.bs,ok.bsz,ok.noex,ok.exfs,ok.J9,ok.frf⟩
section
variable {X:Cx} {pins:List (Addr×Obj)} {σ:St} {H:Hp} {s:Shared} {E:Value->Shared->Prop}
theorem Inv.wish (I:Inv X pins σ H s) (E:Value->Shared->Prop):Inv (X.wish E) pins σ H s:=⟨I.ok.wish E,I.os,I.bare,I.base,I.loc,I.cell,I.free,I.freeC,I.pin,I.hok,I.len⟩
theorem Inv.oG (I:Inv (X.wish E) pins σ H s):Inv X pins σ H s:=⟨I.ok.oG,I.os,I.bare,I.base,I.loc,I.cell,I.free,I.freeC,I.pin,I.hok,I.len⟩
theorem SP.oG {D:Ends} {f:Flow} {s':Shared} (h:SP (X.wish E) pins D f s'):SP X pins D f s':=by
 cases f with
 | next=>obtain ⟨σ',H',I,q⟩:=h;exact ⟨σ',H',I.oG,q⟩
 | brk=>obtain ⟨σ',H',I,q⟩:=h;exact ⟨σ',H',I.oG,q⟩
 | cont=>obtain ⟨σ',H',I,q⟩:=h;exact ⟨σ',H',I.oG,q⟩
 | ret u=>obtain ⟨v,σ',H',I,r,q⟩:=h;exact ⟨v,σ',H',I.oG,r,q⟩
theorem PSs.nox {st:List Stmt} {t:TS} (h:PSs X.nox st t):PSs X st t:=fun pins s σ H D I hw=>
 wpAny_mono (h pins s σ H D (I.wish _) hw) (fun _ _ q=>q.oG) fun _ _ z=>False.elim z
end
section
variable {X:Cx} {st:Stmt} {rest:List Stmt} {t u:TS} {e:Expr} {te:TE} {pos:Pos}
def aDn:TS:=fun D σ H=>D.nx σ H
def aF1 (t u:TS):TS:=fun D σ H=>t {D with nx:=u D} σ H
theorem KJ:PSs X [] aDn:=fun _ _ σ H _ I h=>wpAny_execs_nil ⟨σ,H,I,h⟩
theorem o8 (h1:PS X st t) (h2:PSs X rest u):PSs X (st::rest) (aF1 t u):=by
 intro pins s σ H D I h;refine wpAny_execs_cons (thn (h1 pins s σ H {D with nx:=u D} I h) fun f s1 q=>?_);cases f with
 | next=>
  obtain ⟨σ',H',I',q⟩:=q;exact h2 pins s1 σ' H' D I' q
 | ret v=>exact q
 | brk=>exact q
 | cont=>exact q
theorem tW (h1:PS X st t):PSs X [st] t:=by
 intro pins s σ H D I h;refine wpAny_execs_cons (thn (h1 pins s σ H D I h) fun f s1 q=>?_);cases f with
 | next=>exact wpAny_execs_nil q
 | ret v=>exact q
 | brk=>exact q
 | cont=>exact q
theorem Inv.quiet {pins:List (Addr×Obj)} {σ:St} {H:Hp} {s:Shared} (I:Inv X pins σ H s):interactive X.env=false:=by simp [interactive,I.ok.kind]
def aDo (te:TE):TS:=fun D σ H=>te σ H fun _ H1=>D.nx σ H1
theorem nP (he:PE X e te) (hs:swapsWith e none pos.line X.env=pure false:=by rfl):PS X (.Expr e pos) (aDo te):=by
 intro pins s σ H D I h;exact wpAny_Expr_any (thn (he pins s σ H _ I h) fun v s1 ⟨x,H1,I1,r1,q1⟩=>⟨σ,H1,I1,q1⟩) I.quiet hs
def aFg (te:TE):TS:=fun D σ H=>te σ H D.rt
theorem BP (he:PE X e te):PS X (.Return (some e) pos) (aFg te):=by
 intro pins s σ H D I h;exact wpAny_Return_some (thn (he pins s σ H _ I h) fun v s1 ⟨x,H1,I1,r1,q1⟩=>⟨x,σ,H1,I1,r1,q1⟩)
noncomputable def aFh (c:TT) (t u:TS):TS:=fun D σ H=>c σ H fun b H1=>if b=true then t D σ H1 else u D σ H1
theorem aB2 {c:Expr} {a b:List Stmt} {tc:TT} (hc:PT X c tc) (ha:PSs X a t) (hb:PSs X b u):PS X (.If c a b pos) (aFh tc t u):=by
 intro pins s σ H D I h;refine wpAny_If (thn (hc pins s σ H _ I h) fun d s1 ⟨H1,I1,q1⟩=>?_);cases d with
 | true=>exact ha pins s1 σ H1 D I1 q1
 | false=>exact hb pins s1 σ H1 D I1 q1
end
abbrev TG:=V->St->Hp->(St->Hp->Prop)->Prop
abbrev TGs:=List V->St->Hp->(St->Hp->Prop)->Prop
noncomputable def PG (X:Cx) (target:Expr) (t:TG):Prop:=
 ∀(pins:List (Addr×Obj)) (s:Shared) (σ:St) (H:Hp) (v:V) (u:Value) (Q:St->Hp->Prop),Inv X pins σ H s->RelV v u->t v σ H Q->
  wpAny (model X.prog X.w) X.A (assign target X.env u) (fun _ s'=>∃σ' H',Inv X pins σ' H' s'/\Q σ' H') X.xe s
noncomputable def PGs (X:Cx) (ts:List Expr) (t:TGs):Prop:=
 ∀(pins:List (Addr×Obj)) (s:Shared) (σ:St) (H:Hp) (vs:List V) (us:List Value) (Q:St->Hp->Prop),Inv X pins σ H s->Vals vs us->t vs σ H Q->
  wpAny (model X.prog X.w) X.A (assignInOrder ((assignEach ts X.env).map (·.2)) us) (fun _ s'=>∃σ' H',Inv X pins σ' H' s'/\Q σ' H') X.xe s
section
variable {X:Cx} {pos:Pos}
def rT (i:Nat):TG:=fun v σ H Q=>Q (σ.set i (some v)) H
theorem bI {i:Nat} {x:Str} (hN:X.N.Nodup) (hi:X.N[i]?=some x) (hx:Loc X.env.scope x) (hf:X.fn x=true\/X.env.scope.names.lookup x=some .local:=by first|exact .inl rfl|exact .inr rfl|assumption):PG X (.Name x pos) (rT i):=by
 intro pins s σ H v u Q I r h;exact wpAny_assign_Name (BK I hN hi hx r (fun s' I'=>⟨_,H,I',h⟩) hf)
def aF2:TGs:=fun vs σ H Q=>vs=[]/\Q σ H
noncomputable def aB3 (t:TG) (u:TGs):TGs:=fun vs σ H Q=>∃v r,vs=v::r/\t v σ H fun σ' H'=>u r σ' H' Q
theorem nQ:PGs X [] aF2:=by
 intro pins s σ H vs us Q I r h;obtain ⟨e,h⟩:=h;subst e;cases r;exact assignInOrder_nil ⟨σ,H,I,h⟩
theorem dB {e:Expr} {es:List Expr} {t:TG} {u:TGs} (h1:PG X e t) (h2:PGs X es u)
  (hs:(assignEach (e::es) X.env).map (·.2)=assign e X.env::(assignEach es X.env).map (·.2):=by rfl):PGs X (e::es) (aB3 t u):=by
 intro pins s σ H vs us Q I r h;obtain ⟨v,vr,e1,h⟩:=h;subst e1;cases r with
 | cons r rr=>
  rw [hs];refine assignInOrder_cons (thn (h1 pins s σ H _ _ _ I r h) fun _ s1 ⟨σ1,H1,I1,q1⟩=>?_);exact h2 pins s1 σ1 H1 _ _ Q I1 rr q1
noncomputable def aDp (K:PySem.W.Frag) (n:Nat) (t:TGs):TG:=fun v σ H Q=>∃a xs,v=.ref a/\SqT K H a xs/\xs.length=n/\t xs σ H Q
theorem sY {es:List Expr} {k:Nat} {t:TGs} {n:Nat} (hc:X.calm=true) (h:PGs X es t)
  (hn:(assignEach es X.env).length=n:=by rfl) (hst:(assignEach es X.env).findIdx? (·.1)=none:=by rfl):PG X (.Tuple es k pos) (aDp X.K n t):=by
 intro pins s σ H v u Q I r hw;obtain ⟨a,xs,e1,hq,hl,hw⟩:=hw;subst e1;cases r;obtain ⟨its,rv,ht,hz⟩:=I.tuple hq;refine assign_Tuple_tuple (I.ok.hd hc) ht (by simp [hn,<-hl,rv.length]) hst fun h' hx=>?_
 have I1:Inv X pins σ H {s with heap:=h'}:=I.kept (t':=s.toks) fun b o e=>hx b o (Nat.ne_of_lt (Heap.lt_size e)) e
 exact h pins _ σ H xs _ Q I1 (by simpa using rv) hw
def aD5 (te:TE) (g:TG):TS:=fun D σ H=>te σ H fun x H1=>g x σ H1 D.nx
theorem lZ {i:Nat} {x:Str} {e:Expr} {te:TE} {pos':Pos} (hN:X.N.Nodup) (hi:X.N[i]?=some x) (hx:Loc X.env.scope x) (he:PE X e te) (hs:swapsWith e (some (.Name x pos')) pos.line X.env=pure false:=by rfl) (hf:X.fn x=true\/X.env.scope.names.lookup x=some .local:=by first|exact .inl rfl|exact .inr rfl|assumption) :
  PS X (.Assign [.Name x pos'] e pos) (aD5 te (rT i)):=by
 intro pins s σ H D I h;refine wpAny_Assign_Name (thn (he pins s σ H _ I h) fun v s1 ⟨y,H1,I1,r1,q1⟩=>?_) hs;exact BK I1 hN hi hx r1 (fun s2 I2=>⟨_,H1,I2,q1⟩) hf
end
section
variable {X:Cx} {pos:Pos}
noncomputable def aB4 (c:TT) (tb:TS):TS:=fun D σ H=>∃W:Nat->St->Hp->Prop,(∃m,W m σ H)/\∀m σ H,W m σ H->
 c σ H fun b H1=>if b=true then ∃N:St->Hp->Prop,(∀σ' H',N σ' H'->∃m',m'<m/\W m' σ' H')/\tb {D with nx:=N,ct:=N,bk:=D.nx} σ H1 else D.nx σ H1
theorem SX {c:Expr} {body:List Stmt} {tc:TT} {tb:TS} (hp:PassesOwn (model X.prog X.w) X.A X.env X.xe) (hc:PT X c tc) (hb:PSs X body tb):PS X (.While c body [] pos) (aB4 tc tb):=by
 intro pins s σ H D I h;obtain ⟨W,⟨m0,w0⟩,turn⟩:=h;refine wpAny_While (codeAny_whileLoop (fun n s'=>∃σ' H',Inv X pins σ' H' s'/\W n σ' H') ?_ m0 ⟨σ,H,I,w0⟩);rintro n s1 ⟨σ1,H1,I1,w1⟩;refine wpAny_passesOwn hp (thn (hc pins s1 σ1 H1 _ I1 (turn n σ1 H1 w1)) fun b s2 ⟨H2,I2,q2⟩=>?_);cases b with
 | true=>
  obtain ⟨N,hN,q2⟩:=q2;rw [if_pos rfl];refine wpAny_passesOwn hp (thn (hb pins s2 σ1 H2 _ I2 q2) fun f s3 q3=>?_);cases f with
  | next=>
   obtain ⟨σ3,H3,I3,n3⟩:=q3;obtain ⟨m',hm,w3⟩:=hN σ3 H3 n3;exact ⟨m',hm,σ3,H3,I3,w3⟩
  | cont=>
   obtain ⟨σ3,H3,I3,n3⟩:=q3;obtain ⟨m',hm,w3⟩:=hN σ3 H3 n3;exact ⟨m',hm,σ3,H3,I3,w3⟩
  | brk=>exact q3
  | ret v=>exact q3
 | false=>
  rw [if_neg Bool.false_ne_true];exact wpAny_execs_nil ⟨σ1,H2,I2,q2⟩
end
structure It where
 go:Nat->Hp->Prop
 yld:Nat->Hp->V->Hp->Prop
 stop:Nat->Hp->Prop
noncomputable def KN (X:Cx) (pins:List (Addr×Obj)) (H:Hp) (b:Addr):Prop:=
 H b=none/\b≠X.env.locals/\b∉X.fs/\(b∈X.ex\/X.s₀.heap.objs.size<=b)/\(∀x c,X.env.cells.lookup x=some c->c≠b)/\∀p∈X.pn++pins,p.1≠b
theorem Inv.aD6 {X:Cx} {pins:List (Addr×Obj)} {σ:St} {H H':Hp} {s:Shared} {b:Addr} (I:Inv X pins σ H s) (hb:s.heap.objs.size<=b) (hn:H' b=none):KN X pins H' b:=by
 refine ⟨hn,Nat.ne_of_gt (Nat.lt_of_lt_of_le I.lt hb),I.aF0 hb,.inr (Nat.le_trans I.sz hb),fun x c e z=>?_,fun p hp z=>?_⟩
 ·obtain ⟨v,q⟩:=I.cell x c e;exact absurd (Nat.lt_of_lt_of_le q.lt (by rw [z];exact hb)) (Nat.lt_irrefl _)
 ·exact absurd (Nat.lt_of_lt_of_le (Heap.lt_size (I.pin p hp).1) (by rw [z];exact hb)) (Nat.lt_irrefl _)
structure Turn (P:Program) (w:World) (K:PySem.W.Frag) (tg:Expr) (J:It) (fp:List Addr) (it:Addr) (tn:Nat->Heap->Prop):Prop where
 mem:it∈fp
 obj:∀i h,tn i h->∀b∈fp,∃o,h.get? b=some o/\∀v,o.data≠.cell v
 keep:∀i h h',tn i h->(∀b∈fp,∀o,h.get? b=some o->h'.get? b=some o)->tn i h'
 item:∀(X:Cx),X.prog=P->X.w=w->X.K=K->X.calm=true->∀(i:Nat) (pins:List (Addr×Obj)) (s:Shared) (σ:St) (H:Hp) (E:Value->Shared->Prop),Inv X pins σ H s->(∀b∈fp,KN X pins H b)->tn i s.heap->J.go i H->
  wpAny (model P w) X.A (pyNext (.ref it)) (fun r s1=>∃u,r=some u/\
   wpAny (model P w) X.A (letOwnedTupleGo tg (.ref it) u) (fun _ s2=>∃x H',Inv X pins σ H' s2/\RelV x u/\J.yld i H x H'/\tn (i+1) s2.heap/\∀b∈fp,H' b=none) E s1) E s
 done:∀(X:Cx),X.prog=P->X.w=w->X.K=K->X.calm=true->∀(i:Nat) (pins:List (Addr×Obj)) (s:Shared) (σ:St) (H:Hp) (E:Value->Shared->Prop),Inv X pins σ H s->(∀b∈fp,KN X pins H b)->tn i s.heap->J.stop i H->
  wpAny (model P w) X.A (pyNext (.ref it)) (fun r s1=>r=none/\Inv X pins σ H s1) E s
 self:∀(A:Around) (i:Nat) (s:Shared) (Q:Value->Shared->Prop) (E:Value->Shared->Prop),tn i s.heap->Q (.ref it) s->wpAny (model P w) A (pyIter (.ref it)) Q E s
abbrev TI:=St->Hp->(It->Hp->Prop)->Prop
noncomputable def PIE (X:Cx) (pins:List (Addr×Obj)) (σ:St) (tg:Expr) (R:It->Hp->Prop) (itv:Value) (s2:Shared):Prop:=
 ∃(it:Addr) (fp:List Addr) (tn:Nat->Heap->Prop) (J:It) (H':Hp),itv=.ref it/\Inv X pins σ H' s2/\Turn X.prog X.w X.K tg J fp it tn/\tn 0 s2.heap/\(∀b∈fp,KN X pins H' b)/\R J H'
noncomputable def PI (X:Cx) (tg iter:Expr) (wi:TI):Prop:=
 ∀(pins:List (Addr×Obj)) (s:Shared) (σ:St) (H:Hp) (R:It->Hp->Prop),Inv X pins σ H s->wi σ H R->
  wpAny (model X.prog X.w) X.A (eval iter X.env) (fun v s1=>wpAny (model X.prog X.w) X.A (pyIter v) (PIE X pins σ tg R) X.xe s1) X.xe s
theorem X6 {M:Model} {A:Around} {E:Value -> Shared -> Prop} {s:Shared} {tg:Expr} {it:Addr} {u:Value} {o:Obj} {n:String} {vs:Array Value} {Q:Unit -> Shared -> Prop} (ho:s.heap.get? it=some o) (hc:o.cls=.type n) (hd:o.data=.fields vs)
    (hn:["enumerate", "zip", "dict_itemiterator", "dict_reverseitemiterator", "odict_iterator", "itertools.zip_longest", "itertools.pairwise"].contains n=false) (hQ:Q () s):wpAny M A (letOwnedTupleGo tg (.ref it) u) Q E s := by
  unfold letOwnedTupleGo;cases tg <;> first
    | exact wpAny_pure hQ
    | (cases u <;> first
        | exact wpAny_pure hQ
        | (refine wpAny_bind (wpAny_load ho ?_)
           rw [hc, hd];show wpAny M A (if (["enumerate", "zip", "dict_itemiterator", "dict_reverseitemiterator", "odict_iterator", "itertools.zip_longest", "itertools.pairwise"].contains n&&vs[0]?==some (rawInt _))=true then _ else _) Q E s;rw [if_neg (by intro h; rw [hn, Bool.false_and] at h; cases h)];exact wpAny_pure hQ))
noncomputable def Itl (K:PySem.W.Frag) (a:Addr):It:=
 ⟨fun i H=>∃xs x,SqL K H a xs/\xs[i]?=some x,fun i H x H'=>H'=H/\∀xs,SqL K H a xs->xs[i]?=some x,fun i H=>∃xs,SqL K H a xs/\xs.length<=i⟩
noncomputable def Itt (K:PySem.W.Frag) (a:Addr):It:=
 ⟨fun i H=>∃xs x,SqT K H a xs/\xs[i]?=some x,fun i H x H'=>H'=H/\∀xs,SqT K H a xs->xs[i]?=some x,fun i H=>∃xs,SqT K H a xs/\xs.length<=i⟩
noncomputable def Itr (lo:Int) (n:Nat):It:=⟨fun i _=>i<n,fun i H x H'=>H'=H/\x=.int (lo+i),fun i _=>n<=i⟩
theorem v8 {P:Program} {w:World} {K:PySem.W.Frag} {tg:Expr} (a it:Addr):Turn P w K tg (Itl K a) [it] it (fun i h=>h.IsListIter it a i) where
 mem:=by simp
 obj:=fun i h st b hb=>by
  have e:b=it:=by simpa using hb
  subst e;obtain ⟨o,e,c,d⟩:=st;exact ⟨o,e,fun v z=>by rw [d] at z;cases z⟩
 keep:=fun i h h' st k=>st.at fun o e=>k it (by simp) o e
 item:=by
  intro X hP hw hK hc i pins s σ H E I hf st hg;subst hP hw hK;obtain ⟨xs,x,hq,hx⟩:=hg;obtain ⟨its,rv,p,hz⟩:=I.list hq;obtain ⟨u,hu,ru⟩:=rv.get hx;obtain ⟨f0,f1,f2,f3,f4,f5⟩:=hf it (by simp);refine wpAny_pyNext_list_item st p.isList (x:=u) (by simpa using hu) fun h' st' sb=>?_
  have I1:Inv X pins σ H {s with heap:=h'}:=I.turned (t':=s.toks) (fun b o hb e=>(sb.2 b hb).trans e) f0 f1 f3 f4 f5;obtain ⟨o,e,c,d⟩:=id st';exact ⟨u,rfl,X6 (s:={s with heap:=h'}) e c d (by decide) ⟨x,H,I1,ru,⟨rfl,fun ys hy=>by rw [I.SQ hy hq];exact hx⟩,st',fun b hb=>(hf b hb).1⟩⟩
 done:=by
  intro X hP hw hK hc i pins s σ H E I hf st hg;subst hP hw hK;obtain ⟨xs,hq,hx⟩:=hg;obtain ⟨its,rv,p,hz⟩:=I.list hq;obtain ⟨f0,f1,f2,f3,f4,f5⟩:=hf it (by simp);have hl:=rv.length;exact wpAny_pyNext_list_end (I.ok.hd hc) st p.isList (by simp;lia) fun h' eb=>⟨rfl,I.turned (t':=s.toks) (fun b o hb e=>eb b o hb e) f0 f1 f3 f4 f5⟩
 self:=fun _ _ _ _ _ st h=>wpAny_pyIter_listiter st h
theorem G9 {P:Program} {w:World} {K:PySem.W.Frag} {tg:Expr} (a it:Addr):Turn P w K tg (Itt K a) [it] it (fun i h=>h.IsTupleIter it a i) where
 mem:=by simp
 obj:=fun i h st b hb=>by
  have e:b=it:=by simpa using hb
  subst e;obtain ⟨o,e,c,d⟩:=st;exact ⟨o,e,fun v z=>by rw [d] at z;cases z⟩
 keep:=fun i h h' st k=>st.at fun o e=>k it (by simp) o e
 item:=by
  intro X hP hw hK hc i pins s σ H E I hf st hg;subst hP hw hK;obtain ⟨xs,x,hq,hx⟩:=hg;obtain ⟨its,rv,p,hz⟩:=I.tuple hq;obtain ⟨u,hu,ru⟩:=rv.get hx;obtain ⟨f0,f1,f2,f3,f4,f5⟩:=hf it (by simp);refine wpAny_pyNext_tuple_item st (show s.heap.IsTuple a its.toArray from p) (x:=u) (by simpa using hu) fun h' st' sb=>?_
  have I1:Inv X pins σ H {s with heap:=h'}:=I.turned (t':=s.toks) (fun b o hb e=>(sb.2 b hb).trans e) f0 f1 f3 f4 f5;obtain ⟨o,e,c,d⟩:=id st';exact ⟨u,rfl,X6 (s:={s with heap:=h'}) e c d (by decide) ⟨x,H,I1,ru,⟨rfl,fun ys hy=>by rw [I.KH hy hq];exact hx⟩,st',fun b hb=>(hf b hb).1⟩⟩
 done:=by
  intro X hP hw hK hc i pins s σ H E I hf st hg;subst hP hw hK;obtain ⟨xs,hq,hx⟩:=hg;obtain ⟨its,rv,p,hz⟩:=I.tuple hq;obtain ⟨f0,f1,f2,f3,f4,f5⟩:=hf it (by simp);have hl:=rv.length;exact wpAny_pyNext_tuple_end (I.ok.hd hc) st (show s.heap.IsTuple a its.toArray from p) (by simp;lia) fun h' eb=>⟨rfl,I.turned (t':=s.toks) (fun b o hb e=>eb b o hb e) f0 f1 f3 f4 f5⟩
 self:=fun _ _ _ _ _ st h=>wpAny_pyIter_tupleiter st h
theorem G_ {P:Program} {w:World} {K:PySem.W.Frag} {tg:Expr} (it:Addr) (lo:Int) (n:Nat):Turn P w K tg (Itr lo n) [it] it (fun i h=>IsRangeIter h it (lo+(i:Nat)*1) ((n:Int)-(i:Nat)) 1) where
 mem:=by simp
 obj:=fun i h st b hb=>by
  have e:b=it:=by simpa using hb
  subst e;exact ⟨_,st,fun v z=>by
   have z':Data.fields _=Data.cell v:=z;cases z'⟩
 keep:=fun i h h' st k=>k it (by simp) _ st
 item:=by
  intro X hP hw hK hc i pins s σ H E I hf st hg;subst hP hw hK;obtain ⟨f0,f1,f2,f3,f4,f5⟩:=hf it (by simp);have W:=Walks.range (prog:=X.prog) (w:=X.w) (I.ok.hd hc) it lo 1 n;refine W.item i s _ _ hg st fun v h' tk hv st' kk=>?_
  obtain ⟨t,rfl⟩:=hv;have I1:Inv X pins σ H {s with heap:=h',toks:=tk}:=I.turned (fun b o hb e=>kk b o (by simpa using hb) e) f0 f1 f3 f4 f5;refine ⟨_,rfl,X6 (s:={s with heap:=h',toks:=tk}) (n := "range_iterator") st' rfl rfl (by decide) ⟨.int (lo+i),H,I1,⟨t,?_⟩,⟨rfl,rfl⟩,st',fun b hb=>(hf b hb).1⟩⟩;rw [Int.mul_one]
 done:=by
  intro X hP hw hK hc i pins s σ H E I hf st hg;subst hP hw hK;obtain ⟨f0,f1,f2,f3,f4,f5⟩:=hf it (by simp);exact wpAny_pyNext_range_end (I.ok.hd hc) st (by have:n<=i:=hg;lia) fun h' eb=>⟨rfl,I.turned (t':=s.toks) (fun b o hb e=>eb b o hb e) f0 f1 f3 f4 f5⟩
 self:=fun _ _ _ _ _ st h=>wpAny_pyIter_rangeiter st h
end L2
namespace L2
open PySem PySem.Spec PyProof.Rows
section
variable {X:Cx} {tg:Expr}
noncomputable def aDq (K:PySem.W.Frag) (tl:TE):TI:=fun σ H R=>tl σ H fun x H1=>∃a,x=.ref a/\(∃xs,SqL K H1 a xs)/\R (Itl K a) H1
theorem KQ {l:Expr} {tl:TE} (hl:PE X l tl):PI X tg l (aDq X.K tl):=by
 intro pins s σ H R I h;refine thn (hl pins s σ H _ I h) fun v s1 ⟨x,H1,I1,r1,q1⟩=>?_
 obtain ⟨a,e,⟨xs,hq⟩,q⟩:=q1;subst e;cases r1;obtain ⟨its,rv,p,hz⟩:=I1.list hq;refine wpAny_pyIter_list p.isList ?_;refine ⟨s1.heap.objs.size,[s1.heap.objs.size],_,_,H1,rfl,I1.kept (t':=s1.toks) fun b o e=>Heap.get?_push_of_some _ e,v8 a _,⟨_,Heap.get?_push_size _ rfl,rfl,rfl⟩,fun b hb=>?_,q⟩;have e:b=s1.heap.objs.size:=by simpa using hb
 subst e;exact I1.aD6 (Nat.le_refl _) (I1.hok.fresh (Nat.le_refl _))
theorem S5 {pins:List (Addr×Obj)} {σ:St} {H:Hp} {s:Shared} {R:It->Hp->Prop} {E:Value->Shared->Prop} {lo hi:Int} {t u v:Tok} {tk:Nat} (I:Inv X pins σ H s) (h1:-(2 ^ 62)<=lo) (h2:lo<2 ^ 62) (h3:-(2 ^ 62)<=hi) (h4:hi<2 ^ 62)
  (q:R (Itr lo (hi-lo).toNat) H):wpAny (model X.prog X.w) X.A (pyIter (.ref s.heap.objs.size)) (PIE X pins σ tg R) E {s with heap:=s.heap.push {cls:=.type "range",data:=.fields #[.int lo t,.int hi u,.int 1 v]},toks:=tk}:=by
 refine wpAny_pyIter_range (IsRange.new ..) (small_one h1 h2 h3 h4) ?_;have I1:Inv X pins σ H {s with heap:=s.heap.push {cls:=.type "range",data:=.fields #[.int lo t,.int hi u,.int 1 v]},toks:=tk}:=I.kept fun b o e=>Heap.get?_push_of_some _ e
 refine ⟨(s.heap.push {cls:=.type "range",data:=.fields #[.int lo t,.int hi u,.int 1 v]}).objs.size,[(s.heap.push {cls:=.type "range",data:=.fields #[.int lo t,.int hi u,.int 1 v]}).objs.size],_,_,H,rfl,
  I1.kept (t':=tk) fun b o e=>Heap.get?_push_of_some _ e,G_ _ lo (hi-lo).toNat,?_,fun b hb=>?_,q⟩
 ·have e1:lo+((0:Nat):Int)*1=lo:=by simp
  have e2:(((hi-lo).toNat:Nat):Int)-((0:Nat):Int)=Builtin.Range.rangeSize lo hi 1:=by rw [rangeSize_one];split <;> lia
  show IsRangeIter _ _ (lo+((0:Nat):Int)*1) ((((hi-lo).toNat:Nat):Int)-((0:Nat):Int)) 1;rw [e1,e2];exact Heap.get?_push_size _ rfl
 ·have e:b=(s.heap.push {cls:=.type "range",data:=.fields #[.int lo t,.int hi u,.int 1 v]}).objs.size:=by simpa using hb
  subst e;exact I1.aD6 (Nat.le_refl _) (I1.hok.fresh (Nat.le_refl _))
noncomputable def aDr (ta:TA):TI:=fun σ H R=>ta σ H fun vs H1=>∃j:Int,vs=[.int j]/\-(2 ^ 62)<=j/\j<2 ^ 62/\R (Itr 0 j.toNat) H1
theorem KR {a:Expr} {ta:TA} {p pos:Pos} (hg:Gl X "range") (hm:X.mg "range" = none) (ha:PA X [a] ta) (hs:starEach [a] X.env=[(false,eval a X.env)]:=by rfl):PI X tg (.Call (.Name "range" p) [a] [] pos) (aDr ta):=by
 intro pins s σ H R I h;refine Call_ (v7 I hg hm boot_range (PyProof.Rows.callWith_type1 (thn (ha pos pins s σ H _ I h) fun us s1 ⟨vs,H1,I1,r1,q1⟩=>?_) hs rfl));obtain ⟨j,e,q1,q2,q⟩:=q1;subst e;cases r1 with
 | cons r rr=>
  cases rr;obtain ⟨t,rfl⟩:=r;exact call_range_1 (S5 I1 (by lia) (by lia) q1 q2 (by simpa using q))
noncomputable def aFi (wi:TI) (g:TG) (tb:TS):TS:=fun D σ H=>wi σ H fun J H1=>∃W:Nat->Nat->St->Hp->Prop,(∃m,W 0 m σ H1)/\∀i m σ H,W i m σ H->
 (J.stop i H/\D.nx σ H)\/(J.go i H/\∃N:St->Hp->Prop,(∀σ' H',N σ' H'->∃m',m'<m/\W (i+1) m' σ' H')/\∀x H',J.yld i H x H'->g x σ H' fun σ2 H2=>tb {D with nx:=N,ct:=N,bk:=D.nx} σ2 H2)
noncomputable def pK (fp:List Addr) (h:Heap):List (Addr×Obj):=fp.filterMap fun b=>(h.get? b).map fun o=>(b,o)
theorem jX {fp:List Addr} {h:Heap} {b:Addr} {o:Obj} (hb:b∈fp) (e:h.get? b=some o):(b,o)∈pK fp h:=List.mem_filterMap.mpr ⟨b,hb,by rw [e];rfl⟩
theorem KY {fp:List Addr} {h:Heap} {p:Addr×Obj} (hp:p∈pK fp h):p.1∈fp/\h.get? p.1=some p.2:=by
 obtain ⟨b,hb,e⟩:=List.mem_filterMap.mp hp;cases q:h.get? b with
 | none=>rw [q] at e;cases e
 | some o=>
  rw [q] at e;have e':(b,o)=p:=Option.some.inj e;subst e';exact ⟨hb,q⟩
theorem Inv.pinned {pins:List (Addr×Obj)} {σ:St} {H:Hp} {s:Shared} {fp:List Addr} (I:Inv X pins σ H s) (hf:∀b∈fp,KN X pins H b) (ho:∀b∈fp,∃o,s.heap.get? b=some o/\∀v,o.data≠.cell v):Inv X (pins++pK fp s.heap) σ H s:=
 I.yO fun p hp=>(List.mem_append.mp hp).elim (fun z=>I.pin p (List.mem_append_right _ z)) fun z=>by
  obtain ⟨hb,e⟩:=KY z;obtain ⟨f0,f1,f2,_⟩:=hf p.1 hb;obtain ⟨o,e',d⟩:=ho p.1 hb;rw [e] at e';cases e';exact ⟨e,f0,f1,f2,d⟩
theorem Inv.l_ {pins pl:List (Addr×Obj)} {σ:St} {H:Hp} {s:Shared} (I:Inv X (pins++pl) σ H s):Inv X pins σ H s:=I.yO fun p hp=>I.pin p (List.mem_append_right _ (List.mem_append_left _ hp))
theorem pM {iter:Expr} {body:List Stmt} {wi:TI} {g:TG} {tb:TS} {pos:Pos} (hp:PassesOwn (model X.prog X.w) X.A X.env X.xe) (hc:X.calm=true) (hi:PI X tg iter wi) (hg:PG X tg g) (hb:PSs X body tb)
  (hs:∀x,foldedSetIterable iter X.env x=pure x:=by intro _;rfl):PS X (.For tg iter body [] pos) (aFi wi g tb):=by
 intro pins s σ H D I h;refine wpAny_For (thn (hi pins s σ H _ I h) fun v s1 h1=>thn h1 fun itv s2 h2=>?_) hs;obtain ⟨it,fp,tn,J,H2,e,I2,T,st2,f2,W,⟨m0,w0⟩,turn⟩:=h2;subst e
 -- what stays true of the iterator's objects through the loop
 have stat:∀{H':Hp},(∀b∈fp,H' b=none)->∀b∈fp,KN X pins H' b:=fun hn b hb=>⟨hn b hb,(f2 b hb).2⟩
 refine codeAny_forLoop_any (fun n s'=>∃i σ' H',Inv X pins σ' H' s'/\tn i s'.heap/\(∀b∈fp,H' b=none)/\W i n σ' H') ?_ m0 ⟨0,σ,H2,I2,st2,fun b hb=>(f2 b hb).1,w0⟩;rintro n s3 ⟨i,σ3,H3,I3,st3,fr3,w3⟩;rcases turn i n σ3 H3 w3 with ⟨stop,qn⟩|⟨go,N,hN,step⟩
 ·refine wpAny_passesOwn hp (thn (T.done X rfl rfl rfl hc i pins s3 σ3 H3 X.xe I3 (stat fr3) st3 stop) fun r s4 ⟨hr,I4⟩=>?_);subst hr;exact wpAny_execs_nil ⟨σ3,H3,I4,qn⟩
 ·refine wpAny_passesOwn hp (thn (T.item X rfl rfl rfl hc i pins s3 σ3 H3 X.xe I3 (stat fr3) st3 go) fun r s4 ⟨u,hr,h4⟩=>?_);subst hr;refine wpAny_passesOwn hp (thn h4 fun _ s5 ⟨x,H5,I5,r5,y5,st5,fr5⟩=>?_);have I5':=I5.pinned (stat fr5) (T.obj _ _ st5);refine wpAny_passesOwn hp (thn (hg _ s5 σ3 H5 x u _ I5' r5 (step x H5 y5)) fun _ s6 ⟨σ6,H6,I6,q6⟩=>?_);refine wpAny_passesOwn hp (thn (hb _ s6 σ6 H6 _ I6 q6) fun f s7 q7=>?_);have again:∀{σ7:St} {H7:Hp},Inv X (pins++pK fp s5.heap) σ7 H7 s7->N σ7 H7->∃m,m<n/\∃i σ' H',Inv X pins σ' H' s7/\tn i s7.heap/\(∀b∈fp,H' b=none)/\W i m σ' H':=fun {σ7 H7} I7 n7=>by
   obtain ⟨m',hm,w7⟩:=hN σ7 H7 n7;refine ⟨m',hm,i+1,σ7,H7,I7.l_,T.keep _ _ _ st5 fun b hb o e=>(I7.pin (b,o) (List.mem_append_right _ (List.mem_append_right _ (jX hb e)))).1,fun b hb=>?_,w7⟩;obtain ⟨o,e,d⟩:=T.obj _ _ st5 b hb;exact (I7.pin (b,o) (List.mem_append_right _ (List.mem_append_right _ (jX hb e)))).2.1
  cases f with
  | next=>obtain ⟨σ7,H7,I7,n7⟩:=q7;exact again I7 n7
  | cont=>obtain ⟨σ7,H7,I7,n7⟩:=q7;exact again I7 n7
  | brk=>obtain ⟨σ7,H7,I7,q7⟩:=q7;exact ⟨σ7,H7,I7.l_,q7⟩
  | ret v=>obtain ⟨x7,σ7,H7,I7,r7,q7⟩:=q7;exact ⟨x7,σ7,H7,I7.l_,r7,q7⟩
end
end L2
namespace L2
open PySem PySem.Spec PyProof.Rows
abbrev R2:=V->V->Hp->VK->Prop
noncomputable def OpR (X:Cx) (f:Value->Value->Sem Value) (r:R2):Prop:=
 ∀(pins:List (Addr×Obj)) (s:Shared) (σ:St) (H:Hp) (x y:V) (v u:Value) (Q:VK),Inv X pins σ H s->RelV x v->RelV y u->r x y H Q->
  wpAny (model X.prog X.w) X.A (f v u) (EP X pins σ Q) X.xe s
noncomputable def UnR (X:Cx) (f:Value->Sem Value) (r:V->Hp->VK->Prop):Prop:=
 ∀(pins:List (Addr×Obj)) (s:Shared) (σ:St) (H:Hp) (x:V) (v:Value) (Q:VK),Inv X pins σ H s->RelV x v->r x H Q->
  wpAny (model X.prog X.w) X.A (f v) (EP X pins σ Q) X.xe s
noncomputable def jA (X:Cx) (f:Value) (r:List V->Hp->VK->Prop):Prop:=
 ∀(pins:List (Addr×Obj)) (s:Shared) (σ:St) (H:Hp) (xs:List V) (us:List Value) (Q:VK),Inv X pins σ H s->Vals xs us->r xs H Q->
  wpAny (model X.prog X.w) X.A (call f us) (EP X pins σ Q) X.xe s
noncomputable def aFj (X:Cx) (r:V->Hp->(Bool->Hp->Prop)->Prop):Prop:=
 ∀(pins:List (Addr×Obj)) (s:Shared) (σ:St) (H:Hp) (x:V) (v:Value) (Q:Bool->Hp->Prop),Inv X pins σ H s->RelV x v->r x H Q->
  wpAny (model X.prog X.w) X.A (truthy v) (TP X pins σ Q) X.xe s
noncomputable def tOp (r:R2) (ta tb:TE):TE:=fun σ H Q=>ta σ H fun x H1=>tb σ H1 fun y H2=>r x y H2 Q
def tUn (r:V->Hp->VK->Prop) (ta:TE):TE:=fun σ H Q=>ta σ H fun x H1=>r x H1 Q
noncomputable def rI (C:Int->Int->Prop) (g:Int->Int->V):R2:=fun x y H Q=>∃i j,x=.int i/\y=.int j/\C i j/\Q (g i j) H
noncomputable def rI0 (g:Int->Int->V):R2:=fun x y H Q=>∃i j,x=.int i/\y=.int j/\Q (g i j) H
def rU (g:Int->V):V->Hp->VK->Prop:=fun x H Q=>∃i,x=.int i/\Q (g i) H
section
variable {X:Cx} {a b c:Expr} {ta tb tc:TE} {pos:Pos}
theorem aDs (ha:PE X a ta) (hb:PE X b tb) {pins:List (Addr×Obj)} {s:Shared} {σ:St} {H:Hp} {R:V->V->Hp->Prop} (I:Inv X pins σ H s)
  (h:ta σ H fun x H1=>tb σ H1 fun y H2=>R x y H2) {Q:Value->Shared->Prop} {f:Value->Value->Sem Value}
  (hf:∀v u s2 x y H2,Inv X pins σ H2 s2->RelV x v->RelV y u->R x y H2->wpAny (model X.prog X.w) X.A (f v u) Q X.xe s2) :
  wpAny (model X.prog X.w) X.A (eval a X.env) (fun v s₁=>wpAny (model X.prog X.w) X.A (eval b X.env) (fun u s₂=>wpAny (model X.prog X.w) X.A (f v u) Q X.xe s₂) X.xe s₁) X.xe s:=by
 refine thn (ha pins s σ H _ I h) fun v s1 ⟨x,H1,I1,r1,q1⟩=>?_
 refine thn (hb pins s1 σ H1 _ I1 q1) fun u s2 ⟨y,H2,I2,r2,q2⟩=>?_
 exact hf v u s2 x y H2 I2 r1 r2 q2
theorem aDt {op:Operator} {r:R2} (ho:OpR X (binaryOp op) r) (ha:PE X a ta) (hb:PE X b tb):PE X (.BinOp a op b pos) (tOp r ta tb):=by
 intro pins s σ H Q I h;exact wpAny_BinOp (aDs ha hb I h fun v u s2 x y H2 I2 rx ry q=>ho pins s2 σ H2 x y v u Q I2 rx ry q)
theorem aDu {op:UnaryOp} {r:V->Hp->VK->Prop} (ho:UnR X (unaryOp op) r) (ha:PE X a ta):PE X (.UnaryOp op a pos) (tUn r ta):=by
 intro pins s σ H Q I h;exact UnaryOp_ (thn (ha pins s σ H _ I h) fun v s1 ⟨x,H1,I1,r1,q1⟩=>ho pins s1 σ H1 x v Q I1 r1 q1)
theorem opI {f:Value->Value->Sem Value} {C:Int->Int->Prop} {g:Int->Int->Int}
  (rule:∀(i j:Int) (t u:Tok) (s:Shared) (Q:Value->Shared->Prop) (E:Value->Shared->Prop),C i j->Q (.int (g i j) s.toks) {s with toks:=s.toks+1}->wpAny (model X.prog X.w) X.A (f (.int i t) (.int j u)) Q E s) :
  OpR X f (rI C fun i j=>.int (g i j)):=by
 intro pins s σ H x y v u Q I rx ry h;obtain ⟨i,j,rfl,rfl,hc,q⟩:=h;obtain ⟨t,rfl⟩:=rx;obtain ⟨t',rfl⟩:=ry;exact rule i j t t' s _ _ hc ⟨.int (g i j),H,I.tok _,⟨_,rfl⟩,q⟩
theorem aF3 {f:Value->Value->Sem Value} {g:Int->Int->Int}
  (rule:∀(i j:Int) (t u:Tok) (s:Shared) (Q:Value->Shared->Prop) (E:Value->Shared->Prop),Q (.int (g i j) s.toks) {s with toks:=s.toks+1}->wpAny (model X.prog X.w) X.A (f (.int i t) (.int j u)) Q E s) :
  OpR X f (rI0 fun i j=>.int (g i j)):=by
 intro pins s σ H x y v u Q I rx ry h;obtain ⟨i,j,rfl,rfl,q⟩:=h;obtain ⟨t,rfl⟩:=rx;obtain ⟨t',rfl⟩:=ry;exact rule i j t t' s _ _ ⟨.int (g i j),H,I.tok _,⟨_,rfl⟩,q⟩
def aFk (i j:Int):Prop:=0<j/\j<1073741824
def aFl (i j:Int):Prop:=0<=j/\j<=1000000/\i.natAbs<2 ^ 64
def aDv (i j:Int):Prop:=(-(2 ^ 64)<i/\i<2 ^ 64)\/(-(2 ^ 64)<j/\j<2 ^ 64)
theorem aDv.ok {i j:Int} (h:aDv i j):IntMulOk i j:=by
 rcases h with ⟨h1,h2⟩|⟨h1,h2⟩
 ·exact .of_left (intBits_le_64 h1 h2)
 ·exact .of_right (intBits_le_64 h1 h2)
theorem aB5:OpR X (binaryOp .Add) (rI0 fun i j=>.int (i+j)):=aF3 fun _ _ _ _ _ _ _ q=>add_int q
theorem aB6:OpR X (binaryOp .Sub) (rI0 fun i j=>.int (i-j)):=aF3 fun _ _ _ _ _ _ _ q=>sub_int q
theorem aB7:OpR X (binaryOp .Mult) (rI aDv fun i j=>.int (i*j)):=opI fun _ _ _ _ _ _ _ hc q=>mul_int q hc.ok
theorem X7:OpR X (binaryOp .FloorDiv) (rI aFk fun i j=>.int (i / j)):=opI fun i j _ _ _ _ _ hc q=>by
 have h1:(0:Int)<j:=hc.1;have h2:j<1073741824:=hc.2;exact floordiv_int (by lia) (by rw [Int.fdiv_eq_ediv_of_nonneg i (by lia)];exact q) (.inl (PyProof.noPylong_small (by lia)))
theorem aB8:OpR X (binaryOp .Mod) (rI (fun _ j=>0<j) fun i j=>.int (i % j)):=opI fun i j _ _ _ _ _ hc q=>by
 have h1:(0:Int)<j:=hc;exact mod_int' (by lia) (by rw [Int.fmod_eq_emod_of_nonneg i (by lia)];exact q)
theorem aB9:OpR X (binaryOp .Pow) (rI aFl fun i j=>.int (i ^ j.toNat)):=opI fun _ _ _ _ _ _ _ hc q=>pow_int_small hc.1 hc.2.1 hc.2.2 q
theorem unI {f:Value->Sem Value} {g:Int->Int}
  (rule:∀(i:Int) (t:Tok) (s:Shared) (Q:Value->Shared->Prop) (E:Value->Shared->Prop),Q (.int (g i) s.toks) {s with toks:=s.toks+1}->wpAny (model X.prog X.w) X.A (f (.int i t)) Q E s) :
  UnR X f (rU fun i=>.int (g i)):=by
 intro pins s σ H x v Q I rx h;obtain ⟨i,rfl,q⟩:=h;obtain ⟨t,rfl⟩:=rx;exact rule i t s _ _ ⟨.int (g i),H,I.tok _,⟨_,rfl⟩,q⟩
theorem aBa:UnR X (unaryOp .USub) (rU fun i=>.int (-i)):=unI fun _ _ _ _ _ q=>neg_int q
end
section
variable {X:Cx} {a b c:Expr} {ta tb tc:TE} {pos:Pos}
theorem cW (b:Expr) {op:CmpOp} (h:op≠.In:=by decide) (h2:op≠.NotIn:=by decide):behindInMarks op b=false:=by
 have e1:(op==CmpOp.In)=false:=by cases op <;> first|rfl|exact absurd rfl h
 have e2:(op==CmpOp.NotIn)=false:=by cases op <;> first|rfl|exact absurd rfl h2
 cases b <;> simp [behindInMarks,e1,e2]
theorem X8 {op:CmpOp} {r:R2} (ho:OpR X (compareOp op) r) (ha:PE X a ta) (hb:PE X b tb) (hm:behindInMarks op b=false):PE X (.Compare a [op] [b] pos) (tOp r ta tb):=by
 intro pins s σ H Q I h;exact wpAny_Compare1 (aDs ha hb I h fun v u s2 x y H2 I2 rx ry q=>ho pins s2 σ H2 x y v u Q I2 rx ry q) hm
def aBb (t:TE):TT:=fun σ H Q=>t σ H fun x H'=>∃k,x=.bl k/\Q k H'
theorem X_ {op:CmpOp} {r:R2} (ho:OpR X (compareOp op) r) (ha:PE X a ta) (hb:PE X b tb) (hm:behindInMarks op b=false):PT X (.Compare a [op] [b] pos) (aBb (tOp r ta tb)):=by
 intro pins s σ H Q I h;refine wpAny_isTrue_Compare1 (thn (ha pins s σ H _ I h) fun v s1 ⟨x,H1,I1,r1,q1⟩=>thn (hb pins s1 σ H1 _ I1 q1) fun u s2 ⟨y,H2,I2,r2,q2⟩=>
  thn (ho pins s2 σ H2 x y v u _ I2 r1 r2 q2) fun c s3 ⟨z,H3,I3,r3,k,e,q3⟩=>?_) hm
 subst e;cases r3;exact wpAny_truthy_bool ⟨H3,I3,q3⟩
noncomputable def WN (r r':R2) (ta tb tc:TE):TE:=fun σ H Q=>ta σ H fun x H1=>tb σ H1 fun y H2=>r x y H2 fun z H3=>∃k,z=.bl k/\
 (if k=true then tc σ H3 fun w' H4=>r' y w' H4 Q else Q (.bl false) H3)
theorem S6 {op op':CmpOp} {r r':R2} (ho:OpR X (compareOp op) r) (ho':OpR X (compareOp op') r') (ha:PE X a ta) (hb:PE X b tb) (hc:PE X c tc)
  (hm:lastMarks [op,op'] [b,c]=false:=by with_unfolding_all rfl):PT X (.Compare a [op,op'] [b,c] pos) (aBb (WN r r' ta tb tc)):=by
 intro pins s σ H Q I h;refine isTrue_chain (thn (ha pins s σ H _ I h) fun v s1 ⟨x,H1,I1,r1,q1⟩=>test_link (thn (hb pins s1 σ H1 _ I1 q1) fun u s2 ⟨y,H2,I2,r2,q2⟩=>
  thn (ho pins s2 σ H2 x y v u _ I2 r1 r2 q2) fun d s3 ⟨z,H3,I3,r3,k,e,q3⟩=>?_)) hm
 subst e;cases r3;refine wpAny_truthy_bool ?_;cases k with
 | false=>
  obtain ⟨k',e',q'⟩:=q3;cases e';exact ite_ff ⟨H3,I3,q'⟩
 | true=>
  refine ite_tt (test_last (thn (hc pins s3 σ H3 _ I3 q3) fun w' s4 ⟨z',H4,I4,r4,q4⟩=>thn (ho' pins s4 σ H4 y z' u w' _ I4 r2 r4 q4) fun d' s5 ⟨z2,H5,I5,r5,k2,e2,q5⟩=>?_));subst e2;cases r5;exact wpAny_truthy_bool ⟨H5,I5,q5⟩
noncomputable def aDw (K:PySem.W.Frag) (x:V) (H:Hp) (k:Bool):Prop:=
 match x with
 | .non=>k=false
 | .bl b=>k=b
 | .int i=>k=(i != 0)
 | .str y=>y.length<=sizeLine/\k=((y.length:Int) != 0)
 | .byt y=>y.size<=sizeLine/\k=((y.size:Int) != 0)
 | .ref p=>(∃xs,SqL K H p xs/\k=!xs.isEmpty)\/(∃xs,SqT K H p xs/\k=!xs.isEmpty)\/∃kvs,H p=some (.dK kvs)/\k=!kvs.isEmpty
 | _=>False
theorem HB {κ:Type} {kvs:List (κ×V)} {vs:List (κ×Value)} (r:KV kvs vs):(!vs.isEmpty)=!kvs.isEmpty:=by
 cases r <;> rfl
theorem sZ {xs:List V} {its:List Value} (r:Vals xs its):(!its.toArray.isEmpty)=!xs.isEmpty:=by
 cases r <;> simp
theorem tB:(sizeLine:Nat)<2 ^ 63:=by rw [sizeLine_eq];decide
theorem aBc:aFj X (fun x H Q=>∃k,aDw X.K x H k/\Q k H):=by
 intro pins s σ H x v Q I rx h;obtain ⟨k,e,q⟩:=h;have hl:=tB;have hs:sizeLine=16777216:=sizeLine_eq;cases x with
 | non=>
  cases rx;have e':k=false:=e;subst e';exact truthy_none ⟨H,I,q⟩
 | bl b=>
  cases rx;have e':k=b:=e;subst e';exact wpAny_truthy_bool ⟨H,I,q⟩
 | int i=>
  obtain ⟨t,rfl⟩:=rx;have e':k=(i != 0):=e;subst e';exact PySem.P.truthy_int ⟨H,I,q⟩
 | str y=>
  obtain ⟨t,rfl⟩:=rx;obtain ⟨hy,e'⟩:y.length<=sizeLine/\k=((y.length:Int) != 0):=e;subst e';exact PySem.P.truthy_str (by lia) ⟨H,I.tok _,q⟩
 | byt y=>
  obtain ⟨t,rfl⟩:=rx;obtain ⟨hy,e'⟩:y.size<=sizeLine/\k=((y.size:Int) != 0):=e;subst e';exact PySem.W.truthy_bytes (by lia) ⟨H,I.tok _,q⟩
 | ref p=>
  cases rx;have e':(∃xs,SqL X.K H p xs/\k=!xs.isEmpty)\/(∃xs,SqT X.K H p xs/\k=!xs.isEmpty)\/∃kvs,H p=some (.dK kvs)/\k=!kvs.isEmpty:=e;rcases e' with ⟨xs,hx,e'⟩|⟨xs,hx,e'⟩|⟨kvs,hx,e'⟩
  ·subst e';obtain ⟨its,r,pl,hz⟩:=I.list hx;have hlen:=r.length;exact wpAny_truthy_list pl.isList (by simp only [List.size_toArray];lia) ⟨H,I.tok _,by rw [sZ r];exact q⟩
  ·subst e';obtain ⟨its,r,pl,hz⟩:=I.tuple hx;have hlen:=r.length;exact truthy_tuple pl (by simp only [List.size_toArray];lia) ⟨H,I.tok _,by rw [sZ r];exact q⟩
  ·subst e';obtain ⟨hz,hS,vs,r,m⟩:kvs.length<=sizeLine/\(p==sysModules)=false/\∃vs,KV kvs vs/\s.heap.DictOf (b_ X.prog X.w) p vs:=I.hok p _ hx;have hlen:kvs.length=vs.length:=Paired.length r;exact wpAny_truthy_dict hS m (by lia) ⟨H,I.tok _,by rw [HB r];exact q⟩
 | _=>exact (show False from e).elim
theorem S7 (ha:PE X a ta) (he:∀whole,isTrue a X.env whole=(do let v <- whole;standAt a.pos;holding [v] (truthy v))) :
  PT X a (fun σ H Q=>ta σ H fun x H'=>∃k,aDw X.K x H' k/\Q k H'):=by
 intro pins s σ H Q I h;exact isTrue_plain (thn (ha pins s σ H _ I h) fun v s1 ⟨x,H1,I1,r1,q1⟩=>aBc pins s1 σ H1 x v Q I1 r1 q1) (he _)
theorem HD:OpR X (binaryOp .Add) (fun x y H Q=>∃i j,x=.str i/\y=.str j/\i.length+j.length<=sizeLine/\Q (.str (i++j)) H):=by
 intro pins s σ H x y v u Q I rx ry h;obtain ⟨i,j,rfl,rfl,hz,q⟩:=h;obtain ⟨t,rfl⟩:=rx;obtain ⟨t',rfl⟩:=ry;exact add_str (fun t' tk=>⟨.str (i++j),H,I.tok _,⟨_,rfl⟩,q⟩) hz
theorem vals1 {x:V} {us:List Value} (r:Vals [x] us):∃u,us=[u]/\RelV x u:=by
 cases r with
 | cons r1 r2=>cases r2;exact ⟨_,rfl,r1⟩
end
end L2
namespace L2
open PySem PySem.Spec PyProof.Rows
section
variable {prog:Program} {w:World} {A:Around} {E:Value->Shared->Prop} {s:Shared} {K:PySem.W.Frag} {x dx C f:Addr} {mA:Str->Option Value} {name:Str} {v:Value}
end
theorem R3.some_of {v:V} {o:Option Value} (r:R3 (some v) o):∃u,o=some u/\RelV v u:=by
 cases o with
 | none=>exact (show False from r).elim
 | some u=>exact ⟨u,rfl,r⟩
section
variable {P:Program} {w:World} {H H':Hp} {h h':Heap} {a C dx:Addr} {fs fs':List (Str×V)}
end
section
variable {X:Cx} {pins:List (Addr×Obj)} {σ:St} {H:Hp} {s:Shared} {a C dx:Addr} {fs:List (Str×V)} {f:Str} {v:V} {A:Around} {E:Value->Shared->Prop}
end
section
variable {X:Cx} {o e value:Expr} {f:Str} {pos pos' tpos:Pos} {ta tv:TE}
end
section
variable {X:Cx} {pins:List (Addr×Obj)} {σ:St} {H:Hp} {s:Shared} {A:Around} {E:Value->Shared->Prop} {Q:Value->Shared->Prop} {c:Value} {b:Bool}
end
end L2
namespace L2
open PySem PySem.Spec PyProof.Rows
structure o9 (k:Nat) (A:Around):Prop where
 hd:A.handled=none
 dp:A.depth+3*k+5<recursionLimit
 un:A.units+16*k+200<cLine
theorem o9.mono {j k:Nat} {A:Around} (r:o9 k A) (h:j<=k):o9 j A:=⟨r.hd,by have:=r.dp;lia,by have:=r.un;lia⟩
theorem o9.deeper {k:Nat} {A:Around} (r:o9 (k+1) A) (env:Env):o9 k (A.deeper env):=
 ⟨r.hd,by have:=r.dp;show A.depth+1+3*k+5<_;lia,by have:=r.un;show A.units+3+16*k+200<_;lia⟩
theorem o9.depth {k:Nat} {A:Around} (r:o9 k A):A.depth<recursionLimit:=by have:=r.dp;lia
theorem o9.units {k:Nat} {A:Around} (r:o9 k A):A.units+64<cLine:=by have:=r.un;lia
def aFm:TA:=fun _ H Q=>Q [] H
noncomputable def aDx (ta:TE) (tr:TA):TA:=fun σ H Q=>ta σ H fun x H1=>tr σ H1 fun xs H2=>Q (x::xs) H2
section
variable {X:Cx} {e:Expr} {es:List Expr} {te:TE} {t:TA} {pos:Pos}
theorem gU:PA X [] aFm:=fun _ _ _ _ H Q I h=>Calls.spliced_nil ⟨[],H,I,.nil,h⟩
theorem eV (ha:PE X e te) (hr:PA X es t) (hs:starEach (e::es) X.env=(false,eval e X.env)::starEach es X.env:=by rfl):PA X (e::es) (aDx te t):=by
 intro pos pins s σ H Q I h;rw [hs];show wpAny _ _ (spliced ((false,eval e X.env)::backTo pos (starEach es X.env))) _ _ s;refine Calls.spliced_cons (thn (ha pins s σ H _ I h) fun u s1 ⟨x,H1,I1,r1,q1⟩=>?_);exact thn (hr pos pins s1 σ H1 _ I1 q1) fun us s2 ⟨xs,H2,I2,r2,q2⟩=>⟨x::xs,H2,I2,.cons r1 r2,q2⟩
noncomputable def aFn (t:TA):TE:=fun σ H Q=>t σ H fun xs H1=>xs.length<=sizeLine/\∀p,H1 p=none->Q (.ref p) (upd H1 p (.tup xs))
noncomputable def aD7 (t:TA):TE:=fun σ H Q=>t σ H fun xs H1=>xs.length<=sizeLine/\∀p,H1 p=none->Q (.ref p) (upd H1 p (.lst xs))
theorem aBd {x1} (h:PA X es t):PE X (.Tuple es x1 pos) (aFn t):=by
 intro pins s σ H Q I hq;refine wpAny_Tuple_spliced (thn (h pos pins s σ H _ I hq) fun us s1 ⟨xs,H1,I1,r,z,q⟩=>⟨by rw [<-r.length];exact z,?_⟩);have hf:H1 s1.heap.objs.size=none:=I1.hok.fresh (Nat.le_refl _);refine ⟨.ref s1.heap.objs.size,upd H1 s1.heap.objs.size (.tup xs),I1.laid (t':=s1.toks) (fun b u e=>Heap.get?_push_of_some _ e) (Nat.le_refl _) ?_,rfl,q _ hf⟩;exact ⟨z,us,r,⟨_,Heap.get?_push_size _ rfl,rfl,_,rfl⟩⟩
theorem tD (h:PA X es t):PE X (.List es pos) (aD7 t):=by
 intro pins s σ H Q I hq;refine wpAny_List_spliced (thn (h pos pins s σ H _ I hq) fun us s1 ⟨xs,H1,I1,r,z,q⟩=>⟨by rw [<-r.length];exact z,?_⟩);have hf:H1 s1.heap.objs.size=none:=I1.hok.fresh (Nat.le_refl _);refine ⟨.ref s1.heap.objs.size,upd H1 s1.heap.objs.size (.lst xs),I1.laid (t':=s1.toks) (fun b u e=>Heap.get?_push_of_some _ e) (Nat.le_refl _) ?_,rfl,q _ hf⟩;exact ⟨z,us,0,r,Heap.get?_push_size _ rfl⟩
end
abbrev Sp:=List V->Hp->VK->XK->Prop
abbrev CXT:=List Env->Hp->Shared->XK->Value->Shared->Prop
structure aD8 (P:Program) (w:World) (K:PySem.W.Frag) (mg:Str->Option Value) (base:Heap) (A:Around) (outer:List Env) (s:Shared) (H:Hp):Prop where
 frames:A.frames=some outer
 mod:Mod K mg base
 bs:∀b o,base.get? b=some o->s.heap.get? b=some o/\H b=none
 bsz:base.objs.size<=s.heap.objs.size
 J9:s.heap.FunFrames base outer
 frf:∀b∈frs outer,H b=none
 hok:HOk P w H s.heap
 bare:AllBare s.gens
noncomputable def CE (outer:List Env) (P:Program) (w:World) (H:Hp) (s:Shared) (Q:VK) (u:Value) (s':Shared):Prop:=
 ∃v H',s'.os=s.os/\AllBare s'.gens/\Un (frs outer) [] H H' s.heap s'.heap/\HOk P w H' s'.heap/\RelV v u/\Q v H'
noncomputable def CR (CX:CXT) (outer:List Env) (P:Program) (w:World) (H:Hp) (s:Shared) (Q:VK) (E:XK) (r:Result) (s':Shared):Prop:=
 match r with
 | .ok (.ret u)=>CE outer P w H s Q u s'
 | .ok _=>False
 | .error e=>CX outer H s E e s'
structure HF (P:Program) (w:World) (K:PySem.W.Frag) (mg:Str->Option Value) (base:Heap) (CX:CXT) (k:Nat) (f:Addr) (fd:FuncData) (ps:List Str) (sp:Sp):Prop where
 len:∀vs H Q E,sp vs H Q E->vs.length=ps.length
 run:∀(A:Around) (outer:List Env) (s:Shared) (H:Hp) (args:Args) (us:List Value) (vs:List V) (Q:VK) (E:XK),o9 k A->aD8 P w K mg base A outer s H->BindsTo s fd args (ps.zip us)->Vals vs us->sp vs H Q E->
  codeAny (model P w) A (.call (.ref f) args) (CR CX outer P w H s Q E) s
section
variable {X:Cx} {pins:List (Addr×Obj)} {σ:St} {H:Hp} {s s':Shared}
theorem Inv.env0 (I:Inv X pins σ H s):aD8 X.prog X.w X.K X.mg X.base X.A X.stack s H:=
 ⟨I.ok.frames,I.ok.mod,I.bs,Nat.le_trans I.ok.bsz I.sz,I.stack,I.J_,I.hok,I.bare⟩
theorem Inv.after {Q:VK} {u:Value} (I:Inv X pins σ H s) (h:CE X.stack X.prog X.w H s Q u s'):EP X pins σ Q u s':=by
 obtain ⟨v,H',os,bare,un,hok,r,q⟩:=h;obtain ⟨hh,g,d,t,os'⟩:=s';obtain rfl:os'=s.os:=os;exact ⟨v,H',I.call (h':=hh) (g':=g) (d':=d) (t':=t) (ch:=[]) un hok bare (fun b z=>absurd z (by simp)),r,q⟩
end
noncomputable def aDy (sp:Sp) (dvs:List V) (E:XK) (t:TA):TE:=fun σ H Q=>t σ H fun vs H1=>sp (vs++dvs) H1 Q E
noncomputable def Binds (K:PySem.W.Frag) (fd:FuncData) (ps:List Str) (ds:List Value):Prop:=
 ∀(s:Shared) (us:List Value),K.In s.heap->(us++ds).length=ps.length->BindsTo s fd ⟨us,[]⟩ (ps.zip (us++ds))
theorem Binds.all {K:PySem.W.Frag} {fd:FuncData} {ps:List Str} (h:∀us:List Value,us.length=ps.length->bindArgs fd ⟨us,[]⟩=pure (ps.zip us)):Binds K fd ps []:=fun s us _ hl=>by
 rw [List.append_nil] at hl ⊢;exact .of_eq (h us hl)
noncomputable def KZ (CX:CXT) (X:Cx) (E:XK):Prop:=∀(pins:List (Addr×Obj)) (σ:St) (H:Hp) (s:Shared) (e:Value) (s':Shared),Inv X pins σ H s->CX X.stack H s E e s'->X.xe e s'
section
variable {X:Cx} {CX:CXT} {k:Nat} {f C:Addr} {fd:FuncData} {ps:List Str} {sp:Sp} {dvs:List V} {ds:List Value} {E:XK} {x m:Str} {p pos apos:Pos} {e o:Expr} {es:List Expr} {ta:TE} {t:TA}
theorem aBe {pins:List (Addr×Obj)} {σ:St} {H:Hp} {s:Shared} {Q:VK} {us:List Value} {vs:List V} (F:HF X.prog X.w X.K X.mg X.base CX k f fd ps sp) (hr:o9 k X.A) (hb:Binds X.K fd ps ds) (hd:Vals dvs ds) (hx:KZ CX X E)
  (I:Inv X pins σ H s) (r:Vals vs us) (h:sp (vs++dvs) H Q E):wpAny (model X.prog X.w) X.A (call (.ref f) us) (EP X pins σ Q) X.xe s:=by
 have r2:Vals (vs++dvs) (us++ds):=r.append hd;have hl:(us++ds).length=ps.length:=by rw [<-r2.length];exact F.len _ _ _ _ h
 refine wpAny_call (codeAny_mono (F.run X.A X.stack s H ⟨us,[]⟩ (us++ds) (vs++dvs) Q E hr I.env0 (hb s us I.kIn hl) r2 h) fun r s' hq=>?_);cases r with
 | error e=>exact hx pins σ H s e s' I hq
 | ok fl=>
  cases fl with
  | ret u=>exact I.after hq
  | next=>exact False.elim hq
  | brk=>exact False.elim hq
  | cont=>exact False.elim hq
theorem YB (F:HF X.prog X.w X.K X.mg X.base CX k f fd ps sp) (hr:o9 k X.A) (hg:Gl X x) (hm:X.mg x=some (.ref f)) (hk:PySem.W.keepIn X.K (.ref f)=true) (hb:Binds X.K fd ps ds) (hd:Vals dvs ds) (hx:KZ CX X E)
  (ha:PA X (e::es) t) (hdb:nDb x:=by decide) (he:starEach (e::es) X.env=(false,eval e X.env)::starEach es X.env:=by rfl) (hpl:(backTo pos (starEach es X.env)).any (·.1)=false:=by rfl) :
  PE X (.Call (.Name x p) (e::es) [] pos) (aDy sp dvs E t):=by
 intro pins s σ H Q I h;refine wpAny_Call_Name_kw (X3 I hg hm ?_ hdb);refine PySem.W.callWith_K (h₀:=X.base) I.ok.mod.kin hk (thn (ha pos pins s σ H _ I h) fun us s1 ⟨vs,H1,I1,r,q⟩=>⟨I1.kIn,?_⟩) he hpl;exact aBe F hr hb hd hx I1 r q
end
section
variable {X:Cx} {CX:CXT} {k:Nat} {f C:Addr} {fd:FuncData} {ps ks:List Str} {sp:Sp} {E:XK} {x m:Str} {p pos apos kpos:Pos} {e o:Expr} {es:List Expr} {kws:List Keyword} {te ta:TE} {t tk:TA} {nm:Option Str}
variable {g:List Value->List Value->List Value} {gV:List V->List V->List V}
end
structure bY (N P:List Str) (sc:Scope):Prop where
 kind:sc.kind=.function
 co:sc.isCoroutine=false
 gen:sc.isGenerator=false
 nd:N.Nodup
 pre:N.take P.length=P
 par:∀x∈P,sc.names.lookup x=some .local\/sc.names.lookup x=some .cell
 nofree:∀y∈sc.names,y.2≠.free
theorem v9 {kindOf:Str->Option NameKind} {x:Str}:∀{binds:List (Str×Value)} {m:Str->Option Value},(∀v,(x,v)∉binds)->bindL kindOf binds m x=m x
 | [],_,_=>rfl
 | (n,v)::r,m,h=>by
  unfold bindL;rw [v9 fun w hw=>h w (List.mem_cons_of_mem _ hw)];split
  ·have:x≠n:=by rintro rfl;exact h v List.mem_cons_self
   simp [this]
  ·rfl
theorem v_ {kindOf:Str->Option NameKind} {x:Str}:∀{binds:List (Str×Value)} {m:Str->Option Value},(∀v,(x,v)∉binds)->bindC kindOf binds m x=m x
 | [],_,_=>rfl
 | (n,v)::r,m,h=>by
  unfold bindC;rw [v_ fun w hw=>h w (List.mem_cons_of_mem _ hw)];split
  ·rfl
  ·have:x≠n:=by rintro rfl;exact h v List.mem_cons_self
   simp [this]
theorem wA {kindOf:Str->Option NameKind} {x:Str} {v:Value}:∀{P:List Str} {vs:List Value} {i:Nat} {m:Str->Option Value},P.Nodup->P[i]?=some x->vs[i]?=some v->kindOf x=some .local->
  bindL kindOf (P.zip vs) m x=some v
 | [],_,_,_,_,h,_,_=>by simp at h
 | _::_,[],_,_,_,_,h,_=>by simp at h
 | p::P,w::vs,0,m,nd,h1,h2,hk=>by
  simp at h1 h2;subst h1;subst h2;show bindL kindOf ((p,w)::P.zip vs) m p=_;unfold bindL;rw [v9 fun v hv=>(List.nodup_cons.mp nd).1 (List.of_mem_zip hv).1,if_pos hk];simp
 | p::P,w::vs,i+1,m,nd,h1,h2,hk=>by
  show bindL kindOf ((p,w)::P.zip vs) m x=_;unfold bindL;exact wA (i:=i) (List.nodup_cons.mp nd).2 (by simpa using h1) (by simpa using h2) hk
theorem wB {kindOf:Str->Option NameKind} {x:Str} {v:Value}:∀{P:List Str} {vs:List Value} {i:Nat} {m:Str->Option Value},P.Nodup->P[i]?=some x->vs[i]?=some v->kindOf x≠some .local->
  bindC kindOf (P.zip vs) m x=some v
 | [],_,_,_,_,h,_,_=>by simp at h
 | _::_,[],_,_,_,_,h,_=>by simp at h
 | p::P,w::vs,0,m,nd,h1,h2,hk=>by
  simp at h1 h2;subst h1;subst h2;show bindC kindOf ((p,w)::P.zip vs) m p=_;unfold bindC;rw [v_ fun v hv=>(List.nodup_cons.mp nd).1 (List.of_mem_zip hv).1,if_neg hk];simp
 | p::P,w::vs,i+1,m,nd,h1,h2,hk=>by
  show bindC kindOf ((p,w)::P.zip vs) m x=_;unfold bindC;exact wB (i:=i) (List.nodup_cons.mp nd).2 (by simpa using h1) (by simpa using h2) hk
noncomputable def start (N:List Str) (vs:List V):St:=vs.map some++List.replicate (N.length-vs.length) none
noncomputable def R4 (CX:CXT) (P:Program) (w:World) (K:PySem.W.Frag) (mg:Str->Option Value) (base:Heap) (N:List Str) (qual:Str) (scope:Scope) (f:Addr) (cd:Value) (A:Around) (outer:List Env) (s:Shared) (H:Hp) (E:XK):Cx where
 prog:=P
 w:=w
 K:=K
 mg:=mg
 base:=base
 A:=A.deeper (envOfC qual scope s.heap.objs.size f cd)
 N:=N
 s₀:=s
 H₀:=H
 env:=envOfC qual scope s.heap.objs.size f cd
 outer:=outer
 stack:=envOfC qual scope s.heap.objs.size f cd::outer
 ex:=[]
 calm:=true
 fn:=fun _=>true
 pn:=[]
 xe:=fun e s'=>wpAny (model P w) (A.deeper (envOfC qual scope s.heap.objs.size f cd)) (leaving (envOfC qual scope s.heap.objs.size f cd) e) (fun _ s''=>CX outer H s E e s'') (fun e' s''=>CX outer H s E e' s'') s'
theorem BR {sc:Scope} {n:Nat} {x:Str} (h:sc.names.lookup x=some .cell):∃c,(cellsFrom n sc.names []).lookup x=some c:=by
 have q:=PySem.W.cellsFrom_some sc.names n [] (.inl h);exact Option.isSome_iff_exists.mp q
theorem K1 {CX:CXT} {P:Program} {w:World} {K:PySem.W.Frag} {mg:Str->Option Value} {base:Heap} {N ps:List Str} {qual:Str} {scope:Scope} {f:Addr} {cd:Value} {A:Around} {outer:List Env} {s s1:Shared} {H:Hp} {E:XK} {us:List Value} {vs:List V}
  (S:bY N ps scope) (hd:A.handled=none) (e0:aD8 P w K mg base A outer s H) (hl:vs.length=ps.length) (r:Vals vs us)
  (x:InCallC s s.heap.objs.size (bindL (envOfC qual scope s.heap.objs.size f cd).kindOf (ps.zip us) fun _=>none) (cellsFrom (s.heap.objs.size+1) scope.names []) (bindC (envOfC qual scope s.heap.objs.size f cd).kindOf (ps.zip us) fun _=>none) s1) :
  Inv (R4 CX P w K mg base N qual scope f cd A outer s H E) [] (start N vs) H s1:=by
 have hpl:ps.length<=N.length:=by have:=congrArg List.length S.pre;rw [List.length_take] at this;lia
 obtain ⟨h1,tk,rfl,hk⟩:=x.done;have noA:∀b:Addr,b∉(R4 CX P w K mg base N qual scope f cd A outer s H E).ex:=fun b z=>absurd (show b∈([]:List Addr) from z) (by simp)
 refine ⟨⟨e0.mod,S.kind,rfl,rfl,Nat.le_refl _,fun y z c h1 h2=>?_,fun y hy=>?_,fun y c _ h=>?_,fun _=>hd,Around.frames_deeper e0.frames,.inr ⟨rfl,rfl⟩,fun b z=>absurd z (noA b),e0.bs,e0.bsz,fun b _ _=>noA b,fun b z=>absurd z (noA b),e0.J9,e0.frf⟩,
  rfl,e0.bare,Un.kept hk,⟨_,x.toInCall.ns,fun i y v h1 h2 h3=>?_⟩,fun y c h=>⟨_,x.cell y c h⟩,e0.hok.fresh (Nat.le_refl _),fun y c h=>?_,fun p hp=>absurd (show p∈([]:List (Addr×Obj)) from hp) (by simp),e0.hok.kept hk,?_⟩
 ·exact name_of_addr x.apart (PySem.mem_of_lookup h1) (PySem.mem_of_lookup h2)
 ·have hy:scope.names.lookup y=some .cell\/scope.names.lookup y=some .free:=hy;rcases hy with hy|hy
  ·exact BR hy
  ·exact absurd rfl (S.nofree _ (PySem.mem_of_lookup hy))
 ·exact Nat.le_of_lt (x.above y c (PySem.mem_of_lookup h))
 ·have hi:i<vs.length:=by
   unfold start at h2;by_cases hi:i<vs.length
   ·exact hi
   ·rw [List.getElem?_append_right (by simpa using hi)] at h2;rw [List.getElem?_replicate] at h2;split at h2 <;> cases h2
  have ha:vs[i]?=some v:=by
   unfold start at h2;rw [List.getElem?_append_left (by simpa using hi),List.getElem?_map] at h2;cases e:vs[i]? with
   | none=>rw [e] at h2;cases h2
   | some a=>rw [e] at h2;cases h2;rfl
  obtain ⟨u,hu,rv⟩:=r.get ha;have hp:ps[i]?=some y:=by
   rw [<-S.pre,List.getElem?_take_of_lt (by lia)];exact h1
  have ndP:ps.Nodup:=by rw [<-S.pre];exact S.nd.sublist (List.take_sublist _ _)
  refine ⟨u,rv,?_⟩;rcases S.par y (List.mem_of_getElem? hp) with k|k
  ·exact .inl ⟨k,wA ndP hp hu k⟩
  ·obtain ⟨c,e⟩:=BR (n:=s.heap.objs.size+1) k;refine .inr ⟨.inl k,c,e,?_⟩;have q:=x.cell y c e;rw [wB ndP hp hu (by show scope.names.lookup y≠_;rw [k];decide)] at q;exact q
 ·exact e0.hok.fresh (Nat.le_of_lt (x.above y c (PySem.mem_of_lookup h)))
 ·unfold start;show _=N.length;rw [List.length_append,List.length_map,List.length_replicate];lia
theorem aDz {CX:CXT} {P:Program} {w:World} {K:PySem.W.Frag} {mg:Str->Option Value} {base:Heap} {k:Nat} {f:Addr} {name qual:Str} {params:Arguments} {body:List Stmt} {scope:Scope} {dV kV doc pm cdv ct oc:Value} {an od:Option Addr}
  {osl:Array (Option Value)} {N ps:List Str} {sp:Sp} (lk:K.lookup f=some ⟨oc,od,.func (PySem.W.fnOf name qual params body scope dV kV doc pm an cdv ct),osl⟩) (hcd:PySem.W.codeIn K cdv qual=true) (S:bY N ps scope)
  (len:∀vs H Q E,sp vs H Q E->vs.length=ps.length)
  (hbody:∀(A:Around) (outer:List Env) (s:Shared) (H:Hp) (vs:List V) (Q:VK) (E:XK),o9 k (A.deeper (envOfC qual scope s.heap.objs.size f cdv))->sp vs H Q E->
   ∃t,PSs (R4 CX P w K mg base N qual scope f cdv A outer s H E) body t/\t {nx:=fun _ H'=>Q .non H',rt:=Q} (start N vs) H) :
  HF P w K mg base CX (k+1) f (PySem.W.fnOf name qual params body scope dV kV doc pm an cdv ct) ps sp:=by
 refine ⟨len,fun A outer s H args us vs Q E hr e0 hb r hsp=>?_⟩;have hl:=len _ _ _ _ hsp;have KX:K.In s.heap:=e0.mod.kin.keeps fun b o e=>(e0.bs b o e).1
 have lim:s.heap.NoLimit:=e0.mod.nolimit.keeps fun b o e=>(e0.bs b o e).1
 have hkind:∀y∈ps.zip us,scope.names.lookup y.1=some .local\/(scope.names.lookup y.1=some .cell/\((cellsFrom (s.heap.objs.size+1) scope.names []).lookup y.1).isSome=true):=fun ⟨n,v⟩ hy=>by
  rcases S.par n (List.of_mem_zip hy).1 with q|q
  ·exact .inl q
  ·exact .inr ⟨q,PySem.W.cellsFrom_some _ _ _ (.inl q)⟩
 refine codeAny_call_function hr.depth (KX _ _ lk) rfl S.co S.gen rfl (PySem.W.codeRec_of KX hcd) (hb _ _ _ _ ?_);refine wpAny_newFunctionEnv_cells S.kind hkind fun env he s1 x=>?_
 subst he;refine ⟨lim.keeps x.toInCall.keep,codeAny_func ?_⟩;obtain ⟨t,ht,hq⟩:=hbody A outer s H vs Q E (hr.deeper _) hsp;have I:Inv (R4 CX P w K mg base N qual scope f cdv A outer s H E) [] (start N vs) H s1:=K1 S hr.hd e0 hl r x;refine wpAny_mono (ht [] s1 (start N vs) H _ I hq) (fun fl s' hs=>?_) fun e s' hs=>hs
 have fin:∀{σ':St} {H':Hp} {v:V} {u:Value},Inv (R4 CX P w K mg base N qual scope f cdv A outer s H E) [] σ' H' s'->RelV v u->Q v H'->CE outer P w H s Q u s':=
  fun {σ' H' v u} J rv q=>⟨v,H',J.os,J.bare,J.base,J.hok,rv,q⟩
 cases fl with
 | ret u=>
  obtain ⟨v,σ',H',J,rv,q⟩:=hs;exact fin J rv q
 | next=>
  obtain ⟨σ',H',J,q⟩:=hs;exact fin (v:=V.non) (u:=Value.none) J rfl q
 | brk=>
  obtain ⟨_,_,_,q⟩:=hs;exact False.elim q
 | cont=>
  obtain ⟨_,_,_,q⟩:=hs;exact False.elim q
end L2
namespace L2
open PySem PySem.Spec PyProof.Rows
section
variable {X:Cx} {x:Str} {p pos:Pos} {e:Expr} {es:List Expr} {t:TA} {id T:String} {r:List V->Hp->VK->Prop}
noncomputable def tCB (r:List V->Hp->VK->Prop) (t:TA):TE:=fun σ H Q=>t σ H fun vs H1=>r vs H1 Q
theorem BV (hc:jA X (.builtin id) r) (hg:Gl X x) (hm:X.mg x=none) (hv:bootBuiltins x=some (.builtin id)) (ha:PA X (e::es) t) (hn:x ≠ "__name__":=by decide) (hdb:nDb x:=by decide)
  (he:starEach (e::es) X.env=(false,eval e X.env)::starEach es X.env:=by rfl) (hpl:(backTo pos (starEach es X.env)).any (·.1)=false:=by rfl):PE X (.Call (.Name x p) (e::es) [] pos) (tCB r t):=by
 intro pins s σ H Q I h;refine wpAny_Call_Name_kw (v7 I hg hm hv ?_ hn hdb);exact PyProof.Rows.callWith_builtin1 (thn (ha pos pins s σ H _ I h) fun us s1 ⟨vs,H1,I1,r1,q1⟩=>hc pins s1 σ H1 vs us Q I1 r1 q1) he hpl
theorem wC (hc:jA X (.type T) r) (hg:Gl X x) (hm:X.mg x=none) (hv:bootBuiltins x=some (.type T)) (ha:PA X (e::es) t) (hn:x ≠ "__name__":=by decide) (hdb:nDb x:=by decide)
  (he:starEach (e::es) X.env=(false,eval e X.env)::starEach es X.env:=by rfl) (hpl:(backTo pos (starEach es X.env)).any (·.1)=false:=by rfl):PE X (.Call (.Name x p) (e::es) [] pos) (tCB r t):=by
 intro pins s σ H Q I h;refine wpAny_Call_Name_kw (v7 I hg hm hv ?_ hn hdb);exact PyProof.Rows.callWith_type1 (thn (ha pos pins s σ H _ I h) fun us s1 ⟨vs,H1,I1,r1,q1⟩=>hc pins s1 σ H1 vs us Q I1 r1 q1) he hpl
end
end L2
namespace HT
open PySem PyProof.Rows
section
open PySem.SeqAt
open PySem.AutoSeq1 (wpAny_loadPart')
open PySem.MeetsSeq PySem.MeetsSeq2 PySem.MeetsSeq3
end
section
variable {prog:Program} {w:World} {A:Around} {E:Value->Shared->Prop} {s:Shared}
noncomputable def sIx (n d:Nat):Option Int->Nat
 | none=>d
 | some v=>if v<0 then (v+(n:Int)).toNat else min v.toNat n
theorem aBf (n d:Nat) (hd:d<=n) (o:Option Int):sIx n d o<=n:=by
 cases o with
 | none=>exact hd
 | some v=>
  show (if v<0 then (v+(n:Int)).toNat else min v.toNat n)<=n;by_cases hv:v<0
  ·rw [if_pos hv];lia
  ·rw [if_neg hv];exact Nat.min_le_right _ _
theorem K3 (v:Int) (n d:Nat):(if v<0 then max (v+(n:Int)) 0 else min v (n:Int))=((sIx n d (some v):Nat):Int):=by
 show (if v<0 then max (v+(n:Int)) 0 else min v (n:Int))=(((if v<0 then (v+(n:Int)).toNat else min v.toNat n):Nat):Int);by_cases hv:v<0
 ·simp only [if_pos hv];lia
 ·simp only [if_neg hv];lia
theorem HH (lo hi:Option Int) (n:Nat):Builtin.Slice.sliceAdjust lo hi 1 (n:Int)=(((sIx n 0 lo:Nat):Int),((sIx n n hi:Nat):Int)):=by
 have h1:¬((1:Int)<0):=by lia
 unfold Builtin.Slice.sliceAdjust;simp only [h1,if_false];refine Prod.ext ?_ ?_
 ·cases lo with
  | none=>rfl
  | some v=>exact K3 v n 0
 ·cases hi with
  | none=>rfl
  | some v=>exact K3 v n n
theorem HJ (i j:Nat):Builtin.Slice.slicePlaces (i:Int) (j:Int) 1=j-i:=by
 unfold Builtin.Slice.slicePlaces;have h1:(1:Int) > 0:=by lia
 simp only [h1,if_true,Int.ediv_one];split <;> lia
theorem tE {v:Value} {o:Option Int} {Q:Option Int->Shared->Prop} (p:IsPart v o) (h:Q o s):wpAny (model prog w) A (Builtin.Slice.slicePartIndex v) Q E s:=by
 cases p with
 | none=>exact slicePart_none h
 | int i t=>exact slicePart_int h
theorem oV {sl:Addr} {vl vu:Value} {lo hi:Option Int} {n:Nat} {Q:Int×Int×Nat->Shared->Prop} (hs:s.heap.IsSliceOf sl vl vu .none) (pl:IsPart vl lo) (pu:IsPart vu hi)
  (h:Q (((sIx n 0 lo:Nat):Int),1,sIx n n hi-sIx n 0 lo) s):wpAny (model prog w) A (Builtin.Slice.sliceApplied (.ref sl) (pure (n:Int))) Q E s:=by
 obtain ⟨os,hos,hcs,hds⟩:=id hs;unfold Builtin.Slice.sliceApplied Builtin.Slice.sliceFields;refine wpAny_bind (wpAny_bind (wpAny_field hos hds (x:=vl) rfl (wpAny_bind (wpAny_field hos hds (x:=vu) rfl (wpAny_bind (wpAny_field hos hds (x:=.none) rfl (wpAny_pure ?_)))))));refine wpAny_bind (slicePart_none ?_);show wpAny _ _ (if ((1:Int)==0)=true then _ else _) _ _ s;rw [if_neg (by decide)];refine wpAny_bind (tE pl (wpAny_bind (tE pu (wpAny_bind (wpAny_pure ?_)))));show wpAny _ _ (match Builtin.Slice.sliceAdjust lo hi 1 (n:Int) with|(lo,hi)=>pure (lo,(1:Int),Builtin.Slice.slicePlaces lo hi 1)) _ _ s;rw [HH lo hi n];show wpAny _ _ (pure (((sIx n 0 lo:Nat):Int),(1:Int),Builtin.Slice.slicePlaces ((sIx n 0 lo:Nat):Int) ((sIx n n hi:Nat):Int) 1)) _ _ s;rw [HJ];exact wpAny_pure h
theorem S8 (xs:Array Value) (i k:Nat):((List.range k).filterMap fun (m:Nat)=>xs[((i:Int)+(m:Int)*1).toNat]?).toArray=((xs.toList.drop i).take k).toArray:=by
 have e:(fun (m:Nat)=>xs[((i:Int)+(m:Int)*1).toNat]?)=fun m=>xs[i+m]?:=by
  funext m
  have:((i:Int)+(m:Int)*1).toNat=i+m:=by lia
  rw [this]
 rw [e];have:=pick_run xs i k;rw [List.filterMap_map] at this;have e2:((fun x=>xs[x]?) ∘ fun x=>i+x)=fun m=>xs[i+m]?:=rfl
 rw [e2] at this;rw [this]
theorem nR {t sl:Addr} {items:Array Value} {vl vu:Value} {lo hi:Option Int} {Q:Value->Shared->Prop} (ht:IsTup s.heap t items) (hs:s.heap.IsSliceOf sl vl vu .none) (pl:IsPart vl lo) (pu:IsPart vu hi)
  (hw:¬(sIx items.size 0 lo=0/\sIx items.size items.size hi=items.size))
  (h:Q (.ref s.heap.objs.size) {s with heap:=s.heap.push {cls:=.type "tuple",data:=.seq ((items.toList.drop (sIx items.size 0 lo)).take (sIx items.size items.size hi-sIx items.size 0 lo)).toArray}})
  (hsz:items.size<=sizeLine):wpAny (model prog w) A (getItem (.ref t) (.ref sl)) Q E s:=by
 have htake:sizeOk (.seq ((items.toList.drop (sIx items.size 0 lo)).take (sIx items.size items.size hi-sIx items.size 0 lo)).toArray):=by
  show ((items.toList.drop (sIx items.size 0 lo)).take (sIx items.size items.size hi-sIx items.size 0 lo)).toArray.size<=sizeLine;rw [List.size_toArray,List.length_take,List.length_drop,Array.length_toList];lia
 have hj:sIx items.size items.size hi<=items.size:=aBf _ _ (Nat.le_refl _) hi;obtain ⟨os,hos,hcs,hds⟩:=id hs;have hTs:s.TypeIs (.ref sl) "slice":=⟨os,hos,hcs⟩
 unfold getItem
 try with_reducible refine wpAny_holding ?_
 first|refine wpAny_bind (wpAny_pure ?_)|skip
 refine wpAny_bind (wpAny_sequenceKey ht.typeIs (by decide) ?_);refine wpAny_bind (wpAny_callSpecial?_slot (name:=Str.ofString "__getitem__") ht.typeIs PyProof.Rows.slot_tuple_getitem
  (wpAny_call_entry PyProof.Rows.slot_tuple_getitem ht.typeIs entry_tuple_getitem ?_ (args_tuple_getitem _ _)))
 show wpAny _ _ (Builtin.Tuple.tupleItemsOf (.ref t) >>= _) _ _ s;refine wpAny_bind (tupleItemsOf_ ht ?_);refine wpAny_bind (wpAny_typeOf hTs ?_);rw [if_pos (by decide)];refine wpAny_bind (oV hs pl pu ?_);have hno:¬((((sIx items.size 0 lo:Nat):Int)==0&&(1:Int)==1&&(sIx items.size items.size hi-sIx items.size 0 lo)==items.size)=true):=by
  intro q;rw [Bool.and_eq_true,Bool.and_eq_true] at q;have q1:((sIx items.size 0 lo:Nat):Int)=0:=eq_of_beq q.1.1;have q2:sIx items.size items.size hi-sIx items.size 0 lo=items.size:=eq_of_beq q.2;exact hw ⟨by lia,by lia⟩
 show wpAny _ _ (if (((sIx items.size 0 lo:Nat):Int)==0&&(1:Int)==1&&(sIx items.size items.size hi-sIx items.size 0 lo)==items.size)=true then _ else _) _ _ s;rw [if_neg hno,S8]
 first
  | exact wpAny_bind (m:=Builtin.Tuple.tupleExact _) (wpAny_newObj_type (wpAny_pure ⟨_,rfl,wpAny_pure h⟩) htake)
  | exact wpAny_bind (m:=Builtin.Tuple.tupleExact _) (wpAny_newObj_type (wpAny_bind (wpAny_pure (wpAny_pure ⟨_,rfl,wpAny_pure h⟩))) htake)
  | exact wpAny_bind (wpAny_bind (m:=Builtin.Tuple.tupleExact _) (wpAny_newObj_type (wpAny_pure (wpAny_pure ⟨_,rfl,wpAny_pure h⟩)) htake))
  | exact wpAny_bind (wpAny_bind (m:=Builtin.Tuple.tupleExact _) (wpAny_newObj_type (wpAny_pure ⟨_,rfl,wpAny_pure h⟩) htake))
end
end HT
namespace L2
open PySem PySem.Spec PyProof.Rows
abbrev TO:=St->Hp->(Option Int->Hp->Prop)->Prop
noncomputable def PO (X:Cx) (e:Option Expr) (t:TO):Prop:=
 ∀(pins:List (Addr×Obj)) (s:Shared) (σ:St) (H:Hp) (Q:Option Int->Hp->Prop),Inv X pins σ H s->t σ H Q->
  wpAny (model X.prog X.w) X.A (evalPart e X.env) (fun u s'=>∃o H',Inv X pins σ H' s'/\IsPart u o/\Q o H') X.xe s
def YC:TO:=fun _ H Q=>Q none H
def aE0 (t:TE):TO:=fun σ H Q=>t σ H fun x H1=>∃i,x=.int i/\Q (some i) H1
section
variable {X:Cx} {e:Expr} {te:TE} {lo hi:Option Expr} {tl th:TO} {pos p2:Pos}
theorem YD:PO X none YC:=by
 intro pins s σ H Q I h;rw [evalPart_none];exact wpAny_pure ⟨none,H,I,.none,h⟩
theorem YF (h:PE X e te):PO X (some e) (aE0 te):=by
 intro pins s σ H Q I hw;rw [evalPart_some];refine thn (h pins s σ H _ I hw) fun u s1 ⟨x,H1,I1,r1,q1⟩=>?_
 obtain ⟨i,rfl,q⟩:=q1;obtain ⟨t,rfl⟩:=r1;exact ⟨some i,H1,I1,.int i t,q⟩
noncomputable def SlR (X:Cx) (r:V->Option Int->Option Int->Hp->VK->Prop):Prop:=
 ∀(pins:List (Addr×Obj)) (s:Shared) (σ:St) (H:Hp) (x:V) (v vl vu:Value) (lo hi:Option Int) (sl:Addr) (Q:VK),Inv X pins σ H s->RelV x v->s.heap.IsSliceOf sl vl vu .none->IsPart vl lo->IsPart vu hi->r x lo hi H Q->
  ∃T id,typeLookup (.type T) "__getitem__" = pure (some (.builtin id))/\s.TypeIs v T/\wpAny (model X.prog X.w) X.A (getItem v (.ref sl)) (EP X pins σ Q) X.xe s
noncomputable def tSl (r:V->Option Int->Option Int->Hp->VK->Prop) (te:TE) (tl th:TO):TE:=fun σ H Q=>te σ H fun x H1=>tl σ H1 fun l H2=>th σ H2 fun u H3=>r x l u H3 Q
theorem S9 {r:V->Option Int->Option Int->Hp->VK->Prop} (hr:SlR X r) (he:PE X e te) (hl:PO X lo tl) (hu:PO X hi th):PE X (.Subscript e (.Slice lo hi none p2) pos) (tSl r te tl th):=by
 intro pins s σ H Q I h;refine Subscript_ (thn (he pins s σ H _ I h) fun v s1 ⟨x,H1,I1,r1,q1⟩=>?_);refine wpAny_Slice (thn (hl pins s1 σ H1 _ I1 q1) fun vl s2 ⟨l,H2,I2,pl,q2⟩=>thn (hu pins s2 σ H2 _ I2 q2) fun vu s3 ⟨u,H3,I3,pu,q3⟩=>?_);rw [evalPart_none];refine wpAny_pure ?_;have I4:Inv X pins σ H3 {s3 with heap:=s3.heap.push {cls:=.type "slice",data:=.fields #[vl,vu,.none]}}:=I3.kept (t':=s3.toks) fun b ob q=>Heap.get?_push_of_some _ q
 obtain ⟨T,id,hT,ht,hg⟩:=hr pins {s3 with heap:=s3.heap.push {cls:=.type "slice",data:=.fields #[vl,vu,.none]}} σ H3 x v vl vu l u s3.heap.objs.size Q I4 r1 (Heap.IsSliceOf.new ..) pl pu q3;show wpAny (model X.prog X.w) X.A (subscriptTail e (.Slice lo hi none p2) v (.ref s3.heap.objs.size)) (EP X pins σ Q) X.xe {s3 with heap:=s3.heap.push {cls:=.type "slice",data:=.fields #[vl,vu,.none]}};exact tail_any (ops:=[.ref s3.heap.objs.size,v]) ht hT hg (by with_unfolding_all rfl)
noncomputable def K4 (xs:List V) (lo hi:Option Int):List V:=(xs.drop (HT.sIx xs.length 0 lo)).take (HT.sIx xs.length xs.length hi-HT.sIx xs.length 0 lo)
theorem pN (xs:List V) (lo hi:Option Int):(K4 xs lo hi).length<=xs.length:=by
 unfold K4;rw [List.length_take,List.length_drop];lia
noncomputable def aFo (K:PySem.W.Frag):V->Option Int->Option Int->Hp->VK->Prop:=fun x lo hi H Q=>∃a xs,x=.ref a/\SqT K H a xs/\
 ¬(HT.sIx xs.length 0 lo=0/\HT.sIx xs.length xs.length hi=xs.length)/\∀p,H p=none->Q (.ref p) (upd H p (.tup (K4 xs lo hi)))
theorem aBg:SlR X (aFo X.K):=by
 intro pins s σ H x v vl vu lo hi sl Q I rx hs pl pu h;obtain ⟨a,xs,rfl,hx,hw,q⟩:=h;cases rx;obtain ⟨its,r,ht,hz⟩:=I.tuple hx;have hlen:its.toArray.size=xs.length:=by rw [List.size_toArray];exact r.length.symm
 refine ⟨"tuple",_,PyProof.Rows.slot_tuple_getitem.lookup,ht.typeIs,?_⟩;refine HT.nR ht hs pl pu (by rw [hlen];exact hw) ?_ (by rw [hlen];exact hz);rw [hlen];refine ⟨.ref s.heap.objs.size,_,I.laid (t':=s.toks) (o:=.tup (K4 xs lo hi)) (fun b ob q=>Heap.get?_push_of_some _ q) (Nat.le_refl _) ?_,rfl,q _ (I.hok.fresh (Nat.le_refl _))⟩;exact ⟨Nat.le_trans (pN xs lo hi) hz,_,(r.drop (HT.sIx xs.length 0 lo)).take (HT.sIx xs.length xs.length hi-HT.sIx xs.length 0 lo),iZ.new _ _⟩
end
end L2
namespace L2
open PySem PySem.Spec PyProof.Rows
noncomputable def ixN (n:Nat) (i:Int):Option Nat:=if 0<=i then (if i<n then some i.toNat else none) else if -(n:Int)<=i then some (i+n).toNat else none
noncomputable def atI {α:Type} (xs:List α) (i:Int):Option α:=(ixN xs.length i).bind fun j=>xs[j]?
theorem YG {n:Nat} {i:Int} {j:Nat} (h:ixN n i=some j):seqIndex? i n=some j/\j<n/\-(n:Int)<=i/\i<n:=by
 unfold ixN at h;by_cases h0:0<=i
 ·rw [if_pos h0] at h;by_cases h1:i<n
  ·rw [if_pos h1] at h;have e:i.toNat=j:=Option.some.inj h;exact ⟨by rw [seqIndex_of h0 h1,e],by lia,by lia,h1⟩
  ·rw [if_neg h1] at h;cases h
 ·rw [if_neg h0] at h;by_cases h1:-(n:Int)<=i
  ·rw [if_pos h1] at h;have e:(i+n).toNat=j:=Option.some.inj h;exact ⟨by rw [seqIndex_neg (by lia) h1,e],by lia,h1,by lia⟩
  ·rw [if_neg h1] at h;cases h
theorem yP {α:Type} {xs:List α} {i:Int} {v:α} (h:atI xs i=some v):∃j,seqIndex? i xs.length=some j/\xs[j]?=some v/\j<xs.length/\-(xs.length:Int)<=i/\i<xs.length:=by
 unfold atI at h;cases e:ixN xs.length i with
 | none=>rw [e] at h;cases h
 | some j=>
  rw [e] at h;obtain ⟨h1,h2,h3,h4⟩:=YG e;exact ⟨j,h1,h,h2,h3,h4⟩
noncomputable def pO (b:Expr):Prop:=∀o i,subscripted b false o i=operate [o,i] (getItem o i)
noncomputable def IxR (X:Cx) (r:R2):Prop:=
 ∀(value slice:Expr) (pins:List (Addr×Obj)) (s:Shared) (σ:St) (H:Hp) (x y:V) (v u:Value) (Q:VK),Inv X pins σ H s->RelV x v->RelV y u->r x y H Q->
  subscripted slice false v u=operate [v,u] (getItem v u)->wpAny (model X.prog X.w) X.A (subscriptTail value slice v u) (EP X pins σ Q) X.xe s
noncomputable def MtR (X:Cx) (id:String) (r:V->List V->Hp->VK->Prop):Prop:=
 ∀(pins:List (Addr×Obj)) (s:Shared) (σ:St) (H:Hp) (x:V) (xs:List V) (v:Value) (us:List Value) (Q:VK),Inv X pins σ H s->RelV x v->Vals xs us->r x xs H Q->
  wpAny (model X.prog X.w) X.A (call (.builtin id) (v::us)) (EP X pins σ Q) X.xe s
section
variable {X:Cx} {a b:Expr} {ta tb:TE} {pos:Pos}
theorem IxR.or {r r':R2} (h:IxR X r) (h':IxR X r'):IxR X (fun x y H Q=>r x y H Q\/r' x y H Q):=by
 intro value slice pins s σ H x y v u Q I rx ry q hs;rcases q with q|q
 ·exact h value slice pins s σ H x y v u Q I rx ry q hs
 ·exact h' value slice pins s σ H x y v u Q I rx ry q hs
theorem YH {r:R2} (hr:IxR X r) (ha:PE X a ta) (hb:PE X b tb) (hs:pO b):PE X (.Subscript a b pos) (tOp r ta tb):=by
 intro pins s σ H Q I h;exact Subscript_ (aDs ha hb I h fun v u s2 x y H2 I2 rx ry q=>hr a b pins s2 σ H2 x y v u Q I2 rx ry q (hs _ _))
noncomputable def aF4 (K:PySem.W.Frag):R2:=fun x y H Q=>∃p xs i v,x=.ref p/\y=.int i/\SqL K H p xs/\atI xs i=some v/\Q v H
noncomputable def aFp (K:PySem.W.Frag):R2:=fun x y H Q=>∃p xs i v,x=.ref p/\y=.int i/\SqT K H p xs/\atI xs i=some v/\Q v H
noncomputable def aFq:R2:=fun x y H Q=>∃z i c,x=.str z/\y=.int i/\z.length<=sizeLine/\atI z.cps.toList i=some c/\Q (.str ⟨#[c]⟩) H
theorem tX:IxR X (aF4 X.K):=by
 intro value slice pins s σ H x y v u Q I rx ry h hs;obtain ⟨p,xs,i,z,rfl,rfl,hq,he,q⟩:=h;cases rx;obtain ⟨t,rfl⟩:=ry;obtain ⟨its,r,pl,hz⟩:=I.list hq;obtain ⟨j,h1,h2,h3,h4,h5⟩:=yP he;obtain ⟨w,ew,rw'⟩:=r.get h2;have hl:=r.length;have hn:=tB;have fin:EP X pins σ Q w s:=⟨z,H,I,rw',q⟩
 by_cases h0:0<=i
 ·have hj:i.toNat=j:=by
   rw [seqIndex_of h0 h5] at h1;exact Option.some.inj h1
  exact item_listR pl.isList h0 (by lia) (by rw [hj];simpa using ew) fin hs
 ·have hj:(i+(its.toArray.size:Int)).toNat=j:=by
   rw [seqIndex_neg (by lia) h4] at h1;rw [List.size_toArray,<-hl];exact Option.some.inj h1
  exact subscriptTail_builtinR (x:=w) pl.isList.typeIs slot_list_getitem.lookup
   (wpAny_getItem_list_neg (Q:=fun r s'=>r=w/\EP X pins σ Q r s') pl.isList (by lia) (by rw [List.size_toArray] <;> lia) (by lia) (by rw [hj];simpa using ew) ⟨rfl,fin⟩) hs
theorem aBh:IxR X (aFp X.K):=by
 intro value slice pins s σ H x y v u Q I rx ry h hs;obtain ⟨p,xs,i,z,rfl,rfl,hq,he,q⟩:=h;cases rx;obtain ⟨t,rfl⟩:=ry;obtain ⟨its,r,pl,hz⟩:=I.tuple hq;obtain ⟨j,h1,h2,h3,h4,h5⟩:=yP he;obtain ⟨w,ew,rw'⟩:=r.get h2;have hl:=r.length;have hn:=tB;have fin:EP X pins σ Q w s:=⟨z,H,I,rw',q⟩
 exact subscriptTail_builtinR (x:=w) pl.typeIs slot_tuple_getitem.lookup
  (getItem_tuple (j:=j) (Q:=fun r s'=>r=w/\EP X pins σ Q r s') pl (by lia) (by lia) (by rw [List.size_toArray,<-hl];exact h1) (by simpa using ew) ⟨rfl,fin⟩) hs
theorem aBi:IxR X aFq:=by
 intro value slice pins s σ H x y v u Q I rx ry h hs;obtain ⟨z,i,c,rfl,rfl,hz,he,q⟩:=h;obtain ⟨t,rfl⟩:=rx;obtain ⟨t',rfl⟩:=ry;obtain ⟨j,h1,h2,h3,h4,h5⟩:=yP he;have hl:z.cps.toList.length=z.length:=by simp [Str.length]
 rw [hl] at h1 h4 h5;have hn:=tB;exact tail_any (typeIs_str s z t) slot_str_getitem.lookup (getItem_str (c:=c) (by
  have e1:decide (i < -(2 ^ 63:Int))=false:=decide_eq_false (by lia);have e2:decide (i >= 2 ^ 63)=false:=decide_eq_false (by lia);rw [e1,e2,Bool.or_false]) (by rw [h1];simpa using h2) ⟨.str ⟨#[c]⟩,H,I.tok _,⟨_,rfl⟩,q⟩) hs
theorem wD (lo hi:Option Int) (n:Nat):(sliceBounds lo hi none n).1=((HT.sIx n 0 lo:Nat):Int)/\(sliceBounds lo hi none n).2.1=((HT.sIx n n hi:Nat):Int)/\(sliceBounds lo hi none n).2.2=1:=by
 refine ⟨?_,?_,rfl⟩
 ·cases lo with
  | none=>simp [sliceBounds,HT.sIx]
  | some i=>
   simp only [sliceBounds,HT.sIx,Option.getD_none,show (1:Int) > 0 by decide,if_true];by_cases h:i<0
   ·simp only [h,if_true] <;> lia
   ·simp only [h,if_false] <;> lia
 ·cases hi with
  | none=>simp [sliceBounds,HT.sIx]
  | some i=>
   simp only [sliceBounds,HT.sIx,Option.getD_none,show (1:Int) > 0 by decide,if_true];by_cases h:i<0
   ·simp only [h,if_true] <;> lia
   ·simp only [h,if_false] <;> lia
theorem tY (its:List Value) (lo hi:Option Int):slicePick its.toArray lo hi none=((its.drop (HT.sIx its.length 0 lo)).take (HT.sIx its.length its.length hi-HT.sIx its.length 0 lo)).toArray:=by
 obtain ⟨h1,h2,h3⟩:=wD lo hi its.toArray.size;unfold slicePick;rw [h1,h2,h3];simp only [sliceRange_one,pick_run,List.size_toArray] <;> rfl
noncomputable def aFr (K:PySem.W.Frag):V->Option Int->Option Int->Hp->VK->Prop:=fun x lo hi H Q=>∃a xs,x=.ref a/\SqL K H a xs/\∀p,H p=none->Q (.ref p) (upd H p (.lst (K4 xs lo hi)))
theorem K5:SlR X (aFr X.K):=by
 intro pins s σ H x v vl vu lo hi sl Q I rx hs pl pu h;obtain ⟨a,xs,rfl,hx,q⟩:=h;cases rx;obtain ⟨its,r,ht,hz⟩:=I.list hx;have hlen:=r.length;refine ⟨"list",_,slot_list_getitem.lookup,ht.isList.typeIs,?_⟩;refine wpAny_getItem_list_slice ht.isList hs pl pu .none (by simp) ?_ (by rw [List.size_toArray] <;> lia);rw [tY,<-hlen];refine ⟨.ref s.heap.objs.size,_,I.laid (t':=s.toks) (o:=.lst (K4 xs lo hi)) (fun b ob q=>Heap.get?_push_of_some _ q) (Nat.le_refl _) ?_,rfl,q _ (I.hok.fresh (Nat.le_refl _))⟩;exact ⟨Nat.le_trans (pN xs lo hi) hz,_,0,(r.drop (HT.sIx xs.length 0 lo)).take (HT.sIx xs.length xs.length hi-HT.sIx xs.length 0 lo),Heap.get?_push_size _ rfl⟩
theorem fZ:jA X (.builtin "len") (fun xs H Q=>∃p ys,xs=[.ref p]/\(SqL X.K H p ys\/SqT X.K H p ys)/\Q (.int ys.length) H):=by
 intro pins s σ H xs us Q I r h;obtain ⟨p,ys,rfl,hq,q⟩:=h;obtain ⟨u,rfl,rx⟩:=vals1 r;cases rx;have hn:=tB;rcases hq with hq|hq
 ·obtain ⟨its,r',pl,hz⟩:=I.list hq;have hlen:=r'.length;exact Calls.call_len_list pl.isList (by simp only [List.size_toArray] <;> lia) ⟨.int ys.length,H,I.tok _,⟨s.toks+1,by rw [List.size_toArray,hlen]⟩,q⟩
 ·obtain ⟨its,r',pl,hz⟩:=I.tuple hq;have hlen:=r'.length;exact len_tuple pl (by simp only [List.size_toArray] <;> lia) ⟨.int ys.length,H,I.tok _,⟨s.toks+1,by rw [List.size_toArray,hlen]⟩,q⟩
theorem wF:jA X (.builtin "len") (fun xs H Q=>∃z,xs=[.str z]/\z.length<=sizeLine/\Q (.int z.length) H):=by
 intro pins s σ H xs us Q I r h;obtain ⟨z,rfl,hz,q⟩:=h;obtain ⟨u,rfl,t,rfl⟩:=vals1 r;have hn:=tB;exact len_str (by lia) ⟨.int z.length,H,I.tok _,⟨_,rfl⟩,q⟩
theorem oH:jA X (.type "list") (fun xs H Q=>∃p ys,xs=[.ref p]/\(SqL X.K H p ys\/SqT X.K H p ys)/\∀l,H l=none->Q (.ref l) (upd H l (.lst ys))):=by
 intro pins s σ H xs us Q I r h;obtain ⟨p,ys,rfl,hq,q⟩:=h;obtain ⟨u,rfl,rx⟩:=vals1 r;cases rx;have fin:∀(its:List Value),Vals ys its->ys.length<=sizeLine->∀(h':Heap) (c':Nat),(∀b o',s.heap.get? b=some o'->h'.get? b=some o')->
   h'.get? s.heap.objs.size=some {cls:=.type "list",dict:=none,data:=.seq its.toArray c',slots:=#[]}->EP X pins σ Q (.ref s.heap.objs.size) {s with heap:=h'}:=fun its r' hz h' c' kp e=>
  ⟨.ref s.heap.objs.size,_,I.laid (t':=s.toks) kp (Nat.le_refl _) (show gJ X.prog X.w _ h' _ (.lst ys) from ⟨hz,its,c',r',e⟩),rfl,q _ (I.hok.fresh (Nat.le_refl _))⟩
 rcases hq with hq|hq
 ·obtain ⟨its,r',pl,hz⟩:=I.list hq;have hlen:=r'.length;obtain ⟨o,ho,hc,n,hd⟩:=pl.isList;exact call_list_seq p (.inl rfl) ho hc hd (fun h' c' kp e=>fin its r' hz h' c' kp e) (by simp only [List.size_toArray] <;> lia)
 ·obtain ⟨its,r',pl,hz⟩:=I.tuple hq;have hlen:=r'.length;obtain ⟨o,ho,hc,n,hd⟩:=pl;exact call_list_seq p (.inr rfl) ho hc hd (fun h' c' kp e=>fin its r' hz h' c' kp e) (by simp only [List.size_toArray] <;> lia)
theorem mC:jA X (.type "tuple") (fun xs H Q=>∃p ys,xs=[.ref p]/\((SqL X.K H p ys/\∀l,H l=none->Q (.ref l) (upd H l (.tup ys)))\/(SqT X.K H p ys/\Q (.ref p) H))):=by
 intro pins s σ H xs us Q I r h;obtain ⟨p,ys,rfl,h⟩:=h;obtain ⟨u,rfl,rx⟩:=vals1 r;cases rx;rcases h with ⟨hq,q⟩|⟨hq,q⟩
 ·obtain ⟨its,r',pl,hz⟩:=I.list hq;have hlen:=r'.length;refine call_tuple_list pl.isList (fun h' kp=>?_) (by simp only [List.size_toArray] <;> lia);have I1:Inv X pins σ H {s with heap:=h'}:=I.kept (t':=s.toks) kp;have I2:Inv X pins σ (upd H h'.objs.size (.tup ys)) {s with heap:=h'.push {cls:=.type "tuple",data:=.seq its.toArray}}:=
   I1.laid (t':=s.toks) (fun b o e=>Heap.get?_push_of_some _ e) (Nat.le_refl _) (show gJ X.prog X.w _ _ _ (.tup ys) from ⟨hz,its,r',iZ.new _ _⟩)
  exact ⟨.ref h'.objs.size,_,I2,rfl,q _ (I1.hok.fresh (Nat.le_refl _))⟩
 ·obtain ⟨its,r',pl,hz⟩:=I.tuple hq;exact call_tuple_same pl ⟨.ref p,H,I,rfl,q⟩
noncomputable def tyV (K:PySem.W.Frag) (T:String) (x:V) (H:Hp):Prop:=match x with
 | .str _=>T = "str"
 | .int _=>T = "int"
 | .ref p=>(T = "list"/\∃xs,SqL K H p xs)\/(T = "tuple"/\((∃o,K.lookup p=some o/\o.cls=.type "tuple"/\o.dict=none)\/∃xs,H p=some (.tup xs)))\/
   (T = "dict"/\((∃kvs,H p=some (.dK kvs))\/∃kvs,H p=some (.dT kvs)))\/(T = "set"/\∃S n,H p=some (.set S n))
 | _=>False
theorem WP {pins:List (Addr×Obj)} {σ:St} {H:Hp} {s:Shared} {T:String} {x:V} {v:Value} (I:Inv X pins σ H s) (r:RelV x v) (ty:tyV X.K T x H) :
  s.TypeIs v T/\∀a,v=.ref a->∃ob,s.heap.get? a=some ob/\ob.dict=none:=by
 cases x with
 | str z=>
  obtain ⟨t,rfl⟩:=r;cases (show T = "str" from ty);exact ⟨typeIs_str s z t,fun _ e=>nomatch e⟩
 | int i=>
  obtain ⟨t,rfl⟩:=r;cases (show T = "int" from ty);exact ⟨typeIs_int s i t,fun _ e=>nomatch e⟩
 | ref p=>
  cases r;rcases ty with ⟨rfl,xs,hq⟩|⟨rfl,⟨o,hk,hc,hd⟩|⟨xs,hk⟩⟩|⟨rfl,hk⟩|⟨rfl,S,n,hk⟩
  ·obtain ⟨its,_,pl,_⟩:=I.list hq;refine ⟨pl.isList.typeIs,fun a e=>?_⟩;cases e;obtain ⟨o,n,e,c,hd,_⟩:=pl;exact ⟨o,e,hd⟩
  ·refine ⟨⟨o,I.kIn p o hk,hc⟩,fun a e=>?_⟩;cases e;exact ⟨o,I.kIn _ o hk,hd⟩
  ·obtain ⟨_,its,_,pl⟩:=I.hok p _ hk;refine ⟨(iZ.tup pl).typeIs,fun a e=>?_⟩;cases e;exact iZ.bare pl
  ·have z:∃o,s.heap.get? p=some o/\o.ExactDict:=by
    rcases hk with ⟨kvs,hk⟩|⟨kvs,hk⟩
    ·obtain ⟨_,_,_,_,o,_,_,e,ex,_⟩:=I.hok p _ hk;exact ⟨o,e,ex⟩
    ·obtain ⟨_,_,_,_,o,_,_,e,ex,_⟩:=I.hok p _ hk;exact ⟨o,e,ex⟩
   obtain ⟨o,e,ex⟩:=z;refine ⟨⟨o,e,ex.1⟩,fun a e2=>?_⟩;cases e2;exact ⟨o,e,ex.2.1⟩
  ·obtain ⟨o,_,_,_,e,ex,_⟩:=I.hok p _ hk;refine ⟨⟨o,e,ex.1⟩,fun a e2=>?_⟩;cases e2;exact ⟨o,e,ex.2.1⟩
 | _=>exact False.elim ty
noncomputable def aFs (K:PySem.W.Frag) (T:String) (r:V->List V->Hp->VK->Prop) (to:TE):TE:=fun σ H Q=>to σ H fun x H1=>tyV K T x H1/\r x [] H1 Q
noncomputable def tBM (K:PySem.W.Frag) (T:String) (r:V->List V->Hp->VK->Prop) (to:TE) (t:TA):TE:=fun σ H Q=>to σ H fun x H1=>tyV K T x H1/\t σ H1 fun xs H2=>r x xs H2 Q
variable {o e:Expr} {es:List Expr} {to:TE} {t:TA} {name:Str} {apos cpos:Pos} {T id:String} {r:V->List V->Hp->VK->Prop}
theorem aBj (pa:PlainAttrs T) (slot:Slot T name id) (hty:typeOf (.builtin id)=pure (.type "method_descriptor")) (hm:MtR X id r) (ho:PE X o to)
  (hbase:attributeBase o name X.env (eval o X.env)=eval o X.env:=by rfl) (hline:(apos.endLine==cpos.line)=true:=by rfl):PE X (.Call (.Attribute o name apos) [] [] cpos) (aFs X.K T r to):=by
 intro pins s σ H Q I h;refine wpAny_Call_method0_late hbase hline (thn (ho pins s σ H _ I h) fun v s1 ⟨x,H1,I1,r1,ty,q1⟩=>?_);obtain ⟨h1,h2⟩:=WP I1 r1 ty;exact ⟨T,id,pa,slot,hty,h1,h2,Calls.callWith_builtin rfl (PySem.evalArgs_none (hm pins s1 σ H1 x [] v [] Q I1 r1 .nil q1))⟩
theorem HN (pa:PlainAttrs T) (slot:Slot T name id) (hty:typeOf (.builtin id)=pure (.type "method_descriptor")) (hm:MtR X id r) (ho:PE X o to) (ha:PA X (e::es) t)
  (hbase:attributeBase o name X.env (eval o X.env)=eval o X.env:=by rfl)
  (hfew:((backTo cpos (starEach (e::es) X.env)).all (fun x=>!x.1)&&(backToKw cpos (keywordEach [] X.env)).all (fun x=>x.1.isSome)
   && decide ((e::es).length+([]:List Keyword).length+(if ([]:List Keyword).isEmpty then 0 else 1)<30))=true:=by rfl)
  (hline:(apos.endLine==cpos.line)=true:=by rfl) (hs:starEach (e::es) X.env=(false,eval e X.env)::starEach es X.env:=by rfl) (hplain:(backTo cpos (starEach es X.env)).any (·.1)=false:=by rfl) :
  PE X (.Call (.Attribute o name apos) (e::es) [] cpos) (tBM X.K T r to t):=by
 intro pins s σ H Q I h;refine wpAny_Call_method_late hbase hfew hline rfl (thn (ho pins s σ H _ I h) fun v s1 ⟨x,H1,I1,r1,ty,q1⟩=>?_);obtain ⟨h1,h2⟩:=WP I1 r1 ty;refine ⟨T,id,pa,slot,hty,h1,h2,?_⟩;have hA:=ha cpos pins s1 σ H1 _ I1 q1;rw [hs] at hA ⊢;refine Calls.callWith_builtin (by show (false||(backTo cpos (starEach es X.env)).any (·.1))=false;rw [hplain] <;> rfl) (Calls.evalArgs_plain ?_);exact thn hA fun us s2 ⟨vs,H2,I2,r2,q2⟩=>hm pins s2 σ H2 x vs v us Q I2 r1 r2 q2
end
end L2
namespace L2
open PySem PySem.Spec PyProof.Rows
noncomputable def MtM (X:Cx) (id:String) (r:V->List V->Hp->VK->Prop):Prop:=
 ∀(pins:List (Addr×Obj)) (s:Shared) (σ:St) (H:Hp) (x:V) (xs:List V) (v:Value) (us:List Value) (Q:VK),Inv X pins σ H s->RelV x v->Vals xs us->r x xs H Q->
  wpAny (model X.prog X.w) X.A (call (.builtin id) (v::us)) (EP X pins σ Q) X.xe s
theorem Vals.one:∀{x:V} {us:List Value},Vals [x] us->∃u,us=[u]/\RelV x u
 | _,_,.cons r .nil=>⟨_,rfl,r⟩
theorem Vals.zero:∀{us:List Value},Vals [] us->us=[]
 | _,.nil=>rfl
theorem Vals.dropLast {xs:List V} {us:List Value} (h:Vals xs us):Vals xs.dropLast us.dropLast:=by
 induction h with
 | nil=>exact .nil
 | cons r t ih=>
  cases t with
  | nil=>exact .nil
  | cons q t'=>exact .cons r ih
theorem HQ {α:Type} (l:List α):l.eraseIdx (l.length-1)=l.dropLast:=by
 induction l with
 | nil=>rfl
 | cons a r ih=>
  cases r with
  | nil=>rfl
  | cons b r=>
   have e:(a::b::r).length-1=((b::r).length-1)+1:=by
    have h1:(a::b::r).length=r.length+2:=rfl;have h2:(b::r).length=r.length+1:=rfl;lia
   rw [e,List.eraseIdx_cons_succ,ih]
   all_goals rfl
section
variable {X:Cx} {pins:List (Addr×Obj)} {σ:St} {H:Hp} {s:Shared} {l b:Addr} {xs ys zs:List V}
theorem Inv.aE1 {its its':List Value} {n:Nat} {f:Array Value->Array Value} {t':Nat} (I:Inv X pins σ H s) (hH:H l=some (.lst xs))
  (e:s.heap.get? l=some {cls:=.type "list",data:=.seq its.toArray n}) (hf:f its.toArray=its'.toArray) (hv:Vals ys its') (hz:ys.length<=sizeLine) :
  Inv X pins σ (upd H l (.lst ys)) {s with heap:=s.heap.update l (Obj.mapSeq f),toks:=t'}:=by
 have q:=PySem.IsL.update e f;rw [hf] at q;refine I.write (x:=l) (e:=l) (by rw [hH];exact trivial) (.inl rfl) (fun b' u hb hu=>(Heap.get?_update_other s.heap (Obj.mapSeq f) (Ne.symm hb)).trans hu) ⟨_,q⟩ ?_;exact ⟨hz,its',_,hv,q⟩
theorem Inv.aFt {its:List Value} {t':Nat} (I:Inv X pins σ H s) (hv:Vals ys its) (hz:ys.length<=sizeLine) :
  Inv X pins σ (upd H s.heap.objs.size (.lst ys)) {s with heap:=s.heap.push {cls:=.type "list",data:=.seq its.toArray},toks:=t'}:=
 I.laid (fun _ _ q=>Heap.get?_push_of_some _ q) (Nat.le_refl _) ⟨hz,its,0,hv,Heap.get?_push_size _ rfl⟩
theorem Inv.fresh (I:Inv X pins σ H s):H s.heap.objs.size=none:=I.hok.fresh (Nat.le_refl _)
theorem Inv.aE2 (I:Inv X pins σ H s) (hH:H l=some (.lst xs)):xs.length<=sizeLine/\∃(its:List Value) (n:Nat),Vals xs its/\xs.length=its.length/\s.heap.get? l=some {cls:=.type "list",data:=.seq its.toArray n}:=by
 obtain ⟨z,its,n,r,e⟩:=I.hok l _ hH;exact ⟨z,its,n,r,r.length,e⟩
end
section
variable {X:Cx}
noncomputable def YJ:V->List V->Hp->VK->Prop:=fun x vs H Q=>∃l xs y,x=.ref l/\vs=[y]/\H l=some (.lst xs)/\xs.length<sizeLine/\Q .non (upd H l (.lst (xs++[y])))
theorem gW:MtM X "list.append" YJ:=by
 intro pins s σ H x vs v us Q I rx rv h;obtain ⟨l,xs,y,rfl,rfl,hH,hz,q⟩:=h;cases rx;obtain ⟨u,rfl,ru⟩:=rv.one;obtain ⟨z,its,n,r,hl,e⟩:=I.aE2 hH;refine call_meets F.slot_list_append ⟨_,e,rfl⟩ F.entry_list_append (F.args_list_append_2 _ _) (PySem.list_append l its.toArray n u (by rw [List.size_toArray];lia)) ⟨e,?_⟩;refine ⟨.non,_,I.aE1 (its':=its++[u]) hH e (by simp) (r.append (.cons ru .nil)) ?_,rfl,q⟩;rw [List.length_append,List.length_singleton];lia
noncomputable def aFu:V->List V->Hp->VK->Prop:=fun x vs H Q=>∃l xs y,x=.ref l/\vs=[]/\H l=some (.lst xs)/\xs[xs.length-1]?=some y/\Q y (upd H l (.lst xs.dropLast))
theorem aBk:MtM X "list.pop" aFu:=by
 intro pins s σ H x vs v us Q I rx rv h;obtain ⟨l,xs,y,rfl,rfl,hH,hy,q⟩:=h;cases rx;have hus:=rv.zero;subst hus;obtain ⟨z,its,n,r,hl,e⟩:=I.aE2 hH;obtain ⟨u,hu,ru⟩:=r.get hy;have hy':its.toArray[its.toArray.size-1]?=some u:=by
  show its.toArray[its.length-1]?=some u;rw [<-Array.getElem?_toList,<-hl];exact hu
 refine call_meets F.slot_list_pop ⟨_,e,rfl⟩ F.entry_list_pop (F.args_list_pop_1 _) (MeetsSeq.list_pop_last l its.toArray n u hy' (by rw [List.size_toArray];lia)) ⟨e,?_⟩;refine ⟨y,_,I.aE1 (its':=its.dropLast) hH e ?_ r.dropLast ?_,ru,q⟩
 ·show its.toArray.eraseIdxIfInBounds (its.toArray.size-1)=its.dropLast.toArray;rw [List.size_toArray,List.eraseIdxIfInBounds_toArray,HQ]
 ·rw [List.length_dropLast];lia
end
section
variable {prog:Program} {w:World} {A:Around} {E:Value->Shared->Prop} {s:Shared}
end
section
variable {X:Cx}
end
end L2
namespace L2
open PySem PySem.Spec PyProof.Rows
section
variable {κ:Type} [DecidableEq κ]
noncomputable def lW (kvs:List (κ×V)) (k:κ):Option V:=(kvs.find? fun kv=>decide (kv.1=k)).map (·.2)
noncomputable def putK (kvs:List (κ×V)) (k:κ) (v:V):List (κ×V):=
 if (kvs.any fun kv=>decide (kv.1=k))=true then kvs.map (fun kv=>if kv.1=k then (kv.1,v) else kv) else kvs++[(k,v)]
theorem mD {p:κ×V} {r:List (κ×V)} {k:κ} (e:p.1=k):lW (p::r) k=some p.2:=by simp [lW,List.find?_cons,e]
theorem mF {p:κ×V} {r:List (κ×V)} {k:κ} (e:¬p.1=k):lW (p::r) k=lW r k:=by simp [lW,List.find?_cons,e]
theorem mG (k:κ):∀kvs:List (κ×V),(kvs.any fun kv=>decide (kv.1=k))=(lW kvs k).isSome
 | []=>rfl
 | p::r=>by
  rw [List.any_cons];by_cases e:p.1=k
  ·simp only [mD e,decide_eq_true e,Bool.true_or,Option.isSome_some]
  ·rw [mF e,decide_eq_false e,Bool.false_or];exact mG k r
theorem lF (kvs:List (κ×V)) (k:κ) (v:V):(putK kvs k v).length<=kvs.length+1:=by
 unfold putK;split
 ·rw [List.length_map];lia
 ·rw [List.length_append,List.length_cons,List.length_nil];lia
theorem tZ {kvs:List (κ×V)} {k:κ} (v:V) (h:lW kvs k=none):putK kvs k v=kvs++[(k,v)]:=by
 unfold putK;rw [mG,h];exact if_neg (by decide)
theorem R3.pP {o:Option V} {u:Option Value} (r:R3 o u):o.isSome=u.isSome:=by
 cases o with
 | none=>cases u with
  | none=>rfl
  | some _=>exact (show False from r).elim
 | some _=>cases u with
  | none=>exact (show False from r).elim
  | some _=>rfl
theorem KV.val {kvs:List (κ×V)} {vs:List (κ×Value)} (r:KV kvs vs) (k:κ):R3 (lW kvs k) (valueAt vs k):=by
 unfold KV at r;induction r with
 | nil=>exact True.intro
 | @cons p q ps qs h t ih=>
  obtain ⟨h1,h2⟩:=h;by_cases e:p.1=k
  ·have e':q.1=k:=h1.symm.trans e;have b:valueAt (q::qs) k=some q.2:=by simp [valueAt,List.find?_cons,e']
   rw [mD e,b];exact h2
  ·have e':¬q.1=k:=fun z=>e (h1.trans z)
   have b:valueAt (q::qs) k=valueAt qs k:=by simp [valueAt,List.find?_cons,e']
   rw [mF e,b];exact ih
theorem KV.any {kvs:List (κ×V)} {vs:List (κ×Value)} (r:KV kvs vs) (k:κ):(kvs.any fun kv=>decide (kv.1=k))=vs.any fun kv=>decide (kv.1=k):=by
 unfold KV at r;induction r with
 | nil=>rfl
 | cons h t ih=>rw [List.any_cons,List.any_cons,ih,h.1]
theorem KV.repl {kvs:List (κ×V)} {vs:List (κ×Value)} (r:KV kvs vs) (k:κ) {y:V} {u:Value} (ry:RelV y u) :
  KV (kvs.map fun kv=>if kv.1=k then (kv.1,y) else kv) (vs.map fun kv=>if kv.1=k then (kv.1,u) else kv):=by
 unfold KV at r ⊢;induction r with
 | nil=>exact .nil
 | @cons p q ps qs h t ih=>
  rw [List.map_cons,List.map_cons];refine .cons ?_ ih;obtain ⟨h1,h2⟩:=h;by_cases e:p.1=k
  ·rw [if_pos e,if_pos (h1.symm.trans e)];exact ⟨h1,ry⟩
  ·rw [if_neg e,if_neg (fun z=>e (h1.trans z))];exact ⟨h1,h2⟩
theorem KV.put {kvs:List (κ×V)} {vs:List (κ×Value)} (r:KV kvs vs) (k:κ) {y:V} {u:Value} (ry:RelV y u):KV (putK kvs k y) (stored vs k u):=by
 unfold putK stored;rw [r.any k];by_cases e:(vs.any fun kv=>decide (kv.1=k))=true
 ·rw [if_pos e,if_pos e];exact r.repl k ry
 ·rw [if_neg e,if_neg e];exact Paired.snoc r ⟨rfl,ry⟩
theorem KV.length {kvs:List (κ×V)} {vs:List (κ×Value)} (r:KV kvs vs):kvs.length=vs.length:=Paired.length r
end
theorem K6 {P:Program} {w:World} {k:Key} {u:Value} (r:RelV (kV k) u):(b_ P w).is k u=true:=by
 cases k with
 | inl i=>obtain ⟨t,e⟩:=(show ∃t,u=Value.int i t from r);subst e;exact yL P w i t
 | inr x=>obtain ⟨t,e⟩:=(show ∃t,u=Value.str x t from r);subst e;exact yM P w x t
theorem wG {P:Program} {w:World}:∀{ks:List Key} {us:List Value},Vals (ks.map kV) us->ItemsAre (b_ P w) ks us
 | [],_,r=>by rw [List.map_nil] at r;cases r;exact .nil
 | k::ks,_,r=>by
  rw [List.map_cons] at r;cases r with
  | cons h t=>exact .cons (K6 h) (wG t)
noncomputable abbrev KT (H:Hp):List (List Key×V)->List (List Key×Addr×Value)->Prop:=Paired fun p q=>p.1=q.1/\H q.2.1=some (.tup (p.1.map kV))/\RelV p.2 q.2.2
theorem KT.val {H:Hp} {kvs:List (List Key×V)} {xs:List (List Key×Addr×Value)} (r:KT H kvs xs) (k:List Key):R3 (lW kvs k) ((atKey xs k).map (·.2)):=by
 induction r with
 | nil=>exact True.intro
 | @cons p q ps qs h t ih=>
  obtain ⟨h1,_,h2⟩:=h;by_cases e:p.1=k
  ·have e':q.1=k:=h1.symm.trans e;have b:atKey (q::qs) k=some q.2:=by simp [atKey,List.find?_cons,e']
   rw [mD e,b];exact h2
  ·have e':¬q.1=k:=fun z=>e (h1.trans z)
   have b:atKey (q::qs) k=atKey qs k:=by simp [atKey,List.find?_cons,e']
   rw [mF e,b];exact ih
theorem KT.repl {H:Hp} {kvs:List (List Key×V)} {xs:List (List Key×Addr×Value)} (r:KT H kvs xs) (k:List Key) {y:V} {u:Value} (ry:RelV y u) :
  KT H (kvs.map fun kv=>if kv.1=k then (kv.1,y) else kv) (xs.map (putAt k u)):=by
 induction r with
 | nil=>exact .nil
 | @cons p q ps qs h t ih=>
  rw [List.map_cons,List.map_cons];refine .cons ?_ ih;obtain ⟨h1,h2,h3⟩:=h;unfold putAt;by_cases e:p.1=k
  ·rw [if_pos e,if_pos (h1.symm.trans e)];exact ⟨h1,h2,ry⟩
  ·rw [if_neg e,if_neg (fun z=>e (h1.trans z))];exact ⟨h1,h2,h3⟩
theorem KT.put {H:Hp} {kvs:List (List Key×V)} {xs:List (List Key×Addr×Value)} (r:KT H kvs xs) (k:List Key) {b:Addr} {y:V} {u:Value} (hb:H b=some (.tup (k.map kV))) (ry:RelV y u) :
  KT H (putK kvs k y) (storedH xs k b u):=by
 have e:(kvs.any fun kv=>decide (kv.1=k))=(atKey xs k).isSome:=by
  rw [mG,(r.val k).pP,Option.isSome_map]
 unfold putK storedH;rw [e];by_cases q:(atKey xs k).isSome=true
 ·rw [if_pos q,if_pos q];exact r.repl k ry
 ·rw [if_neg q,if_neg q];exact Paired.snoc r ⟨rfl,hb,ry⟩
theorem KT.keeps {H H':Hp} {kvs:List (List Key×V)} {xs:List (List Key×Addr×Value)} (r:KT H kvs xs) (ht:∀b ys,H b=some (.tup ys)->H' b=some (.tup ys)):KT H' kvs xs:=
 Paired.aDi r fun _ _ z=>⟨z.1,ht _ _ z.2.1,z.2.2⟩
section
variable {P:Program} {w:World} {H:Hp} {h:Heap} {a:Addr}
theorem aBl {u:HO} (ok:HOk P w H h) (e:Rd H a u):gJ P w H h a u:=e.ok ok
theorem S_ {kvs:List (Key×V)} (ok:HOk P w H h) (e:Rd H a (.dK kvs)):kvs.length<=sizeLine/\(a==sysModules)=false/\∃vs,KV kvs vs/\h.DictOf (b_ P w) a vs:=
 show gJ P w H h a (.dK kvs) from aBl ok e
theorem HR {kvs:List (Key×V)} (ok:HOk P w H h) (e:H a=some (.dK kvs)):kvs.length<=sizeLine/\(a==sysModules)=false/\∃vs,KV kvs vs/\h.DictOf (b_ P w) a vs:=S_ ok (.inl e)
theorem BW {ks:List Key} (ok:HOk P w H h) (e:H a=some (.tup (ks.map kV))):(tupleKind (b_ P w)).is h ks a:=by
 obtain ⟨_,its,r,o,h1,h2,n,h3⟩:=(show gJ P w H h a (.tup (ks.map kV)) from ok a _ e)
 exact ⟨o,its.toArray,n,h1,h2,congrArg (·.1) h3,by simpa using wG r⟩
theorem TF {kvs:List (List Key×V)} (ok:HOk P w H h) (e:Rd H a (.dT kvs)):kvs.length<=sizeLine/\(a==sysModules)=false/\
  ∃xs,KT H kvs xs/\h.DictOfH (tupleKind (b_ P w)) a xs:=by
 obtain ⟨z,y,xs,r,o,es,ep,h1,h2,h3,h4,h5⟩:=(show gJ P w H h a (.dT kvs) from aBl ok e)
 refine ⟨z,y,xs,r,o,es,ep,h1,h2,h3,h4,fun x hx=>?_,h5⟩;have all:∀{l:List (List Key×V)} {m:List (List Key×Addr×Value)},KT H l m->∀x∈m,(tupleKind (b_ P w)).is h x.1 x.2.1:=by
  intro l m q;induction q with
  | nil=>intro x hx;exact nomatch hx
  | @cons p q ps qs hq t ih=>
   intro x hx;rcases List.mem_cons.mp hx with e|hx
   ·subst e;exact BW ok (by rw [<-hq.1];exact hq.2.1)
   ·exact ih x hx
 exact all r x hx
theorem TJ {kvs:List (List Key×V)} (ok:HOk P w H h) (e:H a=some (.dT kvs)):kvs.length<=sizeLine/\(a==sysModules)=false/\
  ∃xs,KT H kvs xs/\h.DictOfH (tupleKind (b_ P w)) a xs:=TF ok (.inl e)
end
noncomputable def K7 (H:Hp) (a:Addr) (y:V) (r:Option V):Prop:=
 (∃kvs k,Rd H a (.dK kvs)/\y=kV k/\r=lW kvs k)\/∃kvs k b,Rd H a (.dT kvs)/\y=.ref b/\H b=some (.tup (k.map kV))/\r=lW kvs k
noncomputable def TQ (H:Hp) (a:Addr) (y v:V) (H':Hp):Prop:=
 (∃kvs k,H a=some (.dK kvs)/\y=kV k/\kvs.length<sizeLine/\H'=upd H a (.dK (putK kvs k v)))\/
 ∃kvs k b,H a=some (.dT kvs)/\y=.ref b/\H b=some (.tup (k.map kV))/\kvs.length<sizeLine/\H'=upd H a (.dT (putK kvs k v))
theorem K7.k {H:Hp} {a:Addr} {kvs:List (Key×V)} {k:Key} (e:H a=some (.dK kvs)):K7 H a (kV k) (lW kvs k):=.inl ⟨kvs,k,.inl e,rfl,rfl⟩
theorem K7.t {H:Hp} {a b:Addr} {kvs:List (List Key×V)} {k:List Key} (e:H a=some (.dT kvs)) (eb:H b=some (.tup (k.map kV))):K7 H a (.ref b) (lW kvs k):=.inr ⟨kvs,k,b,.inl e,rfl,eb,rfl⟩
theorem TQ.k {H:Hp} {a:Addr} {kvs:List (Key×V)} {k:Key} {v:V} (e:H a=some (.dK kvs)) (hl:kvs.length<sizeLine):TQ H a (kV k) v (upd H a (.dK (putK kvs k v))):=.inl ⟨kvs,k,e,rfl,hl,rfl⟩
theorem TQ.t {H:Hp} {a b:Addr} {kvs:List (List Key×V)} {k:List Key} {v:V} (e:H a=some (.dT kvs)) (eb:H b=some (.tup (k.map kV))) (hl:kvs.length<sizeLine) :
  TQ H a (.ref b) v (upd H a (.dT (putK kvs k v))):=.inr ⟨kvs,k,b,e,rfl,eb,hl,rfl⟩
section
variable {X:Cx} {pins:List (Addr×Obj)} {σ:St} {H:Hp} {s:Shared} {a:Addr} {y v:V} {u r:Value} {o:Option V} {A:Around} {E:Value->Shared->Prop}
theorem Inv.big (I:Inv X pins σ H s):sysModules<s.heap.objs.size:=by
 have h:mainGlobals<s.heap.objs.size:=(I.mod.glob.keeps I.bk).lt;exact Nat.lt_trans (by decide) h
theorem K8 {Q:Value->Shared->Prop} (hu:A.units+1<cLine) (I:Inv X pins σ H s) (g:K7 H a y (some v)) (ry:RelV y u) (h:∀w' s',Inv X pins σ H s'->RelV v w'->Q w' s') :
  wpAny (model X.prog X.w) A (getItem (.ref a) u) Q E s:=by
 rcases g with ⟨kvs,k,e,ey,l⟩|⟨kvs,k,b,e,ey,eb,l⟩
 ·subst ey;obtain ⟨z,hd,vs,rel,dd⟩:=S_ I.hok e;obtain ⟨w',hw,rw'⟩:=R3.some_of (v:=v) (o:=valueAt vs k) (by rw [l];exact rel.val k);exact wpAny_getItem_of (K6 ry) dd.mapOf hw (h w' _ (I.tok _) rw')
 ·subst ey;cases (show u=Value.ref b from ry);obtain ⟨z,hd,xs,rel,dd⟩:=TF I.hok e;obtain ⟨w',hw,rw'⟩:=R3.some_of (v:=v) (o:=(atKey xs k).map (·.2)) (by rw [l];exact rel.val k);obtain ⟨p,hp,hp2⟩:=Option.map_eq_some_iff.mp hw;refine wpAny_getItem_heap (tupleKind_room_in1 hu) (BW I.hok eb) dd hp ?_;rw [hp2];exact h w' _ (I.tok _) rw'
theorem YK {Q:Value->Shared->Prop} (hu:A.units+1<cLine) (I:Inv X pins σ H s) (g:K7 H a y o) (ry:RelV y u) (h:∀s',Inv X pins σ H s'->Q (.bool (!o.isSome)) s') :
  wpAny (model X.prog X.w) A (compareOp .NotIn u (.ref a)) Q E s:=by
 rcases g with ⟨kvs,k,e,ey,l⟩|⟨kvs,k,b,e,ey,eb,l⟩
 ·subst ey;obtain ⟨z,hd,vs,rel,dd⟩:=S_ I.hok e;refine wpAny_notIn_of (K6 ry) hd dd.mapOf ?_;rw [<-(rel.val k).pP,<-l];exact h _ (I.tok _)
 ·subst ey;cases (show u=Value.ref b from ry);obtain ⟨z,hd,xs,rel,dd⟩:=TF I.hok e;refine wpAny_notIn_heap (tupleKind_room_in1 hu) (BW I.hok eb) hd dd ?_;have q:=(rel.val k).pP;rw [Option.isSome_map] at q;rw [<-q,<-l];exact h _ (I.tok _)
theorem yQ {h':Heap} {t':Nat} {ob:HO} (I:Inv X pins σ H s) (mu:Mut (H a)) (hs:Heap.SameBut a s.heap h') (he:∃q,h'.get? a=some q) (new:gJ X.prog X.w (upd H a ob) h' a ob) :
  Inv X pins σ (upd H a ob) {s with heap:=h',toks:=t'}:=
 I.write (x:=a) (e:=a) mu (.inl rfl) (fun b q hb z=>(hs.2 b hb).trans z) he new
theorem WQ {P:Program} {w:World} {H':Hp} {h':Heap} {kvs:List (Key×V)} {vs:List (Key×Value)} (z:kvs.length<=sizeLine) (hd:(a==sysModules)=false) (rel:KV kvs vs) (dd:h'.DictOf (b_ P w) a vs) :
  gJ P w H' h' a (.dK kvs):=⟨z,hd,vs,rel,dd⟩
theorem pQ {H':Hp} {Q:Unit->Shared->Prop} (hu:A.units+1<cLine) (I:Inv X pins σ H s) (g:TQ H a y v H') (ry:RelV y u) (rv:RelV v r) (h:∀s',Inv X pins σ H' s'->Q () s') :
  wpAny (model X.prog X.w) A (setItem (.ref a) u r) Q E s:=by
 rcases g with ⟨kvs,k,e,ey,l,eH⟩|⟨kvs,k,b,e,ey,eb,l,eH⟩
 ·subst ey eH;obtain ⟨z,hd,vs,rel,dd⟩:=HR I.hok e;have hz:vs.length<=sizeLine:=by rw [<-rel.length];exact z
  have hl:(putK kvs k v).length<=sizeLine:=by have:=lF kvs k v;lia
  refine wpAny_setItem_pairs (hsz:=hz) (K6 ry) dd fun h' dd' hs=>h _ ?_
  have he:∃q,h'.get? a=some q:=let ⟨q,_,_,hq,_⟩:=dd';⟨q,hq⟩
  exact yQ I (by rw [e];exact True.intro) hs he (WQ hl hd (rel.put k rv) dd')
 ·subst ey eH;cases (show u=Value.ref b from ry);obtain ⟨z,hd,xs,rel,dd⟩:=TJ I.hok e;have hz:xs.length<=sizeLine:=by rw [<-Paired.length rel];exact z
  have hl:(putK kvs k v).length<=sizeLine:=by have:=lF kvs k v;lia
  refine wpAny_setItem_heap (hsz:=hz) (tupleKind_room_in1 hu) (BW I.hok eb) dd fun h' dd' hs=>h _ ?_
  obtain ⟨q,es,ep,hq,h2,h3,h4,_,h5⟩:=dd';refine yQ I (by rw [e];exact True.intro) hs ⟨q,hq⟩ ⟨hl,hd,_,(rel.put k eb rv).keeps fun c ys ec=>?_,q,es,ep,hq,h2,h3,h4,h5⟩;rw [aR (XS ec e (fun z=>nomatch z))];exact ec
end
section
variable {X:Cx} {pins:List (Addr×Obj)} {σ:St} {H:Hp} {s:Shared} {a:Addr} {kvs:List (Key×V)} {k:Key} {u:Value} {A:Around} {E:Value->Shared->Prop}
end
theorem yR {X:Cx} {pins:List (Addr×Obj)} {σ:St} {H:Hp} {s:Shared} {a:Addr} {y:V} {o:Option V} (I:Inv X pins σ H s) (g:K7 H a y o):s.TypeIs (.ref a) "dict":=by
 rcases g with ⟨kvs,k,e,_,_⟩|⟨kvs,k,b,e,_,_,_⟩
 ·obtain ⟨_,_,vs,_,dd⟩:=S_ I.hok e;exact dd.typeIs
 ·obtain ⟨_,_,xs,_,dd⟩:=TF I.hok e;exact dd.typeIs
section
variable {X:Cx} {o i e value:Expr} {pos pos' tpos:Pos} {td ty tv:TE}
end
theorem BX {P:Program} {w:World} {H:Hp} (h:Heap) (hb:sysModules<h.objs.size):gJ P w H (h.push {cls:=.type "dict",data:=.dict #[]}) h.objs.size (.dK []):=
 ⟨Nat.zero_le _,beq_eq_false_iff_ne.mpr (Ne.symm (Nat.ne_of_lt hb)),[],.nil,Heap.DictOf.new h⟩
def aBm:TE:=fun _ H Q=>∀p,H p=none->Q (.ref p) (upd H p (.dK []))
section
variable {X:Cx} {pos:Pos}
theorem BZ:PE X (.Dict [] [] pos) aBm:=fun pins s σ H Q I h=>
 wpAny_Dict_empty ⟨.ref s.heap.objs.size,_,I.laid (a:=s.heap.objs.size) (o:=.dK []) (t':=s.toks) (fun _ _ q=>Heap.get?_push_of_some _ q) (Nat.le_refl _) (BX s.heap I.big),rfl,h _ (I.hok.fresh (Nat.le_refl _))⟩
end
noncomputable def K9:List (TE×TE)->St->Hp->(List (V×V)->Hp->Prop)->Prop
 | [],_,H,Q=>Q [] H
 | (tk,tv)::r,σ,H,Q=>tk σ H fun x H1=>tv σ H1 fun y H2=>K9 r σ H2 fun ps H3=>Q ((x,y)::ps) H3
noncomputable abbrev VV:List (V×V)->List (Value×Value)->Prop:=Paired fun p q=>RelV p.1 q.1/\RelV p.2 q.2
noncomputable def PPs (X:Cx) (pos:Pos) (keys:List (Option Expr)) (values:List Expr) (trs:List (TE×TE)):Prop:=
 ∀(pins:List (Addr×Obj)) (s:Shared) (σ:St) (H:Hp) (Q:List (V×V)->Hp->Prop),Inv X pins σ H s->K9 trs σ H Q->
  wpAny (model X.prog X.w) X.A (evalPairs (pairTrees keys values X.env pos)) (fun vs s'=>∃ps H',Inv X pins σ H' s'/\VV ps vs/\Q ps H') X.xe s
theorem K_ {X:Cx} {pos:Pos}:PPs X pos [] [] []:=fun pins s σ H Q I h=>pairTrees_nil_walk ⟨[],H,I,.nil,h⟩
theorem B_ {X:Cx} {pos:Pos} {k v:Expr} {ks:List (Option Expr)} {vs:List Expr} {tk tv:TE} {trs:List (TE×TE)} (hk:PE X k tk) (hv:PE X v tv) (hr:PPs X pos ks vs trs) :
  PPs X pos (some k::ks) (v::vs) ((tk,tv)::trs):=fun pins s σ H Q I h=>
 pairTrees_cons_walk (thn (hk pins s σ H _ I h) fun u s1 ⟨x,H1,I1,rx,q1⟩=>thn (hv pins s1 σ H1 _ I1 q1) fun w2 s2 ⟨y,H2,I2,ry,q2⟩=>
  thn (hr pins s2 σ H2 _ I2 q2) fun ws s3 ⟨ps,H3,I3,rel,q3⟩=>⟨(x,y)::ps,H3,I3,.cons ⟨rx,ry⟩ rel,q3⟩)
noncomputable def kZ (kvs more:List (Key×V)):List (Key×V):=more.foldl (fun acc kv=>putK acc kv.1 kv.2) kvs
theorem KV.merge:∀{more:List (Key×V)} {rs:List (Key×Value)} {kvs:List (Key×V)} {vs:List (Key×Value)},KV more rs->KV kvs vs->KV (kZ kvs more) (merged vs rs):=by
 intro more rs kvs vs r;unfold KV at r;induction r generalizing kvs vs with
 | nil=>intro q;exact q
 | @cons p q ps qs h t ih=>
  intro r0;have e:KV (putK kvs p.1 p.2) (stored vs q.1 q.2):=by
   have:=r0.put p.1 h.2;rw [<-h.1];exact this
  exact ih e
theorem mH:∀(more kvs:List (Key×V)),(kZ kvs more).length<=kvs.length+more.length
 | [],kvs=>by show kvs.length<=kvs.length+0;lia
 | p::r,kvs=>by
  have h1:=mH r (putK kvs p.1 p.2);have h2:=lF kvs p.1 p.2;show (kZ (putK kvs p.1 p.2) r).length<=_;rw [List.length_cons];lia
theorem tG {P:Program} {w:World}:∀{kvs:List (Key×V)} {ws:List (Value×Value)},VV (kvs.map fun kv=>(kV kv.1,kv.2)) ws->∃rs,Carries (b_ P w) ws rs/\KV kvs rs
 | [],_,r=>by rw [List.map_nil] at r;cases r;exact ⟨[],True.intro,.nil⟩
 | p::kvs,_,r=>by
  rw [List.map_cons] at r;cases r with
  | @cons a b as bs h t=>
   obtain ⟨rs,c,q⟩:=tG (P:=P) (w:=w) t;obtain ⟨b1,b2⟩:=b;exact ⟨(p.1,b2)::rs,⟨K6 h.1,rfl,c⟩,.cons ⟨rfl,h.2⟩ q⟩
noncomputable def aE3 (trs:List (TE×TE)):TE:=fun σ H Q=>∀p,H p=none->K9 trs σ (upd H p (.dK [])) fun ps H2=>H2 p=some (.dK [])/\∃kvs:List (Key×V),ps=kvs.map (fun kv=>(kV kv.1,kv.2))/\kvs.length<=15/\Q (.ref p) (upd H2 p (.dK (kZ [] kvs)))
theorem LC {X:Cx} {pos:Pos} {keys:List (Option Expr)} {values:List Expr} {trs:List (TE×TE)} (h:PPs X pos keys values trs) (hall:keys.all (·.isSome)=true) (hl:keys.length=values.length) (h0:keys≠[])
  (h15:keys.length<=15):PE X (.Dict keys values pos) (aE3 trs):=by
 intro pins s σ H Q I q;have hn:=I.hok.fresh (Nat.le_refl s.heap.objs.size);have I1:=I.laid (a:=s.heap.objs.size) (o:=.dK []) (h':=s.heap.push {cls:=.type "dict",data:=.dict #[]}) (t':=s.toks) (fun _ _ q=>Heap.get?_push_of_some _ q) (Nat.le_refl _) (BX s.heap I.big);refine wpAny_Dict_walk (knd:=b_ X.prog X.w) hall hl h0 h15 (thn (h pins _ σ _ _ I1 (q _ hn)) fun ws s2 ⟨ps,H2,I2,rel,e,kvs,ep,lk,q2⟩=>?_);subst ep;obtain ⟨rs,c,rk⟩:=tG (P:=X.prog) (w:=X.w) rel;obtain ⟨z,hd,vs0,r0,dd⟩:=HR I2.hok e;cases r0;refine ⟨rs,c,dd,fun h' dd' hs=>⟨.ref s.heap.objs.size,_,?_,rfl,q2⟩⟩;have hz:(kZ [] kvs).length<=sizeLine:=by
  have h1:=mH kvs [];rw [List.length_nil] at h1;rw [sizeLine_eq];lia
 have he:∃q,h'.get? s.heap.objs.size=some q:=let ⟨q,_,_,hq,_⟩:=dd';⟨q,hq⟩
 exact yQ I2 (by rw [e];exact True.intro) hs he (WQ hz hd (rk.merge .nil) dd')
section
variable {X:Cx} {pins:List (Addr×Obj)} {σ:St} {H:Hp} {s:Shared} {a:Addr} {y d:V} {u r:Value} {o:Option V} {A:Around} {E:Value->Shared->Prop}
end
section
variable {X:Cx} {o e f:Expr} {apos cpos:Pos} {td ty tx:TE}
end
section
variable {X:Cx} {pins:List (Addr×Obj)} {σ:St} {H:Hp} {s:Shared} {a:Addr} {kvs:List (Key×V)} {A:Around} {E:Value->Shared->Prop}
end
section
variable {X:Cx} {pins:List (Addr×Obj)} {σ:St} {H:Hp} {s:Shared} {a:Addr} {y:V} {u:Value} {A:Around} {E:Value->Shared->Prop}
end
end L2
namespace Att
open PySem PySem.W PySem.Calls PyProof.Rows
theorem pR {P:Params} {h:Heap}:∀(ns:List Int) (vs:List Value),WellAll P h vs (ns.map WData.int)->IntsAre vs ns:=by
 intro ns;induction ns with
 | nil=>
  intro vs w;rw [List.map_nil] at w;cases w;exact .nil
 | cons n ns ih=>
  intro vs w;rw [List.map_cons] at w;cases w with
  | cons a b=>
   cases a;exact .cons _ _ (ih _ b)
theorem LK {l:OpenLaw} {n:Nat} (hn:l.most=some n) {P:Params} {h:Heap} {args:List WData} {vals:List Value}
  (hpre:l.row.toRowW.claim.pre args=true) (hwl:WellAll P h vals args) :
  ∃a vs ns,vals=[Value.ref a]/\args=[WData.list (ns.map WData.int)]/\h.get? a=some {cls:=.type "list",data:=.seq vs.toArray}/\IntsAre vs ns/\ns.length<=n:=by
 have hsh:WShape.hasAll [] args [.list .int]=true:=(pre_splitW hpre).1;have hc:l.pre.holds [] {args:=args}=true:=(pre_splitW hpre).2;obtain ⟨d,r,rfl,h1,h2⟩:=hasAllW_cons hsh;obtain rfl:=hasAllW_nil h2;obtain ⟨xs,rfl,h3⟩:=hasW_list h1;obtain ⟨ns,rfl⟩:=items_int h3;have hlen:ns.length<=n:=by
  unfold OpenLaw.pre at hc;have h4:(WTm.not (.lt (.lit (.int (n:Int))) (.len (.arg 0)))).holds [] {args:=[.list (ns.map .int)]}=true:=by
   have h4:=(holds_andW hc).1;rw [hn] at h4;exact h4
  have h5:=condW_of h4 (w_not (w_lt w_lit (w_len_list (w_arg rfl))));rw [List.length_map] at h5;refine Nat.le_of_not_lt fun q=>?_
  have q':(n:Int)<((ns.length:Nat):Int):=by lia
  first
   | (rw [decide_eq_true q'] at h5;exact absurd h5 (by decide))
   | (simp at h5;lia)
 cases hwl with
 | cons w1 w2=>
  cases w2;cases w1 with
  | list ho hall=>exact ⟨_,_,ns,rfl,rfl,ho,pR ns _ hall,hlen⟩
theorem LQ (l:OpenLaw) (args:List WData):l.row.toRowW.claim.post args (.bool true) args=true:=
 postW_of (r:=l.row.toRowW) (X:=(true==true))
  (show WShape.has [] (.bool true) .bool=true by first|rfl|decide|simp [WShape.has,WShape.arms,WShape.armsAll])
  (show (WTm.eq .res (.lit (.bool true))).value [] {args:=args,res:=some (.bool true),after:=args}=some (.bool (true==true)) from w_eq_bool (w_res rfl) w_lit) rfl
theorem yS {l:OpenLaw} {n:Nat} {q:Program} {loose:List Str} {XP:(Str->Option Value)->Heap->Prop} {YP:World->Heap->Prop} {d:DefRec}
  (hn:l.most=some n) (hdf:d.params.defaults=[])
  (call:∀(w:World) (s₀ s₁:Shared) (mg mb:Str->Option Value) (fa:Addr) (o:Obj) (pm cd doc:Value) (a:Addr) (vs:List Value) (ns:List Int),
   Ground q loose [] XP w s₀ mg mb s₁.heap->YP w s₁.heap->
   s₁.heap.get? fa=some o->o.data=.func (docDef d.name d.params d.body d.scope pm cd doc)->s₁.heap.CodeRec cd d.name->mg d.name=some (.ref fa)->
   s₁.heap.get? a=some {cls:=.type "list",data:=.seq vs.toArray}->IntsAre vs ns->ns.length<=n->s₁.gens=#[]->
   codeAny (model l.prog w) callerA (.call (.ref fa) ⟨[.ref a],[]⟩) (fun r s'=>r=.ok (.ret (.bool true))/\OldK s₁.heap s'.heap/\s'.os=s₁.os/\AllBare s'.gens) s₁) :
  WalkO q loose XP YP l.row.toRowW d [] (fun f vs=>PySem.call f vs):=by
 intro w s₀ s₁ mg mb G Y fa o pm cd doc dV kV ho hd hcd hD hmg hg args vals as hpre hlay hrd hwl hlo;obtain rfl:dV=.none:=Dflts.none hD hdf;obtain rfl:kV=.none:=Dflts.noKw hD;obtain ⟨a,vs,ns,rfl,rfl,hobj,hints,hlen⟩:=LK hn hpre hwl;refine enter_call (codeAny_mono (call w s₀ s₁ mg mb fa o pm cd doc a vs ns G Y ho (fd_plain hd) hcd hmg hobj hints hlen hg) fun r s' hq=>?_);obtain ⟨rfl,h2,h3,h4⟩:=hq;exact ⟨.inl ⟨.bool true,.bool true,[],rfl,fun _=>rfl,.bool true,LQ l _,fun _=>⟨List.Pairwise.nil,fun _ hm=>(nomatch hm)⟩⟩,h2,h3,h4⟩
section
variable {prog:Program} {w:World} {A:Around} {E:Value->Shared->Prop} {s:Shared} {K:Frag}
end
end Att
namespace L2
open PySem PySem.Spec PyProof.Rows
theorem wH:∀{vs:List Value} {ns:List Int},IntsAre vs ns->Vals (ns.map V.int) vs
 | _,_,.nil=>.nil
 | _,_,.cons n t h=>.cons ⟨t,rfl⟩ (wH h)
def Only (H:Hp):Prop:=∀b,H b=none\/∃o xs,H b=some (.frz o (.lst xs))
theorem TV {P:Program} {w:World} {K:PySem.W.Frag} {mg mb:Str->Option Value} {CX:CXT} {k:Nat} {fa a:Addr} {fd:FuncData} {x:Str} {sp:Sp} {s₁:Shared} {vs:List Value} {ns:List Int}
  (KX:K.In s₁.heap) (hns:s₁.heap.Ns mainGlobals mg) (hb:s₁.heap.Ns builtinsNs mb) (hbb:∀x:Str,x ≠ "__name__"->mb x=bootBuiltins x) (hlim:s₁.heap.NoLimit) (hg:s₁.gens=#[])
  (ha:s₁.heap.get? a=some {cls:=.type "list",data:=.seq vs.toArray}) (hi:IntsAre vs ns) (hl:ns.length<=sizeLine) (hr:o9 k callerA)
  (F:∀base:Heap,K.In base->base.Ns mainGlobals mg->HF P w K mg base CX k fa fd [x] sp) (hbind:∀(s:Shared) (u:Value),BindsTo s fd ⟨[u],[]⟩ [(x,u)])
  (hsp:∀H:Hp,Only H->SqL K H a (ns.map V.int)->sp [.ref a] H (fun v _=>v=.bl true) fun _ _ _=>False)
  (hCX:∀H e s',CX [] H s₁ (fun _ _ _=>False) e s'->False) :
  codeAny (model P w) callerA (.call (.ref fa) ⟨[.ref a],[]⟩) (fun r s'=>r=.ok (.ret (.bool true))/\OldK s₁.heap s'.heap/\s'.os=s₁.os/\AllBare s'.gens) s₁:=by
 have rv:=wH hi;have lenV:=hi.length
 -- from an abstract heap in which nothing but the script may be tracked
 have core:∀H:Hp,Only H->SqL K H a (ns.map V.int)->HOk P w H s₁.heap->(∀b,H b≠none->b=a)->(H a≠none->K.lookup a=none)->
   codeAny (model P w) callerA (.call (.ref fa) ⟨[.ref a],[]⟩) (fun r s'=>r=.ok (.ret (.bool true))/\OldK s₁.heap s'.heap/\s'.os=s₁.os/\AllBare s'.gens) s₁:=by
  intro H hO hS hok hA hK;have base_of:∀{b:Addr} {o:Obj},s₁.heap.get? b=some o->H b=none->(SJ s₁.heap H).get? b=some o:=fun e n=>SN e n
  have noA:∀{b:Addr} {o:Obj} {es:Array DictEntry} {ep:Nat},s₁.heap.get? b=some o->o.data=.dict es ep->H b=none:=fun {b o es ep} e d=>by
   cases q:H b with
   | none=>rfl
   | some u=>
    have e':b=a:=hA b (by rw [q];simp);subst e';rw [ha] at e;cases e;have d':Data.seq vs.toArray _=Data.dict es ep:=d;cases d'
  have nsK:∀{b:Addr} {m:Str->Option Value},s₁.heap.Ns b m->(SJ s₁.heap H).Ns b m:=fun {b m} ⟨o,es,ep,e,d,r⟩=>⟨o,es,ep,base_of e (noA e d),d,r⟩
  have hKb:K.In (SJ s₁.heap H):=fun b o e=>base_of (KX b o e) (by
   cases q:H b with
   | none=>rfl
   | some u=>
    have e':b=a:=hA b (by rw [q];simp);subst e';rw [hK (by rw [q];simp)] at e;cases e)
  have hM:Mod K mg (SJ s₁.heap H):=⟨hKb,nsK hns,⟨mb,nsK hb,hbb⟩,let ⟨mc,h1,h2⟩:=hlim;⟨mc,nsK h1,h2⟩⟩
  have e0:aD8 P w K mg (SJ s₁.heap H) callerA [] s₁ H:=⟨rfl,hM,fun b o e=>XX e,Nat.le_of_eq (J8 _ _),trivial,fun b hb=>absurd (show b∈([]:List Addr) from hb) (by simp),hok,.of_eq hg⟩
  refine codeAny_mono ((F _ hKb (nsK hns)).run callerA [] s₁ H ⟨[.ref a],[]⟩ [.ref a] [.ref a] _ _ hr e0 (hbind s₁ (.ref a)) (.cons rfl .nil) (hsp H hO hS)) fun r s' h=>?_
  cases r with
  | error e=>exact (hCX H e s' h).elim
  | ok fl=>
   cases fl with
   | next=>exact False.elim h
   | brk=>exact False.elim h
   | cont=>exact False.elim h
   | ret u=>
    obtain ⟨v,H',os,bare,un,hok',r',q⟩:=h;have q':v=.bl true:=q;subst q';obtain rfl:u=Value.bool true:=r';refine ⟨rfl,OldK.of_keep fun b o e=>?_,os,bare⟩;cases q:H b with
    | none=>exact un.keep b o e q (by intro z;exact absurd (show b∈([]:List Addr) from z) (by simp)) (by simp)
    | some u=>
     rcases hO b with z|⟨ob,xs,z⟩
     ·rw [q] at z;cases z
     ·have z2:=un.frzs b ob _ z;obtain ⟨e1,_⟩:=hok b _ z;obtain ⟨e2,_⟩:=hok' b _ z2;rw [e] at e1;cases e1;exact e2
 cases hk:K.lookup a with
 | some o=>
  -- the script is one of the module's own objects
  have e:=KX a o hk;rw [ha] at e;cases e;refine core (fun _=>none) (fun _=>.inl rfl) (.inr ⟨_,vs.toArray,_,hk,rfl,rfl,rfl,by rw [List.size_toArray,lenV];exact hl,by simpa using rv⟩) (fun b u z=>by have z':(none:Option HO)=some u:=z;cases z') (fun b z=>absurd rfl z) fun z=>absurd rfl z
 | none=>
  refine core (fun b=>if b=a then some (.frz {cls:=.type "list",data:=.seq vs.toArray} (.lst (ns.map V.int))) else none) (fun b=>?_) (.inl (.inr ⟨{cls:=.type "list",data:=.seq vs.toArray},if_pos rfl⟩)) (fun b u z=>?_) (fun b z=>?_) fun _=>hk
  ·by_cases hb:b=a
   ·exact .inr ⟨_,_,if_pos hb⟩
   ·exact .inl (if_neg hb)
  ·by_cases hb:b=a
   ·have z':=(if_pos hb).symm.trans z;cases z';subst hb;exact ⟨ha,by rw [List.length_map];exact hl,vs,_,rv,ha⟩
   ·have z':=(if_neg hb).symm.trans z;cases z'
  ·by_cases hb:b=a
   ·exact hb
   ·exact absurd (if_neg hb) z
end L2
namespace L2
open PySem PySem.Spec PyProof.Rows
theorem YL {l:PySem.W.OpenLaw} {n k:Nat} {q:Program} {loose:List Str} {XP:(Str->Option Value)->Heap->Prop} {YP:World->Heap->Prop} {d:DefRec} {K:Params->PySem.W.Frag} {CX:World->CXT} {sp:World->Sp} {x:Str}
  (hn:l.most=some n) (hn2:n<=sizeLine) (hdf:d.params.defaults=[]) (hr:o9 k callerA)
  (hY:∀(w:World) (h:Heap),YP w h->(K w.params).In h)
  (F:∀(w:World) (mg:Str->Option Value) (fa:Addr) (h:Heap),(K w.params).In h->h.Ns mainGlobals mg->mg d.name=some (.ref fa)->
   ∃fd:FuncData,(∀(s:Shared) (u:Value),BindsTo s fd ⟨[u],[]⟩ [(x,u)])/\
    ∀base:Heap,(K w.params).In base->base.Ns mainGlobals mg->HF l.prog w (K w.params) mg base (CX w) k fa fd [x] (sp w))
  (hsp:∀(w:World) (H:Hp) (a:Addr) (ns:List Int),ns.length<=n->Only H->SqL (K w.params) H a (ns.map V.int)->sp w [.ref a] H (fun v _=>v=.bl true) fun _ _ _=>False)
  (hCX:∀(w:World) (H:Hp) (s:Shared) (e:Value) (s':Shared),CX w [] H s (fun _ _ _=>False) e s'->False) :
  PySem.W.WalkO q loose XP YP l.row.toRowW d [] (fun f vs=>PySem.call f vs):=by
 refine Att.yS hn hdf fun w s₀ s₁ mg mb fa o pm cd doc a vs ns G Y ho hd hcd hmg hobj hints hlen hg=>?_
 have KX:=hY w _ Y;obtain ⟨fd,hb,hF⟩:=F w mg fa _ KX G.T.g hmg;exact TV KX G.T.g G.T.b G.T.builtins G.T.nolimit hg hobj hints (Nat.le_trans hlen hn2) hr hF hb (fun H hO hS=>hsp w H a ns hlen hO hS) fun H e s'=>hCX w H s₁ e s'
end L2
namespace L2
open PySem PySem.Spec PyProof.Rows
noncomputable def lG (s:Stmt):Arguments:=match s with
 | .FunctionDef _ a _ _ _ _ _ _ _ _=>a
 | _=>{posonlyargs:=[],args:=[],vararg:=none,kwonlyargs:=[],kw_defaults:=[],kwarg:=none,defaults:=[]}
noncomputable def eX (s:Stmt):List Stmt:=match s with
 | .FunctionDef _ _ b _ _ _ _ _ _ _=>b
 | _=>[]
noncomputable def aQ (s:Stmt):Scope:=match s with
 | .FunctionDef _ _ _ _ _ _ sc _ _ _=>sc
 | _=>{kind:=.function,names:=[],isGenerator:=false,isCoroutine:=false}
abbrev CX0:CXT:=fun _ _ _ _ _ _=>False
abbrev E0:XK:=fun _ _ _=>False
theorem aE4 {X:Cx}:KZ CX0 X E0:=fun _ _ _ _ _ _ _ h=>h.elim
structure Fun (K:PySem.W.Frag) (x qual:Str) (st:Stmt) (f:Addr) (fd:FuncData):Prop where
 ex:∃(oc:Value) (od:Option Addr) (kV doc pm:Value) (an:Option Addr) (cdv ct:Value) (osl:Array (Option Value)),
  fd=PySem.W.fnOf x qual (lG st) (eX st) (aQ st) .none kV doc pm an cdv ct/\K.lookup f=some ⟨oc,od,.func fd,osl⟩/\PySem.W.codeIn K cdv qual=true
 kp:PySem.W.keepIn K (.ref f)=true
section
variable {P:Program} {w:World} {K:PySem.W.Frag} {mg:Str->Option Value} {base:Heap}
theorem Fun.ok {x qual:Str} {st:Stmt} {f:Addr} {fd:FuncData} {N ps:List Str} {k:Nat} {sp:Sp} (F:Fun K x qual st f fd) (S:bY N ps (aQ st)) (len:∀vs H Q E,sp vs H Q E->vs.length=ps.length)
  (hbody:∀(cdv:Value) (A:Around) (outer:List Env) (s:Shared) (H:Hp) (vs:List V) (Q:VK) (E:XK),o9 k (A.deeper (envOfC qual (aQ st) s.heap.objs.size f cdv))->sp vs H Q E->
   ∃t,PSs (R4 CX0 P w K mg base N qual (aQ st) f cdv A outer s H E).nox (eX st) t/\t {nx:=fun _ H'=>Q .non H',rt:=Q} (start N vs) H):HF P w K mg base CX0 (k+1) f fd ps sp:=by
 obtain ⟨oc,od,kV,doc,pm,an,cdv,ct,osl,rfl,lk,hcd⟩:=F.ex;refine aDz lk hcd S len fun A outer s H vs Q E hr hsp=>?_
 obtain ⟨t,h,q⟩:=hbody cdv A outer s H vs Q E hr hsp;exact ⟨t,h.nox,q⟩
theorem Fun.binds {x qual:Str} {st:Stmt} {f:Addr} {fd:FuncData} {ps:List Str} (F:Fun K x qual st f fd)
  (h:∀(kV doc pm:Value) (an:Option Addr) (cdv ct:Value) (us:List Value),us.length=ps.length->bindArgs (PySem.W.fnOf x qual (lG st) (eX st) (aQ st) .none kV doc pm an cdv ct) ⟨us,[]⟩=pure (ps.zip us)):Binds K fd ps []:=by
 obtain ⟨oc,od,kV,doc,pm,an,cdv,ct,osl,rfl,lk,hcd⟩:=F.ex;exact .all (h kV doc pm an cdv ct)
theorem WR {x qual:Str} {st:Stmt} {f:Addr} {oc:Value} {od an:Option Addr} {osl:Array (Option Value)} {kV doc pm cdv ct:Value} (l:K.lookup f=some ⟨oc,od,.func (PySem.W.fnOf x qual (lG st) (eX st) (aQ st) .none kV doc pm an cdv ct),osl⟩)
  (c:PySem.W.codeIn K cdv qual=true) (k:PySem.W.keepIn K (.ref f)=true):Fun K x qual st f (PySem.W.fnOf x qual (lG st) (eX st) (aQ st) .none kV doc pm an cdv ct):=⟨⟨oc,od,kV,doc,pm,an,cdv,ct,osl,rfl,l,c⟩,k⟩
end
section
variable {X:Cx}
end
def bN (H H':Hp):Prop:=∀b o,H b=some o->H' b=some o
theorem bN.refl (H:Hp):bN H H:=fun _ _ h=>h
theorem bN.trans {H H1 H2:Hp} (a:bN H H1) (b:bN H1 H2):bN H H2:=fun c o h=>b c o (a c o h)
theorem bN.free {H H':Hp} (e:bN H H') {l:Addr} (h:H' l=Option.none):H l=Option.none:=by
 cases q:H l with
 | none=>rfl
 | some o=>
  rw [e l o q] at h;cases h
section
variable {X:Cx}
end
section
variable {κ:Type} [DecidableEq κ]
theorem TX {kvs:List (κ×V)} {k:κ} (h:lW kvs k=none):¬k∈kvs.map (·.1):=by
 intro m;obtain ⟨p,hp,e⟩:=List.mem_map.mp m;have q:(kvs.any fun kv=>decide (kv.1=k))=true:=List.any_eq_true.mpr ⟨p,hp,decide_eq_true e⟩;rw [mG,h] at q;exact absurd q (by simp)
theorem LR:∀{l:List κ} {k:κ},l.Nodup->¬k∈l->(l++[k]).Nodup
 | [],k,_,_=>by simp
 | a::r,k,h,hk=>by
  obtain ⟨h1,h2⟩:=List.nodup_cons.mp h;show (a::(r++[k])).Nodup;refine List.nodup_cons.mpr ⟨fun m=>?_,LR h2 fun m=>hk (List.mem_cons.mpr (Or.inr m))⟩;rcases List.mem_append.mp m with q|q
  ·exact h1 q
  ·exact hk (List.mem_cons.mpr (Or.inl (List.mem_singleton.mp q).symm))
theorem YM {kvs:List (κ×V)} {k:κ} (v:V) (hn:(kvs.map (·.1)).Nodup) (h:lW kvs k=none):((putK kvs k v).map (·.1)).Nodup:=by
 rw [tZ v h,List.map_append];exact LR hn (TX h)
end
end L2
end
section
namespace TS
open PySem PyProof.Rows
noncomputable def L_:Bool->Keyed->Array Keyed->Nat->Nat->Nat->StateT SortSt Sem (Option Nat):=sortPriv% PySem.Builtin.gallop
def t6:Nat->StateT SortSt Sem Unit:=sortPriv% PySem.Builtin.setMinGallop
noncomputable def TY:Array Keyed->Array Keyed->StateT SortSt Sem (Array Keyed):=sortPriv% PySem.Builtin.mergeLo
noncomputable def T3:Array Keyed->Array Keyed->StateT SortSt Sem (Array Keyed):=sortPriv% PySem.Builtin.mergeHi
noncomputable def yU (left:Bool) (key:Keyed) (arr:Array Keyed) (base i:Nat):StateT SortSt Sem (Option Bool):=
 elem' arr (base+i) >>= fun x=>if left=true then lt' x key else lt' key x >>= fun r=>pure (Option.map (fun b=>!b) r)
theorem fH {prog:Program} {w:World} {A:Around} {E:Value->Shared->Prop} {s:Shared} {g:Nat} {st:SortSt} {Q:Unit->SortSt->Prop}
  (h:Q () (SortSt.mk' (kindOf st) (arrOf st) (pendingOf st) g (failedOf st))):wpS (model prog w) A E s (t6 g) Q st:=wpS_modify h
end TS
end
section
namespace TS
open PySem PyProof.Rows
section
variable {prog:Program} {w:World} {A:Around} {E:Value->Shared->Prop} {s:Shared}
theorem HS {left:Bool} {key:Keyed} {arr:Array Keyed} {base n hint:Nat} {st:SortSt} {Q:Option Nat->SortSt->Prop} (p:Nat->Bool)
  (hp:∀i (R:Option Bool->SortSt->Prop),i<n->R (some (p i)) st->wpS (model prog w) A E s (yU left key arr base i) R st)
  (hm:∀i j,i<=j->j<n->p j=true->p i=true) (hh:hint<n)
  (h:∀k,k<=n->(∀i,i<k->p i=true)->(∀i,k<=i->i<n->p i=false)->Q (some k) st) :
  wpS (model prog w) A E s (L_ left key arr base n hint) Q st:=by
 with_unfolding_all refine wpS_bind (hp _ _ hh ?_)
 dsimp only;cases hr:p hint with
 | true=>
  simp only [if_true];refine wpS_bind (wpS_mono (wpS_forRange
   (I:=fun x c st'=>st'=st/\∃l o,c=(none,l,o)/\l<o/\x+1<=o/\hint+l<n/\p (hint+l)=true)
   (Q:=fun c st'=>st'=st/\∃l o,c=(none,l,o)/\l<o/\hint+l<n/\p (hint+l)=true/\(n-hint<=o\/(hint+o<n/\p (hint+o)=false))) ?step ?fin ?init) ?post)
  case init=>exact ⟨rfl,0,1,rfl,by lia,by lia,hh,hr⟩
  case fin=>
   rintro c st' ⟨rfl,l,o,rfl,a1,a2,a3,a4⟩;exact ⟨rfl,l,o,rfl,a1,a3,a4,.inl (by lia)⟩
  case step=>
   rintro x c st' _ hx ⟨rfl,l,o,rfl,a1,a2,a3,a4⟩;dsimp only;by_cases hge:o >= n-hint
   ·rw [if_pos hge];exact wpS_pure ⟨rfl,l,o,rfl,a1,a3,a4,.inl hge⟩
   ·rw [if_neg hge];refine wpS_bind (hp _ _ (by lia) ?_);dsimp only;cases hb:p (hint+o) with
    | true=>
     simp only [Bool.not_true,Bool.false_eq_true,if_false];exact wpS_pure ⟨rfl,_,_,rfl,by lia,by lia,by lia,hb⟩
    | false=>
     simp only [Bool.not_false,if_true];exact wpS_pure ⟨rfl,_,_,rfl,a1,a3,a4,.inr ⟨by lia,hb⟩⟩
  case post=>
   rintro c st₀ ⟨rfl,l,o,rfl,a1,a3,a4,a5⟩;dsimp only;have H1:∀i,i<hint+l+1->p i=true:=fun i hi=>hm i (hint+l) (by lia) a3 a4
   have H2:∀i,hint+min o (n-hint)<=i->i<n->p i=false:=by
    intro i i1 i2;rcases a5 with a5|⟨a5,a6⟩
    ·lia
    ·cases hq:p i with
     | false=>rfl
     | true=>rw [hm (hint+o) i (by lia) i2 hq] at a6;cases a6
   refine wpS_bind (wpS_mono (wpS_forRange
    (I:=fun x c st'=>st'=st₀/\∃l r,c=(none,l,r)/\l<=r/\r<=n/\r-l<=n-x/\(∀i,i<l->p i=true)/\(∀i,r<=i->i<n->p i=false))
    (Q:=fun c st'=>st'=st₀/\∃l r,c=(none,l,r)/\l=r/\r<=n/\(∀i,i<l->p i=true)/\(∀i,r<=i->i<n->p i=false)) ?step2 ?fin2 ?init2) ?post2)
   case init2=>exact ⟨rfl,_,_,rfl,by lia,by lia,by lia,H1,H2⟩
   case fin2=>
    rintro c st' ⟨rfl,l,r,rfl,a1,a2,a3,a4,a5⟩;exact ⟨rfl,l,r,rfl,by lia,a2,a4,a5⟩
   case step2=>
    rintro x c st' _ hx ⟨rfl,l,r,rfl,a1,a2,a3,a4,a5⟩;dsimp only;by_cases hge:l >= r
    ·rw [if_pos hge];exact wpS_pure ⟨rfl,l,r,rfl,by lia,a2,a4,a5⟩
    ·rw [if_neg hge];refine wpS_bind (hp _ _ (by lia) ?_);dsimp only;cases hb:p (l+(r-l) / 2) with
     | true=>
      simp only [if_true];exact wpS_pure ⟨rfl,_,_,rfl,by lia,a2,by lia,fun i hi=>hm i _ (by lia) (by lia) hb,a5⟩
     | false=>
      simp only [Bool.false_eq_true,if_false];refine wpS_pure ⟨rfl,_,_,rfl,by lia,by lia,by lia,a4,fun i i1 i2=>?_⟩;cases hq:p i with
      | false=>rfl
      | true=>rw [hm _ i i1 i2 hq] at hb;cases hb
   case post2=>
    rintro c st' ⟨rfl,l,r,rfl,rfl,a2,a4,a5⟩;exact wpS_pure (h l a2 a4 a5)
 | false=>
  simp only [Bool.false_eq_true,if_false];refine wpS_bind (wpS_mono (wpS_forRange
   (I:=fun x c st'=>st'=st/\∃l o,c=(none,l,o)/\l<o/\x+1<=o/\l<=hint/\p (hint-l)=false)
   (Q:=fun c st'=>st'=st/\∃l o,c=(none,l,o)/\l<o/\l<=hint/\p (hint-l)=false/\(hint+1<=o\/(o<=hint/\p (hint-o)=true))) ?step ?fin ?init) ?post)
  case init=>exact ⟨rfl,0,1,rfl,by lia,by lia,by lia,hr⟩
  case fin=>
   rintro c st' ⟨rfl,l,o,rfl,a1,a2,a3,a4⟩;exact ⟨rfl,l,o,rfl,a1,a3,a4,.inl (by lia)⟩
  case step=>
   rintro x c st' _ hx ⟨rfl,l,o,rfl,a1,a2,a3,a4⟩;dsimp only;by_cases hge:o >= hint+1
   ·rw [if_pos hge];exact wpS_pure ⟨rfl,l,o,rfl,a1,a3,a4,.inl hge⟩
   ·rw [if_neg hge];refine wpS_bind (hp _ _ (by lia) ?_);dsimp only;cases hb:p (hint-o) with
    | false=>
     simp only [Bool.false_eq_true,if_false];exact wpS_pure ⟨rfl,_,_,rfl,by lia,by lia,by lia,hb⟩
    | true=>
     simp only [if_true];exact wpS_pure ⟨rfl,_,_,rfl,a1,a3,a4,.inr ⟨by lia,hb⟩⟩
  case post=>
   rintro c st₀ ⟨rfl,l,o,rfl,a1,a3,a4,a5⟩;dsimp only;have H1:∀i,i<hint+1-min o (hint+1)->p i=true:=by
    intro i hi;rcases a5 with a5|⟨a5,a6⟩
    ·lia
    ·exact hm i (hint-o) (by lia) (by lia) a6
   have H2:∀i,hint-l<=i->i<n->p i=false:=by
    intro i i1 i2;cases hq:p i with
    | false=>rfl
    | true=>rw [hm (hint-l) i (by lia) i2 hq] at a4;cases a4
   refine wpS_bind (wpS_mono (wpS_forRange
    (I:=fun x c st'=>st'=st₀/\∃l r,c=(none,l,r)/\l<=r/\r<=n/\r-l<=n-x/\(∀i,i<l->p i=true)/\(∀i,r<=i->i<n->p i=false))
    (Q:=fun c st'=>st'=st₀/\∃l r,c=(none,l,r)/\l=r/\r<=n/\(∀i,i<l->p i=true)/\(∀i,r<=i->i<n->p i=false)) ?step2 ?fin2 ?init2) ?post2)
   case init2=>exact ⟨rfl,_,_,rfl,by lia,by lia,by lia,H1,H2⟩
   case fin2=>
    rintro c st' ⟨rfl,l,r,rfl,a1,a2,a3,a4,a5⟩;exact ⟨rfl,l,r,rfl,by lia,a2,a4,a5⟩
   case step2=>
    rintro x c st' _ hx ⟨rfl,l,r,rfl,a1,a2,a3,a4,a5⟩;dsimp only;by_cases hge:l >= r
    ·rw [if_pos hge];exact wpS_pure ⟨rfl,l,r,rfl,by lia,a2,a4,a5⟩
    ·rw [if_neg hge];refine wpS_bind (hp _ _ (by lia) ?_);dsimp only;cases hb:p (l+(r-l) / 2) with
     | true=>
      simp only [if_true];exact wpS_pure ⟨rfl,_,_,rfl,by lia,a2,by lia,fun i hi=>hm i _ (by lia) (by lia) hb,a5⟩
     | false=>
      simp only [Bool.false_eq_true,if_false];refine wpS_pure ⟨rfl,_,_,rfl,by lia,by lia,by lia,a4,fun i i1 i2=>?_⟩;cases hq:p i with
      | false=>rfl
      | true=>rw [hm _ i i1 i2 hq] at hb;cases hb
   case post2=>
    rintro c st' ⟨rfl,l,r,rfl,rfl,a2,a4,a5⟩;exact wpS_pure (h l a2 a4 a5)
end
end TS
end
section
namespace TS
open PySem PyProof.Rows
structure Ord (U:Keyed->Prop) (blt:Keyed->Keyed->Bool):Prop where
 irr:∀x,U x->blt x x=false
 tr:∀x y z,U x->U y->U z->blt x y=true->blt y z=true->blt x z=true
 ntr:∀x y z,U x->U y->U z->blt x z=true->blt x y=true\/blt y z=true
abbrev dk:Keyed:=(.none,.none)
def gt (a:Array Keyed) (i:Nat):Keyed:=a.getD i dk
theorem jD {a:Array Keyed} {i:Nat} (h:i<a.size):a[i]?=some (gt a i):=by
 unfold gt;simp [Array.getD,h]
def mJ (U:Keyed->Prop) (a:Array Keyed):Prop:=∀i,i<a.size->U (gt a i)
noncomputable def Srt (blt:Keyed->Keyed->Bool) (a:Array Keyed) (lo hi:Nat):Prop:=∀i j,lo<=i->i<=j->j<hi->blt (gt a j) (gt a i)=false
noncomputable def HW (prog:Program) (w:World) (A:Around) (E:Value->Shared->Prop) (s:Shared) (kd:SortKind) (U:Keyed->Prop) (blt:Keyed->Keyed->Bool):Prop:=
 ∀(x y:Keyed) (st:SortSt) (Q:Option Bool->SortSt->Prop),U x->U y->kindOf st=kd->Q (some (blt x y)) st->wpS (model prog w) A E s (lt' x y) Q st
section
variable {prog:Program} {w:World} {A:Around} {E:Value->Shared->Prop} {s:Shared} {kd:SortKind} {U:Keyed->Prop} {blt:Keyed->Keyed->Bool}
theorem aL {arr:Array Keyed} {i:Nat} {st:SortSt} {Q:Keyed->SortSt->Prop} (hi:i<arr.size) (h:Q (gt arr i) st):wpS (model prog w) A E s (elem' arr i) Q st:=by
 rw [elem'_eq,jD hi];exact wpS_pure h
noncomputable def gp (blt:Keyed->Keyed->Bool) (left:Bool) (key:Keyed) (arr:Array Keyed) (base i:Nat):Bool:=if left then blt (gt arr (base+i)) key else !blt key (gt arr (base+i))
theorem HX (hL:HW prog w A E s kd U blt) {left:Bool} {key:Keyed} {arr:Array Keyed} {base i:Nat} {st:SortSt} {R:Option Bool->SortSt->Prop} (hk:kindOf st=kd) (hi:base+i<arr.size) (hU:mJ U arr) (hK:U key)
  (h:R (some (gp blt left key arr base i)) st):wpS (model prog w) A E s (yU left key arr base i) R st:=by
 unfold yU;refine wpS_bind (aL hi ?_);unfold gp at h;cases left with
 | true=>
  simp only [if_true] at h ⊢;exact hL _ _ _ _ (hU _ hi) hK hk h
 | false=>
  simp only [Bool.false_eq_true,if_false] at h ⊢;refine wpS_bind (hL _ _ _ _ hK (hU _ hi) hk (wpS_pure ?_));exact h
theorem YQ (O:Ord U blt) {left:Bool} {key:Keyed} {arr:Array Keyed} {base n:Nat} (hn:base+n<=arr.size) (hU:mJ U arr) (hK:U key) (hs:Srt blt arr base (base+n)) :
  ∀i j,i<=j->j<n->gp blt left key arr base j=true->gp blt left key arr base i=true:=by
 intro i j hij hj h;have h0:=hs (base+i) (base+j) (by lia) (by lia) (by lia);have ui:=hU (base+i) (by lia);have uj:=hU (base+j) (by lia);unfold gp at h ⊢;cases left with
 | true=>
  simp only [if_true] at h ⊢;rcases O.ntr _ (gt arr (base+i)) _ uj ui hK h with q|q
  ·rw [h0] at q;cases q
  ·exact q
 | false=>
  simp only [Bool.false_eq_true,if_false] at h ⊢;cases q:blt key (gt arr (base+i)) with
  | false=>rfl
  | true=>
   rcases O.ntr _ (gt arr (base+j)) _ hK uj ui q with z|z
   ·rw [z] at h;cases h
   ·rw [h0] at z;cases z
theorem dI (O:Ord U blt) (hL:HW prog w A E s kd U blt) {left:Bool} {key:Keyed} {arr:Array Keyed} {base n hint:Nat} {st:SortSt} {Q:Option Nat->SortSt->Prop} (hk:kindOf st=kd) (hn:base+n<=arr.size) (hU:mJ U arr) (hK:U key)
  (hs:Srt blt arr base (base+n)) (hh:hint<n)
  (h:∀k,k<=n->(∀i,i<k->gp blt left key arr base i=true)->(∀i,k<=i->i<n->gp blt left key arr base i=false)->Q (some k) st):wpS (model prog w) A E s (L_ left key arr base n hint) Q st:=
 HS (gp blt left key arr base) (fun i R hi r=>HX hL hk (by lia) hU hK r) (YQ O hn hU hK hs) hh h
end
section
variable (blt:Keyed->Keyed->Bool)
abbrev le (x y:Keyed):Bool:=!blt y x
def mrg (xs ys:List Keyed):List Keyed:=xs.merge ys (le blt)
variable {blt}
theorem jE {a:Array Keyed} {i:Nat} (h:i<a.size):a.toList.drop i=gt a i::a.toList.drop (i+1):=by
 rw [List.drop_eq_getElem_cons (by simpa using h)]
 congr 1
 unfold gt;simp [Array.getD,h]
theorem t7 {a:Array Keyed} {i:Nat} (h:a.size<=i):a.toList.drop i=[]:=List.drop_of_length_le (by simpa using h)
theorem jF (xs:List Keyed):mrg blt xs []=xs:=List.merge_right xs
theorem lH (ys:List Keyed):mrg blt [] ys=ys:=List.nil_merge ys
theorem d_ (x y:Keyed) (xs ys:List Keyed):mrg blt (x::xs) (y::ys)=if blt y x then y::mrg blt (x::xs) ys else x::mrg blt xs (y::ys):=by
 unfold mrg;rw [List.cons_merge_cons];cases h:blt y x <;> simp [le,h]
noncomputable def J (blt:Keyed->Keyed->Bool) (a b:Array Keyed) (out:Array Keyed) (ia ib:Nat):Prop:=
 out.toList++mrg blt (a.toList.drop ia) (b.toList.drop ib)=mrg blt a.toList b.toList
variable {a b out:Array Keyed} {ia ib:Nat}
theorem J.pb (h:J blt a b out ia ib) (ha:ia<a.size) (hb:ib<b.size) (q:blt (gt b ib) (gt a ia)=true):J blt a b (out.push (gt b ib)) ia (ib+1):=by
 unfold J at h ⊢;rw [<-h,jE ha,jE hb,d_,if_pos q,<-jE ha];simp
theorem J.pa (h:J blt a b out ia ib) (ha:ia<a.size) (hb:ib<b.size) (q:blt (gt b ib) (gt a ia)=false):J blt a b (out.push (gt a ia)) (ia+1) ib:=by
 unfold J at h ⊢;rw [<-h,jE ha,jE hb,d_,if_neg (by simp [q]),<-jE hb];simp
theorem CG {a:Array Keyed} {i k:Nat} (h:i+k<a.size) (out:Array Keyed):out++a.extract i (i+(k+1))=(out++a.extract i (i+k)).push (gt a (i+k)):=by
 apply Array.toList_inj.mp;simp only [Array.toList_append,Array.toList_extract,List.extract_eq_take_drop,Array.toList_push];rw [show i+(k+1)-i=k+1 by lia,show i+k-i=k by lia,List.take_add_one,List.append_assoc]
 congr 2
 rw [List.getElem?_drop];have:a.toList[i+k]?=some (gt a (i+k)):=by rw [Array.getElem?_toList];exact jD h
 rw [this];rfl
theorem CJ (a:Array Keyed) (i:Nat) (out:Array Keyed):out++a.extract i (i+0)=out:=by
 apply Array.toList_inj.mp;simp
theorem J.ga (h:J blt a b out ia ib) (hb:ib<b.size):∀k,ia+k<=a.size->(∀i,i<k->blt (gt b ib) (gt a (ia+i))=false)->J blt a b (out++a.extract ia (ia+k)) (ia+k) ib
 | 0,_,_=>by rw [CJ];exact h
 | k+1,hk,q=>by
  have ih:=J.ga h hb k (by lia) fun i hi=>q i (by lia)
  rw [CG (by lia)];exact J.pa ih (by lia) hb (q k (by lia))
theorem J.gb (h:J blt a b out ia ib) (ha:ia<a.size):∀k,ib+k<=b.size->(∀i,i<k->blt (gt b (ib+i)) (gt a ia)=true)->J blt a b (out++b.extract ib (ib+k)) ia (ib+k)
 | 0,_,_=>by rw [CJ];exact h
 | k+1,hk,q=>by
  have ih:=J.gb h ha k (by lia) fun i hi=>q i (by lia)
  rw [CG (by lia)];exact J.pb ih ha (by lia) (q k (by lia))
theorem jY (a:Array Keyed) (i:Nat):(a.extract i a.size).toList=a.toList.drop i:=by
 simp [Array.toList_extract,List.extract_eq_take_drop,List.take_of_length_le]
theorem J.lJ (h:J blt a b out ia ib) (hb:ib=b.size):(out++a.extract ia a.size++b.extract ib b.size).toList=mrg blt a.toList b.toList:=by
 rw [<-h,Array.toList_append,Array.toList_append,jY,jY,t7 (Nat.le_of_eq hb.symm),jF];simp
theorem J.lK (h:J blt a b out ia ib) (ha:ia=a.size):(out++a.extract ia a.size++b.extract ib b.size).toList=mrg blt a.toList b.toList:=by
 rw [<-h,Array.toList_append,Array.toList_append,jY,jY,t7 (Nat.le_of_eq ha.symm),lH];simp
theorem t8 (x:Keyed):∀ys:List Keyed,(∀y∈ys,blt y x=true)->mrg blt [x] ys=ys++[x]
 | [],_=>jF _
 | y::ys,h=>by
  rw [d_,if_pos (h y (List.mem_cons_self ..)),t8 x ys fun z hz=>h z (List.mem_cons_of_mem _ hz)];rfl
theorem WT {a:Array Keyed} {x:Keyed} (h:x∈a.toList):∃i,i<a.size/\x=gt a i:=by
 obtain ⟨i,hi,e⟩:=List.getElem_of_mem h;refine ⟨i,by simpa using hi,?_⟩;unfold gt;rw [<-e];have hi':i<a.size:=by simpa using hi
 simp [Array.getD,hi']
theorem J.last (h:J blt a b out ia ib) (ha:ia+1=a.size) (q:∀i,i<b.size->blt (gt b i) (gt a ia)=true):(out++b.extract ib b.size++a.extract ia a.size).toList=mrg blt a.toList b.toList:=by
 rw [<-h,Array.toList_append,Array.toList_append,jY,jY,jE (by lia:ia<a.size),t7 (a:=a) (i:=ia+1) (by lia),t8,List.append_assoc];intro y hy;obtain ⟨i,hi,e⟩:=WT (List.mem_of_mem_drop hy);rw [e];exact q i hi
end
end TS
end
section
namespace TS
open PySem PyProof.Rows
structure Sim (st st':SortSt):Prop where
 kd:kindOf st'=kindOf st
 ar:arrOf st'=arrOf st
 pd:pendingOf st'=pendingOf st
 fl:failedOf st'=failedOf st
section
variable {prog:Program} {w:World} {A:Around} {E:Value->Shared->Prop} {s:Shared} {kd:SortKind} {U:Keyed->Prop} {blt:Keyed->Keyed->Bool}
theorem yV (O:Ord U blt) (hL:HW prog w A E s kd U blt) {a b:Array Keyed} {st:SortSt} {Q:Array Keyed->SortSt->Prop} (hk:kindOf st=kd) (hUa:mJ U a) (hUb:mJ U b) (hsa:Srt blt a 0 a.size) (hsb:Srt blt b 0 b.size)
  (ha:0<a.size) (hb:0<b.size) (hf:blt (gt b 0) (gt a 0)=true) (hl:∀i,i<b.size->blt (gt b i) (gt a (a.size-1))=true)
  (h:∀r st',Sim st st'->r.toList=mrg blt a.toList b.toList->Q r st'):wpS (model prog w) A E s (TY a b) Q st:=by
 have lastAt:∀{j:Nat},j+1=a.size->∀i,i<b.size->blt (gt b i) (gt a j)=true:=fun {j} hj i hi=>by
  have:=hl i hi;rwa [show a.size-1=j by lia] at this
 with_unfolding_all refine wpS_bind (wpS_lift (wpAny_rule ⟨rfl,?_⟩))
 dsimp only;refine wpS_bind (aL hb ?_)
 try dsimp only
 have J0:J blt a b #[gt b 0] 0 1:=J.pb (out:=#[]) (by unfold J;simp) ha hb hf;have sim0:Sim st st:=⟨rfl,rfl,rfl,rfl⟩
 by_cases e1:1=b.size
 ·rw [if_pos (by simpa using e1)];exact wpS_pure (h _ _ sim0 (J0.lJ e1))
 rw [if_neg (by simpa using e1)];by_cases e2:0+1=a.size
 ·rw [if_pos (by simpa using e2)];exact wpS_pure (h _ _ sim0 (J0.last e2 (lastAt e2)))
 rw [if_neg (by simpa using e2)];refine wpS_bind (wpS_get ?_);refine wpS_bind (wpS_mono (wpS_forRange
  (I:=fun x c st'=>Sim st st'/\∃out ia ib mg,c=(none,out,ia,ib,mg)/\J blt a b out ia ib/\ia+1<a.size/\ib<b.size/\x<=ia+ib)
  (Q:=fun c st'=>Sim st st'/\∃r,c.1=some r/\r.toList=mrg blt a.toList b.toList) ?step ?fin ?init) ?post)
 case init=>exact ⟨sim0,_,_,_,_,rfl,J0,by lia,by lia,by lia⟩
 case fin=>
  rintro c st' ⟨_,out,ia,ib,mg,rfl,_,h1,h2,h3⟩;lia
 case post=>
  rintro ⟨c1,c2⟩ st' ⟨sim,r,e,hr⟩;dsimp only at e;subst e;exact wpS_pure (h r st' sim hr)
 case step=>
  rintro x₀ c st1 _ hx0 ⟨sim,out,ia,ib,mg,rfl,j1,h1,h2,h3⟩;dsimp only;refine wpS_bind (wpS_mono (wpS_forRange
   (I:=fun x c st'=>Sim st st'/\∃out ia ib ac bc,c=(none,out,ia,ib,ac,bc)/\J blt a b out ia ib/\ia+1<a.size/\ib<b.size/\x₀<=ia+ib/\x<=ia+ib)
   (Q:=fun c st'=>Sim st st'/\((∃r,c.1=some r/\r.toList=mrg blt a.toList b.toList)\/∃out ia ib ac bc,c=(none,out,ia,ib,ac,bc)/\J blt a b out ia ib/\ia+1<a.size/\ib<b.size/\x₀+1<=ia+ib)) ?step2 ?fin2 ?init2) ?post2)
  case init2=>exact ⟨sim,_,_,_,_,_,rfl,j1,h1,h2,h3,by lia⟩
  case fin2=>
   rintro c st' ⟨_,out,ia,ib,ac,bc,rfl,_,h1,h2,_,h3⟩;lia
  case step2=>
   rintro x c st2 _ hx ⟨sim,out,ia,ib,ac,bc,rfl,j2,h1,h2,h3,h4⟩;dsimp only;refine wpS_bind (aL h2 (wpS_bind (aL (by lia) (wpS_bind (hL _ _ _ _ (hUb _ h2) (hUa _ (by lia)) (sim.1.trans hk) ?_)))));dsimp only;cases q:blt (gt b ib) (gt a ia) with
   | true=>
    simp only [if_true];refine wpS_bind (aL h2 ?_);have j3:=J.pb j2 (by lia) h2 q;by_cases e3:ib+1=b.size
    ·rw [if_pos (by simpa using e3)];exact wpS_pure ⟨sim,.inl ⟨_,rfl,j3.lJ e3⟩⟩
    ·rw [if_neg (by simpa using e3)];split
     ·exact wpS_pure ⟨sim,.inr ⟨_,_,_,_,_,rfl,j3,by lia,by lia,by lia⟩⟩
     ·exact wpS_pure ⟨sim,_,_,_,_,_,rfl,j3,by lia,by lia,by lia,by lia⟩
   | false=>
    simp only [Bool.false_eq_true,if_false];refine wpS_bind (aL (by lia) ?_);have j3:=J.pa j2 (by lia) h2 q;by_cases e3:ia+1+1=a.size
    ·rw [if_pos (by simpa using e3)];exact wpS_pure ⟨sim,.inl ⟨_,rfl,j3.last e3 (lastAt e3)⟩⟩
    ·rw [if_neg (by simpa using e3)];split
     ·exact wpS_pure ⟨sim,.inr ⟨_,_,_,_,_,rfl,j3,by lia,by lia,by lia⟩⟩
     ·exact wpS_pure ⟨sim,_,_,_,_,_,rfl,j3,by lia,by lia,by lia,by lia⟩
  case post2=>
   rintro ⟨c1,c2⟩ st2 ⟨sim,⟨r,e,hr⟩|⟨out,ia,ib,ac,bc,e,j2,h1,h2,h3⟩⟩
   ·dsimp only at e;subst e;exact wpS_pure ⟨sim,r,rfl,hr⟩
   ·cases e;dsimp only;refine wpS_bind (wpS_lift (wpAny_rule ⟨rfl,?_⟩));refine wpS_bind (wpS_mono (wpS_forRange
     (I:=fun x c st'=>Sim st st'/\∃out ia ib mg ac bc,c=(none,out,ia,ib,mg,ac,bc)/\J blt a b out ia ib/\ia+1<a.size/\ib<b.size/\x₀+1<=ia+ib/\x<=ia+ib)
     (Q:=fun c st'=>Sim st st'/\((∃r,c.1=some r/\r.toList=mrg blt a.toList b.toList)\/∃out ia ib mg ac bc,c=(none,out,ia,ib,mg,ac,bc)/\J blt a b out ia ib/\ia+1<a.size/\ib<b.size/\x₀+1<=ia+ib)) ?step3 ?fin3 ?init3) ?post3)
    case init3=>exact ⟨sim,_,_,_,_,_,_,rfl,j2,h1,h2,h3,by lia⟩
    case fin3=>
     rintro c st' ⟨_,out,ia,ib,mg,ac,bc,rfl,_,h1,h2,_,h3⟩;lia
    case post3=>
     rintro ⟨c1,c2⟩ st3 ⟨sim,⟨r,e,hr⟩|⟨out,ia,ib,mg,ac,bc,e,j3,h1,h2,h3⟩⟩
     ·dsimp only at e;subst e;exact wpS_pure ⟨sim,r,rfl,hr⟩
     ·cases e;dsimp only;refine wpS_bind (fH (wpS_pure ⟨⟨sim.1,sim.2,sim.3,sim.4⟩,_,_,_,_,rfl,j3,h1,h2,by lia⟩))
    case step3=>
     rintro x c st3 _ hx ⟨sim,out,ia,ib,mg,ac,bc,rfl,j3,h1,h2,h3,h4⟩;dsimp only;by_cases hg:mg > 1
     ·rw [if_pos hg];refine wpS_bind (fH ?_);have sim':Sim st (SortSt.mk' (kindOf st3) (arrOf st3) (pendingOf st3) (mg-1) (failedOf st3)):=⟨sim.1,sim.2,sim.3,sim.4⟩
      have hk':kindOf (SortSt.mk' (kindOf st3) (arrOf st3) (pendingOf st3) (mg-1) (failedOf st3))=kd:=sim.1.trans hk;refine wpS_bind (aL (by lia) ?_);refine wpS_bind (dI O hL hk' (by lia) hUa (hUb _ (by lia)) (fun i j i1 i2 i3=>hsa i j (by lia) i2 (by lia)) (by lia) fun k hk1 y1 y2=>?_)
      try dsimp only
      by_cases kp:k > 0
      ·rw [if_pos kp];have J1:=J.ga j3 (by lia) k (by lia) (fun i hi=>by have:=y1 i hi;simpa [gp] using this);by_cases e1:ia+k+1=a.size
       ·rw [if_pos (by simpa using e1)];exact wpS_pure ⟨sim',.inl ⟨_,rfl,J1.last e1 (lastAt (by lia))⟩⟩
       ·rw [if_neg (by simpa using e1)];by_cases e1':ia+k=a.size
        ·rw [if_pos (by simpa using e1')];exact wpS_pure ⟨sim',.inl ⟨_,rfl,J1.lK e1'⟩⟩
        ·rw [if_neg (by simpa using e1')];have hz1:blt (gt b ib) (gt a (ia+k))=true:=(by have:=y2 k (Nat.le_refl _) (by lia);simpa [gp] using this)
         refine wpS_bind (aL (by lia) ?_)
         try dsimp only
         have J2:=J.pb J1 (by lia) (by lia) hz1;by_cases e2:ib+1=b.size
         ·rw [if_pos (by simpa using e2)];exact wpS_pure ⟨sim',.inl ⟨_,rfl,J2.lJ e2⟩⟩
         ·rw [if_neg (by simpa using e2)];refine wpS_bind (aL (by lia) ?_);refine wpS_bind (dI O hL hk' (by lia) hUb (hUa _ (by lia)) (fun i j i1 i2 i3=>hsb i j (by lia) i2 (by lia)) (by lia) fun k1 hk1 y1 y2=>?_)
          try dsimp only
          by_cases k1p:k1 > 0
          ·rw [if_pos k1p];have J3:=J.gb J2 (by lia) k1 (by lia) (fun i hi=>by have:=y1 i hi;simpa [gp] using this);by_cases e3:ib+1+k1=b.size
           ·rw [if_pos (by simpa using e3)];exact wpS_pure ⟨sim',.inl ⟨_,rfl,J3.lJ e3⟩⟩
           ·rw [if_neg (by simpa using e3)];have hz2:blt (gt b (ib+1+k1)) (gt a (ia+k))=false:=(by have:=y2 k1 (Nat.le_refl _) (by lia);simpa [gp] using this)
            refine wpS_bind (aL (by lia) ?_)
            try dsimp only
            have J4:=J.pa J3 (by lia) (by lia) hz2;by_cases e4:(ia+k)+1+1=a.size
            ·rw [if_pos (by simpa using e4)];exact wpS_pure ⟨sim',.inl ⟨_,rfl,J4.last e4 (lastAt (by lia))⟩⟩
            ·rw [if_neg (by simpa using e4)];split
             ·exact wpS_pure ⟨sim',.inr ⟨_,_,_,_,_,_,rfl,J4,by lia,by lia,by lia⟩⟩
             ·exact wpS_pure ⟨sim',_,_,_,_,_,_,rfl,J4,by lia,by lia,by lia,by lia⟩
          ·rw [if_neg k1p];obtain rfl:k1=0:=by lia
           have J3:=J2;have hz2:blt (gt b (ib+1)) (gt a (ia+k))=false:=(by have:=y2 0 (Nat.le_refl _) (by lia);simpa [gp] using this)
           refine wpS_bind (aL (by lia) ?_)
           try dsimp only
           have J4:=J.pa J3 (by lia) (by lia) hz2;by_cases e4:(ia+k)+1+1=a.size
           ·rw [if_pos (by simpa using e4)];exact wpS_pure ⟨sim',.inl ⟨_,rfl,J4.last e4 (lastAt (by lia))⟩⟩
           ·rw [if_neg (by simpa using e4)];split
            ·exact wpS_pure ⟨sim',.inr ⟨_,_,_,_,_,_,rfl,J4,by lia,by lia,by lia⟩⟩
            ·exact wpS_pure ⟨sim',_,_,_,_,_,_,rfl,J4,by lia,by lia,by lia,by lia⟩
      ·rw [if_neg kp];obtain rfl:k=0:=by lia
       have J1:=j3;have hz1:blt (gt b ib) (gt a ia)=true:=(by have:=y2 0 (Nat.le_refl _) (by lia);simpa [gp] using this)
       refine wpS_bind (aL (by lia) ?_)
       try dsimp only
       have J2:=J.pb J1 (by lia) (by lia) hz1;by_cases e2:ib+1=b.size
       ·rw [if_pos (by simpa using e2)];exact wpS_pure ⟨sim',.inl ⟨_,rfl,J2.lJ e2⟩⟩
       ·rw [if_neg (by simpa using e2)];refine wpS_bind (aL (by lia) ?_);refine wpS_bind (dI O hL hk' (by lia) hUb (hUa _ (by lia)) (fun i j i1 i2 i3=>hsb i j (by lia) i2 (by lia)) (by lia) fun k1 hk1 y1 y2=>?_)
        try dsimp only
        by_cases k1p:k1 > 0
        ·rw [if_pos k1p];have J3:=J.gb J2 (by lia) k1 (by lia) (fun i hi=>by have:=y1 i hi;simpa [gp] using this);by_cases e3:ib+1+k1=b.size
         ·rw [if_pos (by simpa using e3)];exact wpS_pure ⟨sim',.inl ⟨_,rfl,J3.lJ e3⟩⟩
         ·rw [if_neg (by simpa using e3)];have hz2:blt (gt b (ib+1+k1)) (gt a ia)=false:=(by have:=y2 k1 (Nat.le_refl _) (by lia);simpa [gp] using this)
          refine wpS_bind (aL (by lia) ?_)
          try dsimp only
          have J4:=J.pa J3 (by lia) (by lia) hz2;by_cases e4:ia+1+1=a.size
          ·rw [if_pos (by simpa using e4)];exact wpS_pure ⟨sim',.inl ⟨_,rfl,J4.last e4 (lastAt (by lia))⟩⟩
          ·rw [if_neg (by simpa using e4)];split
           ·exact wpS_pure ⟨sim',.inr ⟨_,_,_,_,_,_,rfl,J4,by lia,by lia,by lia⟩⟩
           ·exact wpS_pure ⟨sim',_,_,_,_,_,_,rfl,J4,by lia,by lia,by lia,by lia⟩
        ·rw [if_neg k1p];obtain rfl:k1=0:=by lia
         have J3:=J2;have hz2:blt (gt b (ib+1)) (gt a ia)=false:=(by have:=y2 0 (Nat.le_refl _) (by lia);simpa [gp] using this)
         refine wpS_bind (aL (by lia) ?_)
         try dsimp only
         have J4:=J.pa J3 (by lia) (by lia) hz2;by_cases e4:ia+1+1=a.size
         ·rw [if_pos (by simpa using e4)];exact wpS_pure ⟨sim',.inl ⟨_,rfl,J4.last e4 (lastAt (by lia))⟩⟩
         ·rw [if_neg (by simpa using e4)];split
          ·exact wpS_pure ⟨sim',.inr ⟨_,_,_,_,_,_,rfl,J4,by lia,by lia,by lia⟩⟩
          ·exact wpS_pure ⟨sim',_,_,_,_,_,_,rfl,J4,by lia,by lia,by lia,by lia⟩
     ·rw [if_neg hg];refine wpS_bind (fH ?_);have sim':Sim st (SortSt.mk' (kindOf st3) (arrOf st3) (pendingOf st3) mg (failedOf st3)):=⟨sim.1,sim.2,sim.3,sim.4⟩
      have hk':kindOf (SortSt.mk' (kindOf st3) (arrOf st3) (pendingOf st3) mg (failedOf st3))=kd:=sim.1.trans hk;refine wpS_bind (aL (by lia) ?_);refine wpS_bind (dI O hL hk' (by lia) hUa (hUb _ (by lia)) (fun i j i1 i2 i3=>hsa i j (by lia) i2 (by lia)) (by lia) fun k hk1 y1 y2=>?_)
      try dsimp only
      by_cases kp:k > 0
      ·rw [if_pos kp];have J1:=J.ga j3 (by lia) k (by lia) (fun i hi=>by have:=y1 i hi;simpa [gp] using this);by_cases e1:ia+k+1=a.size
       ·rw [if_pos (by simpa using e1)];exact wpS_pure ⟨sim',.inl ⟨_,rfl,J1.last e1 (lastAt (by lia))⟩⟩
       ·rw [if_neg (by simpa using e1)];by_cases e1':ia+k=a.size
        ·rw [if_pos (by simpa using e1')];exact wpS_pure ⟨sim',.inl ⟨_,rfl,J1.lK e1'⟩⟩
        ·rw [if_neg (by simpa using e1')];have hz1:blt (gt b ib) (gt a (ia+k))=true:=(by have:=y2 k (Nat.le_refl _) (by lia);simpa [gp] using this)
         refine wpS_bind (aL (by lia) ?_)
         try dsimp only
         have J2:=J.pb J1 (by lia) (by lia) hz1;by_cases e2:ib+1=b.size
         ·rw [if_pos (by simpa using e2)];exact wpS_pure ⟨sim',.inl ⟨_,rfl,J2.lJ e2⟩⟩
         ·rw [if_neg (by simpa using e2)];refine wpS_bind (aL (by lia) ?_);refine wpS_bind (dI O hL hk' (by lia) hUb (hUa _ (by lia)) (fun i j i1 i2 i3=>hsb i j (by lia) i2 (by lia)) (by lia) fun k1 hk1 y1 y2=>?_)
          try dsimp only
          by_cases k1p:k1 > 0
          ·rw [if_pos k1p];have J3:=J.gb J2 (by lia) k1 (by lia) (fun i hi=>by have:=y1 i hi;simpa [gp] using this);by_cases e3:ib+1+k1=b.size
           ·rw [if_pos (by simpa using e3)];exact wpS_pure ⟨sim',.inl ⟨_,rfl,J3.lJ e3⟩⟩
           ·rw [if_neg (by simpa using e3)];have hz2:blt (gt b (ib+1+k1)) (gt a (ia+k))=false:=(by have:=y2 k1 (Nat.le_refl _) (by lia);simpa [gp] using this)
            refine wpS_bind (aL (by lia) ?_)
            try dsimp only
            have J4:=J.pa J3 (by lia) (by lia) hz2;by_cases e4:(ia+k)+1+1=a.size
            ·rw [if_pos (by simpa using e4)];exact wpS_pure ⟨sim',.inl ⟨_,rfl,J4.last e4 (lastAt (by lia))⟩⟩
            ·rw [if_neg (by simpa using e4)];split
             ·exact wpS_pure ⟨sim',.inr ⟨_,_,_,_,_,_,rfl,J4,by lia,by lia,by lia⟩⟩
             ·exact wpS_pure ⟨sim',_,_,_,_,_,_,rfl,J4,by lia,by lia,by lia,by lia⟩
          ·rw [if_neg k1p];obtain rfl:k1=0:=by lia
           have J3:=J2;have hz2:blt (gt b (ib+1)) (gt a (ia+k))=false:=(by have:=y2 0 (Nat.le_refl _) (by lia);simpa [gp] using this)
           refine wpS_bind (aL (by lia) ?_)
           try dsimp only
           have J4:=J.pa J3 (by lia) (by lia) hz2;by_cases e4:(ia+k)+1+1=a.size
           ·rw [if_pos (by simpa using e4)];exact wpS_pure ⟨sim',.inl ⟨_,rfl,J4.last e4 (lastAt (by lia))⟩⟩
           ·rw [if_neg (by simpa using e4)];split
            ·exact wpS_pure ⟨sim',.inr ⟨_,_,_,_,_,_,rfl,J4,by lia,by lia,by lia⟩⟩
            ·exact wpS_pure ⟨sim',_,_,_,_,_,_,rfl,J4,by lia,by lia,by lia,by lia⟩
      ·rw [if_neg kp];obtain rfl:k=0:=by lia
       have J1:=j3;have hz1:blt (gt b ib) (gt a ia)=true:=(by have:=y2 0 (Nat.le_refl _) (by lia);simpa [gp] using this)
       refine wpS_bind (aL (by lia) ?_)
       try dsimp only
       have J2:=J.pb J1 (by lia) (by lia) hz1;by_cases e2:ib+1=b.size
       ·rw [if_pos (by simpa using e2)];exact wpS_pure ⟨sim',.inl ⟨_,rfl,J2.lJ e2⟩⟩
       ·rw [if_neg (by simpa using e2)];refine wpS_bind (aL (by lia) ?_);refine wpS_bind (dI O hL hk' (by lia) hUb (hUa _ (by lia)) (fun i j i1 i2 i3=>hsb i j (by lia) i2 (by lia)) (by lia) fun k1 hk1 y1 y2=>?_)
        try dsimp only
        by_cases k1p:k1 > 0
        ·rw [if_pos k1p];have J3:=J.gb J2 (by lia) k1 (by lia) (fun i hi=>by have:=y1 i hi;simpa [gp] using this);by_cases e3:ib+1+k1=b.size
         ·rw [if_pos (by simpa using e3)];exact wpS_pure ⟨sim',.inl ⟨_,rfl,J3.lJ e3⟩⟩
         ·rw [if_neg (by simpa using e3)];have hz2:blt (gt b (ib+1+k1)) (gt a ia)=false:=(by have:=y2 k1 (Nat.le_refl _) (by lia);simpa [gp] using this)
          refine wpS_bind (aL (by lia) ?_)
          try dsimp only
          have J4:=J.pa J3 (by lia) (by lia) hz2;by_cases e4:ia+1+1=a.size
          ·rw [if_pos (by simpa using e4)];exact wpS_pure ⟨sim',.inl ⟨_,rfl,J4.last e4 (lastAt (by lia))⟩⟩
          ·rw [if_neg (by simpa using e4)];split
           ·exact wpS_pure ⟨sim',.inr ⟨_,_,_,_,_,_,rfl,J4,by lia,by lia,by lia⟩⟩
           ·exact wpS_pure ⟨sim',_,_,_,_,_,_,rfl,J4,by lia,by lia,by lia,by lia⟩
        ·rw [if_neg k1p];obtain rfl:k1=0:=by lia
         have J3:=J2;have hz2:blt (gt b (ib+1)) (gt a ia)=false:=(by have:=y2 0 (Nat.le_refl _) (by lia);simpa [gp] using this)
         refine wpS_bind (aL (by lia) ?_)
         try dsimp only
         have J4:=J.pa J3 (by lia) (by lia) hz2;by_cases e4:ia+1+1=a.size
         ·rw [if_pos (by simpa using e4)];exact wpS_pure ⟨sim',.inl ⟨_,rfl,J4.last e4 (lastAt (by lia))⟩⟩
         ·rw [if_neg (by simpa using e4)];split
          ·exact wpS_pure ⟨sim',.inr ⟨_,_,_,_,_,_,rfl,J4,by lia,by lia,by lia⟩⟩
          ·exact wpS_pure ⟨sim',_,_,_,_,_,_,rfl,J4,by lia,by lia,by lia,by lia⟩
end
end TS
end
section
namespace TS
open PySem PyProof.Rows
section
variable {blt:Keyed->Keyed->Bool}
theorem yW {a:Array Keyed} {n:Nat} (h:n<a.size):a.toList.take (n+1)=a.toList.take n++[gt a n]:=by
 rw [List.take_add_one];have:a.toList[n]?=some (gt a n):=by rw [Array.getElem?_toList];exact jD h
 rw [this];rfl
theorem pU {a:Array Keyed} {n:Nat} {z:Keyed} (h:z∈a.toList.take n):∃i, i<n /\ i<a.size /\ z=gt a i := by
  obtain ⟨i, hi, e⟩ := List.getElem_of_mem h;rw [List.length_take] at hi;have h2:i<a.size := by simpa using (show i<a.toList.length by lia)
  refine ⟨i, by lia, h2, ?_⟩;rw [<-e, List.getElem_take];unfold gt;simp [Array.getD, h2]
theorem pW (x:Keyed):∀(xs zs:List Keyed),(∀z∈zs,blt z x=true)->mrg blt (xs++[x]) zs=mrg blt xs zs++[x]
 | [],zs,h=>by rw [List.nil_append,t8 x zs h,lH]
 | x0::xs,[],_=>by rw [jF,jF]
 | x0::xs,z::zs,h=>by
  rw [List.cons_append,d_,d_];by_cases q:blt z x0=true
  ·rw [if_pos q,if_pos q,<-List.cons_append,pW x (x0::xs) zs fun y hy=>h y (List.mem_cons_of_mem _ hy)];rfl
  ·rw [if_neg q,if_neg q,pW x xs (z::zs) h];rfl
 termination_by xs zs=>xs.length+zs.length
theorem wI (y:Keyed):∀zs:List Keyed,(∀z∈zs,blt y z=false)->mrg blt zs [y]=zs++[y]
 | [],_=>lH _
 | z::zs,h=>by
  rw [d_,if_neg (by simp [h z (List.mem_cons_self ..)]),wI y zs fun u hu=>h u (List.mem_cons_of_mem _ hu)];rfl
theorem pX (y:Keyed):∀(zs ys:List Keyed),(∀z∈zs,blt y z=false)->mrg blt zs (ys++[y])=mrg blt zs ys++[y]
 | zs,[],h=>by rw [List.nil_append,wI y zs h,jF]
 | [],y0::ys,_=>by rw [lH,lH]
 | z::zs,y0::ys,h=>by
  rw [List.cons_append,d_,d_];by_cases q:blt y0 z=true
  ·rw [if_pos q,if_pos q,pX y (z::zs) ys h];rfl
  ·rw [if_neg q,if_neg q,<-List.cons_append,pX y zs (y0::ys) fun u hu=>h u (List.mem_cons_of_mem _ hu)];rfl
 termination_by zs ys=>zs.length+ys.length
noncomputable def JH (blt:Keyed->Keyed->Bool) (a b:Array Keyed) (out:Array Keyed) (na nb:Nat):Prop:=
 mrg blt (a.toList.take na) (b.toList.take nb)++out.toList.reverse=mrg blt a.toList b.toList
variable {a b out:Array Keyed} {na nb:Nat}
theorem JH.pa (h:JH blt a b out na nb) (ha:0<na) (h1:na<=a.size) (h2:nb<=b.size) (q:∀i,i<nb->blt (gt b i) (gt a (na-1))=true):JH blt a b (out.push (gt a (na-1))) (na-1) nb:=by
 unfold JH at h ⊢;obtain ⟨n,rfl⟩:∃n,na=n+1:=⟨na-1,by lia⟩
 rw [yW (by lia),pW _ _ _ (fun z hz=>by obtain ⟨i,i1,i2,rfl⟩:=pU hz;exact q i i1)] at h;rw [<-h];simp
theorem JH.pb (h:JH blt a b out na nb) (hb:0<nb) (h1:na<=a.size) (h2:nb<=b.size) (q:∀i,i<na->blt (gt b (nb-1)) (gt a i)=false):JH blt a b (out.push (gt b (nb-1))) na (nb-1):=by
 unfold JH at h ⊢;obtain ⟨n,rfl⟩:∃n,nb=n+1:=⟨nb-1,by lia⟩
 rw [yW (by lia),pX _ _ _ (fun z hz=>by obtain ⟨i,i1,i2,rfl⟩:=pU hz;exact q i i1)] at h;rw [<-h];simp
theorem MF {a:Array Keyed} {i n:Nat} (h:i<n) (hn:n<=a.size) (out:Array Keyed):out++(a.extract i n).reverse=(out.push (gt a (n-1)))++(a.extract i (n-1)).reverse:=by
 apply Array.toList_inj.mp;simp only [Array.toList_append,Array.toList_reverse,Array.toList_extract,List.extract_eq_take_drop,Array.toList_push];obtain ⟨m,rfl⟩:∃m,n=m+1:=⟨n-1,by lia⟩
 rw [show m+1-i=(m-i)+1 by lia,List.take_add_one,List.getElem?_drop,show i+(m-i)=m by lia];have:a.toList[m]?=some (gt a m):=by rw [Array.getElem?_toList];exact jD (by lia)
 rw [this];simp
theorem o_ {a:Array Keyed} {i:Nat} (out:Array Keyed):out++(a.extract i i).reverse=out:=by
 apply Array.toList_inj.mp;simp
theorem JH.ga:∀{na:Nat} {out:Array Keyed},JH blt a b out na nb->na<=a.size->nb<=b.size->∀at_,at_<=na->(∀i,at_<=i->i<na->∀z,z<nb->blt (gt b z) (gt a i)=true)->JH blt a b (out++(a.extract at_ na).reverse) at_ nb
 | 0,out,h,_,_,at_,h0,_=>by
  obtain rfl:at_=0:=by lia
  rw [o_];exact h
 | n+1,out,h,h1,h2,at_,h0,q=>by
  by_cases e:at_=n+1
  ·subst e;rw [o_];exact h
  ·rw [MF (by lia) h1];exact JH.ga (na:=n) (JH.pa h (by lia) h1 h2 (q n (by lia) (by lia))) (by lia) h2 at_ (by lia) fun i i1 i2=>q i i1 (by lia)
theorem JH.gb:∀{nb:Nat} {out:Array Keyed},JH blt a b out na nb->na<=a.size->nb<=b.size->∀at_,at_<=nb->(∀i,at_<=i->i<nb->∀z,z<na->blt (gt b i) (gt a z)=false)->JH blt a b (out++(b.extract at_ nb).reverse) na at_
 | 0,out,h,_,_,at_,h0,_=>by
  obtain rfl:at_=0:=by lia
  rw [o_];exact h
 | n+1,out,h,h1,h2,at_,h0,q=>by
  by_cases e:at_=n+1
  ·subst e;rw [o_];exact h
  ·rw [MF (by lia) h2];exact JH.gb (nb:=n) (JH.pb h (by lia) h1 h2 (q n (by lia) (by lia))) h1 (by lia) at_ (by lia) fun i i1 i2=>q i i1 (by lia)
theorem jZ (a:Array Keyed) (n:Nat):(a.extract 0 n).toList=a.toList.take n:=by
 simp [Array.toList_extract,List.extract_eq_take_drop]
theorem JH.lK (h:JH blt a b out na nb) (e:na=0):(a.extract 0 na++b.extract 0 nb++out.reverse).toList=mrg blt a.toList b.toList:=by
 subst e;rw [<-h,Array.toList_append,Array.toList_append,jZ,jZ,Array.toList_reverse,List.take_zero,lH];rfl
theorem JH.lJ (h:JH blt a b out na nb) (e:nb=0):(a.extract 0 na++b.extract 0 nb++out.reverse).toList=mrg blt a.toList b.toList:=by
 subst e;rw [<-h,Array.toList_append,Array.toList_append,jZ,jZ,Array.toList_reverse,List.take_zero,jF,List.append_nil]
theorem JH.first (h:JH blt a b out na nb) (e:nb=1) (ha:0<a.size) (hb:0<b.size) (hf:blt (gt b 0) (gt a 0)=true) (hn:0<na):(b.extract 0 nb++a.extract 0 na++out.reverse).toList=mrg blt a.toList b.toList:=by
 subst e;rw [<-h,Array.toList_append,Array.toList_append,jZ,jZ,Array.toList_reverse];have e1:b.toList.take 1=[gt b 0]:=by rw [yW (a:=b) (n:=0) hb];rfl
 obtain ⟨m,rfl⟩:∃m,na=m+1:=⟨na-1,by lia⟩
 have e2:a.toList.take (m+1)=gt a 0::(a.toList.drop 1).take m:=by
  have:=jE (a:=a) (i:=0) ha;rw [List.drop_zero] at this;rw [this];rfl
 rw [e1,e2,d_,if_pos hf,jF];rfl
variable {U:Keyed->Prop}
theorem leA (O:Ord U blt) (hUa:mJ U a) (hUb:mJ U b) (hsa:Srt blt a 0 a.size) {n i z:Nat} (hn:n<=a.size) (hi:i<b.size) (hz:z<n) (q:blt (gt b i) (gt a (n-1))=false):blt (gt b i) (gt a z)=false:=by
 cases e:blt (gt b i) (gt a z) with
 | false=>rfl
 | true=>
  rcases O.ntr _ (gt a (n-1)) _ (hUb i hi) (hUa _ (by lia)) (hUa z (by lia)) e with p|p
  ·rw [q] at p;cases p
  ·rw [hsa z (n-1) (by lia) (by lia) (by lia)] at p;cases p
theorem aE5 (O:Ord U blt) (hUa:mJ U a) (hUb:mJ U b) (hsb:Srt blt b 0 b.size) {n i z:Nat} (hn:n<=b.size) (hi:i<a.size) (hz:z<n) (q:blt (gt b (n-1)) (gt a i)=true):blt (gt b z) (gt a i)=true:=by
 rcases O.ntr _ (gt b z) _ (hUb (n-1) (by lia)) (hUb z (by lia)) (hUa i hi) q with p|p
 ·rw [hsb z (n-1) (by lia) (by lia) (by lia)] at p;cases p
 ·exact p
end
section
variable {prog:Program} {w:World} {A:Around} {E:Value->Shared->Prop} {s:Shared} {kd:SortKind} {U:Keyed->Prop} {blt:Keyed->Keyed->Bool}
theorem yX (O:Ord U blt) (hL:HW prog w A E s kd U blt) {a b:Array Keyed} {st:SortSt} {Q:Array Keyed->SortSt->Prop} (hk:kindOf st=kd) (hUa:mJ U a) (hUb:mJ U b) (hsa:Srt blt a 0 a.size) (hsb:Srt blt b 0 b.size)
  (ha:0<a.size) (hb:0<b.size) (hf:blt (gt b 0) (gt a 0)=true) (hl:∀i,i<b.size->blt (gt b i) (gt a (a.size-1))=true)
  (h:∀r st',Sim st st'->r.toList=mrg blt a.toList b.toList->Q r st'):wpS (model prog w) A E s (T3 a b) Q st:=by
 with_unfolding_all refine wpS_bind (wpS_lift (wpAny_rule ⟨rfl,?_⟩))
 dsimp only;refine wpS_bind (aL (by lia) ?_)
 try dsimp only
 have J0:JH blt a b #[gt a (a.size-1)] (a.size-1) b.size:=JH.pa (out:=#[]) (na:=a.size) (by unfold JH;simp [List.take_of_length_le]) ha (Nat.le_refl _) (Nat.le_refl _) hl;have sim0:Sim st st:=⟨rfl,rfl,rfl,rfl⟩
 by_cases e1:a.size-1=0
 ·rw [if_pos (by simpa using e1)];exact wpS_pure (h _ _ sim0 (J0.lK e1))
 rw [if_neg (by simpa using e1)];by_cases e2:b.size=1
 ·rw [if_pos (by simpa using e2)];exact wpS_pure (h _ _ sim0 (J0.first e2 ha hb hf (by lia)))
 rw [if_neg (by simpa using e2)];refine wpS_bind (wpS_get ?_);refine wpS_bind (wpS_mono (wpS_forRange
  (I:=fun x c st'=>Sim st st'/\∃out na nb mg,c=(none,na,nb,out,mg)/\JH blt a b out na nb/\0<na/\1<nb/\na<a.size/\nb<=b.size/\x+na+nb<=a.size+b.size)
  (Q:=fun c st'=>Sim st st'/\∃r,c.1=some r/\r.toList=mrg blt a.toList b.toList) ?step ?fin ?init) ?post)
 case init=>exact ⟨sim0,_,_,_,_,rfl,J0,by lia,by lia,by lia,by lia,by lia⟩
 case fin=>
  rintro c st' ⟨_,out,na,nb,mg,rfl,_,h1,h2,h3,h4,h5⟩;lia
 case post=>
  rintro ⟨c1,c2⟩ st' ⟨sim,r,e,hr⟩;dsimp only at e;subst e;exact wpS_pure (h r st' sim hr)
 case step=>
  rintro x₀ c st1 _ hx0 ⟨sim,out,na,nb,mg,rfl,j1,h1,h2,h3,h4,h5⟩;dsimp only;refine wpS_bind (wpS_mono (wpS_forRange
   (I:=fun x c st'=>Sim st st'/\∃out na nb ac bc,c=(none,na,nb,out,ac,bc)/\JH blt a b out na nb/\0<na/\1<nb/\na<a.size/\nb<=b.size/\x₀+na+nb<=a.size+b.size/\x+na+nb<=a.size+b.size)
   (Q:=fun c st'=>Sim st st'/\((∃r,c.1=some r/\r.toList=mrg blt a.toList b.toList)\/∃out na nb ac bc,c=(none,na,nb,out,ac,bc)/\JH blt a b out na nb/\0<na/\1<nb/\na<a.size/\nb<=b.size/\x₀+1+na+nb<=a.size+b.size)) ?step2 ?fin2 ?init2) ?post2)
  case init2=>exact ⟨sim,_,_,_,_,_,rfl,j1,h1,h2,h3,h4,h5,by lia⟩
  case fin2=>
   rintro c st' ⟨_,out,na,nb,ac,bc,rfl,_,h1,h2,h3,h4,_,h5⟩;lia
  case step2=>
   rintro x c st2 _ hx ⟨sim,out,na,nb,ac,bc,rfl,j2,h1,h2,h3,h4,h5,h6⟩;dsimp only;refine wpS_bind (aL (by lia) (wpS_bind (aL (by lia) (wpS_bind (hL _ _ _ _ (hUb _ (by lia)) (hUa _ (by lia)) (sim.1.trans hk) ?_)))));dsimp only;cases q:blt (gt b (nb-1)) (gt a (na-1)) with
   | true=>
    simp only [if_true];refine wpS_bind (aL (by lia) ?_);have j3:=JH.pa j2 (by lia) (by lia) h4 (fun i hi=>aE5 O hUa hUb hsb h4 (by lia) hi q);by_cases e3:na-1=0
    ·rw [if_pos (by simpa using e3)];exact wpS_pure ⟨sim,.inl ⟨_,rfl,j3.lK e3⟩⟩
    ·rw [if_neg (by simpa using e3)];split
     ·exact wpS_pure ⟨sim,.inr ⟨_,_,_,_,_,rfl,j3,by lia,by lia,by lia,by lia,by lia⟩⟩
     ·exact wpS_pure ⟨sim,_,_,_,_,_,rfl,j3,by lia,by lia,by lia,by lia,by lia,by lia⟩
   | false=>
    simp only [Bool.false_eq_true,if_false];refine wpS_bind (aL (by lia) ?_);have j3:=JH.pb j2 (by lia) (by lia) h4 (fun i hi=>leA O hUa hUb hsa (by lia) (by lia) hi q);by_cases e3:nb-1=1
    ·rw [if_pos (by simpa using e3)];exact wpS_pure ⟨sim,.inl ⟨_,rfl,j3.first e3 ha hb hf (by lia)⟩⟩
    ·rw [if_neg (by simpa using e3)];split
     ·exact wpS_pure ⟨sim,.inr ⟨_,_,_,_,_,rfl,j3,by lia,by lia,by lia,by lia,by lia⟩⟩
     ·exact wpS_pure ⟨sim,_,_,_,_,_,rfl,j3,by lia,by lia,by lia,by lia,by lia,by lia⟩
  case post2=>
   rintro ⟨c1,c2⟩ st2 ⟨sim,⟨r,e,hr⟩|⟨out,na,nb,ac,bc,e,j2,h1,h2,h3,h4,h5⟩⟩
   ·dsimp only at e;subst e;exact wpS_pure ⟨sim,r,rfl,hr⟩
   ·cases e;dsimp only;refine wpS_bind (wpS_lift (wpAny_rule ⟨rfl,?_⟩));refine wpS_bind (wpS_mono (wpS_forRange
     (I:=fun x c st'=>Sim st st'/\∃out na nb mg ac bc,c=(none,na,nb,out,mg,ac,bc)/\JH blt a b out na nb/\0<na/\1<nb/\na<a.size/\nb<=b.size/\x₀+1+na+nb<=a.size+b.size/\x+na+nb<=a.size+b.size)
     (Q:=fun c st'=>Sim st st'/\((∃r,c.1=some r/\r.toList=mrg blt a.toList b.toList)\/∃out na nb mg ac bc,c=(none,na,nb,out,mg,ac,bc)/\JH blt a b out na nb/\0<na/\1<nb/\na<a.size/\nb<=b.size/\x₀+1+na+nb<=a.size+b.size)) ?step3 ?fin3 ?init3) ?post3)
    case init3=>exact ⟨sim,_,_,_,_,_,_,rfl,j2,h1,h2,h3,h4,h5,by lia⟩
    case fin3=>
     rintro c st' ⟨_,out,na,nb,mg,ac,bc,rfl,_,h1,h2,h3,h4,_,h5⟩;lia
    case post3=>
     rintro ⟨c1,c2⟩ st3 ⟨sim,⟨r,e,hr⟩|⟨out,na,nb,mg,ac,bc,e,j3,h1,h2,h3,h4,h5⟩⟩
     ·dsimp only at e;subst e;exact wpS_pure ⟨sim,r,rfl,hr⟩
     ·cases e;dsimp only;refine wpS_bind (fH (wpS_pure ⟨⟨sim.1,sim.2,sim.3,sim.4⟩,_,_,_,_,rfl,j3,h1,h2,h3,h4,by lia⟩))
    case step3=>
     rintro x c st3 _ hx ⟨sim,out,na,nb,mg,ac,bc,rfl,j3,h1,h2,h3,h4,h5,h6⟩;dsimp only;by_cases hg:mg > 1
     ·rw [if_pos hg];refine wpS_bind (fH ?_);have sim':Sim st (SortSt.mk' (kindOf st3) (arrOf st3) (pendingOf st3) (mg-1) (failedOf st3)):=⟨sim.1,sim.2,sim.3,sim.4⟩
      have hk':kindOf (SortSt.mk' (kindOf st3) (arrOf st3) (pendingOf st3) (mg-1) (failedOf st3))=kd:=sim.1.trans hk;refine wpS_bind (aL (by lia) ?_);refine wpS_bind (dI O hL hk' (by lia) hUa (hUb _ (by lia)) (fun i j i1 i2 i3=>hsa i j (by lia) i2 (by lia)) (by lia) fun at_ hk1 y1 y2=>?_)
      try dsimp only
      have y1':∀i,i<at_->blt (gt b (nb-1)) (gt a i)=false:=fun i hi=>by have:=y1 i hi;simpa [gp] using this
      have y2':∀i,at_<=i->i<na->blt (gt b (nb-1)) (gt a i)=true:=fun i i1 i2=>by have:=y2 i i1 i2;simpa [gp] using this
      by_cases kp:na-at_ > 0
      ·rw [if_pos kp];have J1:=JH.ga j3 (by lia) (by lia) at_ (by lia) (fun i i1 i2 z hz=>aE5 O hUa hUb hsb (by lia) (by lia) hz (y2' i i1 i2));by_cases e1:at_=0
       ·rw [if_pos (by simpa using e1)];exact wpS_pure ⟨sim',.inl ⟨_,rfl,J1.lK e1⟩⟩
       ·rw [if_neg (by simpa using e1)];have J2:=JH.pb J1 (by lia) (by lia) (by lia) (fun z hz=>y1' z hz);refine wpS_bind (aL (by lia) ?_)
        try dsimp only
        by_cases e2:nb-1=1
        ·rw [if_pos (by simpa using e2)];exact wpS_pure ⟨sim',.inl ⟨_,rfl,J2.first e2 ha hb hf (by lia)⟩⟩
        ·rw [if_neg (by simpa using e2)];refine wpS_bind (aL (by lia) ?_);refine wpS_bind (dI O hL hk' (by lia) hUb (hUa _ (by lia)) (fun i j i1 i2 i3=>hsb i j (by lia) i2 (by lia)) (by lia) fun k1 hk1 y1 y2=>?_)
         try dsimp only
         have y1':∀i,i<k1->blt (gt b i) (gt a (at_-1))=true:=fun i hi=>by have:=y1 i hi;simpa [gp] using this
         have y2':∀i,k1<=i->i<nb-1->blt (gt b i) (gt a (at_-1))=false:=fun i i1 i2=>by have:=y2 i i1 i2;simpa [gp] using this
         by_cases k1p:nb-1-k1 > 0
         ·rw [if_pos k1p];have J3:=JH.gb J2 (by lia) (by lia) k1 (by lia) (fun i i1 i2 z hz=>leA O hUa hUb hsa (by lia) (by lia) hz (y2' i i1 i2));by_cases e3:k1=1
          ·rw [if_pos (by simpa using e3)];exact wpS_pure ⟨sim',.inl ⟨_,rfl,J3.first e3 ha hb hf (by lia)⟩⟩
          ·rw [if_neg (by simpa using e3)];by_cases e3':k1=0
           ·rw [if_pos (by simpa using e3')];exact wpS_pure ⟨sim',.inl ⟨_,rfl,J3.lJ e3'⟩⟩
           ·rw [if_neg (by simpa using e3')];have J4:=JH.pa J3 (by lia) (by lia) (by lia) (fun z hz=>y1' z hz);refine wpS_bind (aL (by lia) ?_)
            try dsimp only
            by_cases e4:at_-1=0
            ·rw [if_pos (by simpa using e4)];exact wpS_pure ⟨sim',.inl ⟨_,rfl,J4.lK e4⟩⟩
            ·rw [if_neg (by simpa using e4)];split
             ·exact wpS_pure ⟨sim',.inr ⟨_,_,_,_,_,_,rfl,J4,by lia,by lia,by lia,by lia,by lia⟩⟩
             ·exact wpS_pure ⟨sim',_,_,_,_,_,_,rfl,J4,by lia,by lia,by lia,by lia,by lia,by lia⟩
         ·rw [if_neg k1p];obtain rfl:k1=nb-1:=by lia
          have J3:=J2;have J4:=JH.pa J3 (by lia) (by lia) (by lia) (fun z hz=>y1' z hz);refine wpS_bind (aL (by lia) ?_)
          try dsimp only
          by_cases e4:at_-1=0
          ·rw [if_pos (by simpa using e4)];exact wpS_pure ⟨sim',.inl ⟨_,rfl,J4.lK e4⟩⟩
          ·rw [if_neg (by simpa using e4)];split
           ·exact wpS_pure ⟨sim',.inr ⟨_,_,_,_,_,_,rfl,J4,by lia,by lia,by lia,by lia,by lia⟩⟩
           ·exact wpS_pure ⟨sim',_,_,_,_,_,_,rfl,J4,by lia,by lia,by lia,by lia,by lia,by lia⟩
      ·rw [if_neg kp];obtain rfl:at_=na:=by lia
       have J1:=j3;have J2:=JH.pb J1 (by lia) (by lia) (by lia) (fun z hz=>y1' z hz);refine wpS_bind (aL (by lia) ?_)
       try dsimp only
       by_cases e2:nb-1=1
       ·rw [if_pos (by simpa using e2)];exact wpS_pure ⟨sim',.inl ⟨_,rfl,J2.first e2 ha hb hf (by lia)⟩⟩
       ·rw [if_neg (by simpa using e2)];refine wpS_bind (aL (by lia) ?_);refine wpS_bind (dI O hL hk' (by lia) hUb (hUa _ (by lia)) (fun i j i1 i2 i3=>hsb i j (by lia) i2 (by lia)) (by lia) fun k1 hk1 y1 y2=>?_)
        try dsimp only
        have y1':∀i,i<k1->blt (gt b i) (gt a (at_-1))=true:=fun i hi=>by have:=y1 i hi;simpa [gp] using this
        have y2':∀i,k1<=i->i<nb-1->blt (gt b i) (gt a (at_-1))=false:=fun i i1 i2=>by have:=y2 i i1 i2;simpa [gp] using this
        by_cases k1p:nb-1-k1 > 0
        ·rw [if_pos k1p];have J3:=JH.gb J2 (by lia) (by lia) k1 (by lia) (fun i i1 i2 z hz=>leA O hUa hUb hsa (by lia) (by lia) hz (y2' i i1 i2));by_cases e3:k1=1
         ·rw [if_pos (by simpa using e3)];exact wpS_pure ⟨sim',.inl ⟨_,rfl,J3.first e3 ha hb hf (by lia)⟩⟩
         ·rw [if_neg (by simpa using e3)];by_cases e3':k1=0
          ·rw [if_pos (by simpa using e3')];exact wpS_pure ⟨sim',.inl ⟨_,rfl,J3.lJ e3'⟩⟩
          ·rw [if_neg (by simpa using e3')];have J4:=JH.pa J3 (by lia) (by lia) (by lia) (fun z hz=>y1' z hz);refine wpS_bind (aL (by lia) ?_)
           try dsimp only
           by_cases e4:at_-1=0
           ·rw [if_pos (by simpa using e4)];exact wpS_pure ⟨sim',.inl ⟨_,rfl,J4.lK e4⟩⟩
           ·rw [if_neg (by simpa using e4)];split
            ·exact wpS_pure ⟨sim',.inr ⟨_,_,_,_,_,_,rfl,J4,by lia,by lia,by lia,by lia,by lia⟩⟩
            ·exact wpS_pure ⟨sim',_,_,_,_,_,_,rfl,J4,by lia,by lia,by lia,by lia,by lia,by lia⟩
        ·rw [if_neg k1p];obtain rfl:k1=nb-1:=by lia
         have J3:=J2;have J4:=JH.pa J3 (by lia) (by lia) (by lia) (fun z hz=>y1' z hz);refine wpS_bind (aL (by lia) ?_)
         try dsimp only
         by_cases e4:at_-1=0
         ·rw [if_pos (by simpa using e4)];exact wpS_pure ⟨sim',.inl ⟨_,rfl,J4.lK e4⟩⟩
         ·rw [if_neg (by simpa using e4)];split
          ·exact wpS_pure ⟨sim',.inr ⟨_,_,_,_,_,_,rfl,J4,by lia,by lia,by lia,by lia,by lia⟩⟩
          ·exact wpS_pure ⟨sim',_,_,_,_,_,_,rfl,J4,by lia,by lia,by lia,by lia,by lia,by lia⟩
     ·rw [if_neg hg];refine wpS_bind (fH ?_);have sim':Sim st (SortSt.mk' (kindOf st3) (arrOf st3) (pendingOf st3) mg (failedOf st3)):=⟨sim.1,sim.2,sim.3,sim.4⟩
      have hk':kindOf (SortSt.mk' (kindOf st3) (arrOf st3) (pendingOf st3) mg (failedOf st3))=kd:=sim.1.trans hk;refine wpS_bind (aL (by lia) ?_);refine wpS_bind (dI O hL hk' (by lia) hUa (hUb _ (by lia)) (fun i j i1 i2 i3=>hsa i j (by lia) i2 (by lia)) (by lia) fun at_ hk1 y1 y2=>?_)
      try dsimp only
      have y1':∀i,i<at_->blt (gt b (nb-1)) (gt a i)=false:=fun i hi=>by have:=y1 i hi;simpa [gp] using this
      have y2':∀i,at_<=i->i<na->blt (gt b (nb-1)) (gt a i)=true:=fun i i1 i2=>by have:=y2 i i1 i2;simpa [gp] using this
      by_cases kp:na-at_ > 0
      ·rw [if_pos kp];have J1:=JH.ga j3 (by lia) (by lia) at_ (by lia) (fun i i1 i2 z hz=>aE5 O hUa hUb hsb (by lia) (by lia) hz (y2' i i1 i2));by_cases e1:at_=0
       ·rw [if_pos (by simpa using e1)];exact wpS_pure ⟨sim',.inl ⟨_,rfl,J1.lK e1⟩⟩
       ·rw [if_neg (by simpa using e1)];have J2:=JH.pb J1 (by lia) (by lia) (by lia) (fun z hz=>y1' z hz);refine wpS_bind (aL (by lia) ?_)
        try dsimp only
        by_cases e2:nb-1=1
        ·rw [if_pos (by simpa using e2)];exact wpS_pure ⟨sim',.inl ⟨_,rfl,J2.first e2 ha hb hf (by lia)⟩⟩
        ·rw [if_neg (by simpa using e2)];refine wpS_bind (aL (by lia) ?_);refine wpS_bind (dI O hL hk' (by lia) hUb (hUa _ (by lia)) (fun i j i1 i2 i3=>hsb i j (by lia) i2 (by lia)) (by lia) fun k1 hk1 y1 y2=>?_)
         try dsimp only
         have y1':∀i,i<k1->blt (gt b i) (gt a (at_-1))=true:=fun i hi=>by have:=y1 i hi;simpa [gp] using this
         have y2':∀i,k1<=i->i<nb-1->blt (gt b i) (gt a (at_-1))=false:=fun i i1 i2=>by have:=y2 i i1 i2;simpa [gp] using this
         by_cases k1p:nb-1-k1 > 0
         ·rw [if_pos k1p];have J3:=JH.gb J2 (by lia) (by lia) k1 (by lia) (fun i i1 i2 z hz=>leA O hUa hUb hsa (by lia) (by lia) hz (y2' i i1 i2));by_cases e3:k1=1
          ·rw [if_pos (by simpa using e3)];exact wpS_pure ⟨sim',.inl ⟨_,rfl,J3.first e3 ha hb hf (by lia)⟩⟩
          ·rw [if_neg (by simpa using e3)];by_cases e3':k1=0
           ·rw [if_pos (by simpa using e3')];exact wpS_pure ⟨sim',.inl ⟨_,rfl,J3.lJ e3'⟩⟩
           ·rw [if_neg (by simpa using e3')];have J4:=JH.pa J3 (by lia) (by lia) (by lia) (fun z hz=>y1' z hz);refine wpS_bind (aL (by lia) ?_)
            try dsimp only
            by_cases e4:at_-1=0
            ·rw [if_pos (by simpa using e4)];exact wpS_pure ⟨sim',.inl ⟨_,rfl,J4.lK e4⟩⟩
            ·rw [if_neg (by simpa using e4)];split
             ·exact wpS_pure ⟨sim',.inr ⟨_,_,_,_,_,_,rfl,J4,by lia,by lia,by lia,by lia,by lia⟩⟩
             ·exact wpS_pure ⟨sim',_,_,_,_,_,_,rfl,J4,by lia,by lia,by lia,by lia,by lia,by lia⟩
         ·rw [if_neg k1p];obtain rfl:k1=nb-1:=by lia
          have J3:=J2;have J4:=JH.pa J3 (by lia) (by lia) (by lia) (fun z hz=>y1' z hz);refine wpS_bind (aL (by lia) ?_)
          try dsimp only
          by_cases e4:at_-1=0
          ·rw [if_pos (by simpa using e4)];exact wpS_pure ⟨sim',.inl ⟨_,rfl,J4.lK e4⟩⟩
          ·rw [if_neg (by simpa using e4)];split
           ·exact wpS_pure ⟨sim',.inr ⟨_,_,_,_,_,_,rfl,J4,by lia,by lia,by lia,by lia,by lia⟩⟩
           ·exact wpS_pure ⟨sim',_,_,_,_,_,_,rfl,J4,by lia,by lia,by lia,by lia,by lia,by lia⟩
      ·rw [if_neg kp];obtain rfl:at_=na:=by lia
       have J1:=j3;have J2:=JH.pb J1 (by lia) (by lia) (by lia) (fun z hz=>y1' z hz);refine wpS_bind (aL (by lia) ?_)
       try dsimp only
       by_cases e2:nb-1=1
       ·rw [if_pos (by simpa using e2)];exact wpS_pure ⟨sim',.inl ⟨_,rfl,J2.first e2 ha hb hf (by lia)⟩⟩
       ·rw [if_neg (by simpa using e2)];refine wpS_bind (aL (by lia) ?_);refine wpS_bind (dI O hL hk' (by lia) hUb (hUa _ (by lia)) (fun i j i1 i2 i3=>hsb i j (by lia) i2 (by lia)) (by lia) fun k1 hk1 y1 y2=>?_)
        try dsimp only
        have y1':∀i,i<k1->blt (gt b i) (gt a (at_-1))=true:=fun i hi=>by have:=y1 i hi;simpa [gp] using this
        have y2':∀i,k1<=i->i<nb-1->blt (gt b i) (gt a (at_-1))=false:=fun i i1 i2=>by have:=y2 i i1 i2;simpa [gp] using this
        by_cases k1p:nb-1-k1 > 0
        ·rw [if_pos k1p];have J3:=JH.gb J2 (by lia) (by lia) k1 (by lia) (fun i i1 i2 z hz=>leA O hUa hUb hsa (by lia) (by lia) hz (y2' i i1 i2));by_cases e3:k1=1
         ·rw [if_pos (by simpa using e3)];exact wpS_pure ⟨sim',.inl ⟨_,rfl,J3.first e3 ha hb hf (by lia)⟩⟩
         ·rw [if_neg (by simpa using e3)];by_cases e3':k1=0
          ·rw [if_pos (by simpa using e3')];exact wpS_pure ⟨sim',.inl ⟨_,rfl,J3.lJ e3'⟩⟩
          ·rw [if_neg (by simpa using e3')];have J4:=JH.pa J3 (by lia) (by lia) (by lia) (fun z hz=>y1' z hz);refine wpS_bind (aL (by lia) ?_)
           try dsimp only
           by_cases e4:at_-1=0
           ·rw [if_pos (by simpa using e4)];exact wpS_pure ⟨sim',.inl ⟨_,rfl,J4.lK e4⟩⟩
           ·rw [if_neg (by simpa using e4)];split
            ·exact wpS_pure ⟨sim',.inr ⟨_,_,_,_,_,_,rfl,J4,by lia,by lia,by lia,by lia,by lia⟩⟩
            ·exact wpS_pure ⟨sim',_,_,_,_,_,_,rfl,J4,by lia,by lia,by lia,by lia,by lia,by lia⟩
        ·rw [if_neg k1p];obtain rfl:k1=nb-1:=by lia
         have J3:=J2;have J4:=JH.pa J3 (by lia) (by lia) (by lia) (fun z hz=>y1' z hz);refine wpS_bind (aL (by lia) ?_)
         try dsimp only
         by_cases e4:at_-1=0
         ·rw [if_pos (by simpa using e4)];exact wpS_pure ⟨sim',.inl ⟨_,rfl,J4.lK e4⟩⟩
         ·rw [if_neg (by simpa using e4)];split
          ·exact wpS_pure ⟨sim',.inr ⟨_,_,_,_,_,_,rfl,J4,by lia,by lia,by lia,by lia,by lia⟩⟩
          ·exact wpS_pure ⟨sim',_,_,_,_,_,_,rfl,J4,by lia,by lia,by lia,by lia,by lia,by lia⟩
end
end TS
end
section
namespace TS
open PySem PyProof.Rows
section
variable {blt:Keyed->Keyed->Bool} {U:Keyed->Prop}
noncomputable def SL (blt:Keyed->Keyed->Bool) (l:List Keyed):Prop:=l.Pairwise fun u v=>blt v u=false
theorem t_ (xs ys:List Keyed):(mrg blt xs ys).Perm (xs++ys):=List.merge_perm_append _
theorem yZ {xs ys:List Keyed} {z:Keyed}:z∈mrg blt xs ys↔z∈xs\/z∈ys:=by
 rw [(t_ xs ys).mem_iff,List.mem_append]
theorem Ord.le_trans (O:Ord U blt) {x y z:Keyed} (hx:U x) (hy:U y) (hz:U z) (h1:blt y x=false) (h2:blt z y=false):blt z x=false:=by
 cases e:blt z x with
 | false=>rfl
 | true=>
  rcases O.ntr _ y _ hz hy hx e with p|p
  ·rw [h2] at p;cases p
  ·rw [h1] at p;cases p
theorem Ord.R5 (O:Ord U blt) {x y:Keyed} (hx:U x) (hy:U y) (h:blt x y=true):blt y x=false:=by
 cases e:blt y x with
 | false=>rfl
 | true=>
  have:=O.tr _ _ _ hx hy hx h e;rw [O.irr x hx] at this;cases this
theorem MJ (O:Ord U blt):∀(xs ys:List Keyed),(∀z∈xs,U z)->(∀z∈ys,U z)->SL blt xs->SL blt ys->SL blt (mrg blt xs ys)
 | [],ys,_,_,_,h=>by rw [lH];exact h
 | x::xs,[],_,_,h,_=>by rw [jF];exact h
 | x::xs,y::ys,ux,uy,sx,sy=>by
  rw [d_];have ux0:=ux x (List.mem_cons_self ..);have uy0:=uy y (List.mem_cons_self ..);have sx':=List.pairwise_cons.mp sx;have sy':=List.pairwise_cons.mp sy;by_cases q:blt y x=true
  ·rw [if_pos q];refine List.pairwise_cons.mpr ⟨fun z hz=>?_,MJ O (x::xs) ys ux (fun z hz=>uy z (List.mem_cons_of_mem _ hz)) sx sy'.2⟩;rcases yZ.mp hz with hz|hz
   ·rcases List.mem_cons.mp hz with rfl|hz
    ·exact O.R5 uy0 ux0 q
    ·exact O.le_trans uy0 ux0 (ux z (List.mem_cons_of_mem _ hz)) (O.R5 uy0 ux0 q) (sx'.1 z hz)
   ·exact sy'.1 z hz
  ·rw [if_neg q];have q':blt y x=false:=by simpa using q
   refine List.pairwise_cons.mpr ⟨fun z hz=>?_,MJ O xs (y::ys) (fun z hz=>ux z (List.mem_cons_of_mem _ hz)) uy sx'.2 sy⟩;rcases yZ.mp hz with hz|hz
   ·exact sx'.1 z hz
   ·rcases List.mem_cons.mp hz with rfl|hz
    ·exact q'
    ·exact O.le_trans ux0 uy0 (uy z (List.mem_cons_of_mem _ hz)) q' (sy'.1 z hz)
 termination_by xs ys=>xs.length+ys.length
def str (a:Array Keyed) (lo n:Nat):List Keyed:=(a.toList.drop lo).take n
theorem iD {a:Array Keyed} {lo n i:Nat} (hi:i<n) (h:lo+n<=a.size):(str a lo n)[i]?=some (gt a (lo+i)):=by
 unfold str;rw [List.getElem?_take_of_lt hi,List.getElem?_drop,Array.getElem?_toList];exact jD (by lia)
theorem str_len {a:Array Keyed} {lo n:Nat} (h:lo+n<=a.size):(str a lo n).length=n:=by
 unfold str;rw [List.length_take,List.length_drop,Array.length_toList];lia
theorem Srt.sl {a:Array Keyed} {lo n:Nat} (h:Srt blt a lo (lo+n)) (hn:lo+n<=a.size):SL blt (str a lo n):=by
 unfold SL;rw [List.pairwise_iff_getElem];intro i j hi hj hij;rw [str_len hn] at hi hj;have e1:=iD (a:=a) (lo:=lo) hi hn;have e2:=iD (a:=a) (lo:=lo) hj hn;rw [List.getElem?_eq_getElem (by rw [str_len hn];exact hi)] at e1;rw [List.getElem?_eq_getElem (by rw [str_len hn];exact hj)] at e2;rw [Option.some.inj e1,Option.some.inj e2];exact h _ _ (by lia) (by lia) (by lia)
theorem SL.srt {a:Array Keyed} {lo n:Nat} (O:Ord U blt) (hU:mJ U a) (h:SL blt (str a lo n)) (hn:lo+n<=a.size):Srt blt a lo (lo+n):=by
 intro i j h1 h2 h3;by_cases e:i=j
 ·subst e;exact O.irr _ (hU _ (by lia))
 ·unfold SL at h;rw [List.pairwise_iff_getElem] at h;have q:=h (i-lo) (j-lo) (by rw [str_len hn];lia) (by rw [str_len hn];lia) (by lia);have e1:=iD (a:=a) (lo:=lo) (i:=i-lo) (n:=n) (by lia) hn;have e2:=iD (a:=a) (lo:=lo) (i:=j-lo) (n:=n) (by lia) hn;rw [List.getElem?_eq_getElem (by rw [str_len hn];lia)] at e1 e2;rw [Option.some.inj e1,Option.some.inj e2,show lo+(i-lo)=i by lia,show lo+(j-lo)=j by lia] at q;exact q
theorem y_ (a:Array Keyed) (lo m n:Nat):str a lo (m+n)=str a lo m++str a (lo+m) n:=by
 unfold str;rw [List.take_add,List.drop_drop]
theorem uA {a:Array Keyed} {lo n:Nat} {z:Keyed} (h:z∈str a lo n):∃i,lo<=i/\i<lo+n/\i<a.size/\z=gt a i:=by
 obtain ⟨i,hi,e⟩:=List.getElem_of_mem h;unfold str at hi;rw [List.length_take,List.length_drop,Array.length_toList] at hi;refine ⟨lo+i,by lia,by lia,by lia,?_⟩;have h2:(str a lo n)[i]?=some z:=by rw [<-e];exact List.getElem?_eq_getElem _
 unfold str at h2;rw [List.getElem?_take_of_lt (by lia),List.getElem?_drop,Array.getElem?_toList,jD (by lia)] at h2;exact (Option.some.inj h2).symm
theorem MK (a:Array Keyed) (i j:Nat):(a.extract i j).toList=str a i (j-i):=by
 unfold str;rw [Array.toList_extract,List.extract_eq_take_drop]
noncomputable def put (a:Array Keyed) (off:Nat) (l:List Keyed):Array Keyed:=l.zipIdx.foldl (fun a (p,j)=>a.setIfInBounds (off+j) p) a
theorem WW (off:Nat):∀(l:List Keyed) (k:Nat) (a:Array Keyed),off+k+l.length<=a.size->
  ((l.zipIdx k).foldl (fun a (p,j)=>a.setIfInBounds (off+j) p) a).toList=a.toList.take (off+k)++l++a.toList.drop (off+k+l.length)
 | [],k,a,_=>by simp
 | x::l,k,a,h=>by
  rw [List.zipIdx_cons,List.foldl_cons];rw [List.length_cons] at h;rw [WW off l (k+1) _ (by rw [Array.size_setIfInBounds];lia)];rw [Array.toList_setIfInBounds];have e1:(a.toList.set (off+k) x).take (off+(k+1))=a.toList.take (off+k)++[x]:=by
   rw [show off+(k+1)=(off+k)+1 by lia,List.take_add_one,List.take_set_of_le (Nat.le_refl _),List.getElem?_set_self (by rw [Array.length_toList];lia)];rfl
  have e2:(a.toList.set (off+k) x).drop (off+(k+1)+l.length)=a.toList.drop (off+k+(x::l).length):=by
   rw [List.drop_set_of_lt (by lia),List.length_cons]
   congr 1
   lia
  rw [e1,e2];simp
theorem uB {a:Array Keyed} {off:Nat} {l:List Keyed} (h:off+l.length<=a.size):(put a off l).toList=a.toList.take off++l++a.toList.drop (off+l.length):=by
 have:=WW off l 0 a (by lia);rw [Nat.add_zero] at this;exact this
theorem zA {a:Array Keyed} {i:Nat}:gt a i=a.toList.getD i dk:=by
 unfold gt;by_cases h:i<a.size
 ·simp [Array.getD,h]
 ·simp [Array.getD,h]
structure Stp (lo hi:Nat) (st st':SortSt):Prop where
 kd:kindOf st'=kindOf st
 fl:failedOf st'=failedOf st
 pm:(arrOf st').Perm (arrOf st)
 out:∀j,j<lo\/hi<=j->gt (arrOf st') j=gt (arrOf st) j
theorem Stp.sz {lo hi:Nat} {st st':SortSt} (h:Stp lo hi st st'):(arrOf st').size=(arrOf st).size:=h.pm.size_eq
theorem aZ {a b:Array Keyed} (hU:mJ U a) (p:b.Perm a):mJ U b:=fun i hi=>by
 have:gt b i∈b.toList:=by
  rw [zA,List.getD_eq_getElem?_getD,List.getElem?_eq_getElem (by simpa using hi)];exact List.getElem_mem _
 obtain ⟨j,hj,e⟩:=WT ((Array.perm_iff_toList_perm.mp p).mem_iff.mp this);rw [e];exact hU j hj
theorem Srt.mono {a:Array Keyed} {lo hi lo' hi':Nat} (h:Srt blt a lo hi) (h1:lo<=lo') (h2:hi'<=hi):Srt blt a lo' hi':=fun i j a1 a2 a3=>h i j (by lia) a2 (by lia)
theorem Srt.out {a b:Array Keyed} {lo hi:Nat} (h:Srt blt a lo hi) (e:∀j,lo<=j->j<hi->gt b j=gt a j):Srt blt b lo hi:=fun i j a1 a2 a3=>by
 rw [e i (by lia) (by lia),e j (by lia) a3];exact h i j a1 a2 a3
theorem HY (a:Array Keyed) (i m n:Nat):a.toList=a.toList.take i++(str a i m++str a (i+m) n)++a.toList.drop (i+(m+n)):=by
 rw [<-y_];unfold str;rw [List.append_assoc,<-List.drop_drop,List.take_append_drop,List.take_append_drop]
theorem YS {a:Array Keyed} {off:Nat} {l:List Keyed} (h:off+l.length<=a.size):str (put a off l) off l.length=l:=by
 unfold str;rw [uB h,List.append_assoc,List.drop_left' (by rw [List.length_take,Array.length_toList];lia),List.take_left' rfl]
theorem pY {a:Array Keyed} {off:Nat} {l:List Keyed} (h:off+l.length<=a.size) {j:Nat} (hj:j<off\/off+l.length<=j):gt (put a off l) j=gt a j:=by
 rw [zA,zA,uB h,List.getD_eq_getElem?_getD,List.getD_eq_getElem?_getD]
 congr 1
 have hl:(a.toList.take off).length=off:=by rw [List.length_take,Array.length_toList];lia
 rcases hj with hj|hj
 ·rw [List.append_assoc,List.getElem?_append_left (by lia),List.getElem?_take_of_lt hj]
 ·rw [List.getElem?_append_right (by rw [List.length_append];lia),List.length_append,hl,List.getElem?_drop]
  congr 1
  lia
end
section
variable {prog:Program} {w:World} {A:Around} {E:Value->Shared->Prop} {s:Shared} {kd:SortKind} {U:Keyed->Prop} {blt:Keyed->Keyed->Bool}
theorem YT {σ:Type} {M:Model} {st st':σ} {Q:PUnit->σ->Prop} (h:Q ⟨⟩ st'):wpS M A E s (set st':StateT σ Sem PUnit) Q st:=by
 unfold wpS;rw [StateT.run_set];exact wpAny_pure ⟨rfl,h⟩
theorem zB (O:Ord U blt) (hL:HW prog w A E s kd U blt) {i:Nat} {st:SortSt} {Q:Bool->SortSt->Prop} (hk:kindOf st=kd) (hU:mJ U (arrOf st)) (hF:failedOf st=none) {sa na pw sb nb pw2:Nat}
  (p1:(pendingOf st)[i]?=some (sa,na,pw)) (p2:(pendingOf st)[i+1]?=some (sb,nb,pw2)) (hsb:sb=sa+na) (hsz:sb+nb<=(arrOf st).size) (hna:0<na) (hnb:0<nb)
  (s1:Srt blt (arrOf st) sa (sa+na)) (s2:Srt blt (arrOf st) sb (sb+nb))
  (h:∀st',Stp sa (sb+nb) st st'->Srt blt (arrOf st') sa (sb+nb)->pendingOf st'=((pendingOf st).setIfInBounds i (sa,na+nb,pw)).eraseIdxIfInBounds (i+1)->Q true st') :
  wpS (model prog w) A E s (mergeAt' i) Q st:=by
 subst hsb
 with_unfolding_all refine wpS_bind (wpS_get ?_)
 dsimp only;rw [p1,p2];dsimp only;refine wpS_bind (YT ?_);have hk':kindOf (setPending st (((pendingOf st).setIfInBounds i (sa,na+nb,pw)).eraseIdxIfInBounds (i+1)))=kd:=hk;refine wpS_bind (aL (arr:=arrOf st) (by lia) ?_);refine wpS_bind (dI (arr:=arrOf st) O hL hk' (by lia) hU (hU _ (by lia)) (s1.mono (Nat.le_refl _) (by lia)) (by lia) fun k hk1 y1 y2=>?_);dsimp only;have y1':∀i,i<k->blt (gt (arrOf st) (sa+na)) (gt (arrOf st) (sa+i))=false:=fun i hi=>by have:=y1 i hi;simpa [gp] using this
 have y2':∀i,k<=i->i<na->blt (gt (arrOf st) (sa+na)) (gt (arrOf st) (sa+i))=true:=fun i i1 i2=>by have:=y2 i i1 i2;simpa [gp] using this
 -- the whole stretch is sorted as soon as the first part's last is no more than the second's first
 have whole:(∀i j,sa<=i->i<sa+na->sa+na<=j->j<sa+na+nb->blt (gt (arrOf st) j) (gt (arrOf st) i)=false)->Srt blt (arrOf st) sa (sa+na+nb):=fun q i j a1 a2 a3=>by
  by_cases c1:j<sa+na
  ·exact s1 i j a1 a2 c1
  ·by_cases c2:sa+na<=i
   ·exact s2 i j c2 a2 a3
   ·exact q i j a1 (by lia) (by lia) a3
 have stp0:Stp sa (sa+na+nb) st (setPending st (((pendingOf st).setIfInBounds i (sa,na+nb,pw)).eraseIdxIfInBounds (i+1))):=⟨rfl,rfl,Array.Perm.refl _,fun _ _=>rfl⟩
 by_cases e1:na-k=0
 ·rw [if_pos (by simpa using e1)];refine wpS_pure (h _ stp0 (whole fun i j i1 i2 j1 j2=>?_) rfl);have q:=y1' (i-sa) (by lia);rw [show sa+(i-sa)=i by lia] at q;exact O.le_trans (hU _ (by lia)) (hU _ (by lia)) (hU _ (by lia)) q (s2 _ _ (Nat.le_refl _) j1 j2)
 rw [if_neg (by simpa using e1)];refine wpS_bind (aL (arr:=arrOf st) (by lia) ?_);refine wpS_bind (dI (arr:=arrOf st) O hL hk' (by lia) hU (hU _ (by lia)) (s2.mono (Nat.le_refl _) (by lia)) (by lia) fun nb' hnb1 z1 z2=>?_);dsimp only;have ez:sa+k+(na-k)-1=sa+na-1:=by lia
 have z1':∀i,i<nb'->blt (gt (arrOf st) (sa+na+i)) (gt (arrOf st) (sa+na-1))=true:=fun i hi=>by have:=z1 i hi;rw [ez] at this;simpa [gp] using this
 have z2':∀i,nb'<=i->i<nb->blt (gt (arrOf st) (sa+na+i)) (gt (arrOf st) (sa+na-1))=false:=fun i i1 i2=>by have:=z2 i i1 i2;rw [ez] at this;simpa [gp] using this
 by_cases e2:nb'=0
 ·rw [if_pos (by simpa using e2)];refine wpS_pure (h _ stp0 (whole fun i j i1 i2 j1 j2=>?_) rfl);have q:=z2' (j-(sa+na)) (by lia) (by lia);rw [show sa+na+(j-(sa+na))=j by lia] at q;exact O.le_trans (hU _ (by lia)) (hU (sa+na-1) (by lia)) (hU _ (by lia)) (s1 i (sa+na-1) i1 (by lia) (by lia)) q
 rw [if_neg (by simpa using e2)];have ex:((arrOf st).extract (sa+k) (sa+na)).toList=str (arrOf st) (sa+k) (na-k):=by rw [MK];congr 1;lia
 have ey:((arrOf st).extract (sa+na) (sa+na+nb')).toList=str (arrOf st) (sa+na) nb':=by rw [MK];congr 1;lia
 have zx:((arrOf st).extract (sa+k) (sa+na)).size=na-k:=by rw [Array.size_extract];lia
 have zy:((arrOf st).extract (sa+na) (sa+na+nb')).size=nb':=by rw [Array.size_extract];lia
 have gx:∀i,i<na-k->gt ((arrOf st).extract (sa+k) (sa+na)) i=gt (arrOf st) (sa+k+i):=fun i hi=>by
  have e:=iD (a:=arrOf st) (lo:=sa+k) (i:=i) (n:=na-k) hi (by lia);rw [<-ex,Array.getElem?_toList,jD (by lia)] at e;exact Option.some.inj e
 have gy:∀i,i<nb'->gt ((arrOf st).extract (sa+na) (sa+na+nb')) i=gt (arrOf st) (sa+na+i):=fun i hi=>by
  have e:=iD (a:=arrOf st) (lo:=sa+na) (i:=i) (n:=nb') hi (by lia);rw [<-ey,Array.getElem?_toList,jD (by lia)] at e;exact Option.some.inj e
 have fin:∀(r:Array Keyed) (st2:SortSt),Sim (setPending st (((pendingOf st).setIfInBounds i (sa,na+nb,pw)).eraseIdxIfInBounds (i+1))) st2->
   r.toList=mrg blt ((arrOf st).extract (sa+k) (sa+na)).toList ((arrOf st).extract (sa+na) (sa+na+nb')).toList->
   wpS (model prog w) A E s (do
    modify fun s=>setArr s (r.toList.zipIdx.foldl (fun a (p,j)=>a.setIfInBounds (sa+k+j) p) (arrOf s))
    return (failedOf (<- get)).isNone) Q st2:=by
  intro r st2 sim hr;rw [ex,ey] at hr;have hlen:r.toList.length=(na-k)+nb':=by
   rw [hr,(t_ _ _).length_eq,List.length_append,str_len (by lia),str_len (by lia)]
  have hfit:sa+k+r.toList.length<=(arrOf st).size:=by lia
  have ear:arrOf st2=arrOf st:=sim.ar;refine wpS_bind (wpS_modify (wpS_bind (wpS_get (wpS_pure ?_))));show Q (failedOf st2).isNone (setArr st2 (put (arrOf st2) (sa+k) r.toList));rw [sim.fl,show failedOf (setPending st _)=none from hF,ear];have hp:(put (arrOf st) (sa+k) r.toList).Perm (arrOf st):=by
   rw [Array.perm_iff_toList_perm,uB hfit,hlen];have sp:=HY (arrOf st) (sa+k) (na-k) nb';rw [show sa+k+(na-k)=sa+na by lia] at sp
   conv=>rhs;rw [sp]
   rw [hr];exact (((t_ _ _).append_left _).append_right _)
  have hU':=aZ hU hp;refine h _ ⟨sim.kd,sim.fl,hp,fun j hj=>?_⟩ ?_ ?_
  ·show gt (put (arrOf st) (sa+k) r.toList) j=gt (arrOf st) j;exact pY hfit (by lia)
  ·show Srt blt (put (arrOf st) (sa+k) r.toList) sa (sa+na+nb);have hsz':(put (arrOf st) (sa+k) r.toList).size=(arrOf st).size:=hp.size_eq;have e0:str (put (arrOf st) (sa+k) r.toList) (sa+k) ((na-k)+nb')=mrg blt (str (arrOf st) (sa+k) (na-k)) (str (arrOf st) (sa+na) nb'):=by
    rw [<-hlen,YS hfit,hr]
   have ux:∀z∈str (arrOf st) (sa+k) (na-k),U z:=fun z hz=>by obtain ⟨i,_,_,i3,rfl⟩:=uA hz;exact hU i i3
   have uy:∀z∈str (arrOf st) (sa+na) nb',U z:=fun z hz=>by obtain ⟨i,_,_,i3,rfl⟩:=uA hz;exact hU i i3
   have sm:SL blt (mrg blt (str (arrOf st) (sa+k) (na-k)) (str (arrOf st) (sa+na) nb')):=
    MJ O _ _ ux uy (Srt.sl (s1.mono (by lia) (by lia)) (by lia)) (Srt.sl (s2.mono (Nat.le_refl _) (by lia)) (by lia))
   have mid:Srt blt (put (arrOf st) (sa+k) r.toList) (sa+k) (sa+k+((na-k)+nb')):=SL.srt O hU' (by rw [e0];exact sm) (by lia);have inmid:∀j,sa+k<=j->j<sa+na+nb'->∃q,gt (put (arrOf st) (sa+k) r.toList) j=gt (arrOf st) q/\((sa+k<=q/\q<sa+na)\/(sa+na<=q/\q<sa+na+nb')):=by
    intro j j1 j2;have e:=iD (a:=put (arrOf st) (sa+k) r.toList) (lo:=sa+k) (i:=j-(sa+k)) (n:=(na-k)+nb') (by lia) (by lia);rw [e0,show sa+k+(j-(sa+k))=j by lia] at e;have hm:=List.mem_of_getElem? e;rcases yZ.mp hm with hm|hm
    ·obtain ⟨q,q1,q2,q3,q4⟩:=uA hm;exact ⟨q,q4,.inl ⟨q1,by lia⟩⟩
    ·obtain ⟨q,q1,q2,q3,q4⟩:=uA hm;exact ⟨q,q4,.inr ⟨q1,q2⟩⟩
   intro i j a1 a2 a3
   -- three zones
   by_cases ci:i<sa+k
   ·have ei:gt (put (arrOf st) (sa+k) r.toList) i=gt (arrOf st) i:=pY hfit (by lia);by_cases cj:j<sa+k
    ·have ej:gt (put (arrOf st) (sa+k) r.toList) j=gt (arrOf st) j:=pY hfit (by lia);rw [ei,ej];exact s1 i j a1 a2 (by lia)
    ·have yi:=y1' (i-sa) (by lia);rw [show sa+(i-sa)=i by lia] at yi;have leB:∀q,sa+na<=q->q<sa+na+nb->blt (gt (arrOf st) q) (gt (arrOf st) i)=false:=fun q q1 q2=>
      O.le_trans (hU _ (by lia)) (hU _ (by lia)) (hU _ (by lia)) yi (s2 _ _ (Nat.le_refl _) q1 q2)
     by_cases cj2:j<sa+na+nb'
     ·obtain ⟨q,eq,hq⟩:=inmid j (by lia) cj2;rw [ei,eq];rcases hq with ⟨q1,q2⟩|⟨q1,q2⟩
      ·exact s1 i q a1 (by lia) q2
      ·exact leB q q1 (by lia)
     ·have ej:gt (put (arrOf st) (sa+k) r.toList) j=gt (arrOf st) j:=pY hfit (by lia);rw [ei,ej];exact leB j (by lia) a3
   ·by_cases ci2:i<sa+na+nb'
    ·by_cases cj2:j<sa+na+nb'
     ·exact mid i j (by lia) a2 (by lia)
     ·have ej:gt (put (arrOf st) (sa+k) r.toList) j=gt (arrOf st) j:=pY hfit (by lia);obtain ⟨q,eq,hq⟩:=inmid i (by lia) ci2;rw [eq,ej];rcases hq with ⟨q1,q2⟩|⟨q1,q2⟩
      ·have zj:=z2' (j-(sa+na)) (by lia) (by lia);rw [show sa+na+(j-(sa+na))=j by lia] at zj;exact O.le_trans (hU _ (by lia)) (hU (sa+na-1) (by lia)) (hU _ (by lia)) (s1 q (sa+na-1) (by lia) (by lia) (by lia)) zj
      ·exact s2 q j q1 (by lia) a3
    ·have ei:gt (put (arrOf st) (sa+k) r.toList) i=gt (arrOf st) i:=pY hfit (by lia);have ej:gt (put (arrOf st) (sa+k) r.toList) j=gt (arrOf st) j:=pY hfit (by lia);rw [ei,ej];exact s2 i j (by lia) a2 a3
  ·show pendingOf st2=_;exact sim.pd
 have hUx:mJ U ((arrOf st).extract (sa+k) (sa+na)):=fun i hi=>by rw [zx] at hi;rw [gx i hi];exact hU _ (by lia)
 have hUy:mJ U ((arrOf st).extract (sa+na) (sa+na+nb')):=fun i hi=>by rw [zy] at hi;rw [gy i hi];exact hU _ (by lia)
 have hsx:Srt blt ((arrOf st).extract (sa+k) (sa+na)) 0 ((arrOf st).extract (sa+k) (sa+na)).size:=fun i j a1 a2 a3=>by
  rw [zx] at a3;rw [gx i (by lia),gx j a3];exact s1 _ _ (by lia) (by lia) (by lia)
 have hsy:Srt blt ((arrOf st).extract (sa+na) (sa+na+nb')) 0 ((arrOf st).extract (sa+na) (sa+na+nb')).size:=fun i j a1 a2 a3=>by
  rw [zy] at a3;rw [gy i (by lia),gy j a3];exact s2 _ _ (by lia) (by lia) (by lia)
 have hfst:blt (gt ((arrOf st).extract (sa+na) (sa+na+nb')) 0) (gt ((arrOf st).extract (sa+k) (sa+na)) 0)=true:=by
  rw [gx 0 (by lia),gy 0 (by lia)];exact y2' k (Nat.le_refl _) (by lia)
 have hlst:∀i,i<((arrOf st).extract (sa+na) (sa+na+nb')).size->blt (gt ((arrOf st).extract (sa+na) (sa+na+nb')) i) (gt ((arrOf st).extract (sa+k) (sa+na)) (((arrOf st).extract (sa+k) (sa+na)).size-1))=true:=fun i hi=>by
  rw [zy] at hi;rw [zx,gx (na-k-1) (by lia),gy i hi,show sa+k+(na-k-1)=sa+na-1 by lia];exact z1' i hi
 by_cases ce:na-k<=nb'
 ·rw [if_pos ce];exact wpS_bind (yV (a:=(arrOf st).extract (sa+k) (sa+na)) (b:=(arrOf st).extract (sa+na) (sa+na+nb')) O hL hk' hUx hUy hsx hsy (by lia) (by lia) hfst hlst fin)
 ·rw [if_neg ce];exact wpS_bind (yX (a:=(arrOf st).extract (sa+k) (sa+na)) (b:=(arrOf st).extract (sa+na) (sa+na+nb')) O hL hk' hUx hUy hsx hsy (by lia) (by lia) hfst hlst fin)
end
end TS
end
section
namespace TS
open PySem PyProof.Rows
section
variable {blt:Keyed->Keyed->Bool} {U:Keyed->Prop}
noncomputable def Eqv (blt:Keyed->Keyed->Bool) (x y:Keyed):Prop:=blt x y=false/\blt y x=false
theorem Eqv.R6 (O:Ord U blt) {x:Keyed} (h:U x):Eqv blt x x:=⟨O.irr x h,O.irr x h⟩
theorem Eqv.symm {x y:Keyed} (h:Eqv blt x y):Eqv blt y x:=⟨h.2,h.1⟩
theorem Eqv.trans (O:Ord U blt) {x y z:Keyed} (hx:U x) (hy:U y) (hz:U z) (h:Eqv blt x y) (g:Eqv blt y z):Eqv blt x z:=⟨O.le_trans hz hy hx g.1 h.1,O.le_trans hx hy hz h.2 g.2⟩
noncomputable def NonInc (blt:Keyed->Keyed->Bool) (a:Array Keyed) (lo n:Nat):Prop:=∀i j,lo<=i->i<=j->j<lo+n->blt (gt a i) (gt a j)=false
theorem aD9 (a:Array Keyed) (i:Nat):gt a i=(a[i]?).getD dk:=by
 unfold gt;by_cases h:i<a.size
 ·simp [Array.getD,h]
 ·simp [Array.getD,h]
theorem jG {a:Array Keyed} {i j:Nat} (hj:j<=a.size) (k:Nat):gt (mirror a i j ((j-i) / 2)) k=if i<=k/\k<j then gt a (i+j-1-k) else gt a k:=by
 rw [aD9,getElem?_mirror_all hj];split <;> rw [aD9]
theorem Stp.mir {lo hi:Nat} {st st':SortSt} (h:Stp lo hi st st') {i j:Nat} (hi':lo<=i) (hj:j<=hi) (hs:j<=(arrOf st').size):Stp lo hi st (setArr st' (mirror (arrOf st') i j ((j-i) / 2))):=
 ⟨h.kd,h.fl,(mirror_perm _ _ _ _).trans h.pm,fun k hk=>by
  show gt (mirror (arrOf st') i j ((j-i) / 2)) k=_;rw [jG hs,if_neg (by lia)];exact h.out k hk⟩
theorem mK (O:Ord U blt) {a:Array Keyed} {lo x:Nat} (hU:mJ U a) (hx:lo+x<a.size) (h0:1<=x) (h:Srt blt a lo (lo+x)) (e:blt (gt a (lo+x)) (gt a (lo+x-1))=false):Srt blt a lo (lo+(x+1)):=fun i j a1 a2 a3=>by
 by_cases c:j<lo+x
 ·exact h i j a1 a2 c
 ·obtain rfl:j=lo+x:=by lia
  by_cases d:i=lo+x
  ·rw [d];exact O.irr _ (hU _ hx)
  ·exact O.le_trans (hU _ (by lia)) (hU _ (by lia)) (hU _ hx) (h i (lo+x-1) a1 (by lia) (by lia)) e
theorem nT (O:Ord U blt) {a:Array Keyed} {lo x:Nat} (hU:mJ U a) (hx:lo+x<a.size) (h0:1<=x) (h:NonInc blt a lo x) (e:blt (gt a (lo+x-1)) (gt a (lo+x))=false):NonInc blt a lo (x+1):=fun i j a1 a2 a3=>by
 by_cases c:j<lo+x
 ·exact h i j a1 a2 c
 ·obtain rfl:j=lo+x:=by lia
  by_cases d:i=lo+x
  ·rw [d];exact O.irr _ (hU _ hx)
  ·exact O.le_trans (hU _ hx) (hU _ (by lia)) (hU _ (by lia)) e (h i (lo+x-1) a1 (by lia) (by lia))
theorem uC {a:Array Keyed} {lo m:Nat} (hs:lo+m<=a.size) (h:NonInc blt a lo m):Srt blt (mirror a lo (lo+m) ((lo+m-lo) / 2)) lo (lo+m):=fun i j a1 a2 a3=>by
 rw [jG hs,jG hs,if_pos (by lia),if_pos (by lia)];exact h _ _ (by lia) (by lia) (by lia)
theorem uE (O:Ord U blt) {a:Array Keyed} {lo m neq:Nat} (hU:mJ U a) (hs:lo+m<=a.size) (hq:neq+1<=m) (h:∀i,lo+m-(neq+1)<=i->i<lo+m->Eqv blt (gt a i) (gt a (lo+m-1))) :
  ∀k,k<a.size->Eqv blt (gt (mirror a (lo+m-(neq+1)) (lo+m) ((lo+m-(lo+m-(neq+1))) / 2)) k) (gt a k):=fun k hk=>by
 rw [jG hs];by_cases c:lo+m-(neq+1)<=k/\k<lo+m
 ·rw [if_pos c];exact (h _ (by lia) (by lia)).trans O (hU _ (by lia)) (hU _ (by lia)) (hU _ (by lia)) (h k c.1 c.2).symm
 ·rw [if_neg c];exact Eqv.R6 O (hU _ hk)
theorem wJ (O:Ord U blt) {a b:Array Keyed} {lo n:Nat} (hU:mJ U a) (hV:mJ U b) (hs:lo+n<=a.size) (ht:lo+n<=b.size) (h:NonInc blt a lo n) (e:∀k,k<a.size->Eqv blt (gt b k) (gt a k)):NonInc blt b lo n:=fun i j a1 a2 a3=>
 O.le_trans (hV j (by lia)) (hU j (by lia)) (hV i (by lia)) (e j (by lia)).2 (O.le_trans (hU j (by lia)) (hU i (by lia)) (hV i (by lia)) (h i j a1 a2 a3) (e i (by lia)).1)
end
section
variable {prog:Program} {w:World} {A:Around} {E:Value->Shared->Prop} {s:Shared} {kd:SortKind} {U:Keyed->Prop} {blt:Keyed->Keyed->Bool}
theorem wpS_ltAt (hL:HW prog w A E s kd U blt) {i j:Nat} {st:SortSt} {Q:Option Bool->SortSt->Prop} (hk:kindOf st=kd) (hU:mJ U (arrOf st)) (hi:i<(arrOf st).size) (hj:j<(arrOf st).size)
  (h:Q (some (blt (gt (arrOf st) i) (gt (arrOf st) j))) st):wpS (model prog w) A E s (ltAt' i j) Q st:=by
 rw [ltAt'_eq];exact wpS_bind (wpS_get (wpS_bind (aL hi (wpS_bind (aL hj (hL _ _ _ _ (hU _ hi) (hU _ hj) hk h))))))
noncomputable abbrev mrA (st3:SortSt) (lo m neq:Nat):SortSt:=setArr st3 (mirror (arrOf st3) (lo+m-(neq+1)) (lo+m) ((lo+m-(lo+m-(neq+1))) / 2))
noncomputable abbrev mrB (st3:SortSt) (lo m:Nat):SortSt:=setArr st3 (mirror (arrOf st3) lo (lo+m) ((lo+m-lo) / 2))
theorem wpS_countRun (O:Ord U blt) (hL:HW prog w A E s kd U blt) {lo nrem:Nat} {st:SortSt} {Q:Option Nat->SortSt->Prop} (hk:kindOf st=kd) (hU:mJ U (arrOf st)) (hn:lo+nrem<=(arrOf st).size) (h1:1<=nrem)
  (h:∀m st',Stp lo (lo+nrem) st st'->pendingOf st'=pendingOf st->1<=m->m<=nrem->Srt blt (arrOf st') lo (lo+m)->Q (some m) st'):wpS (model prog w) A E s (countRun' lo nrem) Q st:=by
 rw [countRun'_eq];have stp0:Stp lo (lo+nrem) st st:=⟨rfl,rfl,Array.Perm.refl _,fun _ _=>rfl⟩
 refine wpS_bind (wpS_mono (wpS_forRange
  (I:=fun x c st'=>st'=st/\c=(none,x)/\Srt blt (arrOf st) lo (lo+x))
  (Q:=fun c st'=>st'=st/\∃m,c=(none,m)/\1<=m/\m<=nrem/\Srt blt (arrOf st) lo (lo+m)/\(m=nrem\/(m<nrem/\blt (gt (arrOf st) (lo+m)) (gt (arrOf st) (lo+m-1))=true))) ?step ?fin ?init) ?post)
 case init=>exact ⟨rfl,rfl,fun i j a1 a2 a3=>by rw [show i=lo by lia,show j=lo by lia];exact O.irr _ (hU _ (by lia))⟩
 case fin=>
  rintro c st' ⟨rfl,rfl,q⟩;rw [show max 1 nrem=nrem by lia] at q ⊢;exact ⟨rfl,nrem,rfl,h1,Nat.le_refl _,q,.inl rfl⟩
 case step=>
  rintro x c st' x1 x2 ⟨rfl,rfl,q⟩;dsimp only;refine wpS_bind (wpS_ltAt hL hk hU (by lia) (by lia) ?_);dsimp only;cases e:blt (gt (arrOf st') (lo+x)) (gt (arrOf st') (lo+x-1)) with
  | true=>
   simp only [if_true];exact wpS_pure ⟨rfl,x,rfl,x1,by lia,q,.inr ⟨x2,e⟩⟩
  | false=>
   simp only [Bool.false_eq_true,if_false];exact wpS_pure ⟨rfl,rfl,mK O hU (by lia) x1 q e⟩
 case post=>
  rintro c st ⟨hst,n,rfl,n1,n2,q,hor⟩;have hst:=hst.symm;subst hst;dsimp only;by_cases hnn:n=nrem
  ·rw [if_pos (by simpa using hnn)];exact wpS_pure (h n _ stp0 rfl n1 n2 q)
  rw [if_neg (by simpa using hnn)];obtain ⟨n3,hlt⟩:=hor.resolve_left hnn;by_cases hgt:n > 1
  ·rw [if_pos hgt];refine wpS_bind (wpS_ltAt hL hk hU (by lia) (by lia) ?_);dsimp only;cases e:blt (gt (arrOf st) lo) (gt (arrOf st) (lo+n-1)) with
   | true=>
    simp only [if_true];exact wpS_pure (h n _ stp0 rfl n1 n2 q)
   | false=>
    simp only [Bool.false_eq_true,if_false];refine wpS_bind (wpS_reverse ?_);have stp2:Stp lo (lo+nrem) st (setArr st (mirror (arrOf st) lo (lo+n) ((lo+n-lo) / 2))):=stp0.mir (Nat.le_refl _) (by lia) (by lia);have pd2:pendingOf (setArr st (mirror (arrOf st) lo (lo+n) ((lo+n-lo) / 2)))=pendingOf st:=rfl;have ev:∀i,lo<=i->i<lo+n->Eqv blt (gt (arrOf st) i) (gt (arrOf st) (lo+n-1)):=fun i i1 i2=>by
     refine ⟨?_,q i (lo+n-1) i1 (by lia) (by lia)⟩
     ·cases z:blt (gt (arrOf st) i) (gt (arrOf st) (lo+n-1)) with
      | false=>rfl
      | true=>
       rcases O.ntr _ (gt (arrOf st) lo) _ (hU i (by lia)) (hU lo (by lia)) (hU (lo+n-1) (by lia)) z with p|p
       ·rw [q lo i (Nat.le_refl _) i1 i2] at p;cases p
       ·rw [e] at p;cases p
    have hm:∀k,k<(arrOf st).size->Eqv blt (gt (mirror (arrOf st) lo (lo+n) ((lo+n-lo) / 2)) k) (gt (arrOf st) k):=fun k hk'=>by
     rw [jG (by lia)];by_cases c:lo<=k/\k<lo+n
     ·rw [if_pos c];exact (ev _ (by lia) (by lia)).trans O (hU _ (by lia)) (hU _ (by lia)) (hU _ (by lia)) (ev k c.1 c.2).symm
     ·rw [if_neg c];exact Eqv.R6 O (hU _ hk')
    have ni1:NonInc blt (arrOf st) lo n:=fun i j a1 a2 a3=>((ev i a1 (by lia)).trans O (hU _ (by lia)) (hU _ (by lia)) (hU _ (by lia)) (ev j (by lia) a3).symm).1
    have ni2:NonInc blt (arrOf (setArr st (mirror (arrOf st) lo (lo+n) ((lo+n-lo) / 2)))) lo (n+1):=
     wJ O hU (aZ hU (mirror_perm _ _ _ _)) (by lia) (by show lo+(n+1)<=(mirror _ _ _ _).size;rw [mirror_size];lia) (nT O hU (by lia) n1 ni1 (O.R5 (hU _ (by lia)) (hU _ (by lia)) hlt)) hm
    refine wpS_bind (wpS_lift (wpAny_rule ⟨rfl,?_⟩));refine wpS_bind (wpS_mono (wpS_forRange
     (I:=fun x c st'=>∃neq,c=(none,x,neq)/\Stp lo (lo+nrem) st st'/\pendingOf st'=pendingOf st/\NonInc blt (arrOf st') lo x/\neq+1<=x/\∀i,lo+x-(neq+1)<=i->i<lo+x->Eqv blt (gt (arrOf st') i) (gt (arrOf st') (lo+x-1)))
     (Q:=fun c st'=>∃m neq,c=(none,m,neq)/\n+1<=m/\m<=nrem/\Stp lo (lo+nrem) st st'/\pendingOf st'=pendingOf st/\NonInc blt (arrOf st') lo m/\neq+1<=m/\∀i,lo+m-(neq+1)<=i->i<lo+m->Eqv blt (gt (arrOf st') i) (gt (arrOf st') (lo+m-1))) ?dstep ?dfin ?dinit) ?dpost)
    case dinit=>exact ⟨0,rfl,stp2,pd2,ni2,by lia,fun i i1 i2=>by rw [show i=lo+(n+1)-1 by lia];exact Eqv.R6 O (aZ hU stp2.pm _ (by rw [stp2.sz];lia))⟩
    case dfin=>
     rintro c st' ⟨neq,rfl,q1,q2,q3,q4,q5⟩;rw [show max (n+1) nrem=nrem by lia] at q3 q4 q5 ⊢;exact ⟨nrem,neq,rfl,by lia,Nat.le_refl _,q1,q2,q3,q4,q5⟩
    case dstep=>
     rintro x c st' x1 x2 ⟨neq,rfl,q1,q2,q3,q4,q5⟩;dsimp only;have hUx:=aZ hU q1.pm;have hzx:lo+nrem<=(arrOf st').size:=by rw [q1.sz];lia
     refine wpS_bind (wpS_ltAt hL (q1.kd.trans hk) hUx (by lia) (by lia) ?_);dsimp only;cases e:blt (gt (arrOf st') (lo+x)) (gt (arrOf st') (lo+x-1)) with
     | true=>
      simp only [if_true];have ni':NonInc blt (arrOf st') lo (x+1):=nT O hUx (by lia) (by lia) q3 (O.R5 (hUx _ (by lia)) (hUx _ (by lia)) e);by_cases hq:neq > 0
      ·rw [if_pos hq];refine wpS_bind (wpS_reverse (wpS_pure ⟨0,rfl,q1.mir (by lia) (by lia) (by lia),q2,?_,by lia,fun i i1 i2=>?_⟩))
       ·exact wJ O hUx (aZ hUx (mirror_perm _ _ _ _)) (by lia) (by rw [mirror_size];lia) ni' (uE O hUx (by lia) (by lia) q5)
       ·rw [show i=lo+(x+1)-1 by lia];exact Eqv.R6 O (aZ hUx (mirror_perm _ _ _ _) _ (by rw [mirror_size];lia))
      ·rw [if_neg hq];exact wpS_pure ⟨0,rfl,q1,q2,ni',by lia,fun i i1 i2=>by rw [show i=lo+(x+1)-1 by lia];exact Eqv.R6 O (hUx _ (by lia))⟩
     | false=>
      simp only [Bool.false_eq_true,if_false];refine wpS_bind (wpS_ltAt hL (q1.kd.trans hk) hUx (by lia) (by lia) ?_);dsimp only;cases e2:blt (gt (arrOf st') (lo+x-1)) (gt (arrOf st') (lo+x)) with
      | true=>
       simp only [if_true];exact wpS_pure ⟨x,neq,rfl,x1,by lia,q1,q2,q3,q4,q5⟩
      | false=>
       simp only [Bool.false_eq_true,if_false];refine wpS_pure ⟨neq+1,rfl,q1,q2,nT O hUx (by lia) (by lia) q3 e2,by lia,fun i i1 i2=>?_⟩;rw [show lo+(x+1)-1=lo+x by lia];by_cases c:i=lo+x
       ·rw [c];exact Eqv.R6 O (hUx _ (by lia))
       ·exact (q5 i (by lia) (by lia)).trans O (hUx _ (by lia)) (hUx _ (by lia)) (hUx _ (by lia)) ⟨e2,e⟩
    case dpost=>
     rintro c st3 ⟨m,neq,rfl,m1,m2,q1,q2,q3,q4,q5⟩;dsimp only;have hU3:=aZ hU q1.pm;have hz3:lo+nrem<=(arrOf st3).size:=by rw [q1.sz];lia
     by_cases hq:neq > 0
     ·rw [if_pos hq];refine wpS_bind (wpS_reverse ?_);have stp4:=q1.mir (i:=lo+m-(neq+1)) (j:=lo+m) (by lia) (by lia) (by lia);have ni4:NonInc blt (mirror (arrOf st3) (lo+m-(neq+1)) (lo+m) ((lo+m-(lo+m-(neq+1))) / 2)) lo m:=
       wJ O hU3 (aZ hU3 (mirror_perm _ _ _ _)) (by lia) (by rw [mirror_size];lia) q3 (uE O hU3 (by lia) (by lia) q5)
      refine wpS_bind (wpS_reverse ?_);have stpA:Stp lo (lo+nrem) st (setArr (mrA st3 lo m neq) (mirror (arrOf (mrA st3 lo m neq)) lo (lo+m) ((lo+m-lo) / 2))):=stp4.mir (Nat.le_refl _) (by lia) (by rw [stp4.sz];lia);have pdA:pendingOf (setArr (mrA st3 lo m neq) (mirror (arrOf (mrA st3 lo m neq)) lo (lo+m) ((lo+m-lo) / 2)))=pendingOf st:=q2;have hsA:Srt blt (arrOf (setArr (mrA st3 lo m neq) (mirror (arrOf (mrA st3 lo m neq)) lo (lo+m) ((lo+m-lo) / 2)))) lo (lo+m):=uC (by rw [stp4.sz];lia) ni4;refine wpS_bind (wpS_mono (wpS_forRange
       (I:=fun x c st'=>st'=(setArr (mrA st3 lo m neq) (mirror (arrOf (mrA st3 lo m neq)) lo (lo+m) ((lo+m-lo) / 2)))/\c=(none,x)/\Srt blt (arrOf (setArr (mrA st3 lo m neq) (mirror (arrOf (mrA st3 lo m neq)) lo (lo+m) ((lo+m-lo) / 2)))) lo (lo+x))
       (Q:=fun c st'=>st'=(setArr (mrA st3 lo m neq) (mirror (arrOf (mrA st3 lo m neq)) lo (lo+m) ((lo+m-lo) / 2)))/\∃mm,c=(none,mm)/\m<=mm/\mm<=nrem/\Srt blt (arrOf (setArr (mrA st3 lo m neq) (mirror (arrOf (mrA st3 lo m neq)) lo (lo+m) ((lo+m-lo) / 2)))) lo (lo+mm)) ?stepA ?finA ?initA) ?postA)
      case initA=>exact ⟨rfl,rfl,hsA⟩
      case finA=>
       rintro c st' ⟨rfl,rfl,q⟩;rw [show max m nrem=nrem by lia] at q ⊢;exact ⟨rfl,nrem,rfl,by lia,Nat.le_refl _,q⟩
      case postA=>
       rintro c st' ⟨rfl,mm,rfl,mm1,mm2,q⟩;exact wpS_pure (h mm _ stpA pdA (by lia) mm2 q)
      case stepA=>
       rintro x c st' x1 x2 ⟨rfl,rfl,q⟩;dsimp only;refine wpS_bind (wpS_ltAt hL (stpA.kd.trans hk) (aZ hU stpA.pm) (by rw [stpA.sz];lia) (by rw [stpA.sz];lia) ?_);dsimp only;cases e:blt (gt (arrOf (setArr (mrA st3 lo m neq) (mirror (arrOf (mrA st3 lo m neq)) lo (lo+m) ((lo+m-lo) / 2)))) (lo+x)) (gt (arrOf (setArr (mrA st3 lo m neq) (mirror (arrOf (mrA st3 lo m neq)) lo (lo+m) ((lo+m-lo) / 2)))) (lo+x-1)) with
       | true=>
        simp only [if_true];exact wpS_pure ⟨rfl,x,rfl,x1,by lia,q⟩
       | false=>
        simp only [Bool.false_eq_true,if_false];exact wpS_pure ⟨rfl,rfl,mK O (aZ hU stpA.pm) (by rw [stpA.sz];lia) (by lia) q e⟩
     ·rw [if_neg hq];refine wpS_bind (wpS_reverse ?_);have stpB:Stp lo (lo+nrem) st (mrB st3 lo m):=q1.mir (Nat.le_refl _) (by lia) (by rw [q1.sz];lia);have pdB:pendingOf (mrB st3 lo m)=pendingOf st:=q2;have hsB:Srt blt (arrOf (mrB st3 lo m)) lo (lo+m):=uC (by rw [q1.sz];lia) q3;refine wpS_bind (wpS_mono (wpS_forRange
       (I:=fun x c st'=>st'=(mrB st3 lo m)/\c=(none,x)/\Srt blt (arrOf (mrB st3 lo m)) lo (lo+x))
       (Q:=fun c st'=>st'=(mrB st3 lo m)/\∃mm,c=(none,mm)/\m<=mm/\mm<=nrem/\Srt blt (arrOf (mrB st3 lo m)) lo (lo+mm)) ?stepB ?finB ?initB) ?postB)
      case initB=>exact ⟨rfl,rfl,hsB⟩
      case finB=>
       rintro c st' ⟨rfl,rfl,q⟩;rw [show max m nrem=nrem by lia] at q ⊢;exact ⟨rfl,nrem,rfl,by lia,Nat.le_refl _,q⟩
      case postB=>
       rintro c st' ⟨rfl,mm,rfl,mm1,mm2,q⟩;exact wpS_pure (h mm _ stpB pdB (by lia) mm2 q)
      case stepB=>
       rintro x c st' x1 x2 ⟨rfl,rfl,q⟩;dsimp only;refine wpS_bind (wpS_ltAt hL (stpB.kd.trans hk) (aZ hU stpB.pm) (by rw [stpB.sz];lia) (by rw [stpB.sz];lia) ?_);dsimp only;cases e:blt (gt (arrOf (mrB st3 lo m)) (lo+x)) (gt (arrOf (mrB st3 lo m)) (lo+x-1)) with
       | true=>
        simp only [if_true];exact wpS_pure ⟨rfl,x,rfl,x1,by lia,q⟩
       | false=>
        simp only [Bool.false_eq_true,if_false];exact wpS_pure ⟨rfl,rfl,mK O (aZ hU stpB.pm) (by rw [stpB.sz];lia) (by lia) q e⟩
  ·rw [if_neg hgt];obtain rfl:n=1:=by lia
   have stp2:=stp0;have pd2:pendingOf st=pendingOf st:=rfl;have ni2:NonInc blt (arrOf st) lo (1+1):=nT O hU (by lia) (Nat.le_refl _) (fun i j a1 a2 a3=>by rw [show i=lo by lia,show j=lo by lia];exact O.irr _ (hU _ (by lia))) (O.R5 (hU _ (by lia)) (hU _ (by lia)) hlt);refine wpS_bind (wpS_lift (wpAny_rule ⟨rfl,?_⟩));refine wpS_bind (wpS_mono (wpS_forRange
    (I:=fun x c st'=>∃neq,c=(none,x,neq)/\Stp lo (lo+nrem) st st'/\pendingOf st'=pendingOf st/\NonInc blt (arrOf st') lo x/\neq+1<=x/\∀i,lo+x-(neq+1)<=i->i<lo+x->Eqv blt (gt (arrOf st') i) (gt (arrOf st') (lo+x-1)))
    (Q:=fun c st'=>∃m neq,c=(none,m,neq)/\1+1<=m/\m<=nrem/\Stp lo (lo+nrem) st st'/\pendingOf st'=pendingOf st/\NonInc blt (arrOf st') lo m/\neq+1<=m/\∀i,lo+m-(neq+1)<=i->i<lo+m->Eqv blt (gt (arrOf st') i) (gt (arrOf st') (lo+m-1))) ?dstep ?dfin ?dinit) ?dpost)
   case dinit=>exact ⟨0,rfl,stp2,pd2,ni2,by lia,fun i i1 i2=>by rw [show i=lo+(1+1)-1 by lia];exact Eqv.R6 O (aZ hU stp2.pm _ (by rw [stp2.sz];lia))⟩
   case dfin=>
    rintro c st' ⟨neq,rfl,q1,q2,q3,q4,q5⟩;rw [show max (1+1) nrem=nrem by lia] at q3 q4 q5 ⊢;exact ⟨nrem,neq,rfl,by lia,Nat.le_refl _,q1,q2,q3,q4,q5⟩
   case dstep=>
    rintro x c st' x1 x2 ⟨neq,rfl,q1,q2,q3,q4,q5⟩;dsimp only;have hUx:=aZ hU q1.pm;have hzx:lo+nrem<=(arrOf st').size:=by rw [q1.sz];lia
    refine wpS_bind (wpS_ltAt hL (q1.kd.trans hk) hUx (by lia) (by lia) ?_);dsimp only;cases e:blt (gt (arrOf st') (lo+x)) (gt (arrOf st') (lo+x-1)) with
    | true=>
     simp only [if_true];have ni':NonInc blt (arrOf st') lo (x+1):=nT O hUx (by lia) (by lia) q3 (O.R5 (hUx _ (by lia)) (hUx _ (by lia)) e);by_cases hq:neq > 0
     ·rw [if_pos hq];refine wpS_bind (wpS_reverse (wpS_pure ⟨0,rfl,q1.mir (by lia) (by lia) (by lia),q2,?_,by lia,fun i i1 i2=>?_⟩))
      ·exact wJ O hUx (aZ hUx (mirror_perm _ _ _ _)) (by lia) (by rw [mirror_size];lia) ni' (uE O hUx (by lia) (by lia) q5)
      ·rw [show i=lo+(x+1)-1 by lia];exact Eqv.R6 O (aZ hUx (mirror_perm _ _ _ _) _ (by rw [mirror_size];lia))
     ·rw [if_neg hq];exact wpS_pure ⟨0,rfl,q1,q2,ni',by lia,fun i i1 i2=>by rw [show i=lo+(x+1)-1 by lia];exact Eqv.R6 O (hUx _ (by lia))⟩
    | false=>
     simp only [Bool.false_eq_true,if_false];refine wpS_bind (wpS_ltAt hL (q1.kd.trans hk) hUx (by lia) (by lia) ?_);dsimp only;cases e2:blt (gt (arrOf st') (lo+x-1)) (gt (arrOf st') (lo+x)) with
     | true=>
      simp only [if_true];exact wpS_pure ⟨x,neq,rfl,x1,by lia,q1,q2,q3,q4,q5⟩
     | false=>
      simp only [Bool.false_eq_true,if_false];refine wpS_pure ⟨neq+1,rfl,q1,q2,nT O hUx (by lia) (by lia) q3 e2,by lia,fun i i1 i2=>?_⟩;rw [show lo+(x+1)-1=lo+x by lia];by_cases c:i=lo+x
      ·rw [c];exact Eqv.R6 O (hUx _ (by lia))
      ·exact (q5 i (by lia) (by lia)).trans O (hUx _ (by lia)) (hUx _ (by lia)) (hUx _ (by lia)) ⟨e2,e⟩
   case dpost=>
    rintro c st3 ⟨m,neq,rfl,m1,m2,q1,q2,q3,q4,q5⟩;dsimp only;have hU3:=aZ hU q1.pm;have hz3:lo+nrem<=(arrOf st3).size:=by rw [q1.sz];lia
    by_cases hq:neq > 0
    ·rw [if_pos hq];refine wpS_bind (wpS_reverse ?_);have stp4:=q1.mir (i:=lo+m-(neq+1)) (j:=lo+m) (by lia) (by lia) (by lia);have ni4:NonInc blt (mirror (arrOf st3) (lo+m-(neq+1)) (lo+m) ((lo+m-(lo+m-(neq+1))) / 2)) lo m:=
      wJ O hU3 (aZ hU3 (mirror_perm _ _ _ _)) (by lia) (by rw [mirror_size];lia) q3 (uE O hU3 (by lia) (by lia) q5)
     refine wpS_bind (wpS_reverse ?_);have stpA:Stp lo (lo+nrem) st (setArr (mrA st3 lo m neq) (mirror (arrOf (mrA st3 lo m neq)) lo (lo+m) ((lo+m-lo) / 2))):=stp4.mir (Nat.le_refl _) (by lia) (by rw [stp4.sz];lia);have pdA:pendingOf (setArr (mrA st3 lo m neq) (mirror (arrOf (mrA st3 lo m neq)) lo (lo+m) ((lo+m-lo) / 2)))=pendingOf st:=q2;have hsA:Srt blt (arrOf (setArr (mrA st3 lo m neq) (mirror (arrOf (mrA st3 lo m neq)) lo (lo+m) ((lo+m-lo) / 2)))) lo (lo+m):=uC (by rw [stp4.sz];lia) ni4;refine wpS_bind (wpS_mono (wpS_forRange
      (I:=fun x c st'=>st'=(setArr (mrA st3 lo m neq) (mirror (arrOf (mrA st3 lo m neq)) lo (lo+m) ((lo+m-lo) / 2)))/\c=(none,x)/\Srt blt (arrOf (setArr (mrA st3 lo m neq) (mirror (arrOf (mrA st3 lo m neq)) lo (lo+m) ((lo+m-lo) / 2)))) lo (lo+x))
      (Q:=fun c st'=>st'=(setArr (mrA st3 lo m neq) (mirror (arrOf (mrA st3 lo m neq)) lo (lo+m) ((lo+m-lo) / 2)))/\∃mm,c=(none,mm)/\m<=mm/\mm<=nrem/\Srt blt (arrOf (setArr (mrA st3 lo m neq) (mirror (arrOf (mrA st3 lo m neq)) lo (lo+m) ((lo+m-lo) / 2)))) lo (lo+mm)) ?stepA ?finA ?initA) ?postA)
     case initA=>exact ⟨rfl,rfl,hsA⟩
     case finA=>
      rintro c st' ⟨rfl,rfl,q⟩;rw [show max m nrem=nrem by lia] at q ⊢;exact ⟨rfl,nrem,rfl,by lia,Nat.le_refl _,q⟩
     case postA=>
      rintro c st' ⟨rfl,mm,rfl,mm1,mm2,q⟩;exact wpS_pure (h mm _ stpA pdA (by lia) mm2 q)
     case stepA=>
      rintro x c st' x1 x2 ⟨rfl,rfl,q⟩;dsimp only;refine wpS_bind (wpS_ltAt hL (stpA.kd.trans hk) (aZ hU stpA.pm) (by rw [stpA.sz];lia) (by rw [stpA.sz];lia) ?_);dsimp only;cases e:blt (gt (arrOf (setArr (mrA st3 lo m neq) (mirror (arrOf (mrA st3 lo m neq)) lo (lo+m) ((lo+m-lo) / 2)))) (lo+x)) (gt (arrOf (setArr (mrA st3 lo m neq) (mirror (arrOf (mrA st3 lo m neq)) lo (lo+m) ((lo+m-lo) / 2)))) (lo+x-1)) with
      | true=>
       simp only [if_true];exact wpS_pure ⟨rfl,x,rfl,x1,by lia,q⟩
      | false=>
       simp only [Bool.false_eq_true,if_false];exact wpS_pure ⟨rfl,rfl,mK O (aZ hU stpA.pm) (by rw [stpA.sz];lia) (by lia) q e⟩
    ·rw [if_neg hq];refine wpS_bind (wpS_reverse ?_);have stpB:Stp lo (lo+nrem) st (mrB st3 lo m):=q1.mir (Nat.le_refl _) (by lia) (by rw [q1.sz];lia);have pdB:pendingOf (mrB st3 lo m)=pendingOf st:=q2;have hsB:Srt blt (arrOf (mrB st3 lo m)) lo (lo+m):=uC (by rw [q1.sz];lia) q3;refine wpS_bind (wpS_mono (wpS_forRange
      (I:=fun x c st'=>st'=(mrB st3 lo m)/\c=(none,x)/\Srt blt (arrOf (mrB st3 lo m)) lo (lo+x))
      (Q:=fun c st'=>st'=(mrB st3 lo m)/\∃mm,c=(none,mm)/\m<=mm/\mm<=nrem/\Srt blt (arrOf (mrB st3 lo m)) lo (lo+mm)) ?stepB ?finB ?initB) ?postB)
     case initB=>exact ⟨rfl,rfl,hsB⟩
     case finB=>
      rintro c st' ⟨rfl,rfl,q⟩;rw [show max m nrem=nrem by lia] at q ⊢;exact ⟨rfl,nrem,rfl,by lia,Nat.le_refl _,q⟩
     case postB=>
      rintro c st' ⟨rfl,mm,rfl,mm1,mm2,q⟩;exact wpS_pure (h mm _ stpB pdB (by lia) mm2 q)
     case stepB=>
      rintro x c st' x1 x2 ⟨rfl,rfl,q⟩;dsimp only;refine wpS_bind (wpS_ltAt hL (stpB.kd.trans hk) (aZ hU stpB.pm) (by rw [stpB.sz];lia) (by rw [stpB.sz];lia) ?_);dsimp only;cases e:blt (gt (arrOf (mrB st3 lo m)) (lo+x)) (gt (arrOf (mrB st3 lo m)) (lo+x-1)) with
      | true=>
       simp only [if_true];exact wpS_pure ⟨rfl,x,rfl,x1,by lia,q⟩
      | false=>
       simp only [Bool.false_eq_true,if_false];exact wpS_pure ⟨rfl,rfl,mK O (aZ hU stpB.pm) (by rw [stpB.sz];lia) (by lia) q e⟩
end
end TS
end
section
namespace TS
open PySem PyProof.Rows
section
variable {blt:Keyed->Keyed->Bool} {U:Keyed->Prop}
theorem pZ {a:Array Keyed} {src d:Nat} (hs:src<a.size) (hd:d<=src) (k:Nat) :
  gt (bubble a src d) k=if k=src-d then gt a src else if src-d<k/\k<=src then gt a (k-1) else gt a k:=by
 rw [aD9,getElem?_bubble hs d hd]
 repeat' split
 all_goals rw [aD9]
end
section
variable {prog:Program} {w:World} {A:Around} {E:Value->Shared->Prop} {s:Shared} {kd:SortKind} {U:Keyed->Prop} {blt:Keyed->Keyed->Bool}
theorem wpS_binarySort (O:Ord U blt) (hL:HW prog w A E s kd U blt) {lo n ok:Nat} {st:SortSt} {Q:Bool->SortSt->Prop} (hk:kindOf st=kd) (hU:mJ U (arrOf st)) (hn:lo+n<=(arrOf st).size) (hok:ok<=n)
  (hs:Srt blt (arrOf st) lo (lo+ok))
  (h:∀st',Stp lo (lo+n) st st'->pendingOf st'=pendingOf st->Srt blt (arrOf st') lo (lo+n)->Q true st'):wpS (model prog w) A E s (binarySort' lo n ok) Q st:=by
 rw [binarySort'_eq];have stp0:Stp lo (lo+n) st st:=⟨rfl,rfl,Array.Perm.refl _,fun _ _=>rfl⟩
 refine wpS_bind (wpS_mono (wpS_forRange (I:=fun k c st'=>c=(none,())/\Stp lo (lo+n) st st'/\pendingOf st'=pendingOf st/\Srt blt (arrOf st') lo (lo+min k n))
  (Q:=fun c st'=>c=(none,())/\Stp lo (lo+n) st st'/\pendingOf st'=pendingOf st/\Srt blt (arrOf st') lo (lo+n)) ?step ?fin ?init) ?post)
 case post=>
  rintro c st' ⟨rfl,q1,q2,q3⟩;exact wpS_pure (h st' q1 q2 q3)
 case init=>
  refine ⟨rfl,stp0,rfl,fun i j a1 a2 a3=>?_⟩;by_cases h1:ok=0
  ·rw [show i=j by lia];exact O.irr _ (hU _ (by lia))
  ·exact hs i j a1 a2 (by lia)
 case fin=>
  rintro c st' ⟨hc,q1,q2,q3⟩;rw [show min (max (max ok 1) n) n=n by lia] at q3;exact ⟨hc,q1,q2,q3⟩
 case step=>
  rintro k c st' k1 k2 ⟨rfl,q1,q2,q3⟩;rw [show min k n=k by lia] at q3;have hU':=aZ hU q1.pm;have hz:lo+n<=(arrOf st').size:=by rw [q1.sz];exact hn
  refine wpS_bind (wpS_mono (wpS_forRange (I:=fun x c st''=>st''=st'/\∃l r,c=(none,l,r)/\l<=r/\r<=k/\r-l<=k-x/\
    (∀i,lo<=i->i<lo+l->blt (gt (arrOf st') (lo+k)) (gt (arrOf st') i)=false)/\(∀i,lo+r<=i->i<lo+k->blt (gt (arrOf st') (lo+k)) (gt (arrOf st') i)=true))
   (Q:=fun c st''=>st''=st'/\∃l r,c=(none,l,r)/\l<=k/\
    (∀i,lo<=i->i<lo+l->blt (gt (arrOf st') (lo+k)) (gt (arrOf st') i)=false)/\(∀i,lo+l<=i->i<lo+k->blt (gt (arrOf st') (lo+k)) (gt (arrOf st') i)=true)) ?istep ?ifin ?iinit) ?ipost)
  case iinit=>exact ⟨rfl,0,k,rfl,by lia,by lia,by lia,fun i i1 i2=>by lia,fun i i1 i2=>by lia⟩
  case ifin=>
   rintro c st'' ⟨rfl,l,r,rfl,b1,b2,b3,b4,b5⟩;obtain rfl:l=r:=by lia
   exact ⟨rfl,l,l,rfl,b2,b4,b5⟩
  case istep=>
   rintro x c st'' _ hx ⟨rfl,l,r,rfl,b1,b2,b3,b4,b5⟩;dsimp only;by_cases hge:l >= r
   ·rw [if_pos hge];obtain rfl:l=r:=by lia
    exact wpS_pure ⟨rfl,l,l,rfl,b2,b4,b5⟩
   ·rw [if_neg hge];refine wpS_bind (wpS_ltAt hL (q1.kd.trans hk) hU' (by lia) (by lia) ?_);dsimp only;cases e:blt (gt (arrOf st'') (lo+k)) (gt (arrOf st'') (lo+(l+r) / 2)) with
    | true=>
     simp only [if_true];refine wpS_pure ⟨rfl,l,(l+r) / 2,rfl,by lia,by lia,by lia,b4,fun i i1 i2=>?_⟩;rcases O.ntr _ (gt (arrOf st'') i) _ (hU' _ (by lia)) (hU' i (by lia)) (hU' _ (by lia)) e with p|p
     ·exact p
     ·rw [q3 _ i (by lia) i1 (by lia)] at p;cases p
    | false=>
     simp only [Bool.false_eq_true,if_false];refine wpS_pure ⟨rfl,(l+r) / 2+1,r,rfl,by lia,by lia,by lia,fun i i1 i2=>?_,b5⟩;exact O.le_trans (hU' _ (by lia)) (hU' (lo+(l+r) / 2) (by lia)) (hU' _ (by lia)) (q3 i (lo+(l+r) / 2) i1 (by lia) (by lia)) e
  case ipost=>
   rintro c st'' ⟨rfl,l,r,rfl,b1,b4,b5⟩;show wpS _ _ _ _ (moveDown' (lo+k) (lo+l) >>= fun _=>pure (ForInStep.yield (none,()))) _ _;rw [moveDown'_eq];refine wpS_bind (wpS_modify (wpS_pure ⟨rfl,⟨q1.kd,q1.fl,(bubble_perm _ _ _).trans q1.pm,fun j hj=>?_⟩,q2,?_⟩))
   ·show gt (bubble (arrOf st'') (lo+k) (lo+k-(lo+l))) j=_;rw [pZ (by lia) (by lia),if_neg (by lia),if_neg (by lia)];exact q1.out j hj
   ·rw [show min (k+1) n=k+1 by lia];intro i j a1 a2 a3;show blt (gt (bubble (arrOf st'') (lo+k) (lo+k-(lo+l))) j) (gt (bubble (arrOf st'') (lo+k) (lo+k-(lo+l))) i)=false;rw [pZ (by lia) (by lia),pZ (by lia) (by lia),show lo+k-(lo+k-(lo+l))=lo+l by lia]
    repeat' split
    all_goals first
     | (exfalso;lia)
     | exact O.irr _ (hU' _ (by lia))
     | exact b4 _ (by lia) (by lia)
     | exact O.R5 (hU' _ (by lia)) (hU' _ (by lia)) (b5 _ (by lia) (by lia))
     | exact q3 _ _ (by lia) (by lia) (by lia)
end
section
variable {blt:Keyed->Keyed->Bool} {U:Keyed->Prop}
noncomputable def Runs (blt:Keyed->Keyed->Bool) (a:Array Keyed):List (Nat×Nat×Nat)->Nat->Nat->Prop
 | [],b,e=>b=e
 | (s,n,_)::r,b,e=>s=b/\0<n/\Srt blt a b (b+n)/\Runs blt a r (b+n) e
theorem Runs.le {a:Array Keyed}:∀{l:List (Nat×Nat×Nat)} {b e:Nat},Runs blt a l b e->b+l.length<=e
 | [],b,e,h=>by have:b=e:=h;simp;lia
 | (s,n,p)::r,b,e,h=>by
  obtain ⟨_,h1,_,h2⟩:=h;have:=Runs.le h2;rw [List.length_cons];lia
theorem Runs.app {a:Array Keyed}:∀{l r:List (Nat×Nat×Nat)} {b e:Nat},Runs blt a (l++r) b e↔∃m,Runs blt a l b m/\Runs blt a r m e
 | [],r,b,e=>⟨fun h=>⟨b,rfl,h⟩,fun ⟨m,h1,h2⟩=>by have:b=m:=h1;subst this;exact h2⟩
 | (s,n,p)::l,r,b,e=>by
  constructor
  ·rintro ⟨h1,h2,h3,h4⟩;obtain ⟨m,h5,h6⟩:=Runs.app.mp h4;exact ⟨m,⟨h1,h2,h3,h5⟩,h6⟩
  ·rintro ⟨m,⟨h1,h2,h3,h5⟩,h6⟩;exact ⟨h1,h2,h3,Runs.app.mpr ⟨m,h5,h6⟩⟩
theorem Runs.out {a a':Array Keyed}:∀{l:List (Nat×Nat×Nat)} {b e:Nat},Runs blt a l b e->(∀j,b<=j->j<e->gt a' j=gt a j)->Runs blt a' l b e
 | [],b,e,h,_=>h
 | (s,n,p)::l,b,e,⟨h1,h2,h3,h4⟩,q=>by
  have:=h4.le;exact ⟨h1,h2,h3.out fun j j1 j2=>q j j1 (by lia),Runs.out h4 fun j j1 j2=>q j (by lia) j2⟩
theorem Runs.two {a : Array Keyed} {l1 l2 : List (Nat × Nat × Nat)} {sa na p sb nb q b e : Nat} (h : Runs blt a (l1 ++ (sa,na,p) :: (sb,nb,q) :: l2) b e) :
  b<=sa/\sb=sa+na/\0<na/\0<nb/\sb+nb<=e/\Srt blt a sa (sa+na)/\Srt blt a sb (sb+nb):=by
 obtain ⟨m,h1,h2,h3,h4,h5,h6,h7,h8⟩:=Runs.app.mp h;subst h2 h5;have e1:=h1.le;have e2:=h8.le;exact ⟨by lia,rfl,h3,h6,by lia,h4,h7⟩
theorem Runs.merge {a a':Array Keyed} {l1 l2:List (Nat×Nat×Nat)} {sa na p sb nb q b e:Nat} (h:Runs blt a (l1++(sa,na,p)::(sb,nb,q)::l2) b e)
  (ho:∀j,j<sa\/sb+nb<=j->gt a' j=gt a j) (hs:Srt blt a' sa (sb+nb)):Runs blt a' (l1++(sa,na+nb,p)::l2) b e:=by
 obtain ⟨m,h1,h2,h3,h4,h5,h6,h7,h8⟩:=Runs.app.mp h;subst h2 h5;have e1:=h1.le;have e2:=h8.le;refine Runs.app.mpr ⟨sa,h1.out fun j _ j2=>ho j (by lia),rfl,by lia,?_,?_⟩
 ·rw [<-Nat.add_assoc];exact hs
 ·rw [<-Nat.add_assoc];exact h8.out fun j j1 _=>ho j (by lia)
theorem ers {p:Array (Nat×Nat×Nat)} {i:Nat} {x y v:Nat×Nat×Nat} {l1 l2:List (Nat×Nat×Nat)} (h:p.toList=l1++x::y::l2) (hi:l1.length=i) :
  ((p.setIfInBounds i v).eraseIdxIfInBounds (i+1)).toList=l1++v::l2:=by
 have hz:p.size=l1.length+(l2.length+2):=by
  have:=congrArg List.length h;simpa using this
 have:i+1<(p.setIfInBounds i v).size:=by rw [Array.size_setIfInBounds];lia
 rw [Array.eraseIdxIfInBounds,dif_pos this,Array.toList_eraseIdx,Array.toList_setIfInBounds,h,List.set_append_right _ _ (by lia),show i-l1.length=0 by lia,List.set_cons_zero,
  List.eraseIdx_append_of_length_le (by lia),show i+1-l1.length=1 by lia]
 rfl
theorem aBn {p:Array (Nat×Nat×Nat)} {i:Nat} (h:i+1<p.size):∃x y l1 l2,p.toList=l1++x::y::l2/\l1.length=i/\p[i]?=some x/\p[i+1]?=some y:=by
 refine ⟨p[i],p[i+1],p.toList.take i,p.toList.drop (i+2),?_,?_,by simp,by simp⟩
 ·conv=>lhs;rw [<-List.take_append_drop i p.toList]
  rw [List.drop_eq_getElem_cons (by simp;lia),List.drop_eq_getElem_cons (i:=i+1) (by simp;lia)];rfl
 ·simp;lia
end
end TS
end
section
namespace TS
open PySem PyProof.Rows
section
variable {prog:Program} {w:World} {A:Around} {E:Value->Shared->Prop} {s:Shared} {kd:SortKind} {U:Keyed->Prop} {blt:Keyed->Keyed->Bool}
structure Bs (U:Keyed->Prop) (kd:SortKind) (a₀:Array Keyed) (st:SortSt):Prop where
 kd:kindOf st=kd
 fl:failedOf st=none
 pm:(arrOf st).Perm a₀
theorem Bs.stp {a₀:Array Keyed} {st st':SortSt} {lo hi:Nat} (b:Bs U kd a₀ st) (h:Stp lo hi st st'):Bs U kd a₀ st':=⟨h.kd.trans b.kd,h.fl.trans b.fl,h.pm.trans b.pm⟩
theorem uF {a:Array Keyed} (pw:Nat):∀(i:Nat) {l:List (Nat×Nat×Nat)} {b e:Nat},Runs blt a l b e->Runs blt a (l.modify i fun x=>(x.1,x.2.1,pw)) b e
 | _,[],_,_,h=>by
  rw [List.modify_nil];exact h
 | 0,(s,n,p)::l,b,e,h=>h
 | i+1,(s,n,p)::l,b,e,⟨h1,h2,h3,h4⟩=>⟨h1,h2,h3,uF pw i h4⟩
theorem p6 (O:Ord U blt) (hL:HW prog w A E s kd U blt) {a₀:Array Keyed} (hU:mJ U a₀) {st:SortSt} {e i:Nat} {Q:Bool->SortSt->Prop} (B:Bs U kd a₀ st) (he:e<=a₀.size) (R:Runs blt (arrOf st) (pendingOf st).toList 0 e)
  (hi:i+1<(pendingOf st).size)
  (h:∀st',Bs U kd a₀ st'->Runs blt (arrOf st') (pendingOf st').toList 0 e->(pendingOf st').size+1=(pendingOf st).size->(∀j,e<=j->gt (arrOf st') j=gt (arrOf st) j)->Q true st'):wpS (model prog w) A E s (mergeAt' i) Q st:=by
 obtain ⟨⟨sa,na,p⟩,⟨sb,nb,q⟩,l1,l2,e1,e2,e3,e4⟩:=aBn hi;rw [e1] at R;obtain ⟨r1,r2,r3,r4,r5,r6,r7⟩:=R.two;have hz:(arrOf st).size=a₀.size:=B.pm.size_eq;refine zB O hL B.kd (aZ hU B.pm) B.fl e3 e4 r2 (by lia) r3 r4 r6 r7 fun st' S Z P=>?_
 have P':(pendingOf st').toList=l1++(sa,na+nb,p)::l2:=by rw [P];exact ers e1 e2
 refine h st' (B.stp S) ?_ ?_ fun j hj=>S.out j (by lia)
 ·rw [P'];exact R.merge S.out Z
 ·have h1:=congrArg List.length P';have h2:=congrArg List.length e1;simp at h1 h2;lia
theorem wpS_sortRuns (O:Ord U blt) (hL:HW prog w A E s kd U blt) {a₀:Array Keyed} (hU:mJ U a₀) {st:SortSt} {Q:Unit->SortSt->Prop} (B:Bs U kd a₀ st) (hp:pendingOf st=#[]) (hz:0<a₀.size)
  (h:∀st',Bs U kd a₀ st'->Srt blt (arrOf st') 0 a₀.size->Q () st'):wpS (model prog w) A E s sortRuns' Q st:=by
 have sz:∀{st':SortSt},Bs U kd a₀ st'->(arrOf st').size=a₀.size:=fun b=>b.pm.size_eq
 rw [sortRuns'_eq];refine wpS_bind (wpS_get ?_);dsimp only;rw [sz B];generalize minRun' a₀.size a₀.size 0=minrun;refine wpS_bind (wpS_mono (wpS_forRange
  (I:=fun x c st'=>∃lo,c=(none,lo)/\lo<=a₀.size/\(x<=lo\/lo=a₀.size)/\Bs U kd a₀ st'/\Runs blt (arrOf st') (pendingOf st').toList 0 lo)
  (Q:=fun c st'=>c=(none,a₀.size)/\Bs U kd a₀ st'/\Runs blt (arrOf st') (pendingOf st').toList 0 a₀.size) ?step ?fin ?init) ?post)
 case init=>exact ⟨0,rfl,Nat.zero_le _,.inl (Nat.le_refl _),B,by rw [hp];rfl⟩
 case fin=>
  rintro c st' ⟨lo,rfl,a1,a2,b,r⟩;obtain rfl:lo=a₀.size:=by lia
  exact ⟨rfl,b,r⟩
 case step=>
  rintro x c st1 _ hx ⟨lo,rfl,a1,a2,b,r⟩;dsimp only;by_cases hge:lo >= a₀.size
  ·rw [if_pos hge];obtain rfl:lo=a₀.size:=by lia
   exact wpS_pure ⟨rfl,b,r⟩
  rw [if_neg hge];refine wpS_bind (wpS_countRun O hL b.kd (aZ hU b.pm) (by rw [sz b];lia) (by lia) fun m st2 S2 P2 m1 m2 Z2=>?_);dsimp only;have b2:=b.stp S2;have r2:Runs blt (arrOf st2) (pendingOf st2).toList 0 lo:=by rw [P2];exact r.out fun j _ j2=>S2.out j (.inl j2)
  have rest:∀(n:Nat),1<=n->lo+n<=a₀.size->∀(st4:SortSt),Bs U kd a₀ st4->∀l,(pendingOf st4).toList=l++[(lo,n,0)]->Runs blt (arrOf st4) l 0 lo->Srt blt (arrOf st4) lo (lo+n)->
    ∃lo',((none,lo+n):Option Unit×Nat)=(none,lo')/\lo'<=a₀.size/\(x+1<=lo'\/lo'=a₀.size)/\Bs U kd a₀ st4/\Runs blt (arrOf st4) (pendingOf st4).toList 0 lo':=by
   intro n n1 n2 st4 b4 l e r4 z4;refine ⟨lo+n,rfl,n2,?_,b4,?_⟩
   ·rcases a2 with a2|a2
    ·exact .inl (by lia)
    ·lia
   ·rw [e];exact Runs.app.mpr ⟨lo,r4,rfl,by lia,z4,rfl⟩
  by_cases hm:m<minrun
  ·rw [if_pos hm];refine wpS_bind (wpS_lift (wpAny_rule ⟨rfl,?_⟩));refine wpS_bind (wpS_binarySort O hL b2.kd (aZ hU b2.pm) (by rw [sz b2];lia) (by lia) Z2 fun st3 S3 P3 Z3=>?_);simp only [Bool.not_true,Bool.false_eq_true,if_false];have b3:=b2.stp S3;have r3:Runs blt (arrOf st3) (pendingOf st3).toList 0 lo:=by rw [P3];exact r2.out fun j _ j2=>S3.out j (.inl j2)
   have hmm:1<=min (a₀.size-lo) minrun/\lo+min (a₀.size-lo) minrun<=a₀.size:=⟨by lia,by lia⟩
   refine wpS_bind (wpS_get ?_);cases hbk:(pendingOf st3).back? with
   | none=>
    dsimp only;refine wpS_bind (wpS_modify (wpS_pure (rest (min (a₀.size-lo) minrun) (by lia) (by lia) _ ⟨b3.kd,b3.fl,b3.pm⟩ _ ?_ r3 Z3)));show ((pendingOf st3).push (lo,(min (a₀.size-lo) minrun),0)).toList=_;rw [Array.toList_push]
   | some t=>
    obtain ⟨s1,n1',pw1⟩:=t;dsimp only;refine wpS_bind (wpS_mono (wpS_forRange
     (I:=fun y c st'=>c=(none,())/\Bs U kd a₀ st'/\Runs blt (arrOf st') (pendingOf st').toList 0 lo/\∀j,lo<=j->gt (arrOf st') j=gt (arrOf st3) j)
     (Q:=fun c st'=>c=(none,())/\Bs U kd a₀ st'/\Runs blt (arrOf st') (pendingOf st').toList 0 lo/\∀j,lo<=j->gt (arrOf st') j=gt (arrOf st3) j) ?mstep (fun c st' q=>q) ⟨rfl,b3,r3,fun _ _=>rfl⟩) ?mpost)
    case mpost=>
     rintro c st4 ⟨rfl,b4,r4,o4⟩;dsimp only;refine wpS_bind (wpS_modify (wpS_bind (wpS_modify (wpS_pure (rest (min (a₀.size-lo) minrun) (by lia) (by lia) _ ⟨b4.kd,b4.fl,b4.pm⟩ _ ?_ (uF (power' a₀.size (2*s1+n1') (2*s1+n1'+n1'+min (a₀.size-lo) minrun) a₀.size) ((pendingOf st4).size-1) r4) (Z3.out fun j j1 j2=>o4 j j1))))));show (((pendingOf st4).modify _ _).push (lo,(min (a₀.size-lo) minrun),0)).toList=_;rw [Array.toList_push,Array.toList_modify]
    case mstep=>
     rintro y c st4 _ hy ⟨rfl,b4,r4,o4⟩;refine wpS_bind (wpS_get ?_);by_cases hp:(pendingOf st4).size > 1
     ·rw [if_pos hp];obtain ⟨t,ht⟩:∃t,(pendingOf st4)[(pendingOf st4).size-2]?=some t:=⟨_,getElem?_pos _ _ (by lia)⟩
      rw [ht];obtain ⟨t1,t2,older⟩:=t;dsimp only;split
      ·exact wpS_pure ⟨rfl,b4,r4,o4⟩
      ·refine wpS_bind (p6 O hL hU b4 (by lia) r4 (by lia) fun st5 b5 r5 _ o5=>?_);simp only [Bool.not_true,Bool.false_eq_true,if_false];exact wpS_pure ⟨rfl,b5,r5,fun j hj=>(o5 j hj).trans (o4 j hj)⟩
     ·rw [if_neg hp];exact wpS_pure ⟨rfl,b4,r4,o4⟩
  ·rw [if_neg hm];refine wpS_bind (wpS_get ?_);cases hbk:(pendingOf st2).back? with
   | none=>
    dsimp only;refine wpS_bind (wpS_modify (wpS_pure (rest m (by lia) (by lia) _ ⟨b2.kd,b2.fl,b2.pm⟩ _ ?_ r2 Z2)));show ((pendingOf st2).push (lo,m,0)).toList=_;rw [Array.toList_push]
   | some t=>
    obtain ⟨s1,n1',pw1⟩:=t;dsimp only;refine wpS_bind (wpS_mono (wpS_forRange
     (I:=fun y c st'=>c=(none,())/\Bs U kd a₀ st'/\Runs blt (arrOf st') (pendingOf st').toList 0 lo/\∀j,lo<=j->gt (arrOf st') j=gt (arrOf st2) j)
     (Q:=fun c st'=>c=(none,())/\Bs U kd a₀ st'/\Runs blt (arrOf st') (pendingOf st').toList 0 lo/\∀j,lo<=j->gt (arrOf st') j=gt (arrOf st2) j) ?mstep (fun c st' q=>q) ⟨rfl,b2,r2,fun _ _=>rfl⟩) ?mpost)
    case mpost=>
     rintro c st4 ⟨rfl,b4,r4,o4⟩;dsimp only;refine wpS_bind (wpS_modify (wpS_bind (wpS_modify (wpS_pure (rest m (by lia) (by lia) _ ⟨b4.kd,b4.fl,b4.pm⟩ _ ?_ (uF (power' a₀.size (2*s1+n1') (2*s1+n1'+n1'+m) a₀.size) ((pendingOf st4).size-1) r4) (Z2.out fun j j1 j2=>o4 j j1))))));show (((pendingOf st4).modify _ _).push (lo,m,0)).toList=_;rw [Array.toList_push,Array.toList_modify]
    case mstep=>
     rintro y c st4 _ hy ⟨rfl,b4,r4,o4⟩;refine wpS_bind (wpS_get ?_);by_cases hp:(pendingOf st4).size > 1
     ·rw [if_pos hp];obtain ⟨t,ht⟩:∃t,(pendingOf st4)[(pendingOf st4).size-2]?=some t:=⟨_,getElem?_pos _ _ (by lia)⟩
      rw [ht];obtain ⟨t1,t2,older⟩:=t;dsimp only;split
      ·exact wpS_pure ⟨rfl,b4,r4,o4⟩
      ·refine wpS_bind (p6 O hL hU b4 (by lia) r4 (by lia) fun st5 b5 r5 _ o5=>?_);simp only [Bool.not_true,Bool.false_eq_true,if_false];exact wpS_pure ⟨rfl,b5,r5,fun j hj=>(o5 j hj).trans (o4 j hj)⟩
     ·rw [if_neg hp];exact wpS_pure ⟨rfl,b4,r4,o4⟩
 case post=>
  rintro c st1 ⟨rfl,b,r⟩;dsimp only;have hle:=r.le;rw [Array.length_toList] at hle;refine wpS_bind (wpS_mono (wpS_forRange
   (I:=fun x c st'=>c=(none,())/\Bs U kd a₀ st'/\Runs blt (arrOf st') (pendingOf st').toList 0 a₀.size/\((pendingOf st').size+x<=a₀.size\/(pendingOf st').size<=1))
   (Q:=fun c st'=>c=(none,())/\Bs U kd a₀ st'/\Runs blt (arrOf st') (pendingOf st').toList 0 a₀.size/\(pendingOf st').size<=1) ?fstep ?ffin ?finit) ?fpost)
  case finit=>exact ⟨rfl,b,r,.inl (by lia)⟩
  case ffin=>
   rintro c st' ⟨rfl,q1,q2,q3⟩;exact ⟨rfl,q1,q2,by lia⟩
  case fpost=>
   rintro c st' ⟨rfl,q1,q2,q3⟩;refine wpS_pure (h st' q1 ?_)
   match hl:(pendingOf st').toList with
   | []=>rw [hl] at q2;have:0=a₀.size:=q2;lia
   | [(s0,n0,p0)]=>
    rw [hl] at q2;obtain ⟨_,_,z,e⟩:=q2;have e:0+n0=a₀.size:=e;rw [e] at z;exact z
   | _::_::_=>
    have:=congrArg List.length hl;rw [Array.length_toList] at this;simp at this;lia
  case fstep=>
   rintro x c st4 _ hx ⟨rfl,b4,r4,o4⟩;refine wpS_bind (wpS_get ?_);by_cases hp1:(pendingOf st4).size<=1
   ·rw [if_pos hp1];exact wpS_pure ⟨rfl,b4,r4,hp1⟩
   rw [if_neg hp1];refine wpS_bind (p6 O hL hU b4 (Nat.le_refl _) r4 ?hi fun st5 b5 r5 e5 _=>?_)
   case hi=>
    repeat' split
    all_goals lia
   simp only [Bool.not_true,Bool.false_eq_true,if_false];exact wpS_pure ⟨rfl,b5,r5,by lia⟩
end
end TS
end
section
namespace Mi
open PySem
inductive D where
 | uD|non|bl (b:Bool)|int (i:Int)|str (x:Str)
 | tup (xs:List D)|lst (xs:List D)|dct (kvs:List (D×D))|scr (xs:List D)|fdc (kvs:List (D×D))|cel (a:Nat) (xs:List D)
 deriving Inhabited
mutual
noncomputable def D.pure:D->Bool
 | .tup xs=>D.aW xs
 | .lst _=>false
 | .dct _=>false
 | .uD=>false
 | .scr xs=>D.aW xs
 | .fdc _=>false
 | .cel _ _=>false
 | _=>true
noncomputable def D.aW:List D->Bool
 | []=>true
 | x::xs=>x.pure&&D.aW xs
end
mutual
noncomputable def eqD:D->D->Bool
 | .non,.non=>true
 | .bl a,.bl b=>a==b
 | .int a,.int b=>a==b
 | .bl a,.int b=>(if a then (1:Int) else 0)==b
 | .int a,.bl b=>a==(if b then (1:Int) else 0)
 | .str a,.str b=>a==b
 | .tup xs,.tup ys=>pA xs ys
 | .lst xs,.lst ys=>pA xs ys
 | _,_=>false
noncomputable def pA:List D->List D->Bool
 | [],[]=>true
 | x::xs,y::ys=>eqD x y&&pA xs ys
 | _,_=>false
end
mutual
noncomputable def D.bK:Nat->D->Bool
 | n+1,.tup xs=>D.eE n xs
 | n+1,.lst xs=>D.eE n xs
 | 0,.tup _=>false
 | 0,.lst _=>false
 | _,.dct _=>false
 | _,.uD=>false
 | _,.scr _=>false
 | _,.fdc _=>false
 | _,.cel _ _=>false
 | _,_=>true
noncomputable def D.eE:Nat->List D->Bool
 | _,[]=>true
 | n,x::xs=>D.bK n x&&D.eE n xs
end
inductive e_ where|lt|le|gt|ge
 deriving DecidableEq
noncomputable def e_.int:e_->Int->Int->Bool
 | .lt,a,b=>decide (a<b)|.le,a,b=>decide (a<=b)|.gt,a,b=>decide (b<a)|.ge,a,b=>decide (b<=a)
noncomputable def e_.nat:e_->Nat->Nat->Bool
 | .lt,a,b=>decide (a<b)|.le,a,b=>decide (a<=b)|.gt,a,b=>decide (b<a)|.ge,a,b=>decide (b<=a)
def MN (a b:Str):Bool:=decide (a.cps.toList<b.cps.toList)
noncomputable def e_.str:e_->Str->Str->Bool
 | .lt,a,b=>MN a b|.le,a,b=>!MN b a|.gt,a,b=>MN b a|.ge,a,b=>!MN a b
mutual
noncomputable def cM (o:e_):D->D->Option Bool
 | .int a,.int b=>some (o.int a b)
 | .str a,.str b=>some (o.str a b)
 | .tup xs,.tup ys=>cG o xs ys
 | _,_=>none
noncomputable def cG (o:e_):List D->List D->Option Bool
 | [],ys=>some (o.nat 0 ys.length)
 | x::xs,[]=>some (o.nat (x::xs).length 0)
 | x::xs,y::ys=>if eqD x y then cG o xs ys else cM o x y
end
inductive Res (α:Type) where
 | ok (a:α)|err (c:Str) (as:List D)|bad
noncomputable def Res.bind {α β:Type}:Res α->(α->Res β)->Res β
 | .ok a,f=>f a
 | .err c as,_=>.err c as
 | .bad,_=>.bad
noncomputable instance:Monad Res where
 pure:=.ok
 bind:=Res.bind
@[simp] theorem Res.aM {α β:Type} (a:α) (f:α->Res β):((Res.ok a) >>= f)=f a:=rfl
@[simp] theorem Res.aDa {α β:Type} (c:Str) (as:List D) (f:α->Res β):((Res.err c as:Res α) >>= f)=.err c as:=rfl
@[simp] theorem Res.aDb {α β:Type} (f:α->Res β):((Res.bad:Res α) >>= f)=.bad:=rfl
@[simp] theorem Res.pure_eq {α:Type} (a:α):(pure a:Res α)=.ok a:=rfl
theorem Res.YW {α β:Type} {m:Res α} {f:α->Res β} {b:β} (h:(m >>= f)=.ok b):∃a,m=.ok a/\f a=.ok b:=by
 cases m with
 | ok a=>exact ⟨a,rfl,h⟩
 | err c as=>cases h
 | bad=>cases h
noncomputable def Res.ofOpt {α:Type}:Option α->Res α
 | some a=>.ok a
 | none=>.bad
@[simp] theorem Res.aAm {α:Type} (a:α):Res.ofOpt (some a)=.ok a:=rfl
theorem Res.iG {α:Type} {o:Option α} {a:α} (h:Res.ofOpt o=.ok a):o=some a:=by
 cases o with
 | none=>cases h
 | some b=>cases h;rfl
def lim:Nat:=1000000
inductive Bop where|add|sub|mul|fdiv|mod|pow
 deriving DecidableEq
inductive Cop where|eq|ne|ord (o:e_)|isin|notin|isN|notN
 deriving DecidableEq
def p7 (i:Int):Bool:=decide (-(2 ^ 64)<i)&&decide (i<2 ^ 64)
noncomputable def aU:Bop->D->D->Res D
 | .add,.int a,.int b=>.ok (.int (a+b))
 | .sub,.int a,.int b=>.ok (.int (a-b))
 | .mul,.int a,.int b=>if p7 a||p7 b then .ok (.int (a*b)) else .bad
 | .fdiv,.int a,.int b=>if decide (0<b)&&decide (b<1073741824) then .ok (.int (a / b)) else .bad
 | .mod,.int a,.int b=>if decide (0<b) then .ok (.int (a % b)) else .bad
 | .pow,.int a,.int b=>if decide (0<=b)&&decide (b<=1000000)&&decide (a.natAbs<2 ^ 64) then .ok (.int (a ^ b.toNat)) else .bad
 | .add,.str a,.str b=>if decide (a.length+b.length<=lim) then .ok (.str (a++b)) else .bad
 | .add,.lst a,.lst b=>if decide (a.length+b.length<=lim)&&D.aW a&&D.aW b then .ok (.lst (a++b)) else .bad
 | _,_,_=>.bad
noncomputable def aE6:D->Res Bool
 | .non=>.ok false
 | .bl b=>.ok b
 | .int i=>.ok (i != 0)
 | .str x=>if decide (x.length<=lim) then .ok ((x.length:Int) != 0) else .bad
 | .tup xs=>.ok (!xs.isEmpty)
 | .lst xs=>.ok (!xs.isEmpty)
 | .dct kvs=>.ok (!kvs.isEmpty)
 | .uD=>.bad
 | .fdc _=>.bad
 | .cel _ _=>.bad
 | .scr xs=>.ok (!xs.isEmpty)
noncomputable def cT:D->Bool
 | .int _=>true
 | .str _=>true
 | _=>false
noncomputable def keyOk:D->Bool
 | .int _=>true
 | .str _=>true
 | .tup xs=>xs.all cT
 | _=>false
noncomputable def isTup:D->Bool
 | .tup _=>true
 | _=>false
noncomputable def bU:List (D×D)->D->Option D
 | [],_=>none
 | (k,v)::r,q=>if eqD k q then some v else bU r q
noncomputable def putD:List (D×D)->D->D->List (D×D)
 | [],q,w=>[(q,w)]
 | (k,v)::r,q,w=>if eqD k q then (k,w)::r else (k,v)::putD r q w
noncomputable def rW (kvs:List (D×D)) (k:D):Bool:=keyOk k&&kvs.all (fun p=>isTup p.1==isTup k)
def aP:Nat:=12
noncomputable def bR:Cop->D->D->Res D
 | .eq,a,b=>if a.bK aP&&b.bK aP then .ok (.bl (eqD a b)) else .bad
 | .ne,a,b=>if a.bK aP&&b.bK aP then .ok (.bl (!eqD a b)) else .bad
 | .ord o,a,b=>if a.bK aP&&b.bK aP then (match cM o a b with|some k=>.ok (.bl k)|none=>.bad) else .bad
 | .isin,a,.tup ys=>if a.bK aP&&D.eE aP ys then .ok (.bl (ys.any fun y=>eqD y a)) else .bad
 | .isin,a,.lst ys=>if a.bK aP&&D.eE aP ys then .ok (.bl (ys.any fun y=>eqD y a)) else .bad
 | .isin,a,.dct kvs=>if rW kvs a then .ok (.bl (bU kvs a).isSome) else .bad
 | .notin,a,.tup ys=>if a.bK aP&&D.eE aP ys then .ok (.bl (!(ys.any fun y=>eqD y a))) else .bad
 | .notin,a,.lst ys=>if a.bK aP&&D.eE aP ys then .ok (.bl (!(ys.any fun y=>eqD y a))) else .bad
 | .notin,a,.dct kvs=>if rW kvs a then .ok (.bl (!(bU kvs a).isSome)) else .bad
 | .isN,.scr _,.non=>.bad
 | .notN,.scr _,.non=>.bad
 | .isN,.fdc _,.non=>.bad
 | .notN,.fdc _,.non=>.bad
 | .isN,.cel _ _,.non=>.bad
 | .notN,.cel _ _,.non=>.bad
 | .isN,.non,.non=>.ok (.bl true)
 | .isN,a,.non=>.ok (.bl false)
 | .notN,.non,.non=>.ok (.bl false)
 | .notN,a,.non=>.ok (.bl true)
 | _,_,_=>.bad
noncomputable def ixD (n:Nat) (i:Int):Option Nat:=if 0<=i then (if i<n then some i.toNat else none) else if -(n:Int)<=i then some (i+n).toNat else none
noncomputable def getD (d i:D):Res D:=
 match d,i with
 | .tup xs,.int i=>Res.ofOpt ((ixD xs.length i).bind fun j=>xs[j]?)
 | .lst xs,.int i=>Res.ofOpt ((ixD xs.length i).bind fun j=>xs[j]?)
 | .scr xs,.int i=>Res.ofOpt ((ixD xs.length i).bind fun j=>xs[j]?)
 | .cel _ xs,.int i=>Res.ofOpt ((ixD xs.length i).bind fun j=>xs[j]?)
 | .str x,.int i=>if decide (x.length<=lim) then Res.ofOpt (((ixD x.cps.toList.length i).bind fun j=>x.cps.toList[j]?).map fun c=>D.str ⟨#[c]⟩) else .bad
 | .dct kvs,k=>if keyOk k then Res.ofOpt (bU kvs k) else .bad
 | .fdc kvs,k=>if keyOk k then Res.ofOpt (bU kvs k) else .bad
 | _,_=>.bad
noncomputable def CK (n d:Nat):Option Int->Nat
 | none=>d
 | some v=>if v<0 then (max (v+(n:Int)) 0).toNat else (min v (n:Int)).toNat
noncomputable def cutD {α:Type} (xs:List α) (lo hi:Option Int):List α:=(xs.drop (CK xs.length 0 lo)).take (CK xs.length xs.length hi-CK xs.length 0 lo)
inductive Ty where|int|str|bool|list|tuple|dict
 deriving DecidableEq
noncomputable def MP:Ty->D->Res Bool
 | _,.uD=>.bad
 | _,.scr _=>.bad
 | _,.fdc _=>.bad
 | _,.cel _ _=>.bad
 | .int,.int _=>.ok true
 | .int,.bl _=>.ok true
 | .bool,.bl _=>.ok true
 | .str,.str _=>.ok true
 | .tuple,.tup _=>.ok true
 | .list,.lst _=>.ok true
 | .dict,.dct _=>.ok true
 | _,_=>.ok false
mutual
noncomputable def D.plain:D->Bool
 | .int _=>true
 | .str _=>true
 | .tup xs=>D.fO xs
 | _=>false
noncomputable def D.fO:List D->Bool
 | []=>true
 | x::xs=>x.plain&&D.fO xs
end
mutual
noncomputable def enc:D->List Int
 | .int i=>[0,i]
 | .str x=>1::(x.cps.toList.map (fun (c:Nat)=>(c:Int)+1)++[0])
 | .tup xs=>2::yH xs
 | _=>[]
noncomputable def yH:List D->List Int
 | []=>[0]
 | x::xs=>1::(enc x++yH xs)
end
noncomputable def dJ:D->Nat
 | .int _=>1
 | .str _=>2
 | .tup (.int _::_)=>3
 | .tup (.str _::_)=>4
 | .tup (.tup _::_)=>5
 | _=>0
noncomputable def bL (xs:List D):Bool:=xs.all fun a=>a.plain&&a.bK aP&&dJ a != 0&&dJ a==dJ (xs.headD .non)&&xs.all fun b=>(cM .lt a b).isSome
def leE (a b:D):Bool:=!decide (enc b<enc a)
def jB (xs:List D):List D:=xs.mergeSort leE
def p8 (i:Int):Bool:=decide (-(2 ^ 62)<=i)&&decide (i<2 ^ 62)
noncomputable def asB:D->Res Bool
 | .bl b=>.ok b
 | _=>.bad
noncomputable def asI:D->Res Int
 | .int i=>.ok i
 | _=>.bad
inductive Fl where
 | nx (ρ:List D)|rt (d:D)|bk (ρ:List D)|ct (ρ:List D)
noncomputable def zE:Fl->Res D
 | .rt d=>.ok d
 | .nx _=>.ok .non
 | _=>.bad
abbrev FE:=List D->Res D
abbrev FT:=List D->Res Bool
abbrev FA:=List D->Res (List D)
def lX (i:Nat):FE:=fun ρ=>match ρ.getD i .uD with|.uD=>.bad|d=>.ok d
def bC (d:D):FE:=fun _=>.ok d
abbrev cP:FE := lX 0
abbrev fJ:FE := lX 3
abbrev rY:FE := lX 8
abbrev nM:FE := lX 4
abbrev rQ:FE := lX 7
abbrev kJ:FE := lX 2
abbrev v5:FE := lX 6
abbrev rR:FE := lX 9
abbrev jH:FE := lX 1
abbrev gB:FE := lX 5
abbrev gY:FE := lX 10
abbrev gZ:FE := lX 13
abbrev jJ:FE := lX 11
abbrev zF:FE := lX 12
abbrev fP:FE := bC (.int 1)
abbrev uG:FE := bC (.int 8)
abbrev aDc:FE := bC (.int 3)
abbrev MT:FE := bC (.int 192)
abbrev yI:FE := bC (.int 2)
abbrev wK:FE := bC (.int 384)
abbrev M3:FE := bC (.int 26)
abbrev aAn:FE := bC (.int 7)
abbrev dF:FE := bC (.int 0)
abbrev aDd:FE := bC (.int 5)
abbrev aAo:FE := bC (.int 4)
abbrev YX:FE := bC (.int 40)
abbrev M4:FE := bC (.int 10)
abbrev aE7:FE := bC (.int 9)
abbrev aBo:FE := bC (.int 6)
def b2 (f:D->D->Res D) (a b:FE):FE:=fun ρ=>do let x <- a ρ;let y <- b ρ;f x y
def b1 (f:D->Res D) (a:FE):FE:=fun ρ=>do let x <- a ρ;f x
def bTB (a:FE):FT:=fun ρ=>do let x <- a ρ;asB x
def R7 (a:FT):FT:=fun ρ=>do let x <- a ρ;pure (!x)
def zG (a b:FT):FT:=fun ρ=>do let x <- a ρ;if x then b ρ else pure false
def bOr (a b:FT):FT:=fun ρ=>do let x <- a ρ;if x then pure true else b ρ
def aBp (a:FE):FE:=fun ρ=>do let x <- a ρ;let k <- asB x;pure (.bl (!k))
noncomputable def aBq (a b:FE):FE:=fun ρ=>do let x <- a ρ;let k <- asB x;if k then b ρ else pure (.bl false)
noncomputable def bCh (f g:D->D->Res D) (a b c:FE):FE:=fun ρ=>do let x <- a ρ;let y <- b ρ;let z <- f x y;let k <- asB z;if k then (do let u <- c ρ;g y u) else pure (.bl false)
def bG:FA:=fun _=>.ok []
def aF (a:FE) (b:FA):FA:=fun ρ=>do let x <- a ρ;let xs <- b ρ;pure (x::xs)
noncomputable def oJ (a:FA):FE:=fun ρ=>do let xs <- a ρ;if decide (xs.length<=lim) then pure (.tup xs) else .bad
noncomputable def WX (a:FA):FE:=fun ρ=>do let xs <- a ρ;if decide (xs.length<=lim) then pure (.lst xs) else .bad
def aX (f:List D->Res D) (a:FA):FE:=fun ρ=>do let xs <- a ρ;f xs
noncomputable def p_ (a:FE):List D->Res (Option Int):=fun ρ=>do let x <- a ρ;let i <- asI x;pure (some i)
def YZ:List D->Res (Option Int):=fun _=>.ok none
noncomputable def aF5:D->Res Bool
 | .dct _=>.bad
 | .scr _=>.bad
 | .fdc _=>.bad
 | d=>aE6 d
def bTr (a:FE):FT:=fun ρ=>do let x <- a ρ;aF5 x
noncomputable def aBr:D->Res D
 | .int i=>.ok (.int (-i))
 | _=>.bad
noncomputable def R8:D->Option Int->Option Int->Res D
 | .lst xs,lo,hi=>if D.aW xs then .ok (.lst (cutD xs lo hi)) else .bad
 | .scr xs,lo,hi=>if D.aW xs then .ok (.lst (cutD xs lo hi)) else .bad
 | .tup xs,lo,hi=>if !D.aW xs||decide (CK xs.length 0 lo=0/\CK xs.length xs.length hi=xs.length) then .bad else .ok (.tup (cutD xs lo hi))
 | _,_,_=>.bad
noncomputable def R9 (a:FE) (lo hi:List D->Res (Option Int)):FE:=fun ρ=>do let x <- a ρ;let l <- lo ρ;let h <- hi ρ;R8 x l h
noncomputable def lM (o:e_):List D->Res D
 | []=>.bad
 | x::xs=>if ((x::xs).all fun a=>a.bK aP&&(x::xs).all fun b=>(cM o a b).isSome) then .ok (xs.foldl (fun m y=>if (cM o y m).getD false then y else m) x) else .bad
noncomputable def btD (o:e_) (ds:List D) (i j:Nat):Bool:=(cM o (ds.getD i .non) (ds.getD j .non)).getD false
noncomputable def dC (o:e_):List D->Res D
 | [.lst xs]=>lM o xs
 | [.tup xs]=>lM o xs
 | [a,b]=>lM o [a,b]
 | _=>.bad
noncomputable def fK:List D->Res D
 | [.tup xs]=>.ok (.int xs.length)
 | [.lst xs]=>.ok (.int xs.length)
 | [.scr xs]=>.ok (.int xs.length)
 | [.cel _ xs]=>.ok (.int xs.length)
 | [.str x]=>if decide (x.length<=lim) then .ok (.int x.length) else .bad
 | _=>.bad
def iH (kvs:List (D×D)):List D:=kvs.map (·.1)
noncomputable def T4:List D->Res D
 | [.tup xs]=>if D.aW xs then .ok (.lst xs) else .bad
 | [.lst xs]=>if D.aW xs then .ok (.lst xs) else .bad
 | [.dct kvs]=>if kvs.all (fun p=>!isTup p.1) then .ok (.lst (iH kvs)) else .bad
 | _=>.bad
noncomputable def CN:List D->Res D
 | [.tup xs]=>.ok (.tup xs)
 | [.lst xs]=>.ok (.tup xs)
 | _=>.bad
noncomputable def gK:List D->Res D
 | [.lst xs]=>if bL xs then .ok (.lst (jB xs)) else .bad
 | _=>.bad
noncomputable def Ty.nm:Ty->String
 | .int => "int" | .str => "str" | .bool => "bool" | .list => "list" | .tuple => "tuple" | .dict => "dict"
def M5 (t:Ty) (d:D):Res D:=do let k <- MP t d;pure (.bl k)
noncomputable def fL (n:Nat) (f:List D->Res D):List D->Res D:=fun ds=>if decide (ds.length=n) then f ds else .bad
abbrev FI:=List D->Res (List D×Bool)
noncomputable def mL:D->Res (List D)
 | .lst xs=>.ok xs
 | .tup xs=>.ok xs
 | _=>.bad
noncomputable def dM (a:FE) (fr:Bool):FI:=fun ρ=>do let x <- a ρ;let xs <- mL x;pure (xs,fr||x.pure)
noncomputable def lN:List D->Res (List D×Bool)
 | [.int n]=>if p8 n then .ok ((List.range n.toNat).map fun (k:Nat)=>D.int (0+(k:Int)),true) else .bad
 | _=>.bad
noncomputable def mO (f:FA) (g:List D->Res (List D×Bool)):FI:=fun ρ=>do let xs <- f ρ;g xs
def CP (n:Nat) (ρ:List D):List D:=(List.range n).map fun i=>ρ.getD i .uD
def CQ:D->Res (List D):=fun d=>.ok [d]
noncomputable def aBs (m:Nat):D->Res (List D)
 | .tup ds=>if decide (ds.length=m) then .ok ds else .bad
 | _=>.bad
noncomputable def H_ (n:Nat) (t:D->Res (List D)) (c:FT) (f:FE) (k:Bool) (ρ:List D) (acc:List D) (x:D):Res (List D):=do
 let bs <- t x
 let ok <- c (CP n ρ++bs)
 if ok then (do
  let y <- f (CP n ρ++bs)
  if k||y.pure then pure (acc++[y]) else .bad)
 else pure acc
noncomputable def wL (g:List D->D->Res (List D)):List D->List D->Res (List D)
 | acc,[]=>.ok acc
 | acc,x::xs=>do let a <- g acc x;wL g a xs
noncomputable def gM (n:Nat) (it:FI) (t:D->Res (List D)) (c:FT) (f:FE) (k:Bool):FE:=fun ρ=>do
 let xs <- it ρ
 if decide (xs.1.length<=lim) then (do
  let ys <- wL (H_ n t c f k ρ) [] xs.1
  pure (.lst ys)) else .bad
def uH:FT:=fun _=>.ok true
abbrev FS:=List D->Res Fl
noncomputable def inner:D->Bool
 | .lst xs=>D.aW xs
 | .dct kvs=>D.aW (kvs.map (·.2))
 | .cel _ xs=>D.aW xs
 | _=>false
def mQ:FS:=fun ρ=>.ok (.nx ρ)
noncomputable def bO (f g:FS):FS:=fun ρ=>do
 let r <- f ρ
 match r with
 | .nx ρ'=>g ρ'
 | r=>.ok r
noncomputable def b8 (o:Bool) (i:Nat) (f:FE) (k:Bool):FS:=fun ρ=>do
 let d <- f ρ
 if (if o then k&&inner d else k||d.pure) then .ok (.nx (ρ.set i d)) else .bad
noncomputable def sAl (i j:Nat):FS:=fun ρ=>do
 let d <- lX j ρ
 .ok (.nx (ρ.set i d))
noncomputable def sIf (c:FT) (f g:FS):FS:=fun ρ=>do
 let k <- c ρ
 if k then f ρ else g ρ
noncomputable def pB (f:FE) (k:Bool):FS:=fun ρ=>do
 let d <- f ρ
 if k||d.pure then .ok (.rt d) else .bad
noncomputable def wM (i:Nat):FS:=fun ρ=>do
 let d <- lX i ρ
 .ok (.rt d)
def rtX:Nat:=1000000
noncomputable def uI (i:Nat) (f:FE):FS:=fun ρ=>do
 let d <- f ρ
 match ρ.getD i .uD with
 | .lst xs=>if decide (xs.length<lim)&&d.pure then .ok (.nx (ρ.set i (.lst (xs++[d])))) else .bad
 | _=>.bad
noncomputable def aBt (i:Nat) (f:FE) (g:FE):FS:=fun ρ=>do
 let j <- f ρ
 let d <- g ρ
 match ρ.getD i .uD,j with
 | .lst xs,.int j=>if decide (xs.length<lim)&&d.pure&&decide (0<=j)&&decide (j<=xs.length) then .ok (.nx (ρ.set i (.lst (xs.take j.toNat++d::xs.drop j.toNat)))) else .bad
 | _,_=>.bad
noncomputable def T5 (i:Nat) (f:FE) (g:FE):FS:=fun ρ=>do
 let d <- g ρ
 let k <- f ρ
 match ρ.getD i .uD with
 | .dct kvs=>if decide (kvs.length<lim)&&rW kvs k&&d.pure then .ok (.nx (ρ.set i (.dct (putD kvs k d)))) else .bad
 | _=>.bad
def tg1 (i:Nat):D->List D->Res (List D):=fun d ρ=>.ok (ρ.set i d)
noncomputable def M6:List Nat->List D->List D->List D
 | i::is,d::ds,ρ=>M6 is ds (ρ.set i d)
 | _,_,ρ=>ρ
noncomputable def tgN (is:List Nat):D->List D->Res (List D)
 | .tup ds,ρ=>if decide (ds.length=is.length) then .ok (M6 is ds ρ) else .bad
 | _,_=>.bad
noncomputable def lY (t:D->List D->Res (List D)) (body:FS):List D->List D->Res Fl
 | [],ρ=>.ok (.nx ρ)
 | x::xs,ρ=>do
  let ρ1 <- t x ρ
  let r <- body ρ1
  match r with
  | .nx ρ'=>lY t body xs ρ'
  | .ct ρ'=>lY t body xs ρ'
  | .bk ρ'=>.ok (.nx ρ')
  | .rt d=>.ok (.rt d)
noncomputable def wN (it:FI) (t:D->List D->Res (List D)) (body:FS):FS:=fun ρ=>do
 let xs <- it ρ
 if xs.2 then lY t body xs.1 ρ else .bad
noncomputable def IK (i:Nat) (t:D->List D->Res (List D)) (body:FS):FS:=fun ρ=>do
 let d <- lX i ρ
 let xs <- mL d
 lY t body xs ρ
noncomputable def fnS (n m:Nat) (f:FS):List D->Res D:=fun ds=>do
 let r <- f (ds++List.replicate (m-n) .uD)
 zE r
end Mi
end
section
namespace Mi
open PySem
mutual
theorem WY:∀(a b:D),a.plain=true->b.plain=true->eqD a b=true->a=b
 | .int i,.int j,_,_,h=>by rw [eqD] at h;rw [eq_of_beq h]
 | .str i,.str j,_,_,h=>by rw [eqD] at h;rw [eq_of_beq h]
 | .tup xs,.tup ys,h1,h2,h=>by
  rw [D.plain] at h1 h2;rw [eqD] at h;rw [M7 xs ys h1 h2 h]
 | .int _,.str _,_,_,h=>by simp [eqD] at h
 | .int _,.tup _,_,_,h=>by simp [eqD] at h
 | .str _,.int _,_,_,h=>by simp [eqD] at h
 | .str _,.tup _,_,_,h=>by simp [eqD] at h
 | .tup _,.int _,_,_,h=>by simp [eqD] at h
 | .tup _,.str _,_,_,h=>by simp [eqD] at h
 | .uD,_,h,_,_=>by simp [D.plain] at h
 | .scr _,_,h,_,_=>by simp [D.plain] at h
 | .non,_,h,_,_=>by simp [D.plain] at h
 | .bl _,_,h,_,_=>by simp [D.plain] at h
 | .lst _,_,h,_,_=>by simp [D.plain] at h
 | .dct _,_,h,_,_=>by simp [D.plain] at h
 | .int _,.uD,_,h,_=>by simp [D.plain] at h
 | .int _,.scr _,_,h,_=>by simp [D.plain] at h
 | .int _,.non,_,h,_=>by simp [D.plain] at h
 | .int _,.bl _,_,h,_=>by simp [D.plain] at h
 | .int _,.lst _,_,h,_=>by simp [D.plain] at h
 | .int _,.dct _,_,h,_=>by simp [D.plain] at h
 | .str _,.uD,_,h,_=>by simp [D.plain] at h
 | .str _,.scr _,_,h,_=>by simp [D.plain] at h
 | .str _,.non,_,h,_=>by simp [D.plain] at h
 | .str _,.bl _,_,h,_=>by simp [D.plain] at h
 | .str _,.lst _,_,h,_=>by simp [D.plain] at h
 | .str _,.dct _,_,h,_=>by simp [D.plain] at h
 | .tup _,.uD,_,h,_=>by simp [D.plain] at h
 | .tup _,.scr _,_,h,_=>by simp [D.plain] at h
 | .tup _,.non,_,h,_=>by simp [D.plain] at h
 | .tup _,.bl _,_,h,_=>by simp [D.plain] at h
 | .tup _,.lst _,_,h,_=>by simp [D.plain] at h
 | .tup _,.dct _,_,h,_=>by simp [D.plain] at h
theorem M7:∀(a b:List D),D.fO a=true->D.fO b=true->pA a b=true->a=b
 | [],[],_,_,_=>rfl
 | x::xs,y::ys,h1,h2,h=>by
  rw [D.fO,Bool.and_eq_true] at h1 h2;rw [pA,Bool.and_eq_true] at h;rw [WY x y h1.1 h2.1 h.1,M7 xs ys h1.2 h2.2 h.2]
 | [],_::_,_,_,h=>by simp [pA] at h
 | _::_,[],_,_,h=>by simp [pA] at h
end
mutual
theorem CT:∀(a:D),a.plain=true->eqD a a=true
 | .int i,_=>by simp [eqD]
 | .str i,_=>by simp [eqD]
 | .tup xs,h=>by rw [D.plain] at h;rw [eqD];exact wO xs h
 | .uD,h=>by simp [D.plain] at h
 | .scr _,h=>by simp [D.plain] at h
 | .non,h=>by simp [D.plain] at h
 | .bl _,h=>by simp [D.plain] at h
 | .lst _,h=>by simp [D.plain] at h
 | .dct _,h=>by simp [D.plain] at h
theorem wO:∀(a:List D),D.fO a=true->pA a a=true
 | [],_=>rfl
 | x::xs,h=>by
  rw [D.fO,Bool.and_eq_true] at h;rw [pA,CT x h.1,wO xs h.2];rfl
end
theorem M8:∀(a b:List Nat) (r t:List Int),(a.map (fun (c:Nat)=>(c:Int)+1)++[0])++r=(b.map (fun (c:Nat)=>(c:Int)+1)++[0])++t->a=b/\r=t
 | [],[],r,t,h=>by simpa using h
 | [],c::b,r,t,h=>by
  simp only [List.map_nil,List.nil_append,List.cons_append,List.map_cons,List.cons.injEq] at h;lia
 | c::a,[],r,t,h=>by
  simp only [List.map_nil,List.nil_append,List.cons_append,List.map_cons,List.cons.injEq] at h;lia
 | c::a,d::b,r,t,h=>by
  simp only [List.cons_append,List.map_cons,List.cons.injEq] at h;obtain ⟨e1,e2⟩:=M8 a b r t h.2;exact ⟨by rw [e1,show c=d by lia],e2⟩
mutual
theorem uJ:∀(a b:D) (r t:List Int),a.plain=true->b.plain=true->enc a++r=enc b++t->a=b/\r=t
 | .int i,b,r,t,_,h2,h=>by
  cases b <;> simp only [enc,D.plain,Bool.false_eq_true,List.cons_append,List.cons.injEq,List.nil_append] at h h2 <;> try omega
  ·exact ⟨by rw [h.2.1],h.2.2⟩
 | .str x,b,r,t,_,h2,h=>by
  cases b with
  | str y=>
   simp only [enc,List.cons_append,List.cons.injEq,true_and] at h;obtain ⟨e1,e2⟩:=M8 _ _ _ _ h;refine ⟨?_,e2⟩;cases x;cases y;simp only [] at e1
   congr 2
   exact Array.toList_inj.mp e1
  | _=>simp [enc,D.plain] at h h2
 | .tup xs,b,r,t,h1,h2,h=>by
  cases b with
  | tup ys=>
   rw [D.plain] at h1 h2;simp only [enc,List.cons_append,List.cons.injEq,true_and] at h;obtain ⟨e1,e2⟩:=CV xs ys r t h1 h2 h;exact ⟨by rw [e1],e2⟩
  | _=>simp [enc,D.plain] at h h2
 | .uD,_,_,_,h,_,_=>by simp [D.plain] at h
 | .scr _,_,_,_,h,_,_=>by simp [D.plain] at h
 | .non,_,_,_,h,_,_=>by simp [D.plain] at h
 | .bl _,_,_,_,h,_,_=>by simp [D.plain] at h
 | .lst _,_,_,_,h,_,_=>by simp [D.plain] at h
 | .dct _,_,_,_,h,_,_=>by simp [D.plain] at h
theorem CV:∀(a b:List D) (r t:List Int),D.fO a=true->D.fO b=true->yH a++r=yH b++t->a=b/\r=t
 | [],[],r,t,_,_,h=>by simpa [yH] using h
 | [],_::_,r,t,_,_,h=>by simp [yH] at h
 | _::_,[],r,t,_,_,h=>by simp [yH] at h
 | x::xs,y::ys,r,t,h1,h2,h=>by
  rw [D.fO,Bool.and_eq_true] at h1 h2;simp only [yH,List.cons_append,List.cons.injEq,true_and,List.append_assoc] at h;obtain ⟨e1,e2⟩:=uJ x y _ _ h1.1 h2.1 h;obtain ⟨e3,e4⟩:=CV xs ys r t h1.2 h2.2 e2;exact ⟨by rw [e1,e3],e4⟩
end
theorem Y0 {a b:D} (h1:a.plain=true) (h2:b.plain=true) (h:enc a=enc b):a=b:=(uJ a b [] [] h1 h2 (by rw [h])).1
theorem zH (p:List Int) (r t:List Int):p++r<p++t↔r<t:=by
 induction p with
 | nil=>rfl
 | cons x p ih=>rw [List.cons_append,List.cons_append,List.cons_lt_cons_iff];simp [ih]
theorem W2:∀(u v r t:List Int),(∀z,u++z≠v)->(∀z,v++z≠u)->(u++r<v++t↔u<v)
 | [],v,_,_,h,_=>absurd rfl (h v)
 | u,[],_,_,_,h=>absurd rfl (h u)
 | x::u,y::v,r,t,h1,h2=>by
  rw [List.cons_append,List.cons_append,List.cons_lt_cons_iff,List.cons_lt_cons_iff];by_cases e:x=y
  ·subst e;have:=W2 u v r t (fun z hz=>h1 z (by rw [List.cons_append,hz])) (fun z hz=>h2 z (by rw [List.cons_append,hz]));simp [this]
  ·simp [e]
theorem M9:∀(a b:List Nat),(a.map (fun (c:Nat)=>(c:Int)+1)++[0]<b.map (fun (c:Nat)=>(c:Int)+1)++[0])↔a<b
 | [],[]=>by simp
 | [],c::b=>by
  simp only [List.map_nil,List.nil_append,List.map_cons,List.cons_append,List.cons_lt_cons_iff,List.nil_lt_cons,iff_true]
  left;lia
 | c::a,[]=>by
  simp only [List.map_nil,List.nil_append,List.map_cons,List.cons_append,List.cons_lt_cons_iff,List.not_lt_nil,iff_false,not_or,not_and];exact ⟨by lia,fun h=>by lia⟩
 | c::a,d::b=>by
  simp only [List.map_cons,List.cons_append,List.cons_lt_cons_iff,M9 a b];constructor
  ·rintro (h|⟨h,k⟩)
   ·left;lia
   ·right;exact ⟨by lia,k⟩
  ·rintro (h|⟨h,k⟩)
   ·left;lia
   ·right;exact ⟨by lia,k⟩
mutual
theorem M_:∀(a b:D) (k:Bool),a.plain=true->b.plain=true->cM .lt a b=some k->k=decide (enc a<enc b)
 | .int i,.int j,k,_,_,h=>by
  rw [cM] at h;rw [<-Option.some.inj h];simp [enc,e_.int,List.cons_lt_cons_iff]
 | .str x,.str y,k,_,_,h=>by
  rw [cM] at h;rw [<-Option.some.inj h];have:=M9 x.cps.toList y.cps.toList;simp only [enc,e_.str,MN,List.cons_lt_cons_iff,true_and];simp [this]
 | .tup xs,.tup ys,k,h1,h2,h=>by
  rw [D.plain] at h1 h2;rw [cM] at h;rw [CW xs ys k h1 h2 h];simp [enc,List.cons_lt_cons_iff]
 | .int _,.str _,_,_,_,h=>by simp [cM] at h
 | .int _,.tup _,_,_,_,h=>by simp [cM] at h
 | .int _,.uD,_,_,_,h=>by simp [cM] at h
 | .int _,.scr _,_,_,_,h=>by simp [cM] at h
 | .int _,.non,_,_,_,h=>by simp [cM] at h
 | .int _,.bl _,_,_,_,h=>by simp [cM] at h
 | .int _,.lst _,_,_,_,h=>by simp [cM] at h
 | .int _,.dct _,_,_,_,h=>by simp [cM] at h
 | .str _,.int _,_,_,_,h=>by simp [cM] at h
 | .str _,.tup _,_,_,_,h=>by simp [cM] at h
 | .str _,.uD,_,_,_,h=>by simp [cM] at h
 | .str _,.scr _,_,_,_,h=>by simp [cM] at h
 | .str _,.non,_,_,_,h=>by simp [cM] at h
 | .str _,.bl _,_,_,_,h=>by simp [cM] at h
 | .str _,.lst _,_,_,_,h=>by simp [cM] at h
 | .str _,.dct _,_,_,_,h=>by simp [cM] at h
 | .tup _,.int _,_,_,_,h=>by simp [cM] at h
 | .tup _,.str _,_,_,_,h=>by simp [cM] at h
 | .tup _,.uD,_,_,_,h=>by simp [cM] at h
 | .tup _,.scr _,_,_,_,h=>by simp [cM] at h
 | .tup _,.non,_,_,_,h=>by simp [cM] at h
 | .tup _,.bl _,_,_,_,h=>by simp [cM] at h
 | .tup _,.lst _,_,_,_,h=>by simp [cM] at h
 | .tup _,.dct _,_,_,_,h=>by simp [cM] at h
 | .uD,_,_,h,_,_=>by simp [D.plain] at h
 | .scr _,_,_,h,_,_=>by simp [D.plain] at h
 | .non,_,_,h,_,_=>by simp [D.plain] at h
 | .bl _,_,_,h,_,_=>by simp [D.plain] at h
 | .lst _,_,_,h,_,_=>by simp [D.plain] at h
 | .dct _,_,_,h,_,_=>by simp [D.plain] at h
theorem CW:∀(a b:List D) (k:Bool),D.fO a=true->D.fO b=true->cG .lt a b=some k->k=decide (yH a<yH b)
 | [],[],k,_,_,h=>by rw [cG] at h;rw [<-Option.some.inj h];simp [yH,e_.nat]
 | [],y::ys,k,_,_,h=>by rw [cG] at h;rw [<-Option.some.inj h];simp [yH,e_.nat,List.cons_lt_cons_iff]
 | x::xs,[],k,_,_,h=>by rw [cG] at h;rw [<-Option.some.inj h];simp [yH,e_.nat,List.cons_lt_cons_iff]
 | x::xs,y::ys,k,h1,h2,h=>by
  rw [D.fO,Bool.and_eq_true] at h1 h2;rw [cG] at h;simp only [yH,List.cons_lt_cons_iff,true_and,Int.lt_irrefl,false_or];cases e:eqD x y with
  | true=>
   rw [e,if_pos rfl] at h;have:=WY x y h1.1 h2.1 e;subst this;rw [CW xs ys k h1.2 h2.2 h];simp [zH]
  | false=>
   rw [e,if_neg (by simp)] at h;rw [M_ x y k h1.1 h2.1 h];have hne:x≠y:=fun z=>by subst z;rw [CT x h1.1] at e;cases e
   have:=W2 (enc x) (enc y) (yH xs) (yH ys) (fun z hz=>hne (uJ x y z [] h1.1 h2.1 (by simpa using hz)).1) (fun z hz=>hne (uJ y x z [] h2.1 h1.1 (by simpa using hz)).1.symm);simp [this]
end
theorem NB (a b c:D) (h1:leE a b=true) (h2:leE b c=true):leE a c=true:=by
 simp only [leE,Bool.not_eq_true',decide_eq_false_iff_not] at *;exact fun h=>by
  rcases (inferInstance:Std.Trichotomous (α:=List Int) (·<·)) with _
  exact h1 (List.lt_of_le_of_lt (List.not_lt.mp h2) h)
theorem NK (a b:D):(leE a b||leE b a)=true:=by
 simp only [leE,Bool.or_eq_true,Bool.not_eq_true',decide_eq_false_iff_not];by_cases h:enc b<enc a
 ·right;exact List.lt_asymm h
 ·left;exact h
theorem d8 (ds:List D):(jB ds).Perm ds:=List.mergeSort_perm ds leE
theorem oK (ds:List D):(jB ds).Pairwise fun a b=>leE a b=true:=List.pairwise_mergeSort (fun a b c=>NB a b c) (fun a b=>NK a b) ds
theorem NP {ds es:List D} (hp:∀d∈ds,d.plain=true) (h:ds.Perm es) (h1:ds.Pairwise fun a b=>leE a b=true) (h2:es.Pairwise fun a b=>leE a b=true):ds=es:=by
 refine List.Perm.eq_of_pairwise (le:=fun a b=>leE a b=true) (fun a b ha hb h1 h2=>?_) h1 h2 h;simp only [leE,Bool.not_eq_true',decide_eq_false_iff_not] at h1 h2;exact Y0 (hp a ha) (hp b (h.mem_iff.mpr hb)) (List.le_antisymm h1 h2)
end Mi
end
section
namespace Mi
open PySem L2
class KFrag where
 K:PySem.W.Frag
variable [KFrag]
noncomputable def Y4 (H:Hp) (a:Addr) (xs:List V):Prop:=(∃o,H a=some (.frz o (.lst xs)))\/
 ∃(o:Obj) (its:Array Value) (n:Nat),KFrag.K.lookup a=some o/\o.cls=.type "list"/\o.dict=none/\o.data=.seq its n/\its.size<=sizeLine/\Vals xs its.toList
theorem Y4.sq {H:Hp} {a:Addr} {xs:List V} {K:PySem.W.Frag} (h:Y4 H a xs) (hK:KFrag.K=K):SqL K H a xs:=by
 subst hK;rcases h with ⟨o,h⟩|h
 ·exact .inl (.inr ⟨o,h⟩)
 ·exact .inr h
noncomputable def kD:Key->D
 | .inl i=>.int i
 | .inr x=>.str x
noncomputable def nU:HO->Bool
 | .lst _=>true
 | .dK _=>true
 | .dT _=>true
 | _=>false
mutual
inductive Rep (P:Addr->Prop) (H:Hp):V->D->Prop
 | non:Rep P H .non .non
 | bl (b:Bool):Rep P H (.bl b) (.bl b)
 | int (i:Int):Rep P H (.int i) (.int i)
 | str (x:Str):Rep P H (.str x) (.str x)
 | tup {a:Addr} {xs:List V} {ds:List D}:H a=some (.tup xs)->bB P H xs ds->Rep P H (.ref a) (.tup ds)
 | lst {a:Addr} {xs:List V} {ds:List D}:H a=some (.lst xs)->P a->bB P H xs ds->Rep P H (.ref a) (.lst ds)
 | cel {a:Addr} {xs:List V} {ds:List D}:H a=some (.lst xs)->P a->bB P H xs ds->Rep P H (.ref a) (.cel a ds)
 | frz {a:Addr} {xs:List V} {ds:List D}:Y4 H a xs->bB P H xs ds->Rep P H (.ref a) (.scr ds)
 | dK {a:Addr} {kvs:List (Key×V)} {ds:List (D×D)}:H a=some (.dK kvs)->P a->kO P H kvs ds->(kvs.map (·.1)).Nodup->Rep P H (.ref a) (.dct ds)
 | dT {a:Addr} {kvs:List (List Key×V)} {ds:List (D×D)}:H a=some (.dT kvs)->P a->nO P H kvs ds->(kvs.map (·.1)).Nodup->Rep P H (.ref a) (.dct ds)
 | fdK {a:Addr} {o:Obj} {kvs:List (Key×V)} {ds:List (D×D)}:H a=some (.frz o (.dK kvs))->kO P H kvs ds->(kvs.map (·.1)).Nodup->Rep P H (.ref a) (.fdc ds)
 | fdT {a:Addr} {o:Obj} {kvs:List (List Key×V)} {ds:List (D×D)}:H a=some (.frz o (.dT kvs))->nO P H kvs ds->(kvs.map (·.1)).Nodup->Rep P H (.ref a) (.fdc ds)
inductive bB (P:Addr->Prop) (H:Hp):List V->List D->Prop
 | nil:bB P H [] []
 | cons {v:V} {d:D} {vs:List V} {ds:List D}:Rep P H v d->bB P H vs ds->bB P H (v::vs) (d::ds)
inductive kO (P:Addr->Prop) (H:Hp):List (Key×V)->List (D×D)->Prop
 | nil:kO P H [] []
 | cons {k:Key} {v:V} {d:D} {r:List (Key×V)} {ds:List (D×D)}:Rep P H v d->kO P H r ds->kO P H ((k,v)::r) ((kD k,d)::ds)
inductive nO (P:Addr->Prop) (H:Hp):List (List Key×V)->List (D×D)->Prop
 | nil:nO P H [] []
 | cons {k:List Key} {v:V} {d:D} {r:List (List Key×V)} {ds:List (D×D)}:Rep P H v d->nO P H r ds->nO P H ((k,v)::r) ((.tup (k.map kD),d)::ds)
end
noncomputable def T6 (P:Addr->Prop) (H H':Hp):Prop:=∀a o,H a=some o->(P a\/nU o=false)->H' a=some o
theorem T6.same {P:Addr->Prop} {H H':Hp} (h:bN H H'):T6 P H H':=fun a o e _=>h a o e
mutual
theorem Rep.keep {P P':Addr->Prop} {H H':Hp} (k:T6 P H H') (m:∀a,P a->P' a):∀{v:V} {d:D},Rep P H v d->Rep P' H' v d
 | _,_,.non=>.non
 | _,_,.bl b=>.bl b
 | _,_,.int i=>.int i
 | _,_,.str x=>.str x
 | _,_,.tup e r=>.tup (k _ _ e (.inr rfl)) (bB.keep k m r)
 | _,_,.lst e p r=>.lst (k _ _ e (.inl p)) (m _ p) (bB.keep k m r)
 | _,_,.cel e p r=>.cel (k _ _ e (.inl p)) (m _ p) (bB.keep k m r)
 | _,_,.frz e r=>.frz (e.imp (fun ⟨o,e⟩=>⟨o,k _ _ e (.inr rfl)⟩) id) (bB.keep k m r)
 | _,_,.dK e p r n=>.dK (k _ _ e (.inl p)) (m _ p) (kO.keep k m r) n
 | _,_,.dT e p r n=>.dT (k _ _ e (.inl p)) (m _ p) (nO.keep k m r) n
 | _,_,.fdK e r n=>.fdK (k _ _ e (.inr rfl)) (kO.keep k m r) n
 | _,_,.fdT e r n=>.fdT (k _ _ e (.inr rfl)) (nO.keep k m r) n
theorem bB.keep {P P':Addr->Prop} {H H':Hp} (k:T6 P H H') (m:∀a,P a->P' a):∀{v:List V} {d:List D},bB P H v d->bB P' H' v d
 | _,_,.nil=>.nil
 | _,_,.cons r t=>.cons (Rep.keep k m r) (bB.keep k m t)
theorem kO.keep {P P':Addr->Prop} {H H':Hp} (k:T6 P H H') (m:∀a,P a->P' a):∀{v:List (Key×V)} {d:List (D×D)},kO P H v d->kO P' H' v d
 | _,_,.nil=>.nil
 | _,_,.cons r t=>.cons (Rep.keep k m r) (kO.keep k m t)
theorem nO.keep {P P':Addr->Prop} {H H':Hp} (k:T6 P H H') (m:∀a,P a->P' a):∀{v:List (List Key×V)} {d:List (D×D)},nO P H v d->nO P' H' v d
 | _,_,.nil=>.nil
 | _,_,.cons r t=>.cons (Rep.keep k m r) (nO.keep k m t)
end
theorem Rep.mono {P P':Addr->Prop} {H:Hp} {v:V} {d:D} (r:Rep P H v d) (m:∀a,P a->P' a):Rep P' H v d:=r.keep (fun _ _ e _=>e) m
theorem bB.mono {P P':Addr->Prop} {H:Hp} {v:List V} {d:List D} (r:bB P H v d) (m:∀a,P a->P' a):bB P' H v d:=r.keep (fun _ _ e _=>e) m
theorem Rep.same {P:Addr->Prop} {H H':Hp} {v:V} {d:D} (r:Rep P H v d) (s:bN H H'):Rep P H' v d:=r.keep (.same s) fun _ h=>h
theorem bB.same {P:Addr->Prop} {H H':Hp} {v:List V} {d:List D} (r:bB P H v d) (s:bN H H'):bB P H' v d:=r.keep (.same s) fun _ h=>h
mutual
theorem Rep.bF {P P':Addr->Prop} {H:Hp}:∀{v:V} {d:D},Rep P H v d->d.pure=true->Rep P' H v d
 | _,_,.non,_=>.non
 | _,_,.bl b,_=>.bl b
 | _,_,.int i,_=>.int i
 | _,_,.str x,_=>.str x
 | _,_,.tup e r,h=>.tup e (bB.bF r (by rw [D.pure] at h;exact h))
 | _,_,.lst _ _ _,h=>by rw [D.pure] at h;cases h
 | _,_,.cel _ _ _,h=>by rw [D.pure] at h;cases h
 | _,_,.frz e r,h=>.frz e (bB.bF r (by rw [D.pure] at h;exact h))
 | _,_,.dK _ _ _ _,h=>by rw [D.pure] at h;cases h
 | _,_,.dT _ _ _ _,h=>by rw [D.pure] at h;cases h
 | _,_,.fdK _ _ _,h=>by rw [D.pure] at h;cases h
 | _,_,.fdT _ _ _,h=>by rw [D.pure] at h;cases h
theorem bB.bF {P P':Addr->Prop} {H:Hp}:∀{v:List V} {d:List D},bB P H v d->D.aW d=true->bB P' H v d
 | _,_,.nil,_=>.nil
 | _,_,.cons r t,h=>by
  rw [D.aW,Bool.and_eq_true] at h;exact .cons (Rep.bF r h.1) (bB.bF t h.2)
end
theorem bB.length {P:Addr->Prop} {H:Hp}:∀{v:List V} {d:List D},bB P H v d->v.length=d.length
 | _,_,.nil=>rfl
 | _,_,.cons _ t=>by rw [List.length_cons,List.length_cons,bB.length t]
theorem bB.get {P:Addr->Prop} {H:Hp}:∀{vs:List V} {ds:List D} {i:Nat} {d:D},bB P H vs ds->ds[i]?=some d->∃v,vs[i]?=some v/\Rep P H v d
 | _,_,_,_,.nil,e=>by simp at e
 | _,_,0,_,.cons r _,e=>by simp at e;subst e;exact ⟨_,rfl,r⟩
 | _,_,i+1,d,.cons _ t,e=>by
  obtain ⟨v,h1,h2⟩:=bB.get (i:=i) (d:=d) t (by simpa using e);exact ⟨v,by simpa using h1,h2⟩
theorem bB.append {P:Addr->Prop} {H:Hp}:∀{vs ws:List V} {ds es:List D},bB P H vs ds->bB P H ws es->bB P H (vs++ws) (ds++es)
 | _,_,_,_,.nil,s=>s
 | _,_,_,_,.cons r t,s=>.cons r (bB.append t s)
theorem bB.take {P:Addr->Prop} {H:Hp}:∀{vs:List V} {ds:List D} (n:Nat),bB P H vs ds->bB P H (vs.take n) (ds.take n)
 | _,_,0,_=>.nil
 | _,_,_+1,.nil=>.nil
 | _,_,n+1,.cons r t=>.cons r (bB.take n t)
theorem bB.drop {P:Addr->Prop} {H:Hp}:∀{vs:List V} {ds:List D} (n:Nat),bB P H vs ds->bB P H (vs.drop n) (ds.drop n)
 | _,_,0,r=>r
 | _,_,_+1,.nil=>.nil
 | _,_,n+1,.cons _ t=>bB.drop n t
theorem bB.snoc {P:Addr->Prop} {H:Hp} {vs:List V} {ds:List D} {v:V} {d:D} (t:bB P H vs ds) (r:Rep P H v d):bB P H (vs++[v]) (ds++[d]):=t.append (.cons r .nil)
theorem Rep.uD {P:Addr->Prop} {H:Hp} {v:V}:¬Rep P H v .uD:=fun h=>by cases h
abbrev All:Addr->Prop:=fun _=>True
abbrev New (H:Hp):Addr->Prop:=fun a=>H a=none
theorem Rep.all {P:Addr->Prop} {H:Hp} {v:V} {d:D} (r:Rep P H v d):Rep All H v d:=r.mono fun _ _=>trivial
theorem bB.all {P:Addr->Prop} {H:Hp} {v:List V} {d:List D} (r:bB P H v d):bB All H v d:=r.mono fun _ _=>trivial
theorem bN.new {H H':Hp} (s:bN H H'):∀a,New H' a->New H a:=fun a h=>s.free h
theorem bN.upd {H:Hp} {a:Addr} {o:HO} (h:H a=none):bN H (upd H a o):=fun b u e=>by rw [aR (bZ e h)];exact e
noncomputable def ER (H:Hp) (σ:St) (ρ:List D):Prop:=∀i,ρ.getD i .uD≠.uD->∃v,σ[i]?=some (some v)/\Rep All H v (ρ.getD i .uD)
theorem ER.same {H H':Hp} {σ:St} {ρ:List D} (e:ER H σ ρ) (s:bN H H'):ER H' σ ρ:=fun i h=>by
 obtain ⟨v,h1,h2⟩:=e i h;exact ⟨v,h1,h2.same s⟩
section
variable (cf:Nat->List D->Res D) (ff:Nat->Bool)
end
theorem PE.imp {X:Cx} {e:PySem.Expr} {t t':TE} (h:PE X e t) (i:∀σ H Q,t' σ H Q->t σ H Q):PE X e t':=fun pins s σ H Q I q=>h pins s σ H Q I (i σ H Q q)
theorem PT.imp {X:Cx} {e:PySem.Expr} {t t':TT} (h:PT X e t) (i:∀σ H Q,t' σ H Q->t σ H Q):PT X e t':=fun pins s σ H Q I q=>h pins s σ H Q I (i σ H Q q)
theorem PA.imp {X:Cx} {e:List PySem.Expr} {t t':TA} (h:PA X e t) (i:∀σ H Q,t' σ H Q->t σ H Q):PA X e t':=fun pos pins s σ H Q I q=>h pos pins s σ H Q I (i σ H Q q)
end Mi
end
section
namespace L2
open PySem PySem.Spec PyProof.Rows
noncomputable def mR (own:List Str) (x:Str):Str:=if own.contains x then x++(" " : Str) else x
noncomputable def clF (env:Env):List (Str×NameKind)->List (Str×Addr)->List (Str×Addr)
 | [],acc=>acc
 | (n,k)::r,acc=>clF env r (if k==.free then (n,(env.cells.lookup n).getD 0)::acc else acc)
theorem nW {env:Env}:∀(names:List (Str×NameKind)) (acc:List (Str×Addr)),(∀y∈names,y.2=.free->∃c,env.cells.lookup y.1=some c)->
  (forIn names acc fun x cs=>(match x with
   | (name,kind)=>if (kind==.free)=true then cellOf env name >>= fun c=>pure (ForInStep.yield ((name,c)::cs)) else pure (ForInStep.yield cs):Sem (ForInStep (List (Str×Addr)))))=(pure (clF env names acc):Sem _)
 | [],acc,_=>by rw [List.forIn_nil];rfl
 | (n,k)::r,acc,h=>by
  rw [List.forIn_cons];by_cases hk:(k==.free)=true
  ·have hk':k=.free:=by simpa using hk
   obtain ⟨c,e⟩:=h (n,k) (List.mem_cons_self ..) hk';have e':cellOf env n=pure c:=by
    unfold cellOf;have e2:env.cells.lookup n=some c:=e;rw [e2]
   dsimp only;rw [if_pos hk,e',pure_bind,pure_bind];dsimp only;rw [nW r _ fun y hy=>h y (List.mem_cons_of_mem _ hy)];have e2:env.cells.lookup n=some c:=e;simp only [clF,hk,if_true,e2,Option.getD_some]
  ·dsimp only;rw [if_neg hk,pure_bind];dsimp only;rw [nW r _ fun y hy=>h y (List.mem_cons_of_mem _ hy)];simp only [clF,hk,Bool.false_eq_true,if_false]
theorem IV {env:Env} {scope:Scope} (h:∀y∈scope.names,y.2=.free->∃c,env.cells.lookup y.1=some c):closureFor scope env=pure (clF env scope.names []):=by
 unfold closureFor;have:=nW (env:=env) scope.names [] h;simp only [bind_pure] at *;exact this
theorem zJ {env:Env}:∀{names:List (Str×NameKind)} {acc:List (Str×Addr)} {x:Str} {c:Addr},(∀y∈names,y.2=.free->∃c,env.cells.lookup y.1=some c)->(∀x c,acc.lookup x=some c->env.cells.lookup x=some c)->
  (clF env names acc).lookup x=some c->env.cells.lookup x=some c
 | [],acc,x,c,_,h,e=>h x c e
 | (n,k)::r,acc,x,c,q,h,e=>by
  unfold clF at e;refine zJ (fun y hy=>q y (List.mem_cons_of_mem _ hy)) (fun y d hy=>?_) e;by_cases hk:(k==.free)=true
  ·rw [if_pos hk,List.lookup_cons] at hy;obtain ⟨c',e'⟩:=q (n,k) (List.mem_cons_self ..) (by simpa using hk);have e2:env.cells.lookup n=some c':=e';cases hyn:y==n with
   | true=>
    rw [hyn] at hy;have:y=n:=by simpa using hyn
    subst this;rw [e2] at hy;simp only [Option.getD_some] at hy;rw [e2];exact hy
   | false=>rw [hyn] at hy;exact h y d hy
  ·rw [if_neg hk] at hy;exact h y d hy
theorem NQ {env:Env}:∀{names:List (Str×NameKind)} {acc:List (Str×Addr)} {x:Str},(∃c,acc.lookup x=some c)->∃c,(clF env names acc).lookup x=some c
 | [],_,_,h=>h
 | (n,k)::r,acc,x,⟨c,h⟩=>by
  unfold clF;refine NQ ?_;by_cases hk:(k==.free)=true
  ·rw [if_pos hk,List.lookup_cons];cases x==n with
   | true=>exact ⟨_,rfl⟩
   | false=>exact ⟨c,h⟩
  ·rw [if_neg hk];exact ⟨c,h⟩
theorem zK {env:Env}:∀{names:List (Str×NameKind)} {acc:List (Str×Addr)} {x:Str},(x,NameKind.free)∈names->∃c,(clF env names acc).lookup x=some c
 | (n,k)::r,acc,x,h=>by
  unfold clF;rcases List.mem_cons.mp h with e|h
  ·cases e;refine NQ ?_;rw [if_pos (by decide),List.lookup_cons];simp
  ·exact zK h
structure gC (N:List Str) (sc scope:Scope) (own:List Str):Prop where
 kind:scope.kind=.function
 nocell:∀y∈scope.names,y.2≠.cell
 names:∀y∈scope.names,y.2=.local->scope.names.lookup y.1=some .local
 free:∀y∈scope.names,y.2=.free->sc.names.lookup y.1=some .cell\/sc.names.lookup y.1=some .free
 ownl:∀x∈own,scope.names.lookup x=some .local
 hid:∀x∈own,scope.names.lookup (x++(" " : Str))=none
 loc:∀y∈scope.names,y.2=.local->y.1∈own\/y.1∉N
structure dN (X X':Cx) (scope:Scope) (own:List Str):Prop where
 prog:X'.prog=X.prog
 w:X'.w=X.w
 K:X'.K=X.K
 mg:X'.mg=X.mg
 base:X'.base=X.base
 A:X'.A=X.A
 N:X'.N=X.N.map (mR own)++own
 scope:X'.env.scope=relabel scope X.env
 calm:X'.calm=X.calm
 xe:X'.xe=fun _ _=>False
noncomputable def CZ (X:Cx) (scope:Scope) (cl:List (Str×Addr)) (C:Addr) (own:List Str) (s₂:Shared) (H₂:Hp) (fp:List Addr):Cx:=
 {X with N:=X.N.map (mR own)++own,s₀:=s₂,H₀:=H₂,env:=compEnvC scope cl C X.env,outer:=X.stack,stack:=X.stack,ex:=fp,fn:=fun _=>false,pn:=[],xe:=fun _ _=>False}
theorem NT {X:Cx} {scope:Scope} {cl:List (Str×Addr)} {C:Addr} {own:List Str} {s₂:Shared} {H₂:Hp} {fp:List Addr}:dN X (CZ X scope cl C own s₂ H₂ fp) scope own:=
 ⟨rfl,rfl,rfl,rfl,rfl,rfl,rfl,rfl,rfl,rfl⟩
noncomputable def Ext (σ σ2:St):Prop:=σ2.length=σ.length/\∀(i:Nat) v,σ[i]?=some (some v)->σ2[i]?=some (some v)
noncomputable def NZ (wi:TI) (g:TG) (tc:TT) (te:TE) (m:Nat):TE:=fun σ H Q=>wi σ H fun J H1=>∀p,H1 p=none->
 ∃W:Nat->Nat->List V->Hp->Prop,(∃n,W 0 n [] (upd H1 p (.lst [])))/\∀i n ys H,W i n ys H->H p=some (.lst ys)/\((J.stop i H/\Q (.ref p) H)\/(J.go i H/\ys.length<sizeLine/\
  ∀x H2,J.yld i H x H2->g x (σ++List.replicate m none) H2 fun σ2 H3=>Ext (σ++List.replicate m none) σ2/\tc σ2 H3 fun b H4=>if b=true then te σ2 H4 fun y H5=>H5 p=some (.lst ys)/\∃n',n'<n/\W (i+1) n' (ys++[y]) (upd H5 p (.lst (ys++[y])))
   else ∃n',n'<n/\W (i+1) n' ys H4))
section
variable {X:Cx} {scope:Scope} {own:List Str}
theorem Inv.comp {pins:List (Addr×Obj)} {σ:St} {H2:Hp} {s2:Shared} {fp:List Addr} {h1:Heap} {t1:Nat} (I:Inv X pins σ H2 s2) (S:gC X.N X.env.scope scope own) (hf:∀b∈fp,KN X pins H2 b)
  (hfx:∀b∈fp,b<s2.heap.objs.size) (hns:h1.Ns (s2.heap.objs.size+1) (fun _=>none))
  (hk:∀b o,s2.heap.get? b=some o->h1.get? b=some o) (hacc:h1.get? s2.heap.objs.size=some {cls:=.type "list",data:=.seq #[]}) :
  Inv (CZ X scope (clF X.env scope.names []) (s2.heap.objs.size+1) own s2 H2 fp) [] (σ++List.replicate own.length none) (upd H2 s2.heap.objs.size (.lst [])) {s2 with heap:=h1,toks:=t1}:=by
 have hD:H2 s2.heap.objs.size=none:=I.hok.fresh (Nat.le_refl _);have hC:H2 (s2.heap.objs.size+1)=none:=I.hok.fresh (Nat.le_succ _);have cells:∀y∈scope.names,y.2=.free->∃c,X.env.cells.lookup y.1=some c:=fun y hy hk=>I.ok.has y.1 (S.free y hy hk)
 have sub:∀x c,(clF X.env scope.names []).lookup x=some c->X.env.cells.lookup x=some c:=fun x c e=>zJ cells (fun _ _ h=>by simp at h) e
 have relk:∀x,(relabel scope X.env).names.lookup x=some .cell\/(relabel scope X.env).names.lookup x=some .free->(x,NameKind.free)∈scope.names:=by
  intro x hx;have go:∀(l:List (Str×NameKind)),(∀y∈l,y.2≠.cell)->((l.map fun (n,k)=>if (k==NameKind.free&&X.env.scope.kind==.function&&X.env.kindOf n==some .cell) then (n,NameKind.cell) else (n,k)).lookup x=some .cell\/(l.map fun (n,k)=>if (k==NameKind.free&&X.env.scope.kind==.function&&X.env.kindOf n==some .cell) then (n,NameKind.cell) else (n,k)).lookup x=some .free)->(x,NameKind.free)∈l:=by
   intro l;induction l with
   | nil=>intro _ h;rcases h with h|h <;> simp at h
   | cons p l ih=>
    obtain ⟨n,k⟩:=p;intro nc h;rw [List.map_cons] at h;dsimp only at h;by_cases hc:(k==NameKind.free&&X.env.scope.kind==.function&&X.env.kindOf n==some .cell)=true
    ·rw [if_pos hc] at h;rw [List.lookup_cons] at h;cases e:x==n with
     | true=>
      have:x=n:=by simpa using e
      subst this;simp only [Bool.and_eq_true] at hc;have:k=.free:=by simpa using hc.1.1
      subst this;exact List.mem_cons_self ..
     | false=>
      rw [e] at h;exact List.mem_cons_of_mem _ (ih (fun y hy=>nc y (List.mem_cons_of_mem _ hy)) h)
    ·rw [if_neg hc] at h;rw [List.lookup_cons] at h;cases e:x==n with
     | true=>
      have:x=n:=by simpa using e
      subst this;rw [e] at h;dsimp only at h;rcases h with h|h
      ·exact absurd (Option.some.inj h) (nc (x,k) (List.mem_cons_self ..))
      ·have:=Option.some.inj h;subst this;exact List.mem_cons_self ..
     | false=>
      rw [e] at h;exact List.mem_cons_of_mem _ (ih (fun y hy=>nc y (List.mem_cons_of_mem _ hy)) h)
  exact go scope.names S.nocell hx
 have hne:s2.heap.objs.size≠s2.heap.objs.size+1:=Nat.ne_of_lt (Nat.lt_succ_self _);have hlt:∀b o,s2.heap.get? b=some o->b<s2.heap.objs.size:=fun b o e=>Heap.lt_size e
 have hstk:∀b∈frs X.stack,b<s2.heap.objs.size:=fun b hb=>by
  obtain ⟨_,o,ho,_⟩:=I.stack.mem hb;exact hlt b o ho
 refine ⟨⟨I.mod,?_,I.ok.glob,I.ok.blt,Nat.le_succ _,fun x y c e1 e2=>I.ok.inj x y c (sub x c e1) (sub y c e2),fun x hx=>?_,fun _ _ h=>(by cases h),I.ok.hd,I.ok.frames,.inl rfl,fun b hb=>?_,fun b o e=>I.bs b o e,?_,fun b o e hb=>?_,fun b hb hz=>?_,I.stack,I.J_⟩,
  rfl,I.bare,Un.laid hk (Nat.le_refl _) hD,?_,fun x c e=>?_,?_,fun x c e=>?_,fun p hp=>(by simp [CZ] at hp),?_,?_⟩
 ·exact S.kind
 ·have hx':(relabel scope X.env).names.lookup x=some .cell\/(relabel scope X.env).names.lookup x=some .free:=hx;exact zK (relk x hx')
 ·refine ⟨Nat.ne_of_lt (Nat.lt_succ_of_lt (hfx b hb)),fun x c e z=>?_⟩;exact (hf b hb).2.2.2.2.1 x c (sub x c e) z
 ·exact Nat.le_trans I.ok.bsz I.sz
 ·rcases (hf b hb).2.2.2.1 with z|z
  ·exact I.ok.noex b o e z
  ·exact absurd (Nat.lt_of_lt_of_le (Heap.lt_size e) (Nat.le_trans I.ok.bsz z)) (Nat.lt_irrefl _)
 ·rcases List.mem_cons.mp (I.A_ b hz) with z'|z'
  ·exact (hf b hb).2.1 z'
  ·exact (hf b hb).2.2.1 z'
 ·refine ⟨_,hns,fun i x v e1 e2 e3=>?_⟩;have hi:i<σ.length:=by
   rcases Nat.lt_or_ge i σ.length with h|h
   ·exact h
   ·rw [List.getElem?_append_right h,List.getElem?_replicate] at e2;split at e2 <;> cases e2
  rw [List.getElem?_append_left hi] at e2;have hiN:i<X.N.length:=by rw [<-I.len];exact hi
  have e1':(X.N.map (mR own))[i]?=some x:=by
   have:(X.N.map (mR own)++own)[i]?=some x:=e1;rwa [List.getElem?_append_left (by rw [List.length_map];exact hiN)] at this
  rw [List.getElem?_map] at e1';obtain ⟨y,hy,ey⟩:=Option.map_eq_some_iff.mp e1';have hyN:y∈X.N:=List.mem_of_getElem? hy;have e3':(relabel scope X.env).names.lookup x=some .local\/(relabel scope X.env).names.lookup x=some .cell\/(relabel scope X.env).names.lookup x=some .free:=e3;have keys:∀z k,(relabel scope X.env).names.lookup z=some k->∃k',scope.names.lookup z=some k'/\(k=.local->k'=.local):=by
   intro z k;show (scope.names.map fun (n,k)=>if (k==NameKind.free&&X.env.scope.kind==.function&&X.env.kindOf n==some .cell) then (n,NameKind.cell) else (n,k)).lookup z=some k->_;generalize scope.names=l;induction l with
   | nil=>intro h;simp at h
   | cons p l ih=>
    obtain ⟨n,k0⟩:=p;intro h;rw [List.map_cons] at h;dsimp only at h;by_cases hc:(k0==NameKind.free&&X.env.scope.kind==.function&&X.env.kindOf n==some .cell)=true
    ·rw [if_pos hc,List.lookup_cons] at h;rw [List.lookup_cons];cases e:z==n with
     | true=>
      rw [e] at h;dsimp only at h;cases h;exact ⟨k0,rfl,fun q=>by cases q⟩
     | false=>rw [e] at h;exact ih h
    ·rw [if_neg hc,List.lookup_cons] at h;rw [List.lookup_cons];cases e:z==n with
     | true=>
      rw [e] at h;dsimp only at h;cases h;exact ⟨_,rfl,fun q=>q⟩
     | false=>rw [e] at h;exact ih h
  by_cases hown:own.contains y=true
  ·exfalso;have ex:x=y++(" " : Str):=by rw [<-ey];unfold mR;rw [if_pos hown]
   have hn:=S.hid y (by simpa using hown);rw [<-ex] at hn;rcases e3' with q|q|q
   all_goals
    obtain ⟨k',hk',_⟩:=keys _ _ q;rw [hn] at hk';cases hk'
  ·have ex:x=y:=by rw [<-ey];unfold mR;rw [if_neg hown]
   subst ex;rcases e3' with q|q
   ·exfalso;obtain ⟨k',hk',hl⟩:=keys _ _ q;have:=hl rfl;subst this;rcases S.loc _ (PySem.mem_of_lookup hk') rfl with z|z
    ·exact hown (by simpa using z)
    ·exact z hyN
   ·have hfr:=relk x q;have hv:=S.free _ hfr rfl;obtain ⟨m,_,hl⟩:=I.loc;obtain ⟨u,ru,lk⟩:=hl i x v hy e2 (.inr hv);refine ⟨u,ru,.inr ⟨q,?_⟩⟩;rcases lk with ⟨z,_⟩|⟨_,c,hc,o,ho,hd⟩
    ·have z':X.env.scope.names.lookup x=some .local:=z;rcases hv with hv|hv <;> (rw [z'] at hv;cases hv)
    ·obtain ⟨c',hc'⟩:=zK (env:=X.env) (acc:=[]) hfr;have:=sub x c' hc';rw [hc] at this;cases this;exact ⟨c,hc',o,hk c o ho,hd⟩
 ·obtain ⟨v,z⟩:=I.cell x c (sub x c e);obtain ⟨o,ho,hd⟩:=z;exact ⟨v,o,hk c o ho,hd⟩
 ·show upd H2 _ _ (s2.heap.objs.size+1)=none;rw [aR (Ne.symm hne)];exact hC
 ·obtain ⟨v,o,ho,_⟩:=I.cell x c (sub x c e);show upd H2 _ _ c=none;rw [aR (Nat.ne_of_lt (hlt c o ho))];exact I.freeC x c (sub x c e)
 ·exact I.hok.laid hk (Nat.le_refl _) ⟨Nat.zero_le _,[],0,.nil,hacc⟩
 ·show (σ++List.replicate own.length none).length=(X.N.map (mR own)++own).length;rw [List.length_append,List.length_append,List.length_replicate,List.length_map,I.len]
end
section
variable {X:Cx} {scope:Scope} {own:List Str}
noncomputable def cI (X':Cx) (σ:St) (fp:List Addr) (tn:Nat->Heap->Prop) (W:Nat->Nat->List V->Hp->Prop) (n:Nat) (s:Shared):Prop:=∃i ys H',Inv X' [] σ H' s/\tn i s.heap/\(∀b∈fp,H' b=none)/\W i n ys H'
noncomputable abbrev cE (X X':Cx) (use:Option (Value->Sem Unit)) (QQ:Value->Shared->Prop) (p:Addr):Value->Shared->Prop:=notedBy (model X.prog X.w) X.A X'.env fun e s'=>compPost (model X.prog X.w) X.A X.xe use QQ (.ref p) (p+1) (.error e) s'
noncomputable def cB (X':Cx) (σ:St) (fp:List Addr) (tn:Nat->Heap->Prop) (W:Nat->Nat->List V->Hp->Prop) (n i:Nat) (h:Heap):Prop:=∀{ys':List V} {H9:Hp} {s9:Shared} {σ9:St},Ext σ σ9->Inv X' ([]++pK fp h) σ9 H9 s9->(∃n',n'<n/\W (i+1) n' ys' H9)->∃m,m<n/\cI X' σ fp tn W m s9
theorem N5 {elt iter tg:Expr} {ifs:List Expr} {wi:TI} {g:TG} {tc:TT} {te:TE} {pos ps:Pos} {use:Option (Value->Sem Unit)} {QQ:Value->Shared->Prop} {pins:List (Addr×Obj)} {s:Shared} {σ:St} {H:Hp} {R:VK} (S:gC X.N X.env.scope scope own) (hcalm:X.calm=true) (hi:PI X tg iter wi)
  (hg:∀X',dN X X' scope own->PG X' tg g) (hc:(ifs=[]/\tc=fun _ H Q=>Q true H)\/∃c,ifs=[c]/\∀X',dN X X' scope own->PT X' c tc) (he:∀X',dN X X' scope own->PE X' elt te)
  (hs:∀x,foldedSetIterable iter X.env x=pure x) (I:Inv X pins σ H s) (h:NZ wi g tc te own.length σ H R)
  (last:∀{p C:Addr} {H5:Hp} {s6:Shared} {m6:Str->Option Value},Inv X pins σ H5 s6->KN X pins H5 C->s6.heap.Ns C m6->R (.ref p) H5->compPost (model X.prog X.w) X.A X.xe use QQ (.ref p) C (.ok .next) s6) :
  wpAny (model X.prog X.w) X.A (comprehension (.ListComp elt [⟨tg,iter,ifs,0⟩] scope pos) scope X.env ps (newList []) false (eval iter X.env) use) QQ X.xe s:=by
 have cells:∀y∈scope.names,y.2=.free->∃c,X.env.cells.lookup y.1=some c:=fun y hy hk=>I.ok.has y.1 (S.free y hy hk)
 refine wpAny_comprehension_free rfl hs (IV cells) S.kind S.names (thn (hi pins s σ H _ I h) fun xv s1 h1=>thn h1 fun itv s2 h2=>?_);obtain ⟨it,fp,tn,J,H2,e,I2,T,st2,f2,hW⟩:=h2;subst e;have hD:H2 s2.heap.objs.size=none:=I2.hok.fresh (Nat.le_refl _);obtain ⟨W,⟨n0,w0⟩,turn⟩:=hW _ hD;have hfx:∀b∈fp,b<s2.heap.objs.size:=fun b hb=>by
  obtain ⟨o,ho,_⟩:=T.obj 0 _ st2 b hb;exact Heap.lt_size ho
 refine wpAny_newObj_type (wpAny_newFunctionEnv S.nocell (by intro y hy;simp at hy) (fun h₁ hns₁ hsb₁=>?_) S.kind);dsimp only at hns₁ hsb₁ ⊢;have hC:(s2.heap.push {cls:=.type "list",dict:=none,data:=.seq ([]:List Value).toArray}).objs.size=s2.heap.objs.size+1:=Heap.size_push ..;have hne:s2.heap.objs.size≠s2.heap.objs.size+1:=Nat.ne_of_lt (Nat.lt_succ_self _);rw [hC] at hns₁ hsb₁ ⊢;have old:∀b o,s2.heap.get? b=some o->h₁.get? b=some o:=fun b o e=>hsb₁.extBut b o (Nat.ne_of_lt (Nat.lt_succ_of_lt (Heap.lt_size e))) (Heap.get?_push_of_some _ (Heap.get?_push_of_some _ e))
 have hacc:h₁.get? s2.heap.objs.size=some {cls:=.type "list",data:=.seq #[]}:=hsb₁.extBut _ _ hne (Heap.get?_push_of_some _ (Heap.get?_push_size _ rfl));have I4:=Inv.comp (t1:=s2.toks+([]:List (Str×Value)).length) I2 S f2 hfx hns₁ old hacc;generalize hX':CZ X scope (clF X.env scope.names []) (s2.heap.objs.size+1) own s2 H2 fp=X' at I4;have cc:dN X X' scope own:=by rw [<-hX'];exact NT
 have eenv:X'.env=compEnvC scope (clF X.env scope.names []) (s2.heap.objs.size+1) X.env:=by rw [<-hX'];rfl
 have eA:X'.A=X.A:=cc.A;have ep:X'.prog=X.prog:=cc.prog;have ew:X'.w=X.w:=cc.w;have efs:X'.fs=frs X.stack:=by rw [<-hX'];rfl
 have eex:X'.ex=fp:=by rw [<-hX'];rfl
 have es0:X'.s₀=s2:=by rw [<-hX'];rfl
 have eH0:X'.H₀=H2:=by rw [<-hX'];rfl
 have epn:X'.pn=[]:=by rw [<-hX'];rfl
 have eK:X'.K=X.K:=cc.K;have exe:=cc.xe;have ecalm:X'.calm=true:=cc.calm.trans hcalm
 -- the iterator's records within the block
 have fpok:∀{H':Hp},(∀b∈fp,H' b=none)->∀b∈fp,KN X' [] H' b:=fun {H'} hn b hb=>by
  obtain ⟨_,f1,f3,_,f5,_⟩:=f2 b hb;refine ⟨hn b hb,?_,?_,.inl (by rw [eex];exact hb),fun x c e=>?_,fun p hp=>by rw [epn] at hp;simp at hp⟩
  ·rw [eenv];exact Nat.ne_of_lt (Nat.lt_succ_of_lt (hfx b hb))
  ·rw [efs];intro z;rcases List.mem_cons.mp (I2.A_ b z) with z|z
   ·exact f1 z
   ·exact f3 z
  ·rw [eenv] at e;exact f5 x c (zJ cells (fun _ _ h=>by simp at h) e)
 have st4:tn 0 h₁:=T.keep _ _ _ st2 fun b _ o e=>old b o e
 have fr4:∀b∈fp,(upd H2 s2.heap.objs.size (.lst [])) b=none:=fun b hb=>by rw [aR (Nat.ne_of_lt (hfx b hb))];exact (f2 b hb).1
 have loop:∀s4:Shared,s4={s2 with heap:=h₁,toks:=s2.toks+([]:List (Str×Value)).length}->
   codeAny (model X.prog X.w) X.A (.compLoop (.ListComp elt [⟨tg,iter,ifs,0⟩] scope pos) 0 (.ref it) (.ref s2.heap.objs.size) X'.env)
    (compPost (model X.prog X.w) X.A X.xe use QQ (.ref s2.heap.objs.size) (s2.heap.objs.size+1)) s4:=by
  rintro s4 rfl;have put:∀(n i:Nat) (ys:List V) (s7:Shared) (σ8:St) (H8:Hp) (s8:Shared),cB X' (σ++List.replicate own.length none) fp tn W n i s7.heap->Inv X' ([]++pK fp s7.heap) σ8 H8 s8->Ext (σ++List.replicate own.length none) σ8->ys.length<sizeLine->(te σ8 H8 fun y H5=>H5 s2.heap.objs.size=some (.lst ys)/\∃n',n'<n/\W (i+1) n' (ys++[y]) (upd H5 s2.heap.objs.size (.lst (ys++[y]))))->
    wpAny (model X.prog X.w) X.A (eval elt X'.env) (fun x s₄=>wpAny (model X.prog X.w) X.A (call (.builtin "list.append") [.ref s2.heap.objs.size,x]) (fun _ s₅=>∃m,m<n/\cI X' (σ++List.replicate own.length none) fp tn W m s₅) (cE X X' use QQ s2.heap.objs.size) s₄) (cE X X' use QQ s2.heap.objs.size) s8:=by
   intro n i ys s7 σ8 H8 s8 back I8 ext8 hlen q8;have he':=he X' cc _ s8 _ H8 _ I8 q8;rw [ep,ew,eA,exe] at he';refine wpAny_mono he' (fun yv s10 ⟨y,H10,I10,r10,p10,q10⟩=>?_) fun _ _ z=>False.elim z
   have hm:=gW (X:=X') _ s10 σ8 H10 (.ref s2.heap.objs.size) [y] (.ref s2.heap.objs.size) [yv] (fun _ H11=>∃n',n'<n/\W (i+1) n' (ys++[y]) H11) I10 rfl (.cons r10 .nil) ⟨s2.heap.objs.size,ys,y,rfl,rfl,p10,hlen,q10⟩;rw [ep,ew,eA,exe] at hm;exact wpAny_mono hm (fun _ s11 ⟨_,H11,I11,_,q11⟩=>back ext8 I11 q11) fun _ _ z=>False.elim z
  have key:∀(PO:Nat->Shared->Prop),(∀(n i:Nat) (ys:List V) (s7:Shared) (σ8:St) (H8:Hp) (s8:Shared),cB X' (σ++List.replicate own.length none) fp tn W n i s7.heap->Inv X' ([]++pK fp s7.heap) σ8 H8 s8->Ext (σ++List.replicate own.length none) σ8->ys.length<sizeLine->(tc σ8 H8 fun b H4=>if b=true then te σ8 H4 fun y H5=>H5 s2.heap.objs.size=some (.lst ys)/\∃n',n'<n/\W (i+1) n' (ys++[y]) (upd H5 s2.heap.objs.size (.lst (ys++[y]))) else ∃n',n'<n/\W (i+1) n' ys H4)->PO n s8)->
    ∀n s5,(cI X' (σ++List.replicate own.length none) fp tn W n s5)->wpAny (model X.prog X.w) X.A (pyNext (.ref it)) (fun r s₁=>match r with
     | none=>compPost (model X.prog X.w) X.A X.xe use QQ (.ref s2.heap.objs.size) (s2.heap.objs.size+1) (.ok .next) s₁
     | some v=>wpAny (model X.prog X.w) X.A (letOwnedTupleGo tg (.ref it) v) (fun _ s₀=>wpAny (model X.prog X.w) X.A (assign tg X'.env v) (fun _ s₂=>PO n s₂) (cE X X' use QQ s2.heap.objs.size) s₀) (cE X X' use QQ s2.heap.objs.size) s₁) (cE X X' use QQ s2.heap.objs.size) s5:=by
   intro PO hPO;rintro n s5 ⟨i,ys,H5,I5,st5,fr5,w5⟩;obtain ⟨hacc5,tr⟩:=turn i n ys H5 w5;rcases tr with ⟨stop,q⟩|⟨go,hlen,step⟩
   ·have done:=T.done X' ep ew eK ecalm i [] s5 _ H5 (cE X X' use QQ s2.heap.objs.size) I5 (fpok fr5) st5 stop;rw [eA] at done;refine thn done fun r s6 ⟨hr,I6⟩=>?_
    subst hr;obtain ⟨m6,hn6,_⟩:=id I6.loc;rw [eenv] at hn6;have u6:Un (frs X.stack) fp H2 H5 s2.heap s6.heap:=by
     have:=I6.base;rw [efs,eex,eH0,es0] at this;exact this
    have hCn:H5 (s2.heap.objs.size+1)=none:=by
     have:=I6.free;rw [eenv] at this;exact this
    have hok6:HOk X.prog X.w H5 s6.heap:=by
     have:=I6.hok;rw [ep,ew] at this;exact this
    have hos:s6.os=s2.os:=by have:=I6.os;rw [es0] at this;exact this
    obtain ⟨hh,gg,dd,tt,oo⟩:=s6;obtain rfl:oo=s2.os:=hos;have fin:=Inv.call (h':=hh) (g':=gg) (d':=dd) (t':=tt) (ch:=fp) I2 u6 hok6 I6.bare fun b hb=>⟨(f2 b hb).2.2.2.1,(f2 b hb).2.1,(f2 b hb).2.2.2.2.1,(f2 b hb).2.2.2.2.2⟩
    refine last fin ⟨hCn,Nat.ne_of_gt (Nat.lt_succ_of_lt I2.lt),I2.aF0 (Nat.le_succ _),.inr (Nat.le_trans I2.sz (Nat.le_succ _)),fun x c e z=>?_,fun p hp z=>?_⟩ hn6 q
    ·obtain ⟨v,qq⟩:=I2.cell x c e;exact absurd (Nat.lt_succ_of_lt qq.lt) (by rw [z];exact Nat.lt_irrefl _)
    ·exact absurd (Nat.lt_succ_of_lt (Heap.lt_size (I2.pin p hp).1)) (by rw [z];exact Nat.lt_irrefl _)
   ·have item:=T.item X' ep ew eK ecalm i [] s5 _ H5 (cE X X' use QQ s2.heap.objs.size) I5 (fpok fr5) st5 go;rw [eA] at item;refine thn item fun r s6 ⟨u,hr,h6⟩=>?_
    subst hr;refine thn h6 fun _ s7 ⟨x,H7,I7,r7,y7,st7,fr7⟩=>?_
    have I7':=I7.pinned (fpok fr7) (T.obj _ _ st7);have hg':=hg X' cc _ s7 _ H7 x u _ I7' r7 (step x H7 y7);rw [ep,ew,eA,exe] at hg';refine wpAny_mono hg' (fun _ s8 ⟨σ8,H8,I8,ext8,q8⟩=>?_) fun _ _ z=>False.elim z
    have back:cB X' (σ++List.replicate own.length none) fp tn W n i s7.heap:=by
     rintro ys' H9 s9 σ9 ex9 I9 ⟨n',hn',w9⟩;refine ⟨n',hn',i+1,ys',H9,(I9.weak ex9.1.symm ex9.2).l_,T.keep _ _ _ st7 fun b hb o e=>(I9.pin (b,o) (List.mem_append_right _ (List.mem_append_right _ (jX hb e)))).1,fun b hb=>?_,w9⟩;obtain ⟨o,e,d⟩:=T.obj _ _ st7 b hb;exact (I9.pin (b,o) (List.mem_append_right _ (List.mem_append_right _ (jX hb e)))).2.1
    exact hPO n i ys s7 σ8 H8 s8 back I8 ext8 hlen q8
  rcases hc with ⟨rfl,rfl⟩|⟨c,rfl,hc⟩
  ·refine PySem.W.kcp_loop _ (key _ fun n i ys s7 σ8 H8 s8 back I8 ext8 hlen q8=>?_) n0 ⟨0,[],_,I4,st4,fr4,w0⟩;simp only [if_true] at q8;exact put n i ys s7 σ8 H8 s8 back I8 ext8 hlen q8
  ·refine PySem.W.kct_loop _ (key _ fun n i ys s7 σ8 H8 s8 back I8 ext8 hlen q8=>?_) n0 ⟨0,[],_,I4,st4,fr4,w0⟩;have hc':=hc X' cc _ s8 _ H8 _ I8 q8;rw [ep,ew,eA,exe] at hc';refine wpAny_mono hc' (fun b s9 ⟨H9,I9,q9⟩=>?_) fun _ _ z=>False.elim z
   cases b with
   | false=>
    simp only [Bool.false_eq_true,if_false] at q9 ⊢;exact back ext8 I9 q9
   | true=>
    simp only [if_true] at q9 ⊢;exact put n i ys s7 σ8 H9 s9 back I9 ext8 hlen q9
 have l4:=loop _ rfl;rw [eenv] at l4;exact codeAny_compStart_list l4 (T.self X.A 0 _ _ _ st4 l4)
theorem T7 {pins:List (Addr×Obj)} {σ:St} {Q:VK} {p C:Addr} {H5:Hp} {s6:Shared} {m6:Str->Option Value} (f:Inv X pins σ H5 s6) (k:KN X pins H5 C) (n:s6.heap.Ns C m6) (q:Q (.ref p) H5):compPost (model X.prog X.w) X.A X.xe none (EP X pins σ Q) (.ref p) C (.ok .next) s6:=
 ⟨m6,n,fun h' sb=>⟨.ref p,H5,Inv.turned (t':=s6.toks) f (fun b o hb e=>sb.extBut b o hb e) k.1 k.2.1 k.2.2.2.1 k.2.2.2.2.1 k.2.2.2.2.2,rfl,q⟩⟩
theorem T8 {elt iter tg:Expr} {wi:TI} {g:TG} {te:TE} {pos:Pos} (S:gC X.N X.env.scope scope own) (hcalm:X.calm=true) (hi:PI X tg iter wi)
  (hg:∀X',dN X X' scope own->PG X' tg g) (he:∀X',dN X X' scope own->PE X' elt te)
  (hs:∀x,foldedSetIterable iter X.env x=pure x):PE X (.ListComp elt [⟨tg,iter,[],0⟩] scope pos) (NZ wi g (fun _ H Q=>Q true H) te own.length):=by
 intro pins s σ H Q I h;rw [eval_ListComp];exact N5 S hcalm hi hg (.inl ⟨rfl,rfl⟩) he hs I h T7
end
end L2
end
section
namespace Mi
open PySem L2 PySem.SeqAt
variable [KFrag]
theorem fB {X:Cx} {pins:List (Addr×Obj)} {σ:St} {H:Hp} {s:Shared} {a:Addr} {xs:List V} (I:Inv X pins σ H s) (e:H a=some (.tup xs)):∃its:List Value,Vals xs its/\s.heap.IsTuple a its.toArray:=by
 obtain ⟨_,its,r,p⟩:xs.length<=sizeLine/\∃its:List Value,Vals xs its/\iZ s.heap a its.toArray:=I.hok a _ e;exact ⟨its,r,p.tup⟩
theorem k_ {X:Cx} {pins:List (Addr×Obj)} {σ:St} {H:Hp} {s:Shared} {a:Addr} {xs:List V} (I:Inv X pins σ H s) (e:SqL X.K H a xs):∃its:List Value,Vals xs its/\s.heap.IsList a its.toArray:=by
 obtain ⟨its,r,p,_⟩:=I.list e;exact ⟨its,r,p.isList⟩
theorem Rep.eF {P:Addr->Prop} {H:Hp} {K:PySem.W.Frag} {v:V} {ds:List D} (r:Rep P H v (.lst ds)):∃a xs,v=.ref a/\SqL K H a xs/\bB P H xs ds:=by
 cases r with
 | lst e p r=>exact ⟨_,_,rfl,.inl (.inl e),r⟩
theorem Rep.dG {P:Addr->Prop} {H:Hp} {v:V} {ds:List D} (r:Rep P H v (.tup ds)):∃a xs,v=.ref a/\H a=some (.tup xs)/\bB P H xs ds:=by
 cases r with
 | tup e r=>exact ⟨_,_,rfl,e,r⟩
mutual
theorem uK:∀(n:Nat) (d:D),d.bK n=true->eqD d d=true
 | _,.non,_=>rfl
 | _,.bl b,_=>by simp [eqD]
 | _,.int i,_=>by simp [eqD]
 | _,.str x,_=>by simp [eqD]
 | n+1,.tup xs,h=>by rw [D.bK] at h;rw [eqD];exact qC n xs h
 | n+1,.lst xs,h=>by rw [D.bK] at h;rw [eqD];exact qC n xs h
 | 0,.tup xs,h=>by simp [D.bK] at h
 | 0,.lst xs,h=>by simp [D.bK] at h
 | n,.dct _,h=>by cases n <;> simp [D.bK] at h
 | n,.uD,h=>by cases n <;> simp [D.bK] at h
 | n,.scr _,h=>by cases n <;> simp [D.bK] at h
 | n,.fdc _,h=>by cases n <;> simp [D.bK] at h
 | n,.cel _ _,h=>by cases n <;> simp [D.bK] at h
theorem qC:∀(n:Nat) (ds:List D),D.eE n ds=true->pA ds ds=true
 | _,[],_=>rfl
 | n,d::ds,h=>by
  rw [D.eE,Bool.and_eq_true] at h;rw [pA,uK n d h.1,qC n ds h.2];rfl
end
mutual
theorem Rep.inj {P P':Addr->Prop} {H:Hp}:∀(n:Nat) {v:V} {d e:D},d.bK n=true->e.bK n=true->Rep P H v d->Rep P' H v e->d=e
 | _,_,_,_,_,_,.non,.non=>rfl
 | _,_,_,_,_,_,.bl _,.bl _=>rfl
 | _,_,_,_,_,_,.int _,.int _=>rfl
 | _,_,_,_,_,_,.str _,.str _=>rfl
 | n+1,_,.tup ds,_,h,h',.tup e1 r1,q=>by
  cases q with
  | tup e2 r2=>
   rw [e1] at e2;cases e2;rw [D.bK] at h h';rw [bB.inj n h h' r1 r2]
  | lst e2 _ _=>rw [e1] at e2;cases e2
  | frz e2 _=>simp [D.bK] at h'
  | fdK e2 _ _=>simp [D.bK] at h'
  | cel e2 _ _=>simp [D.bK] at h'
  | fdT e2 _ _=>simp [D.bK] at h'
  | dK e2 _ _ _=>rw [e1] at e2;cases e2
  | dT e2 _ _ _=>rw [e1] at e2;cases e2
 | n+1,_,.lst ds,_,h,h',.lst e1 p r1,q=>by
  cases q with
  | tup e2 r2=>rw [e1] at e2;cases e2
  | lst e2 _ r2=>
   rw [e1] at e2;cases e2;rw [D.bK] at h h';rw [bB.inj n h h' r1 r2]
  | frz e2 _=>simp [D.bK] at h'
  | fdK e2 _ _=>simp [D.bK] at h'
  | cel e2 _ _=>simp [D.bK] at h'
  | fdT e2 _ _=>simp [D.bK] at h'
  | dK e2 _ _ _=>rw [e1] at e2;cases e2
  | dT e2 _ _ _=>rw [e1] at e2;cases e2
 | 0,_,.tup ds,_,h,_,_,_=>by simp [D.bK] at h
 | 0,_,.lst ds,_,h,_,_,_=>by simp [D.bK] at h
 | n,_,.dct _,_,h,_,_,_=>by cases n <;> simp [D.bK] at h
 | n,_,.scr _,_,h,_,_,_=>by cases n <;> simp [D.bK] at h
 | n,_,.fdc _,_,h,_,_,_=>by cases n <;> simp [D.bK] at h
 | n,_,.cel _ _,_,h,_,_,_=>by cases n <;> simp [D.bK] at h
theorem bB.inj {P P':Addr->Prop} {H:Hp}:∀(n:Nat) {v:List V} {d e:List D},D.eE n d=true->D.eE n e=true->bB P H v d->bB P' H v e->d=e
 | _,_,_,_,_,_,.nil,.nil=>rfl
 | n,_,_,_,h,h',.cons r t,.cons r' t'=>by
  rw [D.eE,Bool.and_eq_true] at h h';rw [Rep.inj n h.1 h'.1 r r',bB.inj n h.2 h'.2 t t']
end
theorem nY:∀(xs ys:List D),pA xs ys=((List.range (min xs.length ys.length)).all (fun j=>eqD (xs.getD j .non) (ys.getD j .non))&&xs.length==ys.length)
 | [],[]=>by simp [pA]
 | [],y::ys=>by simp [pA]
 | x::xs,[]=>by simp [pA]
 | x::xs,y::ys=>by
  have e:min (x::xs).length (y::ys).length=min xs.length ys.length+1:=by simp only [List.length_cons];lia
  rw [pA,nY xs ys,e,List.range_succ_eq_map,List.all_cons,List.all_map,Bool.and_assoc]
  congr 1
  simp [Function.comp_def]
theorem cX {n:Nat}:∀{ds:List D} {j:Nat},D.eE n ds=true->j<ds.length->(ds.getD j .non).bK n=true
 | [],j,_,h=>by simp at h
 | d::ds,0,h,_=>by rw [D.eE,Bool.and_eq_true] at h;exact h.1
 | d::ds,j+1,h,hj=>by
  rw [D.eE,Bool.and_eq_true] at h;simpa using cX (ds:=ds) (j:=j) h.2 (by simpa using hj)
theorem bB.getD {P:Addr->Prop} {H:Hp} {vs:List V} {ds:List D} {j:Nat} (r:bB P H vs ds) (hj:j<ds.length):∃v,vs[j]?=some v/\Rep P H v (ds.getD j .non):=by
 obtain ⟨v,h1,h2⟩:=r.get (i:=j) (d:=ds.getD j .non) (by simp [hj]);exact ⟨v,h1,h2⟩
section
variable {X:Cx} {pins:List (Addr×Obj)} {σ:St} {H:Hp} {s:Shared}
theorem wQ (I:Inv X pins σ H s):∀(n:Nat) (A:Around) {x y:V} {a b:D} {u v:Value},A.units+n<cLine->a.bK n=true->b.bK n=true->Rep All H x a->Rep All H y b->RelV x u->RelV y v->
  RcAt A s u v (eqD a b)/\RcNeAt A s u v (!eqD a b)/\EqAt A s u v (eqD a b):=by
 intro n;induction n with
 | zero=>
  intro A x y a b u v hu ha hb rx ry ru rv;cases rx with
  | non=>
   cases ru;cases ry with
   | non=>cases rv;exact ⟨RcAt.none_none,RcNeAt.none_none,EqAt.same _⟩
   | bl _=>cases rv;exact ⟨RcAt.none_bool _,RcNeAt.none_bool _,EqAt.none_bool _⟩
   | int _=>obtain ⟨t,rfl⟩:=rv;exact ⟨RcAt.none_int _ _,RcNeAt.none_int _ _,EqAt.none_int _ _⟩
   | str _=>obtain ⟨t,rfl⟩:=rv;exact ⟨RcAt.none_str _ _,RcNeAt.none_str _ _,EqAt.none_str _ _⟩
   | _=>simp [D.bK] at hb
  | bl _=>
   cases ru;cases ry with
   | non=>cases rv;exact ⟨RcAt.bool_none _,RcNeAt.bool_none _,EqAt.bool_none _⟩
   | bl _=>cases rv;exact ⟨RcAt.bool_bool _ _,RcNeAt.bool_bool _ _,EqAt.bool_bool _ _⟩
   | int _=>obtain ⟨t,rfl⟩:=rv;exact ⟨RcAt.bool_int _ _ _,RcNeAt.bool_int _ _ _,EqAt.bool_int _ _ _⟩
   | str _=>obtain ⟨t,rfl⟩:=rv;exact ⟨RcAt.bool_str _ _ _,RcNeAt.bool_str _ _ _,EqAt.bool_str _ _ _⟩
   | _=>simp [D.bK] at hb
  | int _=>
   obtain ⟨t,rfl⟩:=ru;cases ry with
   | non=>cases rv;exact ⟨RcAt.int_none _ _,RcNeAt.int_none _ _,EqAt.int_none _ _⟩
   | bl _=>cases rv;exact ⟨RcAt.int_bool _ _ _,RcNeAt.int_bool _ _ _,EqAt.int_bool _ _ _⟩
   | int _=>obtain ⟨t',rfl⟩:=rv;exact ⟨RcAt.int_int _ _ _ _,RcNeAt.int_int _ _ _ _,EqAt.int_int _ _ _ _⟩
   | str _=>obtain ⟨t',rfl⟩:=rv;exact ⟨RcAt.int_str _ _ _ _,RcNeAt.int_str _ _ _ _,EqAt.int_str _ _ _ _⟩
   | _=>simp [D.bK] at hb
  | str _=>
   obtain ⟨t,rfl⟩:=ru;cases ry with
   | non=>cases rv;exact ⟨RcAt.str_none _ _,RcNeAt.str_none _ _,EqAt.str_none _ _⟩
   | bl _=>cases rv;exact ⟨RcAt.str_bool _ _ _,RcNeAt.str_bool _ _ _,EqAt.str_bool _ _ _⟩
   | int _=>obtain ⟨t',rfl⟩:=rv;exact ⟨RcAt.str_int _ _ _ _,RcNeAt.str_int _ _ _ _,EqAt.str_int _ _ _ _⟩
   | str _=>obtain ⟨t',rfl⟩:=rv;exact ⟨RcAt.str_str _ _ _ _,RcNeAt.str_str _ _ _ _,EqAt.str_str _ _ _ _⟩
   | _=>simp [D.bK] at hb
  | _=>simp [D.bK] at ha
 | succ n ih=>
  intro A x y a b u v hu ha hb rx ry ru rv;have hu0:A.units<cLine:=by lia
  have hu1:A.in1.units+n<cLine:=by show A.units+1+n<cLine;lia
  cases a with
  | uD=>exact absurd rx Rep.uD
  | dct _=>simp [D.bK] at ha
  | scr _=>simp [D.bK] at ha
  | fdc _=>simp [D.bK] at ha
  | cel _ _=>simp [D.bK] at ha
  | non=>
   cases rx;cases ru;cases b with
   | uD=>exact absurd ry Rep.uD
   | dct _=>simp [D.bK] at hb
   | scr _=>simp [D.bK] at hb
   | fdc _=>simp [D.bK] at hb
   | cel _ _=>simp [D.bK] at hb
   | non=>cases ry;cases rv;exact ⟨RcAt.none_none,RcNeAt.none_none,EqAt.same _⟩
   | bl _=>cases ry;cases rv;exact ⟨RcAt.none_bool _,RcNeAt.none_bool _,EqAt.none_bool _⟩
   | int _=>cases ry;obtain ⟨t2,rfl⟩:=rv;exact ⟨RcAt.none_int _ _,RcNeAt.none_int _ _,EqAt.none_int _ _⟩
   | str _=>cases ry;obtain ⟨t2,rfl⟩:=rv;exact ⟨RcAt.none_str _ _,RcNeAt.none_str _ _,EqAt.none_str _ _⟩
   | tup es=>
    obtain ⟨q,ys,rfl,e2,r2⟩:=ry.dG;cases rv;obtain ⟨its2,vr2,h2⟩:=fB I e2;exact ⟨RcAt.none_tuple h2 hu0,RcNeAt.none_tuple h2 hu0,EqAt.none_tuple h2 hu0⟩
   | lst es=>
    obtain ⟨q,ys,rfl,e2,r2⟩:=ry.eF (K:=X.K);cases rv;obtain ⟨its2,vr2,h2⟩:=k_ I e2;exact ⟨RcAt.none_list h2 hu0,RcNeAt.none_list h2 hu0,EqAt.none_list h2 hu0⟩
  | bl _=>
   cases rx;cases ru;cases b with
   | uD=>exact absurd ry Rep.uD
   | dct _=>simp [D.bK] at hb
   | scr _=>simp [D.bK] at hb
   | fdc _=>simp [D.bK] at hb
   | cel _ _=>simp [D.bK] at hb
   | non=>cases ry;cases rv;exact ⟨RcAt.bool_none _,RcNeAt.bool_none _,EqAt.bool_none _⟩
   | bl _=>cases ry;cases rv;exact ⟨RcAt.bool_bool _ _,RcNeAt.bool_bool _ _,EqAt.bool_bool _ _⟩
   | int _=>cases ry;obtain ⟨t2,rfl⟩:=rv;exact ⟨RcAt.bool_int _ _ _,RcNeAt.bool_int _ _ _,EqAt.bool_int _ _ _⟩
   | str _=>cases ry;obtain ⟨t2,rfl⟩:=rv;exact ⟨RcAt.bool_str _ _ _,RcNeAt.bool_str _ _ _,EqAt.bool_str _ _ _⟩
   | tup es=>
    obtain ⟨q,ys,rfl,e2,r2⟩:=ry.dG;cases rv;obtain ⟨its2,vr2,h2⟩:=fB I e2;exact ⟨RcAt.bool_tuple _ h2 hu0,RcNeAt.bool_tuple _ h2 hu0,EqAt.bool_tuple _ h2 hu0⟩
   | lst es=>
    obtain ⟨q,ys,rfl,e2,r2⟩:=ry.eF (K:=X.K);cases rv;obtain ⟨its2,vr2,h2⟩:=k_ I e2;exact ⟨RcAt.bool_list _ h2 hu0,RcNeAt.bool_list _ h2 hu0,EqAt.bool_list _ h2 hu0⟩
  | int _=>
   cases rx;obtain ⟨t1,rfl⟩:=ru;cases b with
   | uD=>exact absurd ry Rep.uD
   | dct _=>simp [D.bK] at hb
   | scr _=>simp [D.bK] at hb
   | fdc _=>simp [D.bK] at hb
   | cel _ _=>simp [D.bK] at hb
   | non=>cases ry;cases rv;exact ⟨RcAt.int_none _ _,RcNeAt.int_none _ _,EqAt.int_none _ _⟩
   | bl _=>cases ry;cases rv;exact ⟨RcAt.int_bool _ _ _,RcNeAt.int_bool _ _ _,EqAt.int_bool _ _ _⟩
   | int _=>cases ry;obtain ⟨t2,rfl⟩:=rv;exact ⟨RcAt.int_int _ _ _ _,RcNeAt.int_int _ _ _ _,EqAt.int_int _ _ _ _⟩
   | str _=>cases ry;obtain ⟨t2,rfl⟩:=rv;exact ⟨RcAt.int_str _ _ _ _,RcNeAt.int_str _ _ _ _,EqAt.int_str _ _ _ _⟩
   | tup es=>
    obtain ⟨q,ys,rfl,e2,r2⟩:=ry.dG;cases rv;obtain ⟨its2,vr2,h2⟩:=fB I e2;exact ⟨RcAt.int_tuple _ _ h2 hu0,RcNeAt.int_tuple _ _ h2 hu0,EqAt.int_tuple _ _ h2 hu0⟩
   | lst es=>
    obtain ⟨q,ys,rfl,e2,r2⟩:=ry.eF (K:=X.K);cases rv;obtain ⟨its2,vr2,h2⟩:=k_ I e2;exact ⟨RcAt.int_list _ _ h2 hu0,RcNeAt.int_list _ _ h2 hu0,EqAt.int_list _ _ h2 hu0⟩
  | str _=>
   cases rx;obtain ⟨t1,rfl⟩:=ru;cases b with
   | uD=>exact absurd ry Rep.uD
   | dct _=>simp [D.bK] at hb
   | scr _=>simp [D.bK] at hb
   | fdc _=>simp [D.bK] at hb
   | cel _ _=>simp [D.bK] at hb
   | non=>cases ry;cases rv;exact ⟨RcAt.str_none _ _,RcNeAt.str_none _ _,EqAt.str_none _ _⟩
   | bl _=>cases ry;cases rv;exact ⟨RcAt.str_bool _ _ _,RcNeAt.str_bool _ _ _,EqAt.str_bool _ _ _⟩
   | int _=>cases ry;obtain ⟨t2,rfl⟩:=rv;exact ⟨RcAt.str_int _ _ _ _,RcNeAt.str_int _ _ _ _,EqAt.str_int _ _ _ _⟩
   | str _=>cases ry;obtain ⟨t2,rfl⟩:=rv;exact ⟨RcAt.str_str _ _ _ _,RcNeAt.str_str _ _ _ _,EqAt.str_str _ _ _ _⟩
   | tup es=>
    obtain ⟨q,ys,rfl,e2,r2⟩:=ry.dG;cases rv;obtain ⟨its2,vr2,h2⟩:=fB I e2;exact ⟨RcAt.str_tuple _ _ h2 hu0,RcNeAt.str_tuple _ _ h2 hu0,EqAt.str_tuple _ _ h2 hu0⟩
   | lst es=>
    obtain ⟨q,ys,rfl,e2,r2⟩:=ry.eF (K:=X.K);cases rv;obtain ⟨its2,vr2,h2⟩:=k_ I e2;exact ⟨RcAt.str_list _ _ h2 hu0,RcNeAt.str_list _ _ h2 hu0,EqAt.str_list _ _ h2 hu0⟩
  | tup ds=>
   obtain ⟨p,xs,rfl,e1,r1⟩:=rx.dG;cases ru;obtain ⟨its1,vr1,h1⟩:=fB I e1;rw [D.bK] at ha;cases b with
   | uD=>exact absurd ry Rep.uD
   | dct _=>simp [D.bK] at hb
   | scr _=>simp [D.bK] at hb
   | fdc _=>simp [D.bK] at hb
   | cel _ _=>simp [D.bK] at hb
   | non=>cases ry;cases rv;exact ⟨RcAt.tuple_none h1 hu0,RcNeAt.tuple_none h1 hu0,EqAt.tuple_none h1 hu0⟩
   | bl _=>cases ry;cases rv;exact ⟨RcAt.tuple_bool _ h1 hu0,RcNeAt.tuple_bool _ h1 hu0,EqAt.tuple_bool _ h1 hu0⟩
   | int _=>cases ry;obtain ⟨t2,rfl⟩:=rv;exact ⟨RcAt.tuple_int _ _ h1 hu0,RcNeAt.tuple_int _ _ h1 hu0,EqAt.tuple_int _ _ h1 hu0⟩
   | str _=>cases ry;obtain ⟨t2,rfl⟩:=rv;exact ⟨RcAt.tuple_str _ _ h1 hu0,RcNeAt.tuple_str _ _ h1 hu0,EqAt.tuple_str _ _ h1 hu0⟩
   | tup es=>
    obtain ⟨q,ys,rfl,e2,r2⟩:=ry.dG;cases rv;obtain ⟨its2,vr2,h2⟩:=fB I e2;rw [D.bK] at hb;have z1:its1.toArray.size=ds.length:=by rw [List.size_toArray,<-vr1.length,r1.length]
    have z2:its2.toArray.size=es.length:=by rw [List.size_toArray,<-vr2.length,r2.length]
    have he:∀j (g1:j<its1.toArray.size) (g2:j<its2.toArray.size),EqAt A.in1 s its1.toArray[j] its2.toArray[j] (eqD (ds.getD j .non) (es.getD j .non)):=fun j g1 g2=>by
     obtain ⟨v1,w1,rr1⟩:=r1.getD (j:=j) (by lia);obtain ⟨v2,w2,rr2⟩:=r2.getD (j:=j) (by lia);obtain ⟨u1,k1,l1⟩:=vr1.get w1;obtain ⟨u2,k2,l2⟩:=vr2.get w2;have m1:its1.toArray[j]=u1:=by
      rw [List.getElem?_eq_getElem (by simpa using g1)] at k1;simpa using Option.some.inj k1
     have m2:its2.toArray[j]=u2:=by
      rw [List.getElem?_eq_getElem (by simpa using g2)] at k2;simpa using Option.some.inj k2
     rw [m1,m2];exact (ih A.in1 hu1 (cX ha (by lia)) (cX hb (by lia)) rr1 rr2 l1 l2).2.2
    have ee:eqD (.tup ds) (.tup es)=((List.range (min its1.toArray.size its2.toArray.size)).all (fun j=>eqD (ds.getD j .non) (es.getD j .non))&&its1.toArray.size==its2.toArray.size):=by
     rw [eqD,nY,z1,z2]
    have r0:=RcAt.tuples h1 h2 hu0 he;have r0':=RcNeAt.tuples h1 h2 hu0 he;rw [<-ee] at r0 r0';refine ⟨r0,r0',?_⟩;by_cases hpq:p=q
    ·subst hpq;have hab:(D.tup ds)=(.tup es):=Rep.inj (n+1) (by rw [D.bK];exact ha) (by rw [D.bK];exact hb) rx ry;rw [<-hab,uK (n+1) _ (by rw [D.bK];exact ha)];exact EqAt.same _
    ·exact EqAt.of_refs hpq r0
   | lst es=>
    obtain ⟨q,ys,rfl,e2,r2⟩:=ry.eF (K:=X.K);cases rv;obtain ⟨its2,vr2,h2⟩:=k_ I e2;exact ⟨RcAt.tuple_list h1 h2 hu0,RcNeAt.tuple_list h1 h2 hu0,EqAt.tuple_list h1 h2 hu0⟩
  | lst ds=>
   obtain ⟨p,xs,rfl,e1,r1⟩:=rx.eF (K:=X.K);cases ru;obtain ⟨its1,vr1,h1⟩:=k_ I e1;rw [D.bK] at ha;cases b with
   | uD=>exact absurd ry Rep.uD
   | dct _=>simp [D.bK] at hb
   | scr _=>simp [D.bK] at hb
   | fdc _=>simp [D.bK] at hb
   | cel _ _=>simp [D.bK] at hb
   | non=>cases ry;cases rv;exact ⟨RcAt.list_none h1 hu0,RcNeAt.list_none h1 hu0,EqAt.list_none h1 hu0⟩
   | bl _=>cases ry;cases rv;exact ⟨RcAt.list_bool _ h1 hu0,RcNeAt.list_bool _ h1 hu0,EqAt.list_bool _ h1 hu0⟩
   | int _=>cases ry;obtain ⟨t2,rfl⟩:=rv;exact ⟨RcAt.list_int _ _ h1 hu0,RcNeAt.list_int _ _ h1 hu0,EqAt.list_int _ _ h1 hu0⟩
   | str _=>cases ry;obtain ⟨t2,rfl⟩:=rv;exact ⟨RcAt.list_str _ _ h1 hu0,RcNeAt.list_str _ _ h1 hu0,EqAt.list_str _ _ h1 hu0⟩
   | tup es=>
    obtain ⟨q,ys,rfl,e2,r2⟩:=ry.dG;cases rv;obtain ⟨its2,vr2,h2⟩:=fB I e2;exact ⟨RcAt.list_tuple h1 h2 hu0,RcNeAt.list_tuple h1 h2 hu0,EqAt.list_tuple h1 h2 hu0⟩
   | lst es=>
    obtain ⟨q,ys,rfl,e2,r2⟩:=ry.eF (K:=X.K);cases rv;obtain ⟨its2,vr2,h2⟩:=k_ I e2;rw [D.bK] at hb;have z1:its1.toArray.size=ds.length:=by rw [List.size_toArray,<-vr1.length,r1.length]
    have z2:its2.toArray.size=es.length:=by rw [List.size_toArray,<-vr2.length,r2.length]
    have he:∀j (g1:j<its1.toArray.size) (g2:j<its2.toArray.size),EqAt A.in1 s its1.toArray[j] its2.toArray[j] (eqD (ds.getD j .non) (es.getD j .non)):=fun j g1 g2=>by
     obtain ⟨v1,w1,rr1⟩:=r1.getD (j:=j) (by lia);obtain ⟨v2,w2,rr2⟩:=r2.getD (j:=j) (by lia);obtain ⟨u1,k1,l1⟩:=vr1.get w1;obtain ⟨u2,k2,l2⟩:=vr2.get w2;have m1:its1.toArray[j]=u1:=by
      rw [List.getElem?_eq_getElem (by simpa using g1)] at k1;simpa using Option.some.inj k1
     have m2:its2.toArray[j]=u2:=by
      rw [List.getElem?_eq_getElem (by simpa using g2)] at k2;simpa using Option.some.inj k2
     rw [m1,m2];exact (ih A.in1 hu1 (cX ha (by lia)) (cX hb (by lia)) rr1 rr2 l1 l2).2.2
    have r00:RcAt A s (.ref p) (.ref q) (eqD (.lst ds) (.lst es))/\RcNeAt A s (.ref p) (.ref q) (!eqD (.lst ds) (.lst es)):=by
     rw [eqD,nY];by_cases hz:ds.length=es.length
     ·have r0:=RcAt.lists h1 h2 (by lia) hu0 he;have r0':=RcNeAt.lists h1 h2 (by lia) hu0 he;rw [z1] at r0 r0';rw [show min ds.length es.length=ds.length by lia,show (ds.length==es.length)=true by simpa using hz,Bool.and_true];exact ⟨r0,r0'⟩
     ·have hz':(its1.toArray.size != its2.toArray.size)=true:=by rw [z1,z2];simpa using hz
      rw [show (ds.length==es.length)=false by simpa using hz,Bool.and_false];exact ⟨RcAt.lists_lengths h1 h2 hz' hu0,RcNeAt.lists_lengths h1 h2 hz' hu0⟩
    obtain ⟨r0,r0'⟩:=r00;refine ⟨r0,r0',?_⟩;by_cases hpq:p=q
    ·subst hpq;have hab:(D.lst ds)=(.lst es):=Rep.inj (n+1) (by rw [D.bK];exact ha) (by rw [D.bK];exact hb) rx ry;rw [<-hab,uK (n+1) _ (by rw [D.bK];exact ha)];exact EqAt.same _
    ·exact EqAt.of_refs hpq r0
end
end Mi
end
section
namespace Mi
open PySem L2 PySem.SeqAt
open PySem.AutoSeq1 (wpAny_loadPart')
open PySem.MeetsSeq PySem.MeetsSeq2 PySem.MeetsSeq3
variable [KFrag]
noncomputable def e_.op:e_->CmpOp
 | .lt=>.Lt|.le=>.LtE|.gt=>.Gt|.ge=>.GtE
noncomputable def C_ (op:CmpOp) (A:Around) (s:Shared) (u v:Value) (b:Bool):Prop:=
 ∀(prog:Program) (w:World) (E:Value->Shared->Prop) (Q:Value->Shared->Prop),Q (.bool b) s->wpAny (model prog w) A (richCompare op u v) Q E s
noncomputable def C2 (o:e_) (A:Around) (s:Shared) (vs ws:List Value) (xs ys:List D):Prop:=
 vs.length=xs.length/\ws.length=ys.length/\∀(j:Nat) (v w:Value) (x y:D),vs[j]?=some v->ws[j]?=some w->xs[j]?=some x->ys[j]?=some y->
  EqAt A s v w (eqD x y)/\(eqD x y=false->∀k,cM o x y=some k->C_ o.op A s v w k)
theorem C2.tail {o:e_} {A:Around} {s:Shared} {v w:Value} {vs ws:List Value} {x y:D} {xs ys:List D} (h:C2 o A s (v::vs) (w::ws) (x::xs) (y::ys)):C2 o A s vs ws xs ys:=
 ⟨by simpa using h.1,by simpa using h.2.1,fun j a b c d e1 e2 e3 e4=>h.2.2 (j+1) a b c d (by simpa using e1) (by simpa using e2) (by simpa using e3) (by simpa using e4)⟩
theorem IW (l b:Addr) (items items2:Array Value) (n n2:Nat) (dd dd2:Option Addr) (sl sl2:Array (Option Value)) (xs ys:List D) (res:Bool) (hr:cG .lt xs ys=some res) :
  Meets (Builtin.«tuple.__lt__» ⟨[.ref l,.ref b],[]⟩)
   (fun A R s=>s.heap.get? l=some {cls:=.type "tuple",dict:=dd,data:=.seq items n,slots:=sl}/\s.heap.get? b=some {cls:=.type "tuple",dict:=dd2,data:=.seq items2 n2,slots:=sl2}/\
    C2 .lt A.in1 s items.toList items2.toList xs ys/\R (.ok (.ret (.bool res))) s):=
 .of_wp fun prog w A R s h=>by
  obtain ⟨hp,g,d,tk,os⟩:=s;obtain ⟨hl,hb,hC,h⟩:=h;have f2:=AutoSeq1.sub_tuple_tuple;have z1:items.size=xs.length:=by rw [<-hC.1];simp
  have z2:items2.size=ys.length:=by rw [<-hC.2.1];simp
  wp_walk using wpAny_loadPart' hl,wpAny_loadPart' hb,wpAny_forIn_list _ (fun rest b s'=>b.1=none/\s'=⟨hp,g,d,tk,os⟩/\∃(vs ws:List Value) (xs' ys':List D),rest=vs.zip ws/\
   C2 .lt A.in1 ⟨hp,g,d,tk,os⟩ vs ws xs' ys'/\xs'.length+items2.size=ys'.length+items.size/\cG .lt xs' ys'=some res) _
  case turn=>
   rintro ⟨y,x⟩ rest b s' ⟨hb',rfl,vs,ws,xs',ys',hz,hC',hlen,hR⟩;cases vs with
   | nil=>rw [List.zip_nil_left] at hz;cases hz
   | cons v vs=>
    cases ws with
    | nil=>rw [List.zip_nil_right] at hz;cases hz
    | cons w' ws=>
     rw [List.zip_cons_cons] at hz;injection hz with hyx hrest
     injection hyx with hy hx
     subst hy hx;cases xs' with
     | nil=>exact absurd hC'.1 (by simp)
     | cons x0 xs'=>
      cases ys' with
      | nil=>exact absurd hC'.2.1 (by simp)
      | cons y0 ys'=>
       rw [cG] at hR;simp only [List.length_cons] at hlen;obtain ⟨he,hlt⟩:=hC'.2.2 0 _ _ _ _ rfl rfl rfl rfl;refine wpAny_bind (he prog w _ _ ?_);cases e:eqD x0 y0 with
       | true=>
        rw [e] at hR;simp only [if_true] at hR
        wp_walk
        exact ⟨rfl,rfl,_,_,_,_,hrest,hC'.tail,by lia,hR⟩
       | false=>
        rw [e] at hR;simp only [Bool.false_eq_true,if_false] at hR;have hri:∀(E:Value->Shared->Prop) (Q:Value->Shared->Prop),Q (.bool res) ⟨hp,g,d,tk,os⟩->wpAny (model prog w) A.in1 (richCompare .Lt _ _) Q E ⟨hp,g,d,tk,os⟩:=fun E Q q=>hlt e res hR prog w E Q q
        wp_walk using hri
        exact ⟨_,rfl,by simpa using h⟩
  case fin=>
   rintro ⟨b1,b2⟩ s' ⟨hb',rfl,vs,ws,xs',ys',hz,hC',hlen,hR⟩;simp only at hb';subst hb';have hv:res=decide (items.size<items2.size):=by
    cases xs' with
    | nil=>
     rw [cG] at hR;have:=Option.some.inj hR;rw [<-this];simp only [List.length_nil] at hlen;simp only [e_.nat]
     congr 1
     simp only [eq_iff_iff];lia
    | cons x0 xs'=>
     cases ys' with
     | nil=>
      rw [cG] at hR;have:=Option.some.inj hR;rw [<-this];simp only [List.length_nil,List.length_cons] at hlen;simp only [e_.nat,List.length_cons]
      congr 1
      simp only [eq_iff_iff];lia
     | cons y0 ys'=>
      exfalso;cases vs with
      | nil=>exact absurd hC'.1 (by simp)
      | cons v vs=>
       cases ws with
       | nil=>exact absurd hC'.2.1 (by simp)
       | cons w' ws=>rw [List.zip_cons_cons] at hz;cases hz
   rw [hv] at h
   wp_walk
   exact ⟨_,rfl,by simpa [Builtin.Tuple.tupleCompareSizes] using h⟩
  case h=>
   exact ⟨rfl,rfl,items.toList,items2.toList,xs,ys,rfl,hC,by lia,hr⟩
theorem C_.aBu {A:Around} {s:Shared} {l b:Addr} {items items2:Array Value} {xs ys:List D} {res:Bool} (hl:s.heap.IsTuple l items) (hb:s.heap.IsTuple b items2) (hC:C2 .lt A.in1 s items.toList items2.toList xs ys) (hr:cG .lt xs ys=some res) (hu:A.units<cLine) :
  C_ .Lt A s (.ref l) (.ref b) res:=fun prog w E Q h=>by
 obtain ⟨⟨cls,dd,data,sl⟩,ho,hc,n,hd⟩:=id hl;obtain ⟨⟨cls2,dd2,data2,sl2⟩,ho2,hc2,n2,hd2⟩:=id hb;simp only at hc hd hc2 hd2;subst hc hd hc2 hd2;exact richCompare_meets_room (op:=.Lt) ⟨_,ho,rfl⟩ ⟨_,ho2,rfl⟩ PySem.F.slot_tuple_lt PySem.F.entry_tuple_lt (PySem.F.args_tuple_lt_2 _ _) (IW l b items items2 n n2 dd dd2 sl sl2 xs ys res hr)
  ⟨ho,ho2,hC,show Value.bool res≠Value.notImplemented/\Q (.bool res) s from ⟨(fun x=>nomatch x),h⟩⟩ hu
theorem I_ (l b:Addr) (items items2:Array Value) (n n2:Nat) (dd dd2:Option Addr) (sl sl2:Array (Option Value)) (xs ys:List D) (res:Bool) (hr:cG .le xs ys=some res) :
  Meets (Builtin.«tuple.__le__» ⟨[.ref l,.ref b],[]⟩)
   (fun A R s=>s.heap.get? l=some {cls:=.type "tuple",dict:=dd,data:=.seq items n,slots:=sl}/\s.heap.get? b=some {cls:=.type "tuple",dict:=dd2,data:=.seq items2 n2,slots:=sl2}/\
    C2 .le A.in1 s items.toList items2.toList xs ys/\R (.ok (.ret (.bool res))) s):=
 .of_wp fun prog w A R s h=>by
  obtain ⟨hp,g,d,tk,os⟩:=s;obtain ⟨hl,hb,hC,h⟩:=h;have f2:=AutoSeq1.sub_tuple_tuple;have z1:items.size=xs.length:=by rw [<-hC.1];simp
  have z2:items2.size=ys.length:=by rw [<-hC.2.1];simp
  wp_walk using wpAny_loadPart' hl,wpAny_loadPart' hb,wpAny_forIn_list _ (fun rest b s'=>b.1=none/\s'=⟨hp,g,d,tk,os⟩/\∃(vs ws:List Value) (xs' ys':List D),rest=vs.zip ws/\
   C2 .le A.in1 ⟨hp,g,d,tk,os⟩ vs ws xs' ys'/\xs'.length+items2.size=ys'.length+items.size/\cG .le xs' ys'=some res) _
  case turn=>
   rintro ⟨y,x⟩ rest b s' ⟨hb',rfl,vs,ws,xs',ys',hz,hC',hlen,hR⟩;cases vs with
   | nil=>rw [List.zip_nil_left] at hz;cases hz
   | cons v vs=>
    cases ws with
    | nil=>rw [List.zip_nil_right] at hz;cases hz
    | cons w' ws=>
     rw [List.zip_cons_cons] at hz;injection hz with hyx hrest
     injection hyx with hy hx
     subst hy hx;cases xs' with
     | nil=>exact absurd hC'.1 (by simp)
     | cons x0 xs'=>
      cases ys' with
      | nil=>exact absurd hC'.2.1 (by simp)
      | cons y0 ys'=>
       rw [cG] at hR;simp only [List.length_cons] at hlen;obtain ⟨he,hlt⟩:=hC'.2.2 0 _ _ _ _ rfl rfl rfl rfl;refine wpAny_bind (he prog w _ _ ?_);cases e:eqD x0 y0 with
       | true=>
        rw [e] at hR;simp only [if_true] at hR
        wp_walk
        exact ⟨rfl,rfl,_,_,_,_,hrest,hC'.tail,by lia,hR⟩
       | false=>
        rw [e] at hR;simp only [Bool.false_eq_true,if_false] at hR;have hri:∀(E:Value->Shared->Prop) (Q:Value->Shared->Prop),Q (.bool res) ⟨hp,g,d,tk,os⟩->wpAny (model prog w) A.in1 (richCompare .LtE _ _) Q E ⟨hp,g,d,tk,os⟩:=fun E Q q=>hlt e res hR prog w E Q q
        wp_walk using hri
        exact ⟨_,rfl,by simpa using h⟩
  case fin=>
   rintro ⟨b1,b2⟩ s' ⟨hb',rfl,vs,ws,xs',ys',hz,hC',hlen,hR⟩;simp only at hb';subst hb';have hv:res=decide (items.size<=items2.size):=by
    cases xs' with
    | nil=>
     rw [cG] at hR;have:=Option.some.inj hR;rw [<-this];simp only [List.length_nil] at hlen;simp only [e_.nat]
     congr 1
     simp only [eq_iff_iff];lia
    | cons x0 xs'=>
     cases ys' with
     | nil=>
      rw [cG] at hR;have:=Option.some.inj hR;rw [<-this];simp only [List.length_nil,List.length_cons] at hlen;simp only [e_.nat,List.length_cons]
      congr 1
      simp only [eq_iff_iff];lia
     | cons y0 ys'=>
      exfalso;cases vs with
      | nil=>exact absurd hC'.1 (by simp)
      | cons v vs=>
       cases ws with
       | nil=>exact absurd hC'.2.1 (by simp)
       | cons w' ws=>rw [List.zip_cons_cons] at hz;cases hz
   rw [hv] at h
   wp_walk
   exact ⟨_,rfl,by simpa [Builtin.Tuple.tupleCompareSizes] using h⟩
  case h=>
   exact ⟨rfl,rfl,items.toList,items2.toList,xs,ys,rfl,hC,by lia,hr⟩
theorem C_.aBv {A:Around} {s:Shared} {l b:Addr} {items items2:Array Value} {xs ys:List D} {res:Bool} (hl:s.heap.IsTuple l items) (hb:s.heap.IsTuple b items2) (hC:C2 .le A.in1 s items.toList items2.toList xs ys) (hr:cG .le xs ys=some res) (hu:A.units<cLine) :
  C_ .LtE A s (.ref l) (.ref b) res:=fun prog w E Q h=>by
 obtain ⟨⟨cls,dd,data,sl⟩,ho,hc,n,hd⟩:=id hl;obtain ⟨⟨cls2,dd2,data2,sl2⟩,ho2,hc2,n2,hd2⟩:=id hb;simp only at hc hd hc2 hd2;subst hc hd hc2 hd2;exact richCompare_meets_room (op:=.LtE) ⟨_,ho,rfl⟩ ⟨_,ho2,rfl⟩ PySem.F.slot_tuple_le PySem.F.entry_tuple_le (PySem.F.args_tuple_le_2 _ _) (I_ l b items items2 n n2 dd dd2 sl sl2 xs ys res hr)
  ⟨ho,ho2,hC,show Value.bool res≠Value.notImplemented/\Q (.bool res) s from ⟨(fun x=>nomatch x),h⟩⟩ hu
theorem JB (l b:Addr) (items items2:Array Value) (n n2:Nat) (dd dd2:Option Addr) (sl sl2:Array (Option Value)) (xs ys:List D) (res:Bool) (hr:cG .gt xs ys=some res) :
  Meets (Builtin.«tuple.__gt__» ⟨[.ref l,.ref b],[]⟩)
   (fun A R s=>s.heap.get? l=some {cls:=.type "tuple",dict:=dd,data:=.seq items n,slots:=sl}/\s.heap.get? b=some {cls:=.type "tuple",dict:=dd2,data:=.seq items2 n2,slots:=sl2}/\
    C2 .gt A.in1 s items.toList items2.toList xs ys/\R (.ok (.ret (.bool res))) s):=
 .of_wp fun prog w A R s h=>by
  obtain ⟨hp,g,d,tk,os⟩:=s;obtain ⟨hl,hb,hC,h⟩:=h;have f2:=AutoSeq1.sub_tuple_tuple;have z1:items.size=xs.length:=by rw [<-hC.1];simp
  have z2:items2.size=ys.length:=by rw [<-hC.2.1];simp
  wp_walk using wpAny_loadPart' hl,wpAny_loadPart' hb,wpAny_forIn_list _ (fun rest b s'=>b.1=none/\s'=⟨hp,g,d,tk,os⟩/\∃(vs ws:List Value) (xs' ys':List D),rest=vs.zip ws/\
   C2 .gt A.in1 ⟨hp,g,d,tk,os⟩ vs ws xs' ys'/\xs'.length+items2.size=ys'.length+items.size/\cG .gt xs' ys'=some res) _
  case turn=>
   rintro ⟨y,x⟩ rest b s' ⟨hb',rfl,vs,ws,xs',ys',hz,hC',hlen,hR⟩;cases vs with
   | nil=>rw [List.zip_nil_left] at hz;cases hz
   | cons v vs=>
    cases ws with
    | nil=>rw [List.zip_nil_right] at hz;cases hz
    | cons w' ws=>
     rw [List.zip_cons_cons] at hz;injection hz with hyx hrest
     injection hyx with hy hx
     subst hy hx;cases xs' with
     | nil=>exact absurd hC'.1 (by simp)
     | cons x0 xs'=>
      cases ys' with
      | nil=>exact absurd hC'.2.1 (by simp)
      | cons y0 ys'=>
       rw [cG] at hR;simp only [List.length_cons] at hlen;obtain ⟨he,hlt⟩:=hC'.2.2 0 _ _ _ _ rfl rfl rfl rfl;refine wpAny_bind (he prog w _ _ ?_);cases e:eqD x0 y0 with
       | true=>
        rw [e] at hR;simp only [if_true] at hR
        wp_walk
        exact ⟨rfl,rfl,_,_,_,_,hrest,hC'.tail,by lia,hR⟩
       | false=>
        rw [e] at hR;simp only [Bool.false_eq_true,if_false] at hR;have hri:∀(E:Value->Shared->Prop) (Q:Value->Shared->Prop),Q (.bool res) ⟨hp,g,d,tk,os⟩->wpAny (model prog w) A.in1 (richCompare .Gt _ _) Q E ⟨hp,g,d,tk,os⟩:=fun E Q q=>hlt e res hR prog w E Q q
        wp_walk using hri
        exact ⟨_,rfl,by simpa using h⟩
  case fin=>
   rintro ⟨b1,b2⟩ s' ⟨hb',rfl,vs,ws,xs',ys',hz,hC',hlen,hR⟩;simp only at hb';subst hb';have hv:res=decide (items2.size<items.size):=by
    cases xs' with
    | nil=>
     rw [cG] at hR;have:=Option.some.inj hR;rw [<-this];simp only [List.length_nil] at hlen;simp only [e_.nat]
     congr 1
     simp only [eq_iff_iff];lia
    | cons x0 xs'=>
     cases ys' with
     | nil=>
      rw [cG] at hR;have:=Option.some.inj hR;rw [<-this];simp only [List.length_nil,List.length_cons] at hlen;simp only [e_.nat,List.length_cons]
      congr 1
      simp only [eq_iff_iff];lia
     | cons y0 ys'=>
      exfalso;cases vs with
      | nil=>exact absurd hC'.1 (by simp)
      | cons v vs=>
       cases ws with
       | nil=>exact absurd hC'.2.1 (by simp)
       | cons w' ws=>rw [List.zip_cons_cons] at hz;cases hz
   rw [hv] at h
   wp_walk
   exact ⟨_,rfl,by simpa [Builtin.Tuple.tupleCompareSizes] using h⟩
  case h=>
   exact ⟨rfl,rfl,items.toList,items2.toList,xs,ys,rfl,hC,by lia,hr⟩
theorem C_.aBw {A:Around} {s:Shared} {l b:Addr} {items items2:Array Value} {xs ys:List D} {res:Bool} (hl:s.heap.IsTuple l items) (hb:s.heap.IsTuple b items2) (hC:C2 .gt A.in1 s items.toList items2.toList xs ys) (hr:cG .gt xs ys=some res) (hu:A.units<cLine) :
  C_ .Gt A s (.ref l) (.ref b) res:=fun prog w E Q h=>by
 obtain ⟨⟨cls,dd,data,sl⟩,ho,hc,n,hd⟩:=id hl;obtain ⟨⟨cls2,dd2,data2,sl2⟩,ho2,hc2,n2,hd2⟩:=id hb;simp only at hc hd hc2 hd2;subst hc hd hc2 hd2;exact richCompare_meets_room (op:=.Gt) ⟨_,ho,rfl⟩ ⟨_,ho2,rfl⟩ PySem.F.slot_tuple_gt PySem.F.entry_tuple_gt (PySem.F.args_tuple_gt_2 _ _) (JB l b items items2 n n2 dd dd2 sl sl2 xs ys res hr)
  ⟨ho,ho2,hC,show Value.bool res≠Value.notImplemented/\Q (.bool res) s from ⟨(fun x=>nomatch x),h⟩⟩ hu
theorem JC (l b:Addr) (items items2:Array Value) (n n2:Nat) (dd dd2:Option Addr) (sl sl2:Array (Option Value)) (xs ys:List D) (res:Bool) (hr:cG .ge xs ys=some res) :
  Meets (Builtin.«tuple.__ge__» ⟨[.ref l,.ref b],[]⟩)
   (fun A R s=>s.heap.get? l=some {cls:=.type "tuple",dict:=dd,data:=.seq items n,slots:=sl}/\s.heap.get? b=some {cls:=.type "tuple",dict:=dd2,data:=.seq items2 n2,slots:=sl2}/\
    C2 .ge A.in1 s items.toList items2.toList xs ys/\R (.ok (.ret (.bool res))) s):=
 .of_wp fun prog w A R s h=>by
  obtain ⟨hp,g,d,tk,os⟩:=s;obtain ⟨hl,hb,hC,h⟩:=h;have f2:=AutoSeq1.sub_tuple_tuple;have z1:items.size=xs.length:=by rw [<-hC.1];simp
  have z2:items2.size=ys.length:=by rw [<-hC.2.1];simp
  wp_walk using wpAny_loadPart' hl,wpAny_loadPart' hb,wpAny_forIn_list _ (fun rest b s'=>b.1=none/\s'=⟨hp,g,d,tk,os⟩/\∃(vs ws:List Value) (xs' ys':List D),rest=vs.zip ws/\
   C2 .ge A.in1 ⟨hp,g,d,tk,os⟩ vs ws xs' ys'/\xs'.length+items2.size=ys'.length+items.size/\cG .ge xs' ys'=some res) _
  case turn=>
   rintro ⟨y,x⟩ rest b s' ⟨hb',rfl,vs,ws,xs',ys',hz,hC',hlen,hR⟩;cases vs with
   | nil=>rw [List.zip_nil_left] at hz;cases hz
   | cons v vs=>
    cases ws with
    | nil=>rw [List.zip_nil_right] at hz;cases hz
    | cons w' ws=>
     rw [List.zip_cons_cons] at hz;injection hz with hyx hrest
     injection hyx with hy hx
     subst hy hx;cases xs' with
     | nil=>exact absurd hC'.1 (by simp)
     | cons x0 xs'=>
      cases ys' with
      | nil=>exact absurd hC'.2.1 (by simp)
      | cons y0 ys'=>
       rw [cG] at hR;simp only [List.length_cons] at hlen;obtain ⟨he,hlt⟩:=hC'.2.2 0 _ _ _ _ rfl rfl rfl rfl;refine wpAny_bind (he prog w _ _ ?_);cases e:eqD x0 y0 with
       | true=>
        rw [e] at hR;simp only [if_true] at hR
        wp_walk
        exact ⟨rfl,rfl,_,_,_,_,hrest,hC'.tail,by lia,hR⟩
       | false=>
        rw [e] at hR;simp only [Bool.false_eq_true,if_false] at hR;have hri:∀(E:Value->Shared->Prop) (Q:Value->Shared->Prop),Q (.bool res) ⟨hp,g,d,tk,os⟩->wpAny (model prog w) A.in1 (richCompare .GtE _ _) Q E ⟨hp,g,d,tk,os⟩:=fun E Q q=>hlt e res hR prog w E Q q
        wp_walk using hri
        exact ⟨_,rfl,by simpa using h⟩
  case fin=>
   rintro ⟨b1,b2⟩ s' ⟨hb',rfl,vs,ws,xs',ys',hz,hC',hlen,hR⟩;simp only at hb';subst hb';have hv:res=decide (items2.size<=items.size):=by
    cases xs' with
    | nil=>
     rw [cG] at hR;have:=Option.some.inj hR;rw [<-this];simp only [List.length_nil] at hlen;simp only [e_.nat]
     congr 1
     simp only [eq_iff_iff];lia
    | cons x0 xs'=>
     cases ys' with
     | nil=>
      rw [cG] at hR;have:=Option.some.inj hR;rw [<-this];simp only [List.length_nil,List.length_cons] at hlen;simp only [e_.nat,List.length_cons]
      congr 1
      simp only [eq_iff_iff];lia
     | cons y0 ys'=>
      exfalso;cases vs with
      | nil=>exact absurd hC'.1 (by simp)
      | cons v vs=>
       cases ws with
       | nil=>exact absurd hC'.2.1 (by simp)
       | cons w' ws=>rw [List.zip_cons_cons] at hz;cases hz
   rw [hv] at h
   wp_walk
   exact ⟨_,rfl,by simpa [Builtin.Tuple.tupleCompareSizes] using h⟩
  case h=>
   exact ⟨rfl,rfl,items.toList,items2.toList,xs,ys,rfl,hC,by lia,hr⟩
theorem C_.aBx {A:Around} {s:Shared} {l b:Addr} {items items2:Array Value} {xs ys:List D} {res:Bool} (hl:s.heap.IsTuple l items) (hb:s.heap.IsTuple b items2) (hC:C2 .ge A.in1 s items.toList items2.toList xs ys) (hr:cG .ge xs ys=some res) (hu:A.units<cLine) :
  C_ .GtE A s (.ref l) (.ref b) res:=fun prog w E Q h=>by
 obtain ⟨⟨cls,dd,data,sl⟩,ho,hc,n,hd⟩:=id hl;obtain ⟨⟨cls2,dd2,data2,sl2⟩,ho2,hc2,n2,hd2⟩:=id hb;simp only at hc hd hc2 hd2;subst hc hd hc2 hd2;exact richCompare_meets_room (op:=.GtE) ⟨_,ho,rfl⟩ ⟨_,ho2,rfl⟩ PySem.F.slot_tuple_ge PySem.F.entry_tuple_ge (PySem.F.args_tuple_ge_2 _ _) (JC l b items items2 n n2 dd dd2 sl sl2 xs ys res hr)
  ⟨ho,ho2,hC,show Value.bool res≠Value.notImplemented/\Q (.bool res) s from ⟨(fun x=>nomatch x),h⟩⟩ hu
section
variable {X:Cx} {pins:List (Addr×Obj)} {σ:St} {H:Hp} {s:Shared}
theorem zL (I:Inv X pins σ H s) (o:e_):∀(n:Nat) (A:Around) {x y:V} {a b:D} {u v:Value} {k:Bool},A.units+n<cLine->a.bK n=true->b.bK n=true->Rep All H x a->Rep All H y b->RelV x u->RelV y v->
  cM o a b=some k->C_ o.op A s u v k:=by
 intro n;induction n with
 | zero=>
  intro A x y a b u v k hu ha hb rx ry ru rv hk;cases a with
  | int i=>
   cases b with
   | int j=>
    cases rx;cases ry;obtain ⟨t,rfl⟩:=ru;obtain ⟨t',rfl⟩:=rv;rw [cM] at hk;have:=Option.some.inj hk;subst this;cases o with
    | lt=>exact fun prog w E Q h=>(PyProof.Rows.lt_int h:wpAny (model prog w) A (compareOp .Lt (.int i t) (.int j t')) Q E s)
    | le=>exact fun prog w E Q h=>(PyProof.Rows.le_int h:wpAny (model prog w) A (compareOp .LtE (.int i t) (.int j t')) Q E s)
    | gt=>exact fun prog w E Q h=>(PyProof.Rows.gt_int h:wpAny (model prog w) A (compareOp .Gt (.int i t) (.int j t')) Q E s)
    | ge=>exact fun prog w E Q h=>(PyProof.Rows.ge_int h:wpAny (model prog w) A (compareOp .GtE (.int i t) (.int j t')) Q E s)
   | _=>simp [cM] at hk
  | str i=>
   cases b with
   | str j=>
    cases rx;cases ry;obtain ⟨t,rfl⟩:=ru;obtain ⟨t',rfl⟩:=rv;rw [cM] at hk;have:=Option.some.inj hk;subst this;cases o with
    | lt=>exact fun prog w E Q h=>(PyProof.Rows.lt_str h:wpAny (model prog w) A (compareOp .Lt (.str i t) (.str j t')) Q E s)
    | le=>exact fun prog w E Q h=>(PySem.P.le_str h:wpAny (model prog w) A (compareOp .LtE (.str i t) (.str j t')) Q E s)
    | gt=>exact fun prog w E Q h=>(PySem.P.gt_str h:wpAny (model prog w) A (compareOp .Gt (.str i t) (.str j t')) Q E s)
    | ge=>exact fun prog w E Q h=>(PySem.P.ge_str h:wpAny (model prog w) A (compareOp .GtE (.str i t) (.str j t')) Q E s)
   | _=>simp [cM] at hk
  | tup _=>simp [D.bK] at ha
  | _=>cases b <;> simp [cM] at hk
 | succ n ih=>
  intro A x y a b u v k hu ha hb rx ry ru rv hk;have hu0:A.units<cLine:=by lia
  have hu1:A.in1.units+n<cLine:=by show A.units+1+n<cLine;lia
  cases a with
  | int i=>
   cases b with
   | int j=>
    cases rx;cases ry;obtain ⟨t,rfl⟩:=ru;obtain ⟨t',rfl⟩:=rv;rw [cM] at hk;have:=Option.some.inj hk;subst this;cases o with
    | lt=>exact fun prog w E Q h=>(PyProof.Rows.lt_int h:wpAny (model prog w) A (compareOp .Lt (.int i t) (.int j t')) Q E s)
    | le=>exact fun prog w E Q h=>(PyProof.Rows.le_int h:wpAny (model prog w) A (compareOp .LtE (.int i t) (.int j t')) Q E s)
    | gt=>exact fun prog w E Q h=>(PyProof.Rows.gt_int h:wpAny (model prog w) A (compareOp .Gt (.int i t) (.int j t')) Q E s)
    | ge=>exact fun prog w E Q h=>(PyProof.Rows.ge_int h:wpAny (model prog w) A (compareOp .GtE (.int i t) (.int j t')) Q E s)
   | _=>simp [cM] at hk
  | str i=>
   cases b with
   | str j=>
    cases rx;cases ry;obtain ⟨t,rfl⟩:=ru;obtain ⟨t',rfl⟩:=rv;rw [cM] at hk;have:=Option.some.inj hk;subst this;cases o with
    | lt=>exact fun prog w E Q h=>(PyProof.Rows.lt_str h:wpAny (model prog w) A (compareOp .Lt (.str i t) (.str j t')) Q E s)
    | le=>exact fun prog w E Q h=>(PySem.P.le_str h:wpAny (model prog w) A (compareOp .LtE (.str i t) (.str j t')) Q E s)
    | gt=>exact fun prog w E Q h=>(PySem.P.gt_str h:wpAny (model prog w) A (compareOp .Gt (.str i t) (.str j t')) Q E s)
    | ge=>exact fun prog w E Q h=>(PySem.P.ge_str h:wpAny (model prog w) A (compareOp .GtE (.str i t) (.str j t')) Q E s)
   | _=>simp [cM] at hk
  | tup ds=>
   cases b with
   | tup es=>
    obtain ⟨p,xs,rfl,e1,r1⟩:=rx.dG;cases ru;obtain ⟨its1,vr1,h1⟩:=fB I e1;obtain ⟨q,ys,rfl,e2,r2⟩:=ry.dG;cases rv;obtain ⟨its2,vr2,h2⟩:=fB I e2;rw [D.bK] at ha hb;rw [cM] at hk;have hC:∀o',o'=o->C2 o' A.in1 s its1.toArray.toList its2.toArray.toList ds es:=by
     rintro o' rfl;refine ⟨by rw [List.toList_toArray,<-vr1.length,r1.length],by rw [List.toList_toArray,<-vr2.length,r2.length],fun j v w x y a1 a2 a3 a4=>?_⟩;rw [List.toList_toArray] at a1 a2;obtain ⟨v1,w1,rr1⟩:=r1.get a3;obtain ⟨v2,w2,rr2⟩:=r2.get a4;obtain ⟨u1,k1,l1⟩:=vr1.get w1;obtain ⟨u2,k2,l2⟩:=vr2.get w2;rw [a1] at k1;cases k1;rw [a2] at k2;cases k2;have g1:x.bK n=true:=by
      have:=cX (j:=j) ha (List.getElem?_eq_some_iff.mp a3).1;rwa [List.getD_eq_getElem?_getD,a3] at this
     have g2:y.bK n=true:=by
      have:=cX (j:=j) hb (List.getElem?_eq_some_iff.mp a4).1;rwa [List.getD_eq_getElem?_getD,a4] at this
     exact ⟨(wQ I n A.in1 hu1 g1 g2 rr1 rr2 l1 l2).2.2,fun _ k hk=>ih A.in1 hu1 g1 g2 rr1 rr2 l1 l2 hk⟩
    cases o with
    | lt=>exact C_.aBu h1 h2 (hC .lt rfl) hk hu0
    | le=>exact C_.aBv h1 h2 (hC .le rfl) hk hu0
    | gt=>exact C_.aBw h1 h2 (hC .gt rfl) hk hu0
    | ge=>exact C_.aBx h1 h2 (hC .ge rfl) hk hu0
   | _=>simp [cM] at hk
  | _=>cases b <;> simp [cM] at hk
end
end Mi
end
section
namespace TS
open PySem PyProof.Rows
theorem uL {prog:Program} {w:World} {A:Around} {E:Value->Shared->Prop} {s:Shared} {a:Addr} {vs:List Value} {n:Nat} {P:Fin->Shared->Prop} (ho:s.heap.get? a=some (seqObj "list" vs.toArray n)) (hn:vs.length<=sizeLine)
  (hk:2<=vs.length->∃κ U blt,Ord U blt/\mJ U (pairsOf vs)/\
   (∀Q:SortKind->Shared->Prop,Q κ {s with heap:=((s.heap.update a (Obj.mapSeq fun _=>(#[]:Array Value))).push (seqObj "tuple" vs.toArray 0)).push (seqObj "list" #[] 0)}->wpAny (model prog w) A (keyKind' vs.toArray) Q E {s with heap:=((s.heap.update a (Obj.mapSeq fun _=>(#[]:Array Value))).push (seqObj "tuple" vs.toArray 0)).push (seqObj "list" #[] 0)})/\
   HW prog w A E {s with heap:=((s.heap.update a (Obj.mapSeq fun _=>(#[]:Array Value))).push (seqObj "tuple" vs.toArray 0)).push (seqObj "list" #[] 0)} κ U blt/\
   ∀arr:Array Keyed,arr.Perm (pairsOf vs)->Srt blt arr 0 (pairsOf vs).size->P (.done (.ret .none)) {s with heap:=sortedHeap s.heap a vs (arr.map (·.2))})
  (h1:vs.length<2->P (.done (.ret .none)) {s with heap:=sortedHeap s.heap a vs ((pairsOf vs).map (·.2))}) :
  wpAny (model prog w) A (Builtin.«list.sort» ⟨[.ref a],[]⟩) P E s:=by
 rw [list_sort_plain];have ha:a<s.heap.objs.size:=Heap.lt_size ho;refine wpAny_bind (listItems_at ho rfl ?_);refine wpAny_bind (listUpdate_at ho rfl ?_ (by rw [List.size_toArray];exact hn) (Nat.zero_le _));obtain ⟨e1,ho1⟩:∃e1,(s.heap.update a (Obj.mapSeq fun _=>(#[]:Array Value))).get? a=some (seqObj "list" #[] e1):=⟨_,get?_update_seq ho (fun _=>#[])⟩
 refine wpAny_bind (seqEpoch_at ho1 rfl ?_);refine wpAny_bind (wpAny_newTuple ?_ (by show vs.length<=_;exact hn));refine wpAny_bind (wpAny_newList ?_ (Nat.zero_le _));refine wpAny_holding ?_;have ho6:(((s.heap.update a (Obj.mapSeq fun _=>(#[]:Array Value))).push (seqObj "tuple" vs.toArray 0)).push (seqObj "list" #[] 0)).get? a=some (seqObj "list" #[] e1):=by
  rw [Heap.get?_push_ne _ _ _ (by rw [size_push',Heap.size_update];exact Nat.ne_of_lt (Nat.lt_succ_of_lt ha)),Heap.get?_push_ne _ _ _ (by rw [Heap.size_update];exact Nat.ne_of_lt ha)];exact ho1
 show wpAny (model prog w) A _ P E {s with heap:=((s.heap.update a (Obj.mapSeq fun _=>(#[]:Array Value))).push (seqObj "tuple" vs.toArray 0)).push (seqObj "list" #[] 0)};dsimp only;have hsz:vs.toArray.size=vs.length:=by simp
 by_cases h2:vs.toArray.size<2
 ·rw [if_pos h2,if_pos h2];refine wpAny_bind (wpAny_pure ?_);rw [StateT.run_pure];refine wpAny_bind (wpAny_pure ?_);dsimp only;refine wpAny_bind (seqEpoch_at ho6 rfl ?_);refine wpAny_bind (listUpdate_at ho6 rfl ?_ (Nat.zero_le _) (hsz2:=by rw [Array.size_map];show (pairsOf vs).size<=_;rw [pairsOf_size];exact Nat.le_succ_of_le hn));simp only [bne_self_eq_false,Bool.false_eq_true,if_false];exact wpAny_pure (h1 (by lia))
 ·rw [if_neg h2,if_neg h2];obtain ⟨κ,U,blt,O,hU,hkk,hL,fin⟩:=hk (by lia);refine wpAny_bind (hkk _ ?_);refine wpAny_bind (wpAny_mono (wpS_sortRuns (a₀:=pairsOf vs) (st:=SortSt.mk' κ (vs.toArray.zip vs.toArray) #[] 7 none)
   (Q:=fun _ st'=>(arrOf st').Perm (pairsOf vs)/\failedOf st'=none/\Srt blt (arrOf st') 0 (pairsOf vs).size) O hL hU ⟨rfl,rfl,Array.Perm.refl _⟩ rfl (by rw [pairsOf_size];lia) fun st' b z=>⟨b.pm,b.fl,z⟩) ?_ fun _ _ e=>e)
  rintro ⟨⟨⟩,st'⟩ s' ⟨rfl,hp,hf,hs⟩;dsimp only;refine wpAny_bind (seqEpoch_at ho6 rfl ?_);refine wpAny_bind (listUpdate_at ho6 rfl ?_ (Nat.zero_le _) (hsz2:=by refine Nat.le_trans (Nat.le_of_eq ((Array.size_map ..).trans (hp.size_eq.trans (pairsOf_size _)))) ?_;exact Nat.le_succ_of_le hn));rw [hf];simp only [bne_self_eq_false,Bool.false_eq_true,if_false];exact wpAny_pure (fin (arrOf st') hp hs)
noncomputable def aAp (h:Heap) (vs:List Value):Heap:=
 (((h.push (seqObj "list" vs.toArray 0)).update h.objs.size (Obj.mapSeq fun _=>(#[]:Array Value))).push (seqObj "tuple" vs.toArray 0)).push (seqObj "list" #[] 0)
theorem T9 {h:Heap} {vs:List Value} {b:Addr} {o:Obj} (hb:h.get? b=some o):(aAp h vs).get? b=some o:=by
 have hlt:b<h.objs.size:=Heap.lt_size hb;unfold aAp;refine Heap.get?_push_of_some _ (Heap.get?_push_of_some _ ?_);rw [Heap.get?_update_ne _ _ _ _ (Nat.ne_of_lt hlt)];exact Heap.get?_push_of_some _ hb
noncomputable def aAq (h:Heap) (vs:List Value) (out:Array Value):Heap:=sortedHeap (h.push (seqObj "list" vs.toArray 0)) h.objs.size vs out
theorem T_ {h:Heap} {vs:List Value} {out:Array Value} {b:Addr} {o:Obj} (hb:h.get? b=some o):(aAq h vs out).get? b=some o:=by
 have hlt:b<h.objs.size:=Heap.lt_size hb;unfold aAq;rw [sortedHeap_old (Nat.ne_of_lt hlt) (by rw [size_push'];exact Nat.lt_succ_of_lt hlt)];exact Heap.get?_push_of_some _ hb
theorem Y5 (h:Heap) (vs:List Value) (out:Array Value):∃e,(aAq h vs out).get? h.objs.size=some (seqObj "list" out e):=sortedHeap_at (n:=0) (Heap.get?_push_size _ rfl)
theorem JD {prog:Program} {w:World} {A:Around} {E:Value->Shared->Prop} {s:Shared} {v:Value} {vs:List Value} {Q:Value->Shared->Prop} (hn:vs.length<=sizeLine)
  (hcol:∀(Q':List Value->Shared->Prop) (E':Value->Shared->Prop),(∀h1 tk,(∀b o,s.heap.get? b=some o->h1.get? b=some o)->s.heap.objs.size<=h1.objs.size->Q' vs {s with heap:=h1,toks:=tk})->wpAny (model prog w) A.in1 (collect v) Q' E' s)
  (hk:∀h1 tk,(∀b o,s.heap.get? b=some o->h1.get? b=some o)->s.heap.objs.size<=h1.objs.size->2<=vs.length->∃κ U blt,Ord U blt/\mJ U (pairsOf vs)/\
   (∀Q:SortKind->Shared->Prop,Q κ {s with heap:=aAp h1 vs,toks:=tk}->wpAny (model prog w) A.in1.in1 (keyKind' vs.toArray) Q (fun _ _=>False) {s with heap:=aAp h1 vs,toks:=tk})/\
   HW prog w A.in1.in1 (fun _ _=>False) {s with heap:=aAp h1 vs,toks:=tk} κ U blt/\
   ∀arr:Array Keyed,arr.Perm (pairsOf vs)->Srt blt arr 0 (pairsOf vs).size->Q (.ref h1.objs.size) {s with heap:=aAq h1 vs (arr.map (·.2)),toks:=tk})
  (h1:∀h1 tk,(∀b o,s.heap.get? b=some o->h1.get? b=some o)->s.heap.objs.size<=h1.objs.size->vs.length<2->Q (.ref h1.objs.size) {s with heap:=aAq h1 vs ((pairsOf vs).map (·.2)),toks:=tk}) :
  wpAny (model prog w) A (call (.builtin "sorted") [v]) Q E s:=by
 refine Calls.call_function_entry kind_sorted plain_sorted entry_sorted (args_sorted1 _) ?_;unfold Builtin.«sorted»;refine wpAny_bind (m:=checkCount "sorted" 1 1 _) (wpAny_pure ?_);refine wpAny_bind (hcol _ _ fun hh tk kp hle=>?_);refine wpAny_bind (wpAny_newList ?_ hn);have hoL:(hh.push (seqObj "list" vs.toArray 0)).get? hh.objs.size=some (seqObj "list" vs.toArray 0):=Heap.get?_push_size _ rfl;show wpAny _ _ _ _ _ {s with heap:=hh.push (seqObj "list" vs.toArray 0),toks:=tk};refine wpAny_bind (wpAny_holding (wpAny_call_entry slot_list_sort ⟨_,hoL,rfl⟩ entry_list_sort ?body (args_list_sort _)))
 case body=>
  refine wpAny_mono (uL (s:={s with heap:=hh.push (seqObj "list" vs.toArray 0),toks:=tk}) (E:=fun _ _=>False) (P:=fun f s'=>∃v,f=.done (.ret v)/\v=Value.none/\Q (.ref hh.objs.size) s') hoL hn (fun h2=>?_) (fun h2=>⟨_,rfl,rfl,h1 hh tk kp hle h2⟩)) (fun f s' h=>?_) fun _ _ z=>False.elim z
  ·obtain ⟨κ,U,blt,O,hU,hkk,hL,fin⟩:=hk hh tk kp hle h2;exact ⟨κ,U,blt,O,hU,hkk,hL,fun arr p z=>⟨_,rfl,rfl,fin arr p z⟩⟩
  ·obtain ⟨v,rfl,rfl,q⟩:=h;exact ⟨_,rfl,wpAny_pure ⟨_,rfl,q⟩⟩
end TS
end
section
namespace Mi
open PySem L2 PySem.SeqAt
open PyProof.Rows (Keyed lt' keyLt' oneLt' SortKind SortSt kindOf tuples' oneType' pairsOf wpS wpS_bind wpS_pure wpS_get wpS_lift keyKind')
variable [KFrag]
noncomputable def jC (H:Hp) (u:Value):D:=by
 classical
 exact if h:∃d,d.plain=true/\d.bK aP=true/\∃v,RelV v u/\Rep All H v d then Classical.choose h else .non
theorem pC {H:Hp} {u:Value} {v:V} {d:D} (hp:d.plain=true) (hq:d.bK aP=true) (rv:RelV v u) (r:Rep All H v d):jC H u=d:=by
 unfold jC;have h:∃d,d.plain=true/\d.bK aP=true/\∃v,RelV v u/\Rep All H v d:=⟨d,hp,hq,v,rv,r⟩
 rw [dif_pos h];obtain ⟨h1,h2,v',rv',r'⟩:=Classical.choose_spec h;have:=rv'.inj rv;subst this;exact Rep.inj aP h2 hq r' r
theorem cU {ds:List D} (h:bL ds=true) {a:D} (ha:a∈ds):a.plain=true/\a.bK aP=true/\dJ a≠0/\dJ a=dJ (ds.headD .non)/\∀b∈ds,∃k,cM .lt a b=some k:=by
 unfold bL at h;have:=List.all_eq_true.mp h a ha;simp only [Bool.and_eq_true,bne_iff_ne,beq_iff_eq] at this;obtain ⟨⟨⟨⟨h1,h2⟩,h3⟩,h4⟩,h5⟩:=this;refine ⟨h1,h2,h3,h4,fun b hb=>Option.isSome_iff_exists.mp (List.all_eq_true.mp h5 b hb)⟩
theorem aBy {ds:List D} (h:bL ds=true) {a b:D} (ha:a∈ds) (hb:b∈ds):cM .lt a b=some (decide (enc a<enc b)):=by
 obtain ⟨p1,_,_,_,q⟩:=cU h ha;obtain ⟨p2,_⟩:=cU h hb;obtain ⟨k,hk⟩:=q b hb;rw [hk,M_ a b k p1 p2 hk]
noncomputable def sU (H:Hp) (ds:List D) (k:Keyed):Prop:=∃v d,RelV v k.1/\Rep All H v d/\d∈ds
def sLt (H:Hp) (x y:Keyed):Bool:=decide (enc (jC H x.1)<enc (jC H y.1))
theorem aFv (H:Hp) (ds:List D):TS.Ord (sU H ds) (sLt H):=by
 refine ⟨fun x _=>?_,fun x y z _ _ _ h1 h2=>?_,fun x y z _ _ _ h=>?_⟩
 ·simp [sLt,List.lt_irrefl]
 ·simp only [sLt,decide_eq_true_eq] at *;exact List.lt_trans h1 h2
 ·simp only [sLt,decide_eq_true_eq] at *;by_cases q:enc (jC H x.1)<enc (jC H y.1)
  ·exact .inl q
  ·exact .inr (List.lt_of_le_of_lt (List.not_lt.mp q) h)
section
variable {X:Cx} {pins:List (Addr×Obj)} {σ:L2.St} {H:Hp} {s:Shared}
open PySem.W in
theorem uM {prog:Program} {w:World} {A:Around} {b k:Bool} {n1 n2:Nat} {Q:Bool->Shared->Prop}:∀(vs ws:List Value) (xs ys:List D) (i:Nat),(b&&i==0)=false->C2 .lt A s vs ws xs ys->cG .lt xs ys=some k->xs.length+n2=ys.length+n1->Q k s->
  KatLex prog w A b (decide (n1<n2)) Q (vs.zip ws) i s
 | [],ws,xs,ys,i,_,hC,hk,hf,q=>by
  have:xs=[]:=List.eq_nil_of_length_eq_zero hC.1.symm;subst this;rw [List.zip_nil_left];rw [cG] at hk;have e:k=decide (n1<n2):=by
   rw [<-Option.some.inj hk];simp only [e_.nat,List.length_nil] at hf ⊢
   congr 1
   simp only [eq_iff_iff];lia
  rw [<-e];exact q
 | v::vs,[],xs,ys,i,_,hC,hk,hf,q=>by
  have:ys=[]:=List.eq_nil_of_length_eq_zero hC.2.1.symm;subst this;rw [List.zip_nil_right];cases xs with
  | nil=>exact absurd hC.1 (by simp)
  | cons x xs=>
   rw [cG] at hk;have e:k=decide (n1<n2):=by
    rw [<-Option.some.inj hk];simp only [e_.nat,List.length_nil,List.length_cons] at hf ⊢
    congr 1
    simp only [eq_iff_iff];lia
   rw [<-e];exact q
 | v::vs,w'::ws,[],ys,i,_,hC,hk,hf,q=>absurd hC.1 (by simp)
 | v::vs,w'::ws,x::xs,[],i,_,hC,hk,hf,q=>absurd hC.2.1 (by simp)
 | v::vs,w'::ws,x::xs,y::ys,i,hi,hC,hk,hf,q=>by
  rw [List.zip_cons_cons];obtain ⟨he,hlt⟩:=hC.2.2 0 _ _ _ _ rfl rfl rfl rfl;rw [cG] at hk;refine kat_cons (he prog w _ _ ?_);cases e:eqD x y with
  | true=>
   rw [e,if_pos rfl] at hk;exact kat_yes (uM vs ws xs ys (i+1) (by simp) hC.tail hk (by simp only [List.length_cons] at hf;lia) q)
  | false=>
   rw [e,if_neg (by simp)] at hk;refine kat_no ?_;rw [hi];exact kat_one _ _ (hlt e k hk prog w _ _ q)
theorem aE8 (I:Inv X pins σ H s) {A:Around} {n:Nat} (hu:A.units+n<cLine) {xs ys:List V} {ds es:List D} {its1 its2:List Value} (ha:D.eE n ds=true) (hb:D.eE n es=true) (r1:bB All H xs ds) (r2:bB All H ys es) (vr1:Vals xs its1) (vr2:Vals ys its2) :
  C2 .lt A s its1 its2 ds es:=by
 refine ⟨by rw [<-vr1.length,r1.length],by rw [<-vr2.length,r2.length],fun j v w x y a1 a2 a3 a4=>?_⟩;obtain ⟨v1,w1,rr1⟩:=r1.get a3;obtain ⟨v2,w2,rr2⟩:=r2.get a4;obtain ⟨u1,k1,l1⟩:=vr1.get w1;obtain ⟨u2,k2,l2⟩:=vr2.get w2;rw [a1] at k1;cases k1;rw [a2] at k2;cases k2;have g1:x.bK n=true:=by
  have:=cX (j:=j) ha (List.getElem?_eq_some_iff.mp a3).1;rwa [List.getD_eq_getElem?_getD,a3] at this
 have g2:y.bK n=true:=by
  have:=cX (j:=j) hb (List.getElem?_eq_some_iff.mp a4).1;rwa [List.getD_eq_getElem?_getD,a4] at this
 exact ⟨(wQ I n A hu g1 g2 rr1 rr2 l1 l2).2.2,fun _ k hk=>zL I .lt n A hu g1 g2 rr1 rr2 l1 l2 hk⟩
theorem kind_le (d:D):dJ d<=5:=by
 unfold dJ;split <;> lia
theorem Y6 {d:D} (h:dJ d=1):∃i,d=.int i:=by
 unfold dJ at h;split at h <;> first|lia|exact ⟨_,rfl⟩
theorem Y7 {d:D} (h:dJ d=2):∃i,d=.str i:=by
 unfold dJ at h;split at h <;> first|lia|exact ⟨_,rfl⟩
theorem UG {d:D} (h:dJ d=3):∃i r,d=.tup (.int i::r):=by
 unfold dJ at h;split at h <;> first|lia|exact ⟨_,_,rfl⟩
theorem UJ {d:D} (h:dJ d=4):∃i r,d=.tup (.str i::r):=by
 unfold dJ at h;split at h <;> first|lia|exact ⟨_,_,rfl⟩
theorem aBz {d:D} (h:dJ d=5):∃i r,d=.tup (.tup i::r):=by
 unfold dJ at h;split at h <;> first|lia|exact ⟨_,_,rfl⟩
theorem DG {xs:List V} {ds:List D} {its:List Value} (r:bB All H xs ds) (vr:Vals xs its) {u:Value} (hu:u∈its):∃v d,RelV v u/\Rep All H v d/\d∈ds:=by
 obtain ⟨j,hj,e⟩:=List.getElem_of_mem hu;have hj':j<ds.length:=by rw [<-r.length,vr.length];exact hj
 obtain ⟨v,h1,h2⟩:=r.get (i:=j) (d:=ds[j]) (by simp [hj']);obtain ⟨u',h3,h4⟩:=vr.get h1;rw [List.getElem?_eq_getElem hj,e] at h3;cases h3;exact ⟨v,_,h4,h2,List.getElem_mem _⟩
open PySem.W in
theorem uN (I:Inv X pins σ H s) {T:Value} {F:D->Prop} (hF:∀(d:D) (v:V) (u:Value),F d->RelV v u->Rep All H v d->Looks (model X.prog X.w) s.heap (typeOf u) T) :
  ∀{xs:List V} {ds:List D} {its:List Value},bB All H xs ds->Vals xs its->(∀d∈ds,∃f r,d=.tup (f::r)/\F f)->∃fs,KatTups s.heap its fs/\fs.length=its.length/\∀f∈fs,Looks (model X.prog X.w) s.heap (typeOf f) T
 | _,_,_,.nil,.nil,_=>⟨[],.nil,rfl,fun _ h=>by simp at h⟩
 | _,_,_,.cons r t,.cons v vt,h=>by
  obtain ⟨fs,h1,h2,h3⟩:=uN I hF t vt fun d hd=>h d (List.mem_cons_of_mem _ hd)
  obtain ⟨f,rr,rfl,hf⟩:=h _ (List.mem_cons_self ..);obtain ⟨a,ys,rfl,e,rs⟩:=r.dG;cases v;obtain ⟨its2,vr2,o,ho,hc,n,hd⟩:=fB I e;cases rs with
  | cons r0 rs=>
   cases vr2 with
   | cons v0 vr2=>
    refine ⟨_::fs,.cons ho hc hd rfl h1,by simp [h2],fun g hg=>?_⟩;rcases List.mem_cons.mp hg with rfl|hg
    ·exact hF _ _ _ hf v0 r0
    ·exact h3 g hg
open PySem.W in
theorem N6 (I:Inv X pins σ H s) {A:Around} (hu:A.units+aP<cLine) {xs:List V} {ds:List D} {its:List Value} (hc:bL ds=true) (r:bB All H xs ds) (vr:Vals xs its) (h2:2<=its.length) :
  ∃κ:SortKind,(∀Q:SortKind->Shared->Prop,Q κ s->wpAny (model X.prog X.w) A (keyKind' its.toArray) Q (fun _ _=>False) s)/\
   ∀(x y:Keyed) (Q:Bool->Shared->Prop),sU H ds x->sU H ds y->Q (sLt H x y) s->wpAny (model X.prog X.w) A (keyLt' κ x.1 y.1) Q (fun _ _=>False) s:=by
 have hlen:ds.length=its.length:=by rw [<-r.length,vr.length]
 have hkind:∀d∈ds,dJ d=dJ (ds.headD .non):=fun d hd=>(cU hc hd).2.2.2.1
 have hne:dJ (ds.headD .non)≠0:=by
  have hd:ds.headD .non∈ds:=by
   cases ds with
   | nil=>simp at hlen;lia
   | cons d ds=>simp
  exact (cU hc hd).2.2.1
 have lty:∀{x y:Keyed} {v v':V} {d d':D},RelV v x.1->Rep All H v d->d∈ds->RelV v' y.1->Rep All H v' d'->d'∈ds->cM .lt d d'=some (sLt H x y):=fun {x y v v' d d'} rv rp hd rv' rp' hd'=>by
  have e1:=pC (cU hc hd).1 (cU hc hd).2.1 rv rp;have e2:=pC (cU hc hd').1 (cU hc hd').2.1 rv' rp';rw [aBy hc hd hd'];unfold sLt;rw [e1,e2]
 -- two tuples whose first items are told by a rule of their own,or by the common one
 have tupl:∀(b:Bool) (x y:Keyed) (Q:Bool->Shared->Prop),sU H ds x->sU H ds y->(∀d∈ds,∃f r,d=.tup (f::r))->
   (b=true->∀(f g:D) (v v':V) (u u':Value) (k:Bool) (Q:Bool->Shared->Prop),(∃r,D.tup (f::r)∈ds)->(∃r,D.tup (g::r)∈ds)->RelV v u->Rep All H v f->RelV v' u'->Rep All H v' g->cM .lt f g=some k->Q k s->wpAny (model X.prog X.w) A (oneLt' true u u') Q (fun _ _=>False) s)->
   Q (sLt H x y) s->wpAny (model X.prog X.w) A (keyLt' (tuples' b) x.1 y.1) Q (fun _ _=>False) s:=by
  rintro b ⟨x1,x2⟩ ⟨y1,y2⟩ Q ⟨v,d,rv,rp,hd⟩ ⟨v',d',rv',rp',hd'⟩ htup hone q;have hk:=lty rv rp hd rv' rp' hd';have q1:=(cU hc hd).2.1;have q2:=(cU hc hd').2.1;obtain ⟨f,rr,rfl⟩:=htup d hd;obtain ⟨g,rr',rfl⟩:=htup d' hd';obtain ⟨a,ys,rfl,e,rs⟩:=rp.dG;obtain ⟨a',ys',rfl,e',rs'⟩:=rp'.dG;cases rv;cases rv';obtain ⟨i1,vr1,o1,ho1,hc1,n1,hd1⟩:=fB I e;obtain ⟨i2,vr2,o2,ho2,hc2,n2,hd2⟩:=fB I e';rw [cM] at hk;have q1':D.eE 11 (f::rr)=true:=by rw [show aP=11+1 from rfl,D.bK] at q1;exact q1
  have q2':D.eE 11 (g::rr')=true:=by rw [show aP=11+1 from rfl,D.bK] at q2;exact q2
  have hu':A.units+11<cLine:=by have:A.units+12<cLine:=hu;lia
  have C:=aE8 I hu' q1' q2' rs rs' vr1 vr2;refine kat_lt ho1 hd1 ho2 hd2 ?_;have z1:i1.toArray.size=(f::rr).length:=by rw [List.size_toArray,<-vr1.length,rs.length]
  have z2:i2.toArray.size=(g::rr').length:=by rw [List.size_toArray,<-vr2.length,rs'.length]
  rw [List.toList_toArray,List.toList_toArray,z1,z2];cases b with
  | false=>exact uM i1 i2 (f::rr) (g::rr') 0 rfl C hk (by lia) q
  | true=>
   cases rs with
   | cons r0 rs=>
    cases rs' with
    | cons r0' rs'=>
     cases vr1 with
     | cons v0 vr1=>
      cases vr2 with
      | cons v0' vr2=>
       rw [List.zip_cons_cons];obtain ⟨he,_⟩:=C.2.2 0 _ _ _ _ rfl rfl rfl rfl;rw [cG] at hk;refine kat_cons (he X.prog X.w _ _ ?_);cases e0:eqD f g with
       | true=>
        rw [e0,if_pos rfl] at hk;exact kat_yes (uM _ _ rr rr' 1 (by simp) C.tail hk (by simp only [List.length_cons];lia) q)
       | false=>
        rw [e0,if_neg (by simp)] at hk;refine kat_no ?_;exact hone rfl f g _ _ _ _ _ Q ⟨_,hd⟩ ⟨_,hd'⟩ v0 r0 v0' r0' hk q
 have h5:=kind_le (ds.headD .non);have cases5:dJ (ds.headD .non)=1\/dJ (ds.headD .non)=2\/dJ (ds.headD .non)=3\/dJ (ds.headD .non)=4\/dJ (ds.headD .non)=5:=by lia
 rcases cases5 with c|c|c|c|c
 ·refine ⟨oneType',fun Q q=>kas_kind (T:=.type "int") h2 (fun u hm=>?_) (by decide) (by decide) q,fun x y Q hx hy q=>?_⟩
  ·obtain ⟨v,d,rv,rp,hd⟩:=DG r vr hm;obtain ⟨i,rfl⟩:=Y6 ((hkind d hd).trans c);cases rp;obtain ⟨t,rfl⟩:=rv;exact Looks.of_pure rfl
  ·obtain ⟨v,d,rv,rp,hd⟩:=hx;obtain ⟨v',d',rv',rp',hd'⟩:=hy;have hk:=lty rv rp hd rv' rp' hd';obtain ⟨i,rfl⟩:=Y6 ((hkind d hd).trans c);obtain ⟨j,rfl⟩:=Y6 ((hkind d' hd').trans c);cases rp;cases rp';obtain ⟨t,e1⟩:=rv;obtain ⟨t',e2⟩:=rv';rw [cM] at hk;rw [<-Option.some.inj hk] at q;rw [e1,e2,PyProof.Rows.keyLt'_oneType];exact PyProof.Rows.oneLt_int q
 ·refine ⟨oneType',fun Q q=>kas_kind (T:=.type "str") h2 (fun u hm=>?_) (by decide) (by decide) q,fun x y Q hx hy q=>?_⟩
  ·obtain ⟨v,d,rv,rp,hd⟩:=DG r vr hm;obtain ⟨i,rfl⟩:=Y7 ((hkind d hd).trans c);cases rp;obtain ⟨t,rfl⟩:=rv;exact Looks.of_pure rfl
  ·obtain ⟨v,d,rv,rp,hd⟩:=hx;obtain ⟨v',d',rv',rp',hd'⟩:=hy;have hk:=lty rv rp hd rv' rp' hd';obtain ⟨i,rfl⟩:=Y7 ((hkind d hd).trans c);obtain ⟨j,rfl⟩:=Y7 ((hkind d' hd').trans c);cases rp;cases rp';obtain ⟨t,e1⟩:=rv;obtain ⟨t',e2⟩:=rv';rw [cM] at hk;rw [<-Option.some.inj hk] at q;rw [e1,e2,PyProof.Rows.keyLt'_oneType];exact PyProof.Rows.oneLt_str q
 ·obtain ⟨fs,t1,t2,t3⟩:=uN I (T:=.type "int") (F:=fun f=>∃i,f=.int i) (fun d v u hf rv rp=>by
   obtain ⟨i,rfl⟩:=hf;cases rp;obtain ⟨t,rfl⟩:=rv;exact Looks.of_pure rfl) r vr (fun d hd=>by
   obtain ⟨i,rr,rfl⟩:=UG ((hkind d hd).trans c);exact ⟨_,_,rfl,i,rfl⟩)
  refine ⟨tuples' true,fun Q q=>kat_kind (T:=.type "int") t1 (by lia) t3 (by decide) q,fun x y Q hx hy q=>tupl true x y Q hx hy (fun d hd=>?_) (fun _ f g v v' u u' k Q hf hg rv rp rv' rp' hk q=>?_) q⟩
  ·obtain ⟨i,rr,rfl⟩:=UG ((hkind d hd).trans c);exact ⟨_,_,rfl⟩
  ·obtain ⟨r1,hf⟩:=hf;obtain ⟨r2,hg⟩:=hg;obtain ⟨i,rr,e1⟩:=UG ((hkind _ hf).trans c);obtain ⟨j,rr',e2⟩:=UG ((hkind _ hg).trans c);cases e1;cases e2;cases rp;cases rp';obtain ⟨t,rfl⟩:=rv;obtain ⟨t',rfl⟩:=rv';rw [cM] at hk;rw [<-Option.some.inj hk] at q;exact PyProof.Rows.oneLt_int q
 ·obtain ⟨fs,t1,t2,t3⟩:=uN I (T:=.type "str") (F:=fun f=>∃i,f=.str i) (fun d v u hf rv rp=>by
   obtain ⟨i,rfl⟩:=hf;cases rp;obtain ⟨t,rfl⟩:=rv;exact Looks.of_pure rfl) r vr (fun d hd=>by
   obtain ⟨i,rr,rfl⟩:=UJ ((hkind d hd).trans c);exact ⟨_,_,rfl,i,rfl⟩)
  refine ⟨tuples' true,fun Q q=>kat_kind (T:=.type "str") t1 (by lia) t3 (by decide) q,fun x y Q hx hy q=>tupl true x y Q hx hy (fun d hd=>?_) (fun _ f g v v' u u' k Q hf hg rv rp rv' rp' hk q=>?_) q⟩
  ·obtain ⟨i,rr,rfl⟩:=UJ ((hkind d hd).trans c);exact ⟨_,_,rfl⟩
  ·obtain ⟨r1,hf⟩:=hf;obtain ⟨r2,hg⟩:=hg;obtain ⟨i,rr,e1⟩:=UJ ((hkind _ hf).trans c);obtain ⟨j,rr',e2⟩:=UJ ((hkind _ hg).trans c);cases e1;cases e2;cases rp;cases rp';obtain ⟨t,rfl⟩:=rv;obtain ⟨t',rfl⟩:=rv';rw [cM] at hk;rw [<-Option.some.inj hk] at q;exact PyProof.Rows.oneLt_str q
 ·obtain ⟨fs,t1,t2,t3⟩:=uN I (T:=.type "tuple") (F:=fun f=>∃i,f=.tup i) (fun d v u hf rv rp=>by
   obtain ⟨i,rfl⟩:=hf;obtain ⟨a,ys,rfl,e,rs⟩:=rp.dG;cases rv;obtain ⟨i1,vr1,o1,ho1,hc1,n1,hd1⟩:=fB I e;have:=(show Looks (model X.prog X.w) s.heap (typeOf (.ref a)) o1.cls from (Looks.ld ho1).andThen .now)
   rwa [hc1] at this) r vr (fun d hd=>by
   obtain ⟨i,rr,rfl⟩:=aBz ((hkind d hd).trans c);exact ⟨_,_,rfl,i,rfl⟩)
  refine ⟨tuples' false,fun Q q=>kat_kind (T:=.type "tuple") t1 (by lia) t3 (by decide) q,fun x y Q hx hy q=>tupl false x y Q hx hy (fun d hd=>?_) (fun h=>by cases h) q⟩;obtain ⟨i,rr,rfl⟩:=aBz ((hkind d hd).trans c);exact ⟨_,_,rfl⟩
theorem Y8 (I:Inv X pins σ H s) {A:Around} {ds:List D} {κ:SortKind} (h:∀(x y:Keyed) (Q:Bool->Shared->Prop),sU H ds x->sU H ds y->Q (sLt H x y) s->wpAny (model X.prog X.w) A (keyLt' κ x.1 y.1) Q (fun _ _=>False) s) :
  TS.HW X.prog X.w A (fun _ _=>False) s κ (sU H ds) (sLt H):=by
 intro x y st Q hx hy hk q;rw [PyProof.Rows.lt'_eq];refine wpS_bind (wpS_get ?_);rw [hk];refine wpS_bind (wpS_lift (wpAny_attempt (wpAny_mono (h x y (fun b s'=>s'=s/\b=sLt H x y) hx hy ⟨rfl,rfl⟩) (fun b s' ⟨e1,e2⟩=>⟨e1,?_⟩) fun _ _ z=>False.elim z)));subst e2;exact wpS_pure q
theorem lO {Q:VK} {v:Value} {its:List Value} {xs:List V} {ds:List D} (I:Inv X pins σ H s) (hu:X.A.units+20<cLine) (vr:Vals xs its) (hn:its.length<=sizeLine) (r:bB All H xs ds) (hc:bL ds=true)
  (hcol:∀(Q':List Value->Shared->Prop) (E':Value->Shared->Prop),(∀h1 tk,(∀b o,s.heap.get? b=some o->h1.get? b=some o)->s.heap.objs.size<=h1.objs.size->Q' its {s with heap:=h1,toks:=tk})->wpAny (model X.prog X.w) X.A.in1 (collect v) Q' E' s)
  (q:∀p xs',H p=none->bB All H xs' (jB ds)->Q (.ref p) (upd H p (.lst xs'))):wpAny (model X.prog X.w) X.A (call (.builtin "sorted") [v]) (EP X pins σ Q) X.xe s:=by
 have hz:xs.length<=sizeLine:=by rw [vr.length];exact hn
 -- what comes,told by its data
 have fin:∀(h1:Heap) (tk:Nat),(∀b o,s.heap.get? b=some o->h1.get? b=some o)->s.heap.objs.size<=h1.objs.size->∀arr:Array Keyed,arr.Perm (pairsOf its)->(∀i j,i<=j->j<arr.size->leE (jC H (TS.gt arr i).1) (jC H (TS.gt arr j).1)=true)->EP X pins σ Q (.ref h1.objs.size) {s with heap:=TS.aAq h1 its (arr.map (·.2)),toks:=tk}:=by
  intro h1' tk kp hle arr hp hs;have hpl:arr.toList.Perm (its.zip its):=by rw [<-PyProof.Rows.pairsOf_toList];exact Array.perm_iff_toList_perm.mp hp
  have hmem:∀p∈arr.toList,p.1=p.2/\p.1∈its:=fun p hp'=>PyProof.Rows.mem_zip_self (hpl.mem_iff.mp hp')
  have e1:(arr.map (·.2)).toList=arr.toList.map (·.1):=by
   rw [Array.toList_map];exact List.map_congr_left fun p hp'=>(hmem p hp').1.symm
  -- the values and their data
  have all:∀l:List Keyed,(∀p∈l,p∈arr.toList)->∃ys,Vals ys (l.map (·.1))/\bB All H ys (l.map fun p=>jC H p.1):=by
   intro l;induction l with
   | nil=>intro _;exact ⟨[],.nil,.nil⟩
   | cons p l ih=>
    intro h;obtain ⟨ys,h1,h2⟩:=ih fun p hp'=>h p (List.mem_cons_of_mem _ hp')
    obtain ⟨v,d,rv,rp,hd⟩:=DG r vr (hmem p (h p (List.mem_cons_self ..))).2;refine ⟨v::ys,.cons rv h1,?_⟩;rw [List.map_cons,pC (cU hc hd).1 (cU hc hd).2.1 rv rp];exact .cons rp h2
  obtain ⟨ys,h1,h2⟩:=all arr.toList fun _ h=>h
  have dats:its.map (jC H)=ds:=by
   clear all h1 h2 hp hs hpl hmem e1;have:∀{xs:List V} {es:List D} {us:List Value},bB All H xs es->Vals xs us->(∀d∈es,d∈ds)->us.map (jC H)=es:=by
    intro xs es us r;induction us generalizing xs es with
    | nil=>intro v _;cases v;cases r;rfl
    | cons u us ih=>
     intro v hsub;cases v with
     | cons v0 vt=>
      cases r with
      | cons r0 rt=>
       have hd:=hsub _ (List.mem_cons_self ..);rw [List.map_cons,ih rt vt fun d hd=>hsub d (List.mem_cons_of_mem _ hd),pC (cU hc hd).1 (cU hc hd).2.1 v0 r0]
   exact this r vr fun _ h=>h
  have hperm:(arr.toList.map fun p=>jC H p.1).Perm ds:=by
   have:=hpl.map fun p=>jC H p.1
   have e2:(its.zip its).map (fun p=>jC H p.1)=ds:=by
    have:(its.zip its).map (fun p=>jC H p.1)=((its.zip its).map Prod.fst).map (jC H):=by rw [List.map_map];rfl
    rw [this,List.map_fst_zip (Nat.le_refl _),dats]
   rwa [e2] at this
  have hsorted:(arr.toList.map fun p=>jC H p.1).Pairwise fun a b=>leE a b=true:=by
   rw [List.pairwise_map,List.pairwise_iff_getElem];intro i j hi hj hij;have:=hs i j (Nat.le_of_lt hij) (by simpa using hj);have g:∀k (hk:k<arr.toList.length),TS.gt arr k=arr.toList[k]:=fun k hk=>by
    unfold TS.gt;have hk':k<arr.size:=by simpa using hk
    simp [Array.getD,hk']
   rwa [g i hi,g j hj] at this
  have eq:(arr.toList.map fun p=>jC H p.1)=jB ds:=by
   refine NP (fun d hd=>?_) (hperm.trans (d8 ds).symm) hsorted (oK ds);exact (cU hc (hperm.mem_iff.mp hd)).1
  rw [eq] at h2;rw [<-e1] at h1;have hfr:H h1'.objs.size=none:=I.hok.fresh hle;obtain ⟨ee,he⟩:=TS.Y5 h1' its (arr.map (·.2));refine ⟨.ref h1'.objs.size,_,I.laid (t':=tk) (fun b o e=>TS.T_ (kp b o e)) hle ?_,rfl,q _ ys hfr h2⟩;refine ⟨?_,(arr.map (·.2)).toList,ee,h1,by rw [he]⟩;rw [h2.length,(d8 ds).length_eq,<-r.length];exact hz
 refine TS.JD hn hcol (fun hh tk kp hle h2=>?_) (fun hh tk kp hle h2=>?_)
 ·have I':Inv X pins σ H {s with heap:=TS.aAp hh its,toks:=tk}:=I.kept (t':=tk) fun b o e=>TS.T9 (kp b o e)
  have hu2:X.A.in1.in1.units+aP<cLine:=by show X.A.units+1+1+12<cLine;lia
  obtain ⟨κ,k1,k2⟩:=N6 I' hu2 hc r vr h2;refine ⟨κ,sU H ds,sLt H,aFv H ds,fun i hi=>?_,k1,Y8 I' k2,fun arr p z=>fin hh tk kp hle arr p fun i j a1 a2=>?_⟩
  ·rw [PyProof.Rows.pairsOf_size] at hi;have e:TS.gt (pairsOf its) i=(its[i],its[i]):=by
    unfold TS.gt pairsOf;simp [Array.getD,hi]
   rw [e];exact DG r vr (List.getElem_mem hi)
  ·have:=z i j (Nat.zero_le _) a1 (by rw [<-p.size_eq];exact a2);unfold leE;unfold sLt at this;rw [this];rfl
 ·refine fin hh tk kp hle _ (Array.Perm.refl _) fun i j a1 a2=>?_
  rw [PyProof.Rows.pairsOf_size] at a2;rw [show i=j by lia];simp [leE,List.lt_irrefl]
theorem JF {Q:VK} {l:Addr} {xs:List V} {ds:List D} (I:Inv X pins σ H s) (hu:X.A.units+20<cLine) (hl:SqL X.K H l xs) (r:bB All H xs ds) (hc:bL ds=true)
  (q:∀p xs',H p=none->bB All H xs' (jB ds)->Q (.ref p) (upd H p (.lst xs'))):wpAny (model X.prog X.w) X.A (call (.builtin "sorted") [.ref l]) (EP X pins σ Q) X.xe s:=by
 obtain ⟨its,vr,pl,hz⟩:=I.list hl;have hn:its.length<=sizeLine:=by rw [<-vr.length];exact hz
 refine lO I hu vr hn r hc (fun Q' E' h=>PyProof.Rows.collect_list pl.isList (h _ s.toks (fun b o e=>?_) ?_) hn) q
 ·rw [Heap.get?_update_ne _ _ _ _ (Nat.ne_of_lt (Heap.lt_size e))];exact Heap.get?_push_of_some _ e
 ·rw [Heap.size_update,PyProof.Rows.size_push'];exact Nat.le_succ _
end
end Mi
end
section
namespace Mi
open PySem L2 PySem.SeqAt PySem.Spec PyProof.Rows
variable [KFrag]
noncomputable def kR (H:Hp) (d:D) (fr:Bool) (Q:VK):Prop:=∀v H',bN H H'->Rep All H' v d->(fr=true->Rep (New H) H' v d)->Q v H'
def gE (f:FE) (fr:Bool):TE:=fun σ H Q=>∃ρ d,ER H σ ρ/\f ρ=.ok d/\kR H d fr Q
def gT (f:FT):TT:=fun σ H Q=>∃ρ b,ER H σ ρ/\f ρ=.ok b/\∀H',bN H H'->Q b H'
noncomputable def gA (f:FA) (fr:Bool):TA:=fun σ H Q=>∃ρ ds,ER H σ ρ/\f ρ=.ok ds/\∀vs H',bN H H'->bB All H' vs ds->(fr=true->bB (New H) H' vs ds)->Q vs H'
theorem kR.self {H:Hp} {d:D} {fr:Bool} {Q:VK} {v:V} (q:kR H d fr Q) (r:Rep All H v d) (r2:fr=true->Rep (New H) H v d):Q v H:=q v H (bN.refl H) r r2
theorem kR.imp {H H':Hp} {d:D} {fr fr':Bool} {Q:VK} (q:kR H d fr Q) (s:bN H H') (h:fr=true->fr'=true):kR H' d fr' Q:=fun v H2 s2 r n=>q v H2 (s.trans s2) r fun hf=>(n (h hf)).mono (bN.new s)
theorem kR.int {H:Hp} {i:Int} {fr:Bool} {Q:VK} (q:kR H (.int i) fr Q):Q (.int i) H:=q.self (.int i) fun _=>.int i
theorem kR.bl {H:Hp} {i:Bool} {fr:Bool} {Q:VK} (q:kR H (.bl i) fr Q):Q (.bl i) H:=q.self (.bl i) fun _=>.bl i
theorem kR.str {H:Hp} {i:Str} {fr:Bool} {Q:VK} (q:kR H (.str i) fr Q):Q (.str i) H:=q.self (.str i) fun _=>.str i
noncomputable def r2 (f:D->D->Res D) (fr:Bool):R2:=fun x y H Q=>∃a b d,Rep All H x a/\Rep All H y b/\f a b=.ok d/\kR H d fr Q
noncomputable def r1 (f:D->Res D) (fr:Bool):V->Hp->VK->Prop:=fun x H Q=>∃a d,Rep All H x a/\f a=.ok d/\kR H d fr Q
noncomputable def rs (f:List D->Res D) (fr:Bool):List V->Hp->VK->Prop:=fun xs H Q=>∃ds d,bB All H xs ds/\f ds=.ok d/\kR H d fr Q
theorem aY {α β:Type} {m:Res α} {f:α->Res β} {b:β} (h:(do let x <- m;f x)=.ok b):∃a,m=.ok a/\f a=.ok b:=Res.YW h
section
variable {X:Cx} {a b c e:Expr} {pos:Pos} {fa fb fc fe:FE} {ra rb rc re:Bool} {ga gb gc:FT}
theorem ER.var {H:Hp} {σ:L2.St} {ρ:List D} {i:Nat} {d:D} (E:ER H σ ρ) (h:lX i ρ=.ok d):∃v,σ[i]?=some (some v)/\Rep All H v d/\ρ.getD i .uD=d:=by
 have:ρ.getD i .uD=d/\d≠.uD:=by
  unfold lX at h;split at h
  ·cases h
  ·cases h;refine ⟨rfl,fun z=>?_⟩;rename_i q;exact q z
 obtain ⟨e1,e2⟩:=this;obtain ⟨v,h1,h2⟩:=E i (by rw [e1];exact e2);exact ⟨v,h1,by rw [e1] at h2;exact h2,e1⟩
theorem aA {i:Nat} {x:Str} (hN:X.N[i]?=some x:=by exact rfl) (hv:Vis X.env.scope x:=by trivial) (hd:nDb x:=by decide) (hcd:nCd x:=by decide):PE X (.Name x pos) (gE (lX i) false):=
 PE.imp (dH hN hv hd hcd) fun σ H Q ⟨ρ,d,E,h,q⟩=>by
  obtain ⟨v,h1,h2,_⟩:=E.var h;exact ⟨v,h1,q.self h2 (fun z=>by cases z)⟩
theorem aG {i j}:PE X (.Constant (.int i) j pos) (gE (bC (.int i)) true):=PE.imp BL fun σ H Q ⟨ρ,d,E,h,q⟩=>by cases h;exact q.int
theorem oW {i j}:PE X (.Constant (.bool i) j pos) (gE (bC (.bl i)) true):=PE.imp aDj fun σ H Q ⟨ρ,d,E,h,q⟩=>by cases h;exact q.bl
theorem W3 {i j}:PE X (.Constant (.str i) j pos) (gE (bC (.str i)) true):=PE.imp aAv fun σ H Q ⟨ρ,d,E,h,q⟩=>by cases h;exact q.str
theorem two {f:D->D->Res D} {fr:Bool} {σ:L2.St} {H:Hp} {Q:VK} (h:gE (b2 f fa fb) fr σ H Q):tOp (r2 f fr) (gE fa ra) (gE fb rb) σ H Q:=by
 obtain ⟨ρ,d,E,h,q⟩:=h;obtain ⟨x,h1,h⟩:=aY h;obtain ⟨y,h2,h⟩:=aY h;refine ⟨ρ,x,E,h1,fun v H1 s1 rp1 _=>⟨ρ,y,E.same s1,h2,fun u H2 s2 rp2 _=>⟨x,y,d,rp1.same s2,rp2,h,q.imp (s1.trans s2) id⟩⟩⟩
theorem bH {o:Operator} {f:D->D->Res D} {fr:Bool} (ho:OpR X (binaryOp o) (r2 f fr)) (ha:PE X a (gE fa ra)) (hb:PE X b (gE fb rb)):PE X (.BinOp a o b pos) (gE (b2 f fa fb) fr):=PE.imp (aDt ho ha hb) fun _ _ _=>two
theorem aC0 {o:CmpOp} {f:D->D->Res D} {fr:Bool} (ho:OpR X (compareOp o) (r2 f fr)) (ha:PE X a (gE fa ra)) (hb:PE X b (gE fb rb)) (hm:behindInMarks o b=false):PE X (.Compare a [o] [b] pos) (gE (b2 f fa fb) fr):=PE.imp (X8 ho ha hb hm) fun _ _ _=>two
theorem cL {o:CmpOp} {f:D->D->Res D} {fr:Bool} (ho:OpR X (compareOp o) (r2 f fr)) (ha:PE X a (gE fa ra)) (hb:PE X b (gE fb rb)) (hm:behindInMarks o b=false):PT X (.Compare a [o] [b] pos) (gT (bTB (b2 f fa fb))):=
 PT.imp (X_ ho ha hb hm) fun σ H Q ⟨ρ,k,E,h,q⟩=>by
  obtain ⟨d,h1,h2⟩:=aY h;refine two ⟨ρ,d,E,h1,fun v H' s r _=>?_⟩;cases d <;> simp only [asB] at h2 <;> cases h2
  cases r;exact ⟨_,rfl,q H' s⟩
theorem aE9 {o:UnaryOp} {f:D->Res D} {fr:Bool} (ho:UnR X (unaryOp o) (r1 f fr)) (ha:PE X a (gE fa ra)):PE X (.UnaryOp o a pos) (gE (b1 f fa) fr):=
 PE.imp (aDu ho ha) fun σ H Q ⟨ρ,d,E,h,q⟩=>by
  obtain ⟨x,h1,h⟩:=aY h;exact ⟨ρ,x,E,h1,fun v H1 s1 rp1 _=>⟨x,d,rp1,h,q.imp s1 id⟩⟩
theorem cH {f:D->D->Res D} {fr:Bool} (ho:IxR X (r2 f fr)) (ha:PE X a (gE fa ra)) (hb:PE X b (gE fb rb)) (hs:pO b):PE X (.Subscript a b pos) (gE (b2 f fa fb) fr):=PE.imp (YH ho ha hb hs) fun _ _ _=>two
theorem aFw {H:Hp} {v:V} {d:D} {k:Bool} (r:Rep All H v d) (h:aE6 d=.ok k) (hd:∀kvs,d≠.dct kvs) (hs:∀xs,d≠.scr xs):aDw X.K v H k:=by
 cases r with
 | non=>cases h;rfl
 | bl b=>cases h;rfl
 | int i=>cases h;rfl
 | str x=>
  simp only [aE6] at h;split at h
  ·rename_i hl;cases h;exact ⟨Nat.le_trans (of_decide_eq_true hl) (by rw [sizeLine_eq];decide),rfl⟩
  ·cases h
 | tup e rr=>cases h;exact .inr (.inl ⟨_,.of e,by cases rr <;> rfl⟩)
 | lst e p rr=>cases h;exact .inl ⟨_,.of e,by cases rr <;> rfl⟩
 | frz e rr=>exact absurd rfl (hs _)
 | dK e p rr n=>exact absurd rfl (hd _)
 | dT e p rr n=>exact absurd rfl (hd _)
 | fdK e rr n=>cases h
 | fdT e rr n=>cases h
 | cel e p rr=>cases h
theorem tH (ha:PE X a (gE fa ra)) (he:∀whole,isTrue a X.env whole=(do let v <- whole;standAt a.pos;holding [v] (truthy v)):=by intro _;rfl):PT X a (gT (bTr fa)):=
 PT.imp (S7 ha he) fun σ H Q ⟨ρ,k,E,h,q⟩=>by
  obtain ⟨d,h1,h2⟩:=aY h;refine ⟨ρ,d,E,h1,fun v H' s r _=>⟨k,aFw r ?_ ?_ ?_,q H' s⟩⟩
  ·cases d <;> first|exact h2|cases h2
  ·rintro kvs rfl;cases h2
  ·rintro kvs rfl;cases h2
theorem wU (ha:PT X a (gT ga)):PT X (.UnaryOp .Not a pos) (gT (R7 ga)):=PT.imp (aAy ha) fun σ H Q ⟨ρ,k,E,h,q⟩=>by
  obtain ⟨d,h1,h2⟩:=aY h;cases h2;exact ⟨ρ,d,E,h1,fun H' s=>q H' s⟩
theorem aC1 {op} (ha:PE X a (gE fa ra)):PE X (.BoolOp op [a] pos) (gE fa ra):=aAz ha
theorem DK {d:D} {k:Bool} (h:asB d=.ok k):d=.bl k:=by cases d <;> simp only [asB] at h <;> cases h;rfl
theorem aC2 {d:D} {k:Int} (h:asI d=.ok k):d=.int k:=by cases d <;> simp only [asI] at h <;> cases h;rfl
theorem aC3 (ha:PE X a (gE fa ra)):PE X (.UnaryOp .Not a pos) (gE (aBp fa) true):=PE.imp (aB1 ha) fun σ H Q ⟨ρ,k,E,h,q⟩=>by
  obtain ⟨d,h1,h⟩:=aY h;obtain ⟨z,h2,h⟩:=aY h;cases h;cases DK h2;exact ⟨ρ,_,E,h1,fun v H' s r _=>by cases r;exact ⟨_,rfl,(q.imp s id).bl⟩⟩
theorem aC4 {rest:List Expr} (ha:PE X a (gE fa ra)) (hb:PE X (.BoolOp .And (b::rest) pos) (gE fb rb)):PE X (.BoolOp .And (a::b::rest) pos) (gE (aBq fa fb) rb):=PE.imp (aB0 ha hb) fun σ H Q ⟨ρ,k,E,h,q⟩=>by
  obtain ⟨d,h1,h⟩:=aY h;obtain ⟨z,h2,h3⟩:=aY h;cases DK h2;refine ⟨ρ,_,E,h1,fun v H' s r _=>?_⟩;cases r;refine ⟨_,rfl,?_⟩;cases z with
  | true=>rw [if_pos rfl];rw [if_pos rfl] at h3;exact ⟨ρ,k,E.same s,h3,q.imp s id⟩
  | false=>rw [if_neg (by simp)];rw [if_neg (by simp)] at h3;cases h3;exact (q.imp s id).bl
theorem aO:PA X [] (gA bG true):=PA.imp gU fun σ H Q ⟨ρ,ds,E,h,q⟩=>by cases h;exact q [] H (bN.refl H) .nil fun _=>.nil
theorem aB {es:List Expr} {f:FA} {r:Bool} (he:PE X e (gE fe re)) (hes:PA X es (gA f r)) (hs:starEach (e::es) X.env=(false,eval e X.env)::starEach es X.env:=by rfl):PA X (e::es) (gA (aF fe f) (re&&r)):=PA.imp (eV he hes hs) fun σ H Q ⟨ρ,ds,E,h,q⟩=>by
  obtain ⟨x,h1,h⟩:=aY h;obtain ⟨xs,h2,h⟩:=aY h;cases h;refine ⟨ρ,x,E,h1,fun v H1 s1 r1 n1=>⟨ρ,xs,E.same s1,h2,fun vs H2 s2 r2 n2=>q _ _ (s1.trans s2) (.cons (r1.same s2) r2) fun hf=>?_⟩⟩;obtain ⟨f1,f2⟩:=(Bool.and_eq_true _ _▸hf:re=true/\r=true)
  exact .cons ((n1 f1).same s2) ((n2 f2).mono (bN.new s1))
theorem lA {es:List Expr} {f:FA} {r:Bool} {x1} (h:PA X es (gA f r)):PE X (.Tuple es x1 pos) (gE (oJ f) r):=PE.imp (aBd h) fun σ H Q ⟨ρ,d,E,h,q⟩=>by
  obtain ⟨xs,h1,h⟩:=aY h;split at h
  ·rename_i hl;cases h;refine ⟨ρ,xs,E,h1,fun vs H1 s1 r1 n1=>⟨?_,fun p hp=>?_⟩⟩
   ·rw [r1.length];exact Nat.le_trans (of_decide_eq_true hl) (by rw [sizeLine_eq];decide)
   ·have sp:bN H1 (upd H1 p (.tup vs)):=bN.upd hp;exact q _ _ (s1.trans sp) (.tup aC (r1.same sp)) fun hf=>.tup aC ((n1 hf).same sp)
  ·cases h
theorem qD {es:List Expr} {f:FA} {r:Bool} (h:PA X es (gA f r)):PE X (.List es pos) (gE (WX f) r):=PE.imp (tD h) fun σ H Q ⟨ρ,d,E,h,q⟩=>by
  obtain ⟨xs,h1,h⟩:=aY h;split at h
  ·rename_i hl;cases h;refine ⟨ρ,xs,E,h1,fun vs H1 s1 r1 n1=>⟨?_,fun p hp=>?_⟩⟩
   ·rw [r1.length];exact Nat.le_trans (of_decide_eq_true hl) (by rw [sizeLine_eq];decide)
   ·have sp:bN H1 (upd H1 p (.lst vs)):=bN.upd hp;exact q _ _ (s1.trans sp) (.lst aC trivial (r1.same sp)) fun hf=>.lst aC (s1.free hp) ((n1 hf).same sp)
  ·cases h
theorem UL:PE X (.Dict [] [] pos) (gE (bC (.dct [])) true):=PE.imp BZ fun σ H Q ⟨ρ,d,E,h,q⟩=>by
  cases h;exact fun p hp=>q _ _ (bN.upd hp) (.dK aC trivial .nil List.nodup_nil) fun _=>.dK aC hp .nil List.nodup_nil
end
end Mi
end
section
namespace Mi
open PySem L2 PySem.SeqAt PySem.Spec PyProof.Rows
variable [KFrag]
section
variable {X:Cx} {a b c e:Expr} {pos:Pos} {fa fb fc fe:FE} {ra rb rc re:Bool} {ga gb gc:FT}
theorem pF {n:Nat} (h:decide (n<=lim)=true):n<=sizeLine:=Nat.le_trans (of_decide_eq_true h) (by rw [sizeLine_eq];decide)
theorem qF {n:Nat} (h:decide (n<lim)=true):n<sizeLine:=Nat.lt_of_lt_of_le (of_decide_eq_true h) (by rw [sizeLine_eq];decide)
theorem Rep.aC5 {P:Addr->Prop} {H:Hp} {v:V} {ds:List D} (r:Rep P H v (.lst ds)):∃a xs,v=.ref a/\Rd H a (.lst xs)/\bB P H xs ds:=by
 cases r with
 | lst e p rr=>exact ⟨_,_,rfl,.inl e,rr⟩
theorem PW.imp {X:Cx} {e:PySem.Expr} {t t':TT} (h:PW X e t) (i:∀σ H Q,t' σ H Q->t σ H Q):PW X e t':=fun wh pins s σ H Q I q=>h wh pins s σ H Q I (i σ H Q q)
theorem uO (ha:PT X a (gT ga)):PW X (.BoolOp .And [a] pos) (gT ga):=X5 ha
theorem DN (ha:PT X a (gT ga)):PW X (.BoolOp .Or [a] pos) (gT ga):=aAw ha
theorem DP {rest:List Expr} (ha:PT X a (gT ga)) (hb:PW X (.BoolOp .And (b::rest) pos) (gT gb)):PW X (.BoolOp .And (a::b::rest) pos) (gT (zG ga gb)):=PW.imp (aAx ha hb) fun σ H Q ⟨ρ,k,E,h,q⟩=>by
 obtain ⟨z,h1,h3⟩:=aY h;refine ⟨ρ,z,E,h1,fun H' s=>?_⟩;cases z with
 | true=>rw [if_pos rfl];rw [if_pos rfl] at h3;exact ⟨ρ,k,E.same s,h3,fun H2 s2=>q H2 (s.trans s2)⟩
 | false=>rw [if_neg (by simp)];rw [if_neg (by simp)] at h3;cases h3;exact q H' s
theorem UT {rest:List Expr} (ha:PT X a (gT ga)) (hb:PW X (.BoolOp .Or (b::rest) pos) (gT gb)):PW X (.BoolOp .Or (a::b::rest) pos) (gT (bOr ga gb)):=PW.imp (aDk ha hb) fun σ H Q ⟨ρ,k,E,h,q⟩=>by
 obtain ⟨z,h1,h3⟩:=aY h;refine ⟨ρ,z,E,h1,fun H' s=>?_⟩;cases z with
 | true=>rw [if_pos rfl];rw [if_pos rfl] at h3;cases h3;exact q H' s
 | false=>rw [if_neg (by simp)];rw [if_neg (by simp)] at h3;exact ⟨ρ,k,E.same s,h3,fun H2 s2=>q H2 (s.trans s2)⟩
theorem aC6 {f g:D->D->Res D} {r r':Bool} {σ:L2.St} {H:Hp} {Q:VK} (h:gE (bCh f g fa fb fc) r' σ H Q):WN (r2 f r) (r2 g r') (gE fa ra) (gE fb rb) (gE fc rc) σ H Q:=by
 obtain ⟨ρ,d,E,h,q⟩:=h;obtain ⟨x,h1,h⟩:=aY h;obtain ⟨y,h2,h⟩:=aY h;obtain ⟨z,h3,h⟩:=aY h;obtain ⟨k,h4,h7⟩:=aY h;refine ⟨ρ,x,E,h1,fun v H1 s1 rp1 _=>⟨ρ,y,E.same s1,h2,fun u H2 s2 rp2 _=>⟨x,y,z,rp1.same s2,rp2,h3,fun t H3 s3 rp3 _=>?_⟩⟩⟩;have e:=DK h4;subst e;cases rp3;refine ⟨k,rfl,?_⟩;have s13:=(s1.trans s2).trans s3;cases k with
 | true=>
  rw [if_pos rfl];rw [if_pos rfl] at h7;obtain ⟨w,h5,h6⟩:=aY h7;exact ⟨ρ,w,E.same s13,h5,fun t H4 s4 rp4 _=>⟨y,w,d,(rp2.same s3).same s4,rp4,h6,q.imp (s13.trans s4) id⟩⟩
 | false=>
  rw [if_neg (by simp)];rw [if_neg (by simp)] at h7;cases h7;exact (q.imp s13 id).bl
theorem UV {o o':CmpOp} {f g:D->D->Res D} {r r':Bool} (ho:OpR X (compareOp o) (r2 f r)) (ho':OpR X (compareOp o') (r2 g r')) (ha:PE X a (gE fa ra)) (hb:PE X b (gE fb rb)) (hc:PE X c (gE fc rc))
  (hm:lastMarks [o,o'] [b,c]=false:=by with_unfolding_all rfl):PT X (.Compare a [o,o'] [b,c] pos) (gT (bTB (bCh f g fa fb fc))):=PT.imp (S6 ho ho' ha hb hc hm) fun σ H Q ⟨ρ,k,E,h,q⟩=>by
  obtain ⟨d,h1,h2⟩:=aY h;refine aC6 ⟨ρ,d,E,h1,fun v H' s r _=>?_⟩;have e:=DK h2;subst e;cases r;exact ⟨_,rfl,q H' s⟩
theorem cN:OpR X (binaryOp .Add) (r2 (aU .add) true):=by
 intro pins s σ H x y v u Q I rx ry h;obtain ⟨a,b,d,p,q,e,k⟩:=h;cases p with
 | int i=>
  cases q with
  | int j=>cases e;exact aB5 pins s σ H _ _ v u Q I rx ry ⟨i,j,rfl,rfl,k.int⟩
  | _=>simp [aU] at e
 | str i=>
  cases q with
  | str j=>
   simp only [aU] at e;split at e
   ·rename_i hl;cases e;exact HD pins s σ H _ _ v u Q I rx ry ⟨i,j,rfl,rfl,pF hl,k.str⟩
   ·cases e
  | _=>simp [aU] at e
 | non=>simp [aU] at e
 | bl _=>simp [aU] at e
 | tup _ _=>simp [aU] at e
 | dK _ _ _ _=>simp [aU] at e
 | dT _ _ _ _=>simp [aU] at e
 | fdK _ _ _=>simp [aU] at e
 | fdT _ _ _=>simp [aU] at e
 | cel _ _ _=>simp [aU] at e
 | @lst a1 xs ds e1 p1 r1=>
  have hR:Rep All H (.ref a1) (.lst ds):=.lst e1 p1 r1;cases b with
  | lst es=>
   simp only [aU] at e;split at e
   ·rename_i hl;cases e;rw [Bool.and_eq_true,Bool.and_eq_true] at hl;obtain ⟨⟨hl,hp1⟩,hp2⟩:=hl;obtain ⟨l1,xs1,e1',rd1,rr1⟩:=hR.aC5;obtain ⟨l2,xs2,rfl,rd2,rr2⟩:=q.aC5;cases e1';cases rx;cases ry;obtain ⟨z,its,n,vr1,ee1⟩:=rd1.ok I.hok;obtain ⟨z2,its2,n2,vr2,ee2⟩:=rd2.ok I.hok;have hz:xs1.length+xs2.length<=sizeLine:=by rw [rr1.length,rr2.length];exact pF hl
    have t1:=vr1.length;have t2:=vr2.length;refine PySem.P.add_list ee1 ee2 ?_ (by rw [List.size_toArray,List.size_toArray];lia);have ea:its.toArray++its2.toArray=(its++its2).toArray:=by simp
    rw [ea];refine ⟨.ref _,_,I.aFt (t':=s.toks) (vr1.append vr2) (by rw [List.length_append];lia),rfl,?_⟩;have sp:bN H (upd H s.heap.objs.size (.lst (xs1++xs2))):=bN.upd I.fresh;exact k _ _ sp (.lst aC trivial ((rr1.append rr2).same sp)) fun _=>.lst aC I.fresh (((rr1.bF hp1).append (rr2.bF hp2)).same sp)
   ·cases e
  | _=>simp [aU] at e
 | frz _ _=>simp [aU] at e
theorem uP {f:Value->Value->Sem Value} {C:Int->Int->Prop} {g:Int->Int->V} {op:D->D->Res D} (h:OpR X f (rI C g))
  (hi:∀i j d,op (.int i) (.int j)=.ok d->C i j/\∃k,d=.int k/\g i j=.int k) (hn:∀a b d,op a b=.ok d->(∃i,a=.int i)/\∃j,b=.int j):OpR X f (r2 op true):=by
 intro pins s σ H x y v u Q I rx ry ⟨a,b,d,p,q,e,k⟩;obtain ⟨⟨i,rfl⟩,⟨j,rfl⟩⟩:=hn a b d e;cases p;cases q;obtain ⟨hc,m,rfl,hm⟩:=hi i j d e;exact h pins s σ H _ _ v u Q I rx ry ⟨i,j,rfl,rfl,hc,by rw [hm];exact k.int⟩
theorem aC7:OpR X (binaryOp .Sub) (r2 (aU .sub) true):=by
 intro pins s σ H x y v u Q I rx ry ⟨a,b,d,p,q,e,k⟩;cases a <;> cases b <;> simp [aU] at e
 cases p;cases q;subst e;exact aB6 pins s σ H _ _ v u Q I rx ry ⟨_,_,rfl,rfl,k.int⟩
theorem qG:OpR X (binaryOp .Mult) (r2 (aU .mul) true):=by
 refine uP aB7 (fun i j d e=>?_) fun a b d e=>?_
 ·simp only [aU] at e;split at e
  ·rename_i hl;cases e;refine ⟨?_,_,rfl,rfl⟩;simp only [p7,Bool.or_eq_true,Bool.and_eq_true,decide_eq_true_eq] at hl;exact hl
  ·cases e
 ·cases a <;> cases b <;> first|exact ⟨⟨_,rfl⟩,_,rfl⟩|simp [aU] at e
theorem fQ:OpR X (binaryOp .FloorDiv) (r2 (aU .fdiv) true):=by
 refine uP X7 (fun i j d e=>?_) fun a b d e=>?_
 ·simp only [aU] at e;split at e
  ·rename_i hl;cases e;refine ⟨?_,_,rfl,rfl⟩;simp only [Bool.and_eq_true,decide_eq_true_eq] at hl;exact hl
  ·cases e
 ·cases a <;> cases b <;> first|exact ⟨⟨_,rfl⟩,_,rfl⟩|simp [aU] at e
theorem dO:OpR X (binaryOp .Mod) (r2 (aU .mod) true):=by
 refine uP aB8 (fun i j d e=>?_) fun a b d e=>?_
 ·simp only [aU] at e;split at e
  ·rename_i hl;cases e;refine ⟨?_,_,rfl,rfl⟩;simp only [Bool.and_eq_true,decide_eq_true_eq] at hl;exact hl
  ·cases e
 ·cases a <;> cases b <;> first|exact ⟨⟨_,rfl⟩,_,rfl⟩|simp [aU] at e
theorem W4:OpR X (binaryOp .Pow) (r2 (aU .pow) true):=by
 refine uP aB9 (fun i j d e=>?_) fun a b d e=>?_
 ·simp only [aU] at e;split at e
  ·rename_i hl;cases e;refine ⟨?_,_,rfl,rfl⟩;simp only [Bool.and_eq_true,decide_eq_true_eq] at hl;exact ⟨hl.1.1,hl.1.2,hl.2⟩
  ·cases e
 ·cases a <;> cases b <;> first|exact ⟨⟨_,rfl⟩,_,rfl⟩|simp [aU] at e
theorem aC8:UnR X (unaryOp .USub) (r1 aBr true):=by
 intro pins s σ H x v Q I rx ⟨a,d,p,e,k⟩;cases a <;> simp [aBr] at e
 subst e;cases p;exact aBa pins s σ H _ v Q I rx ⟨_,rfl,k.int⟩
theorem zM (hu:X.A.units+20<cLine):OpR X (compareOp .Eq) (r2 (bR .eq) true):=by
 intro pins s σ H x y v u Q I rx ry ⟨a,b,d,p,q,e,k⟩;simp only [bR] at e;split at e
 ·rename_i hl;cases e;rw [Bool.and_eq_true] at hl;exact (wQ I aP X.A (by have:aP=12:=rfl;lia) hl.1 hl.2 p q rx ry).1 X.prog X.w X.xe _ ⟨.bl _,H,I,rfl,k.bl⟩
 ·cases e
theorem Y9 (hu:X.A.units+20<cLine):OpR X (compareOp .NotEq) (r2 (bR .ne) true):=by
 intro pins s σ H x y v u Q I rx ry ⟨a,b,d,p,q,e,k⟩;simp only [bR] at e;split at e
 ·rename_i hl;cases e;rw [Bool.and_eq_true] at hl;exact (wQ I aP X.A (by have:aP=12:=rfl;lia) hl.1 hl.2 p q rx ry).2.1 X.prog X.w X.xe _ ⟨.bl _,H,I,rfl,k.bl⟩
 ·cases e
theorem N7 (o:e_) (hu:X.A.units+20<cLine):OpR X (compareOp o.op) (r2 (bR (.ord o)) true):=by
 intro pins s σ H x y v u Q I rx ry ⟨a,b,d,p,q,e,k⟩;simp only [bR] at e;split at e
 ·rename_i hl;rw [Bool.and_eq_true] at hl;split at e
  ·rename_i m hm;cases e;have:=zL I o aP X.A (by have:aP=12:=rfl;lia) hl.1 hl.2 p q rx ry hm X.prog X.w X.xe _ (show EP X pins σ Q (.bool m) s from ⟨.bl _,H,I,rfl,k.bl⟩);cases o <;> exact this
  ·cases e
 ·cases e
theorem N8 (hu:X.A.units+20<cLine):OpR X (compareOp .Lt) (r2 (bR (.ord .lt)) true):=N7 .lt hu
theorem Y_ (hu:X.A.units+20<cLine):OpR X (compareOp .LtE) (r2 (bR (.ord .le)) true):=N7 .le hu
theorem N_ (hu:X.A.units+20<cLine):OpR X (compareOp .Gt) (r2 (bR (.ord .gt)) true):=N7 .gt hu
end
end Mi
end
section
namespace Mi
open PySem L2 PySem.SeqAt PySem.Spec PyProof.Rows
variable [KFrag]
theorem wV (k q:Key):eqD (kD k) (kD q)=decide (k=q):=by
 cases k <;> cases q <;> simp [kD,eqD,Bool.beq_eq_decide_eq]
theorem W5:∀(k q:List Key),pA (k.map kD) (q.map kD)=decide (k=q)
 | [],[]=>by simp [pA]
 | [],_::_=>by simp [pA]
 | _::_,[]=>by simp [pA]
 | a::k,b::q=>by
  rw [List.map_cons,List.map_cons,pA,wV,W5 k q];by_cases h:a=b <;> by_cases h':k=q <;> simp [h,h']
theorem ZC (k q:List Key):eqD (.tup (k.map kD)) (.tup (q.map kD))=decide (k=q):=by rw [eqD,W5]
theorem JG {P:Addr->Prop} {H:Hp} {k:Key}:∀{kvs:List (Key×V)} {ds:List (D×D)},kO P H kvs ds->(∃v d,lW kvs k=some v/\bU ds (kD k)=some d/\Rep P H v d)\/(lW kvs k=none/\bU ds (kD k)=none)
 | _,_,.nil=>.inr ⟨rfl,rfl⟩
 | _,_,.cons (k:=k') r t=>by
  by_cases h:k'=k
  ·subst h;exact .inl ⟨_,_,mD rfl,by rw [bU,wV,if_pos (by simp)],r⟩
  ·rw [bU,wV,if_neg (by simpa using h),mF (p:=(k',_)) h];exact JG t
theorem ZD {P:Addr->Prop} {H:Hp} {k:List Key}:∀{kvs:List (List Key×V)} {ds:List (D×D)},nO P H kvs ds->(∃v d,lW kvs k=some v/\bU ds (.tup (k.map kD))=some d/\Rep P H v d)\/(lW kvs k=none/\bU ds (.tup (k.map kD))=none)
 | _,_,.nil=>.inr ⟨rfl,rfl⟩
 | _,_,.cons (k:=k') r t=>by
  by_cases h:k'=k
  ·subst h;exact .inl ⟨_,_,mD rfl,by rw [bU,ZC,if_pos (by simp)],r⟩
  ·rw [bU,ZC,if_neg (by simpa using h),mF (p:=(k',_)) h];exact ZD t
theorem uQ {H:Hp} {v:V} {d:D} (h:cT d=true) (r:Rep All H v d):∃k,v=kV k/\d=kD k:=by
 cases r <;> simp [cT] at h
 ·exact ⟨.inl _,rfl,rfl⟩
 ·exact ⟨.inr _,rfl,rfl⟩
theorem flat_keys {H:Hp}:∀{vs:List V} {ds:List D},ds.all cT=true->bB All H vs ds->∃ks:List Key,vs=ks.map kV/\ds=ks.map kD
 | _,_,_,.nil=>⟨[],rfl,rfl⟩
 | _,_,h,.cons r t=>by
  rw [List.all_cons,Bool.and_eq_true] at h;obtain ⟨k,rfl,rfl⟩:=uQ h.1 r;obtain ⟨ks,rfl,rfl⟩:=flat_keys h.2 t;exact ⟨k::ks,rfl,rfl⟩
theorem g8 {H:Hp} {y:V} {k:D} (h:keyOk k=true) (r:Rep All H y k):(∃q,y=kV q/\k=kD q)\/∃(b:Addr) (ks:List Key),y=.ref b/\H b=some (.tup (ks.map kV))/\k=.tup (ks.map kD):=by
 cases k <;> simp [keyOk] at h
 ·exact .inl (uQ rfl r)
 ·exact .inl (uQ rfl r)
 ·obtain ⟨a,xs,rfl,e,rr⟩:=r.dG;obtain ⟨ks,rfl,rfl⟩:=flat_keys (List.all_eq_true.mpr h) rr;exact .inr ⟨a,ks,rfl,e,rfl⟩
theorem j5 (k:Key):isTup (kD k)=false:=by cases k <;> rfl
section
variable {X:Cx} {pins:List (Addr×Obj)} {σ:L2.St} {H:Hp} {s:Shared} {a:Addr}
theorem uR {o o':HO} (e:H a=some o):upd (upd H a o') a o=H:=by
 rw [yN]
 funext b
 by_cases h:b=a
 ·subst h;rw [aC,e]
 ·rw [aR h]
theorem j6 (I:Inv X pins σ H s) (e:H a=some (.dK [])):Inv X pins σ (upd H a (.dT [])) s:=by
 obtain ⟨z,hd,vs,rel,o,es,ep,h1,h2,h3,h4,h5,h6⟩:=HR I.hok e;cases rel;refine I.write (t':=s.toks) (x:=a) (e:=a) (h':=s.heap) (by rw [e];trivial) (.inl rfl) (fun _ _ _ q=>q) ⟨o,h1⟩ ?_;refine ⟨Nat.zero_le _,hd,[],.nil,o,es,ep,h1,h2,h3,?_,List.nodup_nil⟩;cases h5':es.toList with
 | nil=>rfl
 | cons _ _=>rw [h5'] at h5;cases h5
theorem j7 (I:Inv X pins σ H s) (e:H a=some (.dT [])):Inv X pins σ (upd H a (.dK [])) s:=by
 obtain ⟨z,hd,vs,rel,o,es,ep,h1,h2,h3,h4,h5,h6⟩:=TJ I.hok e;cases rel;refine I.write (t':=s.toks) (x:=a) (e:=a) (h':=s.heap) (by rw [e];trivial) (.inl rfl) (fun _ _ _ q=>q) ⟨o,h1⟩ ?_;have h0:es.toList=[]:=h4;refine ⟨Nat.zero_le _,hd,[],.nil,o,es,ep,h1,h2,h3,?_,?_,List.nodup_nil⟩
 ·intro x hx;have:x∈es.toList:=by simpa using hx
  rw [h0] at this;cases this
 ·rw [h0];exact .nil
theorem DQ {P:Addr->Prop}:∀{kvs:List (Key×V)} {ds:List (D×D)},kO P H kvs ds->∀p∈ds,isTup p.1=false
 | _,_,.nil,_,h=>by cases h
 | _,_,.cons r t,p,h=>by
  rcases List.mem_cons.mp h with rfl|h
  ·exact j5 _
  ·exact DQ t p h
theorem DR {P:Addr->Prop}:∀{kvs:List (List Key×V)} {ds:List (D×D)},nO P H kvs ds->∀p∈ds,isTup p.1=true
 | _,_,.nil,_,h=>by cases h
 | _,_,.cons r t,p,h=>by
  rcases List.mem_cons.mp h with rfl|h
  ·rfl
  ·exact DR t p h
theorem aC9 {x y:V} {ds:List (D×D)} {k:D} (I:Inv X pins σ H s) (rd:Rep All H x (.dct ds)) (rk:Rep All H y k) (hk:rW ds k=true) :
  ∃H1 a o,x=.ref a/\Inv X pins σ H1 s/\(∀s',Inv X pins σ H1 s'->Inv X pins σ H s')/\K7 H1 a y o/\((o=none/\bU ds k=none)\/∃v d,o=some v/\bU ds k=some d/\Rep All H v d):=by
 unfold rW at hk;rw [Bool.and_eq_true] at hk;obtain ⟨h1,h2⟩:=hk;cases rd with
 | @dK a kvs ds e _ r n=>
  rcases g8 h1 rk with ⟨q,rfl,rfl⟩|⟨b,ks,rfl,eb,rfl⟩
  ·refine ⟨H,a,_,rfl,I,fun _ h=>h,.k e,?_⟩;rcases JG (k:=q) r with ⟨v,d,g1,g2,g3⟩|⟨g1,g2⟩
   ·exact .inr ⟨v,d,g1,g2,g3⟩
   ·exact .inl ⟨g1,g2⟩
  ·cases r with
   | nil=>
    have e2:=uR (o':=.dT []) e;refine ⟨upd H a (.dT []),a,none,rfl,j6 I e,fun s' I'=>?_,.t (k:=ks) aC (by rw [aR (XS eb e (by intro z;cases z))];exact eb),.inl ⟨rfl,rfl⟩⟩;have:=j7 I' aC;rwa [e2] at this
   | cons r t=>
    rw [List.all_cons,j5] at h2;simp [isTup] at h2
 | @dT a kvs ds e _ r n=>
  rcases g8 h1 rk with ⟨q,rfl,rfl⟩|⟨b,ks,rfl,eb,rfl⟩
  ·cases r with
   | nil=>
    have e2:=uR (o':=.dK []) e;refine ⟨upd H a (.dK []),a,none,rfl,j7 I e,fun s' I'=>?_,.k (k:=q) aC,.inl ⟨rfl,rfl⟩⟩;have:=j6 I' aC;rwa [e2] at this
   | cons r t=>
    rw [List.all_cons,j5] at h2;simp [isTup] at h2
  ·refine ⟨H,a,_,rfl,I,fun _ h=>h,.t e eb,?_⟩;rcases ZD (k:=ks) r with ⟨v,d,g1,g2,g3⟩|⟨g1,g2⟩
   ·exact .inr ⟨v,d,g1,g2,g3⟩
   ·exact .inl ⟨g1,g2⟩
theorem UW {x:V} {ds:List (D×D)} {k d:D} (rd:Rep All H x (.dct ds)) (hk:keyOk k=true) (h:bU ds k=some d):rW ds k=true:=by
 have one:∀{ds:List (D×D)},bU ds k=some d->∃p∈ds,eqD p.1 k=true:=by
  intro ds;induction ds with
  | nil=>intro h;cases h
  | cons p ds ih=>
   intro h;obtain ⟨p1,p2⟩:=p;rw [bU] at h;by_cases hq:eqD p1 k=true
   ·exact ⟨_,List.mem_cons_self ..,hq⟩
   ·rw [if_neg hq] at h;obtain ⟨p,hp,e⟩:=ih h;exact ⟨p,List.mem_cons_of_mem _ hp,e⟩
 obtain ⟨p,hp,he⟩:=one h;unfold rW;rw [hk,Bool.true_and,List.all_eq_true];intro q hq;have same:isTup p.1=isTup k:=by
  obtain ⟨p1,p2⟩:=p;cases p1 <;> cases k <;> simp [eqD,keyOk,isTup] at he hk ⊢
 cases rd with
 | dK e _ r n=>rw [DQ r q hq,<-same,DQ r p hp];rfl
 | dT e _ r n=>rw [DR r q hq,<-same,DR r p hp];rfl
end
section
variable {X:Cx} {a b c e:Expr} {pos:Pos} {fa fb fc fe:FE} {ra rb rc re:Bool} {ga gb gc:FT}
noncomputable def R_ (H:Hp) (u:Value):D:=by
 classical
 exact if h:∃d,d.bK aP=true/\∃v,RelV v u/\Rep All H v d then Classical.choose h else .non
theorem OD {H:Hp} {u:Value} {v:V} {d:D} (hq:d.bK aP=true) (rv:RelV v u) (r:Rep All H v d):R_ H u=d:=by
 unfold R_;have h:∃d,d.bK aP=true/\∃v,RelV v u/\Rep All H v d:=⟨d,hq,v,rv,r⟩
 rw [dif_pos h];obtain ⟨h2,v',rv',r'⟩:=Classical.choose_spec h;have:=rv'.inj rv;subst this;exact Rep.inj aP h2 hq r' r
theorem zN {H:Hp} {a:D}:∀{xs:List V} {ds:List D} {its:List Value},D.eE aP ds=true->bB All H xs ds->Vals xs its->(its.any fun u=>eqD (R_ H u) a)=ds.any fun y=>eqD y a
 | _,_,_,_,.nil,.nil=>rfl
 | _,_,_,h,.cons r t,.cons v vt=>by
  rw [D.eE,Bool.and_eq_true] at h;rw [List.any_cons,List.any_cons,OD h.1 v r,zN h.2 t vt]
theorem OJ {pins:List (Addr×Obj)} {σ:L2.St} {H:Hp} {s:Shared} (I:Inv X pins σ H s) (hu:X.A.units+20<cLine) {a:D} {x:V} {v:Value} (ha:a.bK aP=true) (rx:Rep All H x a) (rv:RelV x v)
  {xs:List V} {ds:List D} {its:List Value} (h:D.eE aP ds=true) (r:bB All H xs ds) (vr:Vals xs its) (u:Value) (hm:u∈its):EqAt X.A.in1 s u v (eqD (R_ H u) a):=by
 obtain ⟨j,hj,e⟩:=List.getElem_of_mem hm;have hj':j<ds.length:=by rw [<-r.length,vr.length];exact hj
 obtain ⟨w,h1,h2⟩:=r.get (i:=j) (d:=ds[j]) (by simp [hj']);obtain ⟨u',h3,h4⟩:=vr.get h1;rw [List.getElem?_eq_getElem hj,e] at h3;cases h3;have hd:ds[j].bK aP=true:=by
  have:=cX (j:=j) h hj';rwa [List.getD_eq_getElem?_getD,List.getElem?_eq_getElem hj'] at this
 rw [OD hd h4 h2];exact (wQ I aP X.A.in1 (by show X.A.units+1+12<cLine;lia) hd ha h2 rx h4 rv).2.2
theorem mU (hu:X.A.units+20<cLine):OpR X (compareOp .NotIn) (r2 (bR .notin) true):=by
 intro pins s σ H x y v u Q I rx ry ⟨a,b,d,p,q,e,k⟩;cases b with
 | tup ys=>
  simp only [bR] at e;split at e
  ·rename_i hl;cases e;rw [Bool.and_eq_true] at hl;obtain ⟨l,xs,rfl,ee,rr⟩:=q.dG;cases ry;obtain ⟨its,vr,pl⟩:=fB I ee;refine notIn_tupleAt (fun u=>eqD (R_ H u) a) pl (fun w hw=>OJ I hu hl.1 p rx hl.2 rr vr w (by simpa using hw)) ⟨.bl _,H,I,rfl,?_⟩;rw [show its.toArray.any (fun u=>eqD (R_ H u) a)=its.any (fun u=>eqD (R_ H u) a) by simp,zN hl.2 rr vr];exact k.bl
  ·cases e
 | lst ys=>
  simp only [bR] at e;split at e
  ·rename_i hl;cases e;rw [Bool.and_eq_true] at hl;obtain ⟨l,xs,rfl,ee,rr⟩:=q.eF (K:=X.K);cases ry;obtain ⟨its,vr,pl⟩:=k_ I ee;refine notIn_listAt (fun u=>eqD (R_ H u) a) pl (fun w hw=>OJ I hu hl.1 p rx hl.2 rr vr w (by simpa using hw)) ⟨.bl _,H,I,rfl,?_⟩;rw [show its.toArray.any (fun u=>eqD (R_ H u) a)=its.any (fun u=>eqD (R_ H u) a) by simp,zN hl.2 rr vr];exact k.bl
  ·cases e
 | dct kvs=>
  simp only [bR] at e;split at e
  ·rename_i hl;cases e;obtain ⟨H1,a1,o,rfl,I1,bk,g,hc⟩:=aC9 I q p hl;cases ry;refine YK (by lia) I1 g rx fun s' I'=>⟨.bl _,H,bk s' I',rfl,?_⟩
   rcases hc with ⟨rfl,h2⟩|⟨w,dd,rfl,h2,_⟩
   ·rw [h2] at k;exact k.bl
   ·rw [h2] at k;exact k.bl
  ·cases e
 | _=>simp [bR] at e
theorem W6 {α:Type} (xs:List α) (i:Int):L2.atI xs i=(ixD xs.length i).bind fun j=>xs[j]?:=rfl
theorem bB.atI {P:Addr->Prop} {H:Hp} {xs:List V} {ds:List D} {i:Int} {d:D} (r:bB P H xs ds) (h:((ixD ds.length i).bind fun j=>ds[j]?)=some d):∃v,L2.atI xs i=some v/\Rep P H v d:=by
 rw [W6,r.length];cases hi:ixD ds.length i with
 | none=>rw [hi] at h;cases h
 | some j=>
  rw [hi] at h;obtain ⟨v,h1,h2⟩:=r.get h;exact ⟨v,h1,h2⟩
theorem qH {X:Cx} {value slice:Expr} {pins:List (Addr×Obj)} {s:Shared} {σ:L2.St} {H:Hp} {a:Addr} {y v':V} {u:Value} {Q:VK} (hu:X.A.units+20<cLine) (I:Inv X pins σ H s) (g:K7 H a y (some v')) (ry:RelV y u) {H':Hp}
  (hs:subscripted slice false (.ref a) u=operate [.ref a,u] (getItem (.ref a) u)) (bk:∀s',Inv X pins σ H s'->Inv X pins σ H' s') (q:Q v' H') :
  wpAny (model X.prog X.w) X.A (subscriptTail value slice (.ref a) u) (EP X pins σ Q) X.xe s:=by
 have hT:=yR I g;unfold subscriptTail;refine wpAny_bind ?_;rw [getitemInPython_of_ne hT.not_modules];refine wpAny_bind (wpAny_specialOf hT PySem.F.slot_dict_getitem.lookup ?_);have fin:wpAny (model X.prog X.w) X.A (subscripted slice false (.ref a) u) (fun r s₃=>wpAny (model X.prog X.w) X.A (letTemporaryGo value (.ref a) r >>= fun _=>pure r) (EP X pins σ Q) X.xe s₃) X.xe s:=by
  rw [hs];exact wpAny_operating (K8 (by lia) I g ry fun w' s3 I3 rw'=>wpAny_bind (wpAny_letTemporaryGo (wpAny_pure ⟨v',H',bk s3 I3,rw',q⟩)))
 first
  | exact wpAny_pure (wpAny_bind fin)
  | exact wpAny_bind (wpAny_pure (wpAny_bind fin))
  | exact wpAny_bind fin
theorem DW {k d:D}:∀{ds:List (D×D)},keyOk k=true->bU ds k=some d->∃p∈ds,isTup p.1=isTup k
 | [],_,h=>by cases h
 | (p1,p2)::ds,hk,h=>by
  rw [bU] at h;by_cases hq:eqD p1 k=true
  ·refine ⟨_,List.mem_cons_self ..,?_⟩;cases p1 <;> cases k <;> simp [eqD,keyOk,isTup] at hq hk ⊢
  ·rw [if_neg hq] at h;obtain ⟨p,hp,e⟩:=DW hk h;exact ⟨p,List.mem_cons_of_mem _ hp,e⟩
theorem aEa {H:Hp} {x y:V} {ds:List (D×D)} {k d:D} (rd:Rep All H x (.fdc ds)) (rk:Rep All H y k) (hk:keyOk k=true) (h:bU ds k=some d):∃a v,x=.ref a/\K7 H a y (some v)/\Rep All H v d:=by
 obtain ⟨p,hp,et⟩:=DW hk h;cases rd with
 | @fdK a o kvs ds e r n=>
  rcases g8 hk rk with ⟨q,rfl,rfl⟩|⟨b,ks,rfl,eb,rfl⟩
  ·rcases JG (k:=q) r with ⟨v,d',g1,g2,g3⟩|⟨g1,g2⟩
   ·rw [g2] at h;cases h;exact ⟨a,v,rfl,.inl ⟨kvs,q,.inr ⟨o,e⟩,rfl,g1.symm⟩,g3⟩
   ·rw [g2] at h;cases h
  ·rw [DQ r p hp] at et;cases et
 | @fdT a o kvs ds e r n=>
  rcases g8 hk rk with ⟨q,rfl,rfl⟩|⟨b,ks,rfl,eb,rfl⟩
  ·rw [DR r p hp,j5] at et;cases et
  ·rcases ZD (k:=ks) r with ⟨v,d',g1,g2,g3⟩|⟨g1,g2⟩
   ·rw [g2] at h;cases h;exact ⟨a,v,rfl,.inr ⟨kvs,ks,b,.inr ⟨o,e⟩,rfl,eb,g1.symm⟩,g3⟩
   ·rw [g2] at h;cases h
theorem cJ (hK:KFrag.K=X.K) (hu:X.A.units+20<cLine):IxR X (r2 getD false):=by
 intro value slice pins s σ H x y v u Q I rx ry ⟨a,b,d,p,q,e,k⟩ hs;cases a with
 | tup ys=>
  cases b <;> simp only [getD] at e <;> (try (cases e;done))
  have e':=Res.iG e;obtain ⟨l,xs,rfl,ee,rr⟩:=p.dG;cases q;obtain ⟨w,h1,h2⟩:=rr.atI e';exact aBh value slice pins s σ H _ _ v u Q I rx ry ⟨l,xs,_,w,rfl,rfl,.of ee,h1,k.self h2 fun z=>by cases z⟩ hs
 | lst ys=>
  cases b <;> simp only [getD] at e <;> (try (cases e;done))
  have e':=Res.iG e;obtain ⟨l,xs,rfl,ee,rr⟩:=p.eF (K:=X.K);cases q;obtain ⟨w,h1,h2⟩:=rr.atI e';exact tX value slice pins s σ H _ _ v u Q I rx ry ⟨l,xs,_,w,rfl,rfl,ee,h1,k.self h2 fun z=>by cases z⟩ hs
 | cel ca ys=>
  cases b <;> simp only [getD] at e <;> (try (cases e;done))
  have e':=Res.iG e;cases p with
  | cel ee pp rr=>
   cases q;obtain ⟨w,h1,h2⟩:=rr.atI e';exact tX value slice pins s σ H _ _ v u Q I rx ry ⟨_,_,_,w,rfl,rfl,.inl (.inl ee),h1,k.self h2 fun z=>by cases z⟩ hs
 | scr ys=>
  cases b <;> simp only [getD] at e <;> (try (cases e;done))
  have e':=Res.iG e;cases p with
  | frz ee rr=>
   cases q;obtain ⟨w,h1,h2⟩:=rr.atI e';exact tX value slice pins s σ H _ _ v u Q I rx ry ⟨_,_,_,w,rfl,rfl,ee.sq hK,h1,k.self h2 fun z=>by cases z⟩ hs
 | str z=>
  cases b <;> simp only [getD] at e <;> (try (cases e;done))
  split at e
  ·rename_i hl;have e':=Res.iG e;obtain ⟨cc,h1,h2⟩:=Option.map_eq_some_iff.mp e';subst h2;cases p;cases q;exact aBi value slice pins s σ H _ _ v u Q I rx ry ⟨z,_,cc,rfl,rfl,pF hl,h1,k.str⟩ hs
  ·cases e
 | dct kvs=>
  have e':keyOk b=true/\bU kvs b=some d:=by
   cases b <;> simp only [getD] at e <;> (split at e <;> first|(rename_i hl;exact ⟨hl,Res.iG e⟩)|cases e)
  obtain ⟨H1,a1,o,rfl,I1,bk,g,hc⟩:=aC9 I p q (UW p e'.1 e'.2);cases rx;rcases hc with ⟨rfl,h2⟩|⟨w,dd,rfl,h2,h3⟩
  ·rw [h2] at e';cases e'.2
  ·rw [h2] at e';cases e'.2;exact qH hu I1 g ry hs bk (k.self h3 fun z=>by cases z)
 | fdc kvs=>
  have e':keyOk b=true/\bU kvs b=some d:=by
   cases b <;> simp only [getD] at e <;> (split at e <;> first|(rename_i hl;exact ⟨hl,Res.iG e⟩)|cases e)
  obtain ⟨a1,w,rfl,g,h3⟩:=aEa p q e'.1 e'.2;cases rx;exact qH hu I g ry hs (fun _ h=>h) (k.self h3 fun z=>by cases z)
 | _=>cases b <;> simp [getD] at e
noncomputable def gO (f:List D->Res (Option Int)):TO:=fun σ H Q=>∃ρ i,ER H σ ρ/\f ρ=.ok i/\∀H',bN H H'->Q i H'
theorem PO.imp {X:Cx} {e:Option PySem.Expr} {t t':TO} (h:PO X e t) (i:∀σ H Q,t' σ H Q->t σ H Q):PO X e t':=fun pins s σ H Q I q=>h pins s σ H Q I (i σ H Q q)
theorem ZF:PO X none (gO YZ):=PO.imp YD fun σ H Q ⟨ρ,i,E,h,q⟩=>by cases h;exact q H (bN.refl H)
theorem qI (ha:PE X a (gE fa ra)):PO X (some a) (gO (p_ fa)):=PO.imp (YF ha) fun σ H Q ⟨ρ,i,E,h,q⟩=>by
 obtain ⟨x,h1,h⟩:=aY h;obtain ⟨j,h2,h⟩:=aY h;cases h;have e:=aC2 h2;subst e;exact ⟨ρ,_,E,h1,fun v H' s r _=>by cases r;exact ⟨j,rfl,q H' s⟩⟩
theorem W7 (n d:Nat) (o:Option Int):HT.sIx n d o=CK n d o:=by
 cases o with
 | none=>rfl
 | some v=>
  show (if v<0 then (v+(n:Int)).toNat else min v.toNat n)=(if v<0 then (max (v+(n:Int)) 0).toNat else (min v (n:Int)).toNat);split <;> lia
theorem bB.cut {P:Addr->Prop} {H:Hp} {xs:List V} {ds:List D} (r:bB P H xs ds) (lo hi:Option Int):bB P H (K4 xs lo hi) (cutD ds lo hi):=by
 unfold K4 cutD;rw [r.length];simp only [W7];exact (r.drop _).take _
theorem g_ {ds:List D}:D.aW ds=true↔∀d∈ds,d.pure=true:=by
 induction ds with
 | nil=>simp [D.aW]
 | cons d ds ih=>rw [D.aW,Bool.and_eq_true,ih];simp
noncomputable def rSl:V->Option Int->Option Int->Hp->VK->Prop:=fun x lo hi H Q=>∃a d,Rep All H x a/\R8 a lo hi=.ok d/\kR H d true Q
theorem aEb (hK:KFrag.K=X.K):SlR X rSl:=by
 intro pins s σ H x v vl vu lo hi sl Q I rx hs pl pu ⟨a,d,p,e,k⟩;cases a <;> simp only [R8] at e <;> (try (cases e;done))
 ·split at e
  ·cases e
  ·rename_i hw;cases e;obtain ⟨l,xs,rfl,ee,rr⟩:=p.dG;refine aBg pins s σ H _ v vl vu lo hi sl Q I rx hs pl pu ⟨l,xs,rfl,.of ee,?_,fun p hp=>?_⟩
   ·simp only [W7,rr.length];simp only [Bool.not_eq_true',Bool.or_eq_true,not_or,Bool.not_eq_false',decide_eq_true_eq] at hw;exact hw.2
   ·have sp:bN H (upd H p (.tup (K4 xs lo hi))):=bN.upd hp;have hp2:D.aW ‹List D›=true:=by
     simp only [Bool.or_eq_true,not_or,Bool.not_eq_true'] at hw;simpa using hw.1
    exact k _ _ sp (.tup aC ((rr.cut lo hi).same sp)) fun z=>.tup aC (((rr.bF hp2).cut lo hi).same sp)
 ·split at e
  ·rename_i hl;cases e;obtain ⟨l,xs,rfl,ee,rr⟩:=p.eF (K:=X.K);refine K5 pins s σ H _ v vl vu lo hi sl Q I rx hs pl pu ⟨l,xs,rfl,ee,fun p hp=>?_⟩;have sp:bN H (upd H p (.lst (K4 xs lo hi))):=bN.upd hp;exact k _ _ sp (.lst aC trivial ((rr.cut lo hi).same sp)) fun z=>.lst aC hp (((rr.bF hl).cut lo hi).same sp)
  ·cases e
 ·split at e
  ·rename_i hl;cases e;cases p with
   | @frz l xs ds ee rr=>
    refine K5 pins s σ H _ v vl vu lo hi sl Q I rx hs pl pu ⟨l,xs,rfl,ee.sq hK,fun p hp=>?_⟩;have sp:bN H (upd H p (.lst (K4 xs lo hi))):=bN.upd hp;exact k _ _ sp (.lst aC trivial ((rr.cut lo hi).same sp)) fun z=>.lst aC hp (((rr.bF hl).cut lo hi).same sp)
  ·cases e
theorem ZG {lo hi:Option Expr} {p2:Pos} {fl fh:List D->Res (Option Int)} (hK:KFrag.K=X.K) (he:PE X e (gE fe re)) (hl:PO X lo (gO fl)) (hh:PO X hi (gO fh)):PE X (.Subscript e (.Slice lo hi none p2) pos) (gE (R9 fe fl fh) true):=
 PE.imp (S9 (aEb hK) he hl hh) fun σ H Q ⟨ρ,d,E,h,q⟩=>by
  obtain ⟨x,h1,h⟩:=aY h;obtain ⟨l,h2,h⟩:=aY h;obtain ⟨u,h3,h⟩:=aY h;exact ⟨ρ,x,E,h1,fun v H1 s1 r1 _=>⟨ρ,l,E.same s1,h2,fun H2 s2=>⟨ρ,u,E.same (s1.trans s2),h3,fun H3 s3=>⟨x,d,r1.same (s2.trans s3),h,q.imp ((s1.trans s2).trans s3) id⟩⟩⟩⟩
end
end Mi
end
section
namespace PySem.Mm
open PySem
noncomputable def wdL:Bool->String
 | false => "min.loop"
 | true => "max.loop"
noncomputable def wdO:Bool->CmpOp
 | false=>.Lt
 | true=>.Gt
section
variable {prog:Program} {w:World} {A:Around} {R:Result->Shared->Prop} {I S:Addr} {fp wr:List Addr} {n:Nat} {P:Nat->Value->Prop} {St:Nat->Heap->Prop} {bt:Nat->Nat->Bool} {Gd:Shared->Prop} {op:CmpOp}
structure aCa (prog:Program) (w:World) (A:Around) (op:CmpOp) (P:Nat->Value->Prop) (bt:Nat->Nat->Bool) (wr:List Addr) (top:Nat) (Gd:Shared->Prop):Prop where
 keep:∀s h' tk,Gd s->(∀b o,b∉wr->b<top->s.heap.get? b=some o->h'.get? b=some o)->Gd {s with heap:=h',toks:=tk}
 says:∀i j vi vj s Q E,Gd s->P i vi->P j vj->Q (.bool (bt i j)) s->wpAny (model prog w) A (richCompare op vi vj) Q E s
noncomputable def aF6 (P:Nat->Value->Prop) (bt:Nat->Nat->Bool) (n:Nat):Nat->Array Value->Prop
 | 0,a=>a=#[]/\0<n
 | j+1,a=>∃v,a=#[v,v]/\P (argBest bt j) v
theorem touched (J:aCa prog w A op P bt wr S Gd) {s:Shared} {f:Array Value->Array Value} (g:Gd s):Gd {s with heap:=s.heap.update S (Obj.mapSeq f)}:=
 J.keep s _ s.toks g fun b o _ hb e=>(Heap.get?_update_other _ _ (Nat.ne_of_gt hb)).trans e
theorem turn (m:Bool) (W:Walks prog w A.in1 I fp wr n P St) (hS:S∉fp) (J:aCa prog w A.in1 (wdO m) P bt wr S Gd):∀(k j:Nat) (s:Shared) (a:Array Value) (c:Nat),j+k=n->St j s.heap->Gd s->aF6 P bt n j a->
  s.heap.get? S=some {cls:=.type "list",dict:=none,data:=.seq a c,slots:=#[]}->
  (∀v h' tk,P (argBest bt (n-1)) v->(∀b o,b∉wr->b≠S->s.heap.get? b=some o->h'.get? b=some o)->R (.ok (.ret v)) {s with heap:=h',toks:=tk})->
  codeAny (model prog w) A (.builtin (wdL m) ⟨[.ref I,.none,.ref S],[]⟩) R s:=by
 have off:S∉wr:=fun h=>hS (W.sub _ h)
 have still:∀{j:Nat} {h:Heap} {f:Array Value->Array Value},St j h->St j (h.update S (Obj.mapSeq f)):=fun st=>
  W.frame _ _ _ st fun b hb o e=>(Heap.get?_update_other _ _ fun z:S=b=>hS (z▸hb)).trans e
 intro k;induction k with
 | zero=>
  intro j s a c hj st g hb hs fin;have hjn:j=n:=hj;subst hjn;cases j with
  | zero=>exact absurd hb.2 (Nat.lt_irrefl 0)
  | succ j=>
   obtain ⟨v,rfl,hv⟩:=hb;have last:∀(h':Heap) (tk:Nat),(∀b o,b∉wr->s.heap.get? b=some o->h'.get? b=some o)->R (.ok (.ret v)) {s with heap:=h'.update S (Obj.mapSeq fun _=>#[]),toks:=tk}:=fun h' tk kp=>
    fin v _ tk hv fun b o h1 h2 e=>(Heap.get?_update_other _ _ (Ne.symm h2)).trans (kp b o h1 e)
   cases m
   ·show codeAny (model prog w) A (.builtin "min.loop" ⟨[.ref I,.none,.ref S],[]⟩) R s;refine codeAny_builtin F.entry_min_loop ?_;rw [Around.under_plainId F.plain_min_loop];refine wpAny_bind (m:=seqItems? (.ref S)) (wpAny_seqItems hs rfl ?_);refine wpAny_bind (wpAny_tryCatch (m:=pyNext (.ref I)) (W.done s _ _ st fun h' tk kp=>?_));exact wpAny_bind (m:=updateSeq S _) (wpAny_updateSeq (kp S _ off hs) rfl (wpAny_bind (wpAny_letGo (wpAny_pure (last h' tk kp)))))
   ·show codeAny (model prog w) A (.builtin "max.loop" ⟨[.ref I,.none,.ref S],[]⟩) R s;refine codeAny_builtin F.entry_max_loop ?_;rw [Around.under_plainId F.plain_max_loop];refine wpAny_bind (m:=seqItems? (.ref S)) (wpAny_seqItems hs rfl ?_);refine wpAny_bind (wpAny_tryCatch (m:=pyNext (.ref I)) (W.done s _ _ st fun h' tk kp=>?_));exact wpAny_bind (m:=updateSeq S _) (wpAny_updateSeq (kp S _ off hs) rfl (wpAny_bind (wpAny_letGo (wpAny_pure (last h' tk kp)))))
 | succ k ih=>
  intro j s a c hj st g hb hs fin;have hjn:j<n:=by lia
  /- what is left to do behind the list's change,or without one -/
  have on:∀(v:Value) (h':Heap) (tk:Nat),P j v->St (j+1) h'->(∀b o,b∉wr->s.heap.get? b=some o->h'.get? b=some o)->(∀(a':Array Value) (c':Nat) (h2:Heap),aF6 P bt n (j+1) a'->h2.get? S=some {cls:=.type "list",dict:=none,data:=.seq a' c',slots:=#[]}->(h2=h'\/∃f:Array Value->Array Value,h2=h'.update S (Obj.mapSeq f))->
    codeAny (model prog w) A (.builtin (wdL m) ⟨[.ref I,.none,.ref S],[]⟩) R {s with heap:=h2,toks:=tk}):=by
   intro v h' tk _ st' kp a' c' h2 hb' hs' hh;have g':Gd {s with heap:=h',toks:=tk}:=J.keep s h' tk g fun b o h1 _ e=>kp b o h1 e
   rcases hh with rfl|⟨f,rfl⟩
   ·exact ih (j+1) _ a' c' (by lia) st' g' hb' hs' fun u h3 t3 hu k3=>fin u h3 t3 hu fun b o h1 h2 e=>k3 b o h1 h2 (kp b o h1 e)
   ·exact ih (j+1) _ a' c' (by lia) (still st') (touched J g') hb' hs' fun u h3 t3 hu k3=>fin u h3 t3 hu fun b o h1 h2 e=>k3 b o h1 h2 ((Heap.get?_update_other _ _ (Ne.symm h2)).trans (kp b o h1 e))
  have nmn:(toString "min" ++ toString ".loop" : String) = "min.loop":=by decide
  have nmx:(toString "max" ++ toString ".loop" : String) = "max.loop":=by decide
  cases j with
  | zero=>
   obtain ⟨rfl,_⟩:=hb;cases m
   ·show codeAny (model prog w) A (.builtin "min.loop" ⟨[.ref I,.none,.ref S],[]⟩) R s;refine codeAny_builtin F.entry_min_loop ?_;rw [Around.under_plainId F.plain_min_loop];refine wpAny_bind (m:=seqItems? (.ref S)) (wpAny_seqItems hs rfl ?_);refine wpAny_bind (wpAny_tryCatch (m:=pyNext (.ref I)) (W.item 0 s _ _ hjn st fun v h' tk pv st' kp=>?_));have hs':=kp S _ off hs;refine wpAny_bind (m:=updateSeq S _) (wpAny_updateSeq hs' rfl ?_);rw [nmn];exact wpAny_pure ⟨plainId_quiet F.plain_min_loop _,on v h' tk pv st' kp #[v,v] _ _ ⟨v,rfl,pv⟩ (Heap.get?_update_self _ hs' rfl) (.inr ⟨_,rfl⟩)⟩
   ·show codeAny (model prog w) A (.builtin "max.loop" ⟨[.ref I,.none,.ref S],[]⟩) R s;refine codeAny_builtin F.entry_max_loop ?_;rw [Around.under_plainId F.plain_max_loop];refine wpAny_bind (m:=seqItems? (.ref S)) (wpAny_seqItems hs rfl ?_);refine wpAny_bind (wpAny_tryCatch (m:=pyNext (.ref I)) (W.item 0 s _ _ hjn st fun v h' tk pv st' kp=>?_));have hs':=kp S _ off hs;refine wpAny_bind (m:=updateSeq S _) (wpAny_updateSeq hs' rfl ?_);rw [nmx];exact wpAny_pure ⟨plainId_quiet F.plain_max_loop _,on v h' tk pv st' kp #[v,v] _ _ ⟨v,rfl,pv⟩ (Heap.get?_update_self _ hs' rfl) (.inr ⟨_,rfl⟩)⟩
  | succ j=>
   obtain ⟨u,rfl,hu⟩:=hb;cases m
   ·show codeAny (model prog w) A (.builtin "min.loop" ⟨[.ref I,.none,.ref S],[]⟩) R s;refine codeAny_builtin F.entry_min_loop ?_;rw [Around.under_plainId F.plain_min_loop];refine wpAny_bind (m:=seqItems? (.ref S)) (wpAny_seqItems hs rfl ?_);refine wpAny_bind (wpAny_tryCatch (m:=pyNext (.ref I)) (W.item (j+1) s _ _ hjn st fun v h' tk pv st' kp=>?_));have hs':=kp S _ off hs;refine wpAny_bind (wpAny_pure ?_);refine wpAny_bind (wpAny_tryCatch (wpAny_holding (wpAny_bind (m:=richCompare .Lt v u) (J.says (j+1) (argBest bt j) v u _ _ _ (J.keep s h' tk g fun b o h1 _ e=>kp b o h1 e) pv hu ?_))));refine wpAny_bind (wpAny_holding (wpAny_truthy_bool (wpAny_bind (wpAny_letGo (wpAny_pure ?_)))));cases hx:bt (j+1) (argBest bt j)
    ·rw [if_neg Bool.false_ne_true];refine wpAny_bind (wpAny_letGo ?_);rw [nmn];exact wpAny_pure ⟨plainId_quiet F.plain_min_loop _,on v h' tk pv st' kp _ _ _ ⟨u,rfl,by rw [argBest,hx];exact hu⟩ hs' (.inl rfl)⟩
    ·rw [if_pos rfl];refine wpAny_bind (m:=updateSeq S _) (wpAny_updateSeq hs' rfl (wpAny_bind (wpAny_letGo ?_)));rw [nmn];exact wpAny_pure ⟨plainId_quiet F.plain_min_loop _,on v h' tk pv st' kp #[v,v] _ _ ⟨v,rfl,by rw [argBest,hx];exact pv⟩ (Heap.get?_update_self _ hs' rfl) (.inr ⟨_,rfl⟩)⟩
   ·show codeAny (model prog w) A (.builtin "max.loop" ⟨[.ref I,.none,.ref S],[]⟩) R s;refine codeAny_builtin F.entry_max_loop ?_;rw [Around.under_plainId F.plain_max_loop];refine wpAny_bind (m:=seqItems? (.ref S)) (wpAny_seqItems hs rfl ?_);refine wpAny_bind (wpAny_tryCatch (m:=pyNext (.ref I)) (W.item (j+1) s _ _ hjn st fun v h' tk pv st' kp=>?_));have hs':=kp S _ off hs;refine wpAny_bind (wpAny_pure ?_);refine wpAny_bind (wpAny_tryCatch (wpAny_holding (wpAny_bind (m:=richCompare .Gt v u) (J.says (j+1) (argBest bt j) v u _ _ _ (J.keep s h' tk g fun b o h1 _ e=>kp b o h1 e) pv hu ?_))));refine wpAny_bind (wpAny_holding (wpAny_truthy_bool (wpAny_bind (wpAny_letGo (wpAny_pure ?_)))));cases hx:bt (j+1) (argBest bt j)
    ·rw [if_neg Bool.false_ne_true];refine wpAny_bind (wpAny_letGo ?_);rw [nmx];exact wpAny_pure ⟨plainId_quiet F.plain_max_loop _,on v h' tk pv st' kp _ _ _ ⟨u,rfl,by rw [argBest,hx];exact hu⟩ hs' (.inl rfl)⟩
    ·rw [if_pos rfl];refine wpAny_bind (m:=updateSeq S _) (wpAny_updateSeq hs' rfl (wpAny_bind (wpAny_letGo ?_)));rw [nmx];exact wpAny_pure ⟨plainId_quiet F.plain_max_loop _,on v h' tk pv st' kp #[v,v] _ _ ⟨v,rfl,by rw [argBest,hx];exact pv⟩ (Heap.get?_update_self _ hs' rfl) (.inr ⟨_,rfl⟩)⟩
end
section
variable {prog:Program} {w:World} {A:Around} {E:Value->Shared->Prop} {s:Shared} {Q:Value->Shared->Prop}
noncomputable abbrev Seen (prog:Program) (w:World) (A:Around) (op:CmpOp) (Q:Value->Shared->Prop) (it:Value) (t:Shared):Prop:=
 ∃(I:Addr) (fp wr:List Addr) (n:Nat) (P:Nat->Value->Prop) (St:Nat->Heap->Prop) (bt:Nat->Nat->Bool),it=.ref I/\Walks prog w A I fp wr n P St/\St 0 t.heap/\(∀b∈fp,b<t.heap.objs.size)/\0<n/\
  (∃Gd:Shared->Prop,Gd t/\(∀s h' tk,Gd s->(∀b o,b∉wr->b<t.heap.objs.size->s.heap.get? b=some o->h'.get? b=some o)->Gd {s with heap:=h',toks:=tk})/\
   ∀i j vi vj s Q E,Gd s->P i vi->P j vj->Q (.bool (bt i j)) s->wpAny (model prog w) A (richCompare op vi vj) Q E s)/\
  ∀v h' tk,P (argBest bt (n-1)) v->(∀b o,b∉wr->t.heap.get? b=some o->h'.get? b=some o)->Q v {t with heap:=h',toks:=tk}
theorem begun (m:Bool) {it:Value} {t:Shared} {R:Result->Shared->Prop} (hR:∀v s,Q v s->R (.ok (.ret v)) s) (h:Seen prog w A.in1 (wdO m) Q it t) :
  codeAny (model prog w) A (.builtin (wdL m) ⟨[it,.none,.ref t.heap.objs.size],[]⟩) R {t with heap:=t.heap.push {cls:=.type "list",data:=.seq #[]}}:=by
 obtain ⟨I,fp,wr,n,P,St,bt,rfl,W,st,hfp,hn,⟨Gd,g,gk,gs⟩,q⟩:=h;have up:∀b o,t.heap.get? b=some o->(t.heap.push {cls:=.type "list",data:=.seq #[]}).get? b=some o:=fun b o e=>Heap.get?_push_of_some _ e
 refine turn m W (fun z=>Nat.lt_irrefl _ (hfp _ z)) ⟨gk,gs⟩ n 0 _ #[] _ (Nat.zero_add n) (W.frame _ _ _ st fun b _ o e=>up b o e) (gk t _ t.toks g fun b o _ _ e=>up b o e) ⟨rfl,hn⟩ (Heap.get?_push_size _ rfl) fun v h' tk hv kp=>?_
 exact hR _ _ (q v h' tk hv fun b o h1 e=>kp b o h1 (Nat.ne_of_lt (Heap.lt_size e)) (up b o e))
theorem wW {x:Value} (h:wpAny (model prog w) A.in1 (pyIter x) (Seen prog w A.in1 .Lt Q) E s):wpAny (model prog w) A (call (.builtin "min") [x]) Q E s:=by
 have nmn:(toString "min" ++ toString ".loop" : String) = "min.loop":=by decide
 refine call_function_tree F.kind_min F.plain_min F.entry_min (F.args_min1 _) ?_;refine wpAny_bind (m:=Builtin.Builtins.bindParams "min" ["key", "default"] 0 ⟨[],[]⟩) (wpAny_of_eq (a:=[none,none]) rfl ?_);refine wpAny_bind (wpAny_pure (wpAny_bind (wpAny_mono h (fun it t ht=>wpAny_bind (wpAny_newObj_type ?_)) fun _ _ e=>e)));rw [nmn];exact wpAny_pure ⟨plainId_quiet F.plain_min_loop _,begun false (fun _ _ q=>q) ht⟩
theorem wX {x:Value} (h:wpAny (model prog w) A.in1 (pyIter x) (Seen prog w A.in1 .Gt Q) E s):wpAny (model prog w) A (call (.builtin "max") [x]) Q E s:=by
 have nmx:(toString "max" ++ toString ".loop" : String) = "max.loop":=by decide
 refine call_function_tree F.kind_max F.plain_max F.entry_max (F.args_max1 _) ?_;refine wpAny_bind (m:=Builtin.Builtins.bindParams "max" ["key", "default"] 0 ⟨[],[]⟩) (wpAny_of_eq (a:=[none,none]) rfl ?_);refine wpAny_bind (wpAny_pure (wpAny_bind (wpAny_mono h (fun it t ht=>wpAny_bind (wpAny_newObj_type ?_)) fun _ _ e=>e)));rw [nmx];exact wpAny_pure ⟨plainId_quiet F.plain_max_loop _,begun true (fun _ _ q=>q) ht⟩
theorem zO {a b:Value} (h:wpAny (model prog w) A.in1 (pyIter (.ref s.heap.objs.size)) (Seen prog w A.in1 .Lt Q) E {s with heap:=s.heap.push {cls:=.type "tuple",data:=.seq #[a,b]}}):wpAny (model prog w) A (call (.builtin "min") [a,b]) Q E s:=by
 have nmn:(toString "min" ++ toString ".loop" : String) = "min.loop":=by decide
 refine call_function_tree F.kind_min F.plain_min F.entry_min (F.args_min2 _ _) ?_;refine wpAny_bind (m:=Builtin.Builtins.bindParams "min" ["key", "default"] 0 ⟨[],[]⟩) (wpAny_of_eq (a:=[none,none]) rfl ?_);refine wpAny_bind (m:=newTuple [a,b]) (wpAny_newObj_type (wpAny_bind (wpAny_mono h (fun it t ht=>wpAny_bind (wpAny_newObj_type ?_)) fun _ _ e=>e)));rw [nmn];exact wpAny_pure ⟨plainId_quiet F.plain_min_loop _,begun false (fun _ _ q=>q) ht⟩
theorem zP {a b:Value} (h:wpAny (model prog w) A.in1 (pyIter (.ref s.heap.objs.size)) (Seen prog w A.in1 .Gt Q) E {s with heap:=s.heap.push {cls:=.type "tuple",data:=.seq #[a,b]}}):wpAny (model prog w) A (call (.builtin "max") [a,b]) Q E s:=by
 have nmx:(toString "max" ++ toString ".loop" : String) = "max.loop":=by decide
 refine call_function_tree F.kind_max F.plain_max F.entry_max (F.args_max2 _ _) ?_;refine wpAny_bind (m:=Builtin.Builtins.bindParams "max" ["key", "default"] 0 ⟨[],[]⟩) (wpAny_of_eq (a:=[none,none]) rfl ?_);refine wpAny_bind (m:=newTuple [a,b]) (wpAny_newObj_type (wpAny_bind (wpAny_mono h (fun it t ht=>wpAny_bind (wpAny_newObj_type ?_)) fun _ _ e=>e)));rw [nmx];exact wpAny_pure ⟨plainId_quiet F.plain_max_loop _,begun true (fun _ _ q=>q) ht⟩
end
end PySem.Mm
end
section
namespace Mi
open PySem L2 PySem.SeqAt PySem.Spec PyProof.Rows
variable [KFrag]
theorem wY (o:e_) (x:D) (xs:List D):∀k,k<=xs.length->(xs.take k).foldl (fun m y=>if (cM o y m).getD false then y else m) x=(x::xs).getD (argBest (btD o (x::xs)) k) .non
 | 0,_=>by simp [argBest]
 | k+1,h=>by
  have ih:=wY o x xs k (by lia);have hk:k<xs.length:=by lia
  rw [List.take_succ_eq_append_getElem hk,List.foldl_append,ih];have e:(x::xs).getD (k+1) .non=xs[k]:=by simp [hk]
  have hb:btD o (x::xs) (k+1) (argBest (btD o (x::xs)) k)=(cM o xs[k] ((x::xs).getD (argBest (btD o (x::xs)) k) .non)).getD false:=by unfold btD;rw [e]
  show (if (cM o xs[k] ((x::xs).getD (argBest (btD o (x::xs)) k) .non)).getD false then xs[k] else (x::xs).getD (argBest (btD o (x::xs)) k) .non)=(x::xs).getD (if btD o (x::xs) (k+1) (argBest (btD o (x::xs)) k) then k+1 else argBest (btD o (x::xs)) k) .non;rw [<-hb];cases btD o (x::xs) (k+1) (argBest (btD o (x::xs)) k) with
  | true=>rw [if_pos rfl,if_pos rfl,e]
  | false=>rw [if_neg (by simp),if_neg (by simp)]
section
variable {X:Cx} {pins:List (Addr×Obj)} {σ:L2.St} {H:Hp} {s:Shared}
noncomputable def Gds (s:Shared) (s':Shared):Prop:=∃h' tk,s'={s with heap:=h',toks:=tk}/\∀b o,s.heap.get? b=some o->h'.get? b=some o
theorem uT (I:Inv X pins σ H s) (hu:X.A.units+20<cLine) {o:e_} {xs:List V} {ds:List D} {its:List Value} {d:D} (r:bB All H xs ds) (vr:Vals xs its) (h:lM o ds=.ok d) (i j:Nat) (vi vj:Value) (s':Shared) (Q:Value->Shared->Prop) (E:Value->Shared->Prop)
  (g:Gds s s') (hi:its.toArray[i]?=some vi) (hj:its.toArray[j]?=some vj) (q:Q (.bool (btD o ds i j)) s'):wpAny (model X.prog X.w) X.A.in1 (richCompare o.op vi vj) Q E s':=by
 obtain ⟨h',tk,rfl,hk⟩:=g;have I':Inv X pins σ H {s with heap:=h',toks:=tk}:=I.kept hk;have hi':its[i]?=some vi:=by simpa using hi
 have hj':its[j]?=some vj:=by simpa using hj
 have at_:∀{i:Nat} {v:Value},its[i]?=some v->∃d w,ds.getD i .non=d/\d∈ds/\RelV w v/\Rep All H w d:=by
  intro i v hv;have hlt:i<its.length:=(List.getElem?_eq_some_iff.mp hv).1;have hlt':i<ds.length:=by rw [<-r.length,vr.length];exact hlt
  obtain ⟨w,h1,h2⟩:=r.get (i:=i) (d:=ds[i]) (by simp [hlt']);obtain ⟨u,h3,h4⟩:=vr.get h1;rw [hv] at h3;cases h3;exact ⟨ds[i],w,by simp [hlt'],List.getElem_mem _,h4,h2⟩
 obtain ⟨d1,w1,e1,m1,v1,r1⟩:=at_ hi';obtain ⟨d2,w2,e2,m2,v2,r2⟩:=at_ hj';cases ds with
 | nil=>cases m1
 | cons x xs'=>
  simp only [lM] at h;split at h
  ·rename_i hall;have h1:=List.all_eq_true.mp hall d1 m1;have h2:=List.all_eq_true.mp hall d2 m2;rw [Bool.and_eq_true] at h1 h2;obtain ⟨k,hk⟩:=Option.isSome_iff_exists.mp (List.all_eq_true.mp h1.2 d2 m2);have:btD o (x::xs') i j=k:=by unfold btD;rw [e1,e2,hk];rfl
   rw [this] at q;exact zL I' o aP X.A.in1 (by show X.A.units+1+12<cLine;lia) h1.1 h2.1 r1 r2 v1 v2 hk X.prog X.w E Q q
  ·cases h
theorem zQ {o:e_} {xs:List V} {ds:List D} {its:List Value} {d:D} (r:bB All H xs ds) (vr:Vals xs its) (h:lM o ds=.ok d) {v:Value} (hv:its.toArray[argBest (btD o ds) (its.length-1)]?=some v):∃w,RelV w v/\Rep All H w d:=by
 have hv':its[argBest (btD o ds) (its.length-1)]?=some v:=by simpa using hv
 cases ds with
 | nil=>cases h
 | cons x xs'=>
  simp only [lM] at h;split at h
  ·cases h;have hl:its.length-1=xs'.length:=by rw [<-vr.length,r.length];simp
   rw [hl] at hv';have fb:=wY o x xs' xs'.length (Nat.le_refl _);rw [List.take_length] at fb;have hlt:argBest (btD o (x::xs')) xs'.length<its.length:=(List.getElem?_eq_some_iff.mp hv').1;have hlt':argBest (btD o (x::xs')) xs'.length<(x::xs').length:=by rw [<-r.length,vr.length];exact hlt
   obtain ⟨w,h1,h2⟩:=r.get (i:=argBest (btD o (x::xs')) xs'.length) (d:=(x::xs')[argBest (btD o (x::xs')) xs'.length]) (by simp [hlt']);obtain ⟨u,h3,h4⟩:=vr.get h1;rw [hv'] at h3;cases h3;refine ⟨w,h4,?_⟩;rw [fb,List.getD_eq_getElem?_getD,List.getElem?_eq_getElem hlt'];exact h2
  ·cases h
theorem Gds.grow {s':Shared} {h1:Heap} {tk1:Nat} (g:Gds s s') {wq:List Addr} {n:Nat} (hw:∀b∈wq,s.heap.objs.size<=b) (hn:s.heap.objs.size<=n)
  (kk:∀b o,b∉wq->b<n->s'.heap.get? b=some o->h1.get? b=some o):Gds s {s' with heap:=h1,toks:=tk1}:=by
 obtain ⟨h',tk,rfl,hk⟩:=g;refine ⟨h1,tk1,rfl,fun b o e=>kk b o (fun hb=>?_) (Nat.lt_of_lt_of_le (Heap.lt_size e) hn) (hk b o e)⟩;exact absurd (Nat.lt_of_lt_of_le (Heap.lt_size e) (hw b hb)) (Nat.lt_irrefl _)
end
section
variable {X:Cx}
theorem DX {o:e_} {ds:List D} {d:D} (h:lM o ds=.ok d):0<ds.length:=by
 cases ds with
 | nil=>cases h
 | cons _ _=>simp
structure Mms (o:e_) (nm:String):Prop where
 walk:∀{prog:Program} {w:World} {A:Around} {Q:Value->Shared->Prop} {E:Value->Shared->Prop} {s:Shared} {x:Value},wpAny (model prog w) A.in1 (pyIter x) (Mm.Seen prog w A.in1 o.op Q) E s->wpAny (model prog w) A (call (.builtin nm) [x]) Q E s
 two:∀{prog:Program} {w:World} {A:Around} {Q:Value->Shared->Prop} {E:Value->Shared->Prop} {s:Shared} {a b:Value},wpAny (model prog w) A.in1 (pyIter (.ref s.heap.objs.size)) (Mm.Seen prog w A.in1 o.op Q) E {s with heap:=s.heap.push {cls:=.type "tuple",data:=.seq #[a,b]}}->wpAny (model prog w) A (call (.builtin nm) [a,b]) Q E s
theorem O1 {o:e_} {nm:String} (M:Mms o nm) (hu:X.A.units+20<cLine) (hc:X.calm=true) {pins:List (Addr×Obj)} {σ:L2.St} {H:Hp} {s:Shared} {l:Addr} {xs:List V} {ds:List D} {d:D} {Q:VK} (I:Inv X pins σ H s) (hl:SqL X.K H l xs) (r:bB All H xs ds) (h:lM o ds=.ok d) (q:kR H d false Q) :
  wpAny (model X.prog X.w) X.A (call (.builtin nm) [.ref l]) (EP X pins σ Q) X.xe s:=by
 obtain ⟨its,vr,pl⟩:=k_ I hl;have hlt:l<s.heap.objs.size:=by obtain ⟨_,e,_⟩:=pl;exact Heap.lt_size e
 refine M.walk (wpAny_pyIter_list pl ?_);refine ⟨_,_,_,_,_,_,btD o ds,rfl,Walks.list (A:=X.A.in1) (I.ok.hd hc) _ l (Nat.ne_of_lt hlt) its.toArray,⟨⟨_,Heap.get?_push_size _ rfl,rfl,rfl⟩,pl.push _⟩,fun b hb=>?_,by rw [List.size_toArray,<-vr.length,r.length];exact DX h,⟨Gds s,⟨_,s.toks,rfl,fun b o e=>Heap.get?_push_of_some _ e⟩,fun s' h' tk g kk=>g.grow (wq:=[s.heap.objs.size]) (n:=s.heap.objs.size+1) (fun b hb=>?_) (Nat.le_succ _) fun b o h1 h2 e=>kk b o h1 (by show b<(s.heap.push _).objs.size;rw [Heap.size_push];exact h2) e,fun i j vi vj s' Q E g h1 h2 q=>uT I hu r vr h i j vi vj s' Q E g h1 h2 q⟩,fun v h' tk hP hk=>?_⟩
 ·show b<(s.heap.push _).objs.size;rw [Heap.size_push];rcases List.mem_cons.mp hb with rfl|hb
  ·exact Nat.lt_succ_self _
  ·rcases List.mem_cons.mp hb with rfl|hb
   ·exact Nat.lt_succ_of_lt hlt
   ·cases hb
 ·rcases List.mem_cons.mp hb with rfl|hb
  ·exact Nat.le_refl _
  ·cases hb
 ·obtain ⟨w,v1,r1⟩:=zQ r vr h (by simpa using hP);refine ⟨w,H,I.kept fun b o e=>hk b o (fun hb=>?_) (Heap.get?_push_of_some _ e),v1,q.self r1 fun z=>by cases z⟩;rcases List.mem_cons.mp hb with rfl|hb
  ·exact absurd (Heap.lt_size e) (Nat.lt_irrefl _)
  ·cases hb
theorem O2 {o:e_} {nm:String} (M:Mms o nm) (hu:X.A.units+20<cLine) (hc:X.calm=true) {pins:List (Addr×Obj)} {σ:L2.St} {H:Hp} {s:Shared} {l:Addr} {xs:List V} {ds:List D} {d:D} {Q:VK} (I:Inv X pins σ H s) (hl:H l=some (.tup xs)) (r:bB All H xs ds) (h:lM o ds=.ok d) (q:kR H d false Q) :
  wpAny (model X.prog X.w) X.A (call (.builtin nm) [.ref l]) (EP X pins σ Q) X.xe s:=by
 obtain ⟨its,vr,pl⟩:=fB I hl;have hlt:l<s.heap.objs.size:=by obtain ⟨_,e,_⟩:=pl;exact Heap.lt_size e
 refine M.walk (wpAny_pyIter_tuple pl ?_);refine ⟨_,_,_,_,_,_,btD o ds,rfl,Walks.tuple (A:=X.A.in1) (I.ok.hd hc) _ l (Nat.ne_of_lt hlt) its.toArray,⟨⟨_,Heap.get?_push_size _ rfl,rfl,rfl⟩,pl.push _⟩,fun b hb=>?_,by rw [List.size_toArray,<-vr.length,r.length];exact DX h,⟨Gds s,⟨_,s.toks,rfl,fun b o e=>Heap.get?_push_of_some _ e⟩,fun s' h' tk g kk=>g.grow (wq:=[s.heap.objs.size]) (n:=s.heap.objs.size+1) (fun b hb=>?_) (Nat.le_succ _) fun b o h1 h2 e=>kk b o h1 (by show b<(s.heap.push _).objs.size;rw [Heap.size_push];exact h2) e,fun i j vi vj s' Q E g h1 h2 q=>uT I hu r vr h i j vi vj s' Q E g h1 h2 q⟩,fun v h' tk hP hk=>?_⟩
 ·show b<(s.heap.push _).objs.size;rw [Heap.size_push];rcases List.mem_cons.mp hb with rfl|hb
  ·exact Nat.lt_succ_self _
  ·rcases List.mem_cons.mp hb with rfl|hb
   ·exact Nat.lt_succ_of_lt hlt
   ·cases hb
 ·rcases List.mem_cons.mp hb with rfl|hb
  ·exact Nat.le_refl _
  ·cases hb
 ·obtain ⟨w,v1,r1⟩:=zQ r vr h (by simpa using hP);refine ⟨w,H,I.kept fun b o e=>hk b o (fun hb=>?_) (Heap.get?_push_of_some _ e),v1,q.self r1 fun z=>by cases z⟩;rcases List.mem_cons.mp hb with rfl|hb
  ·exact absurd (Heap.lt_size e) (Nat.lt_irrefl _)
  ·cases hb
theorem O3 {o:e_} {nm:String} (M:Mms o nm) (hu:X.A.units+20<cLine) (hc:X.calm=true) {pins:List (Addr×Obj)} {σ:L2.St} {H:Hp} {s:Shared} {x y:V} {u w:Value} {a b d:D} {Q:VK} (I:Inv X pins σ H s) (rx:Rep All H x a) (ry:Rep All H y b) (ru:RelV x u) (rw':RelV y w) (h:lM o [a,b]=.ok d) (q:kR H d false Q) :
  wpAny (model X.prog X.w) X.A (call (.builtin nm) [u,w]) (EP X pins σ Q) X.xe s:=by
 have r:bB All H [x,y] [a,b]:=.cons rx (.cons ry .nil);have vr:Vals [x,y] [u,w]:=.cons ru (.cons rw' .nil);have pl:(s.heap.push {cls:=.type "tuple",data:=.seq #[u,w]}).IsTuple s.heap.objs.size [u,w].toArray:=⟨_,Heap.get?_push_size _ rfl,rfl,0,rfl⟩
 have hsz:(s.heap.push {cls:=.type "tuple",data:=.seq #[u,w]}).objs.size=s.heap.objs.size+1:=Heap.size_push ..;refine M.two (wpAny_pyIter_tuple pl ?_);refine ⟨_,_,_,_,_,_,btD o [a,b],rfl,Walks.tuple (A:=X.A.in1) (I.ok.hd hc) _ s.heap.objs.size (by rw [hsz];exact Nat.ne_of_lt (Nat.lt_succ_self _)) [u,w].toArray,⟨⟨_,Heap.get?_push_size _ rfl,rfl,rfl⟩,pl.push _⟩,fun b hb=>?_,by simp,⟨Gds s,⟨_,s.toks,rfl,fun b o e=>Heap.get?_push_of_some _ (Heap.get?_push_of_some _ e)⟩,fun s' h' tk g kk=>g.grow (wq:=[s.heap.objs.size+1]) (n:=s.heap.objs.size+2) (fun b hb=>?_) (by lia) fun b o h1 h2 e=>kk b o (by rw [hsz];exact h1) (by show b<((s.heap.push _).push _).objs.size;rw [Heap.size_push,hsz];exact h2) e,fun i j vi vj s' Q E g h1 h2 q=>uT I hu r vr h i j vi vj s' Q E g h1 h2 q⟩,fun v h' tk hP hk=>?_⟩
 ·show b<((s.heap.push _).push _).objs.size;rw [Heap.size_push,hsz];rcases List.mem_cons.mp hb with rfl|hb
  ·rw [hsz];exact Nat.lt_succ_self _
  ·rcases List.mem_cons.mp hb with rfl|hb
   ·exact Nat.lt_succ_of_lt (Nat.lt_succ_self _)
   ·cases hb
 ·rcases List.mem_cons.mp hb with rfl|hb
  ·lia
  ·cases hb
 ·obtain ⟨w,v1,r1⟩:=zQ r vr h (by simpa using hP);refine ⟨w,H,I.kept fun b o e=>hk b o (fun hb=>?_) (Heap.get?_push_of_some _ (Heap.get?_push_of_some _ e)),v1,q.self r1 fun z=>by cases z⟩;rcases List.mem_cons.mp hb with hb|hb
  ·have:=Heap.lt_size e;rw [hb,hsz] at this;exact absurd this (Nat.not_lt.mpr (Nat.le_succ _))
  ·cases hb
theorem aCb {o:e_} {nm:String} (M:Mms o nm) (hu:X.A.units+20<cLine) (hc:X.calm=true):jA X (.builtin nm) (rs (dC o) false):=by
 intro pins s σ H xs us Q I vr ⟨ds,d,r,e,k⟩;unfold dC at e;split at e
 ·cases r with
  | cons r t=>
   cases t;cases vr with
   | cons v vt=>
    cases vt;obtain ⟨l,ys,rfl,hl,rr⟩:=r.eF (K:=X.K);cases v;exact O1 M hu hc I hl rr e k
 ·cases r with
  | cons r t=>
   cases t;cases vr with
   | cons v vt=>
    cases vt;obtain ⟨l,ys,rfl,hl,rr⟩:=r.dG;cases v;exact O2 M hu hc I hl rr e k
 ·cases r with
  | cons r t=>
   cases t with
   | cons r' t=>
    cases t;cases vr with
    | cons v vt=>
     cases vt with
     | cons v' vt=>
      cases vt;exact O3 M hu hc I r r' v v' e k
 ·cases e
theorem O4 (hu:X.A.units+20<cLine) (hc:X.calm=true):jA X (.builtin "min") (rs (dC .lt) false):=aCb ⟨Mm.wW,Mm.zO⟩ hu hc
theorem O5 (hu:X.A.units+20<cLine) (hc:X.calm=true):jA X (.builtin "max") (rs (dC .gt) false):=aCb ⟨Mm.wX,Mm.zP⟩ hu hc
end
end Mi
end
section
namespace PySem.Mm
open PySem PyProof.Rows PySem.W
theorem wZ {prog:Program} {w:World} {A:Around} {E:Value->Shared->Prop} {s:Shared} {Q:Value->Shared->Prop} {K:Type} [DecidableEq K] {knd:KeyKind prog w K} {d:Addr} {kvs:List (K×Value)} {ep n:Nat} (hh:A.handled=none) (lo:(d==sysModules)=false)
  (hm:s.heap.DictAt knd d kvs ep) (hn:kvs.length=n) (hl:n<=2 ^ 24)
  (q:∀h' tk acc c,(∀b o,s.heap.get? b=some o->h'.get? b=some o)->h'.get? s.heap.objs.size=some {cls:=.type "list",dict:=none,data:=.seq acc c,slots:=#[]}->
   ItemsOf (fun i v=>∃k x,kvs[i]?=some (k,x)/\knd.is k v=true) acc n->Q (.ref s.heap.objs.size) {s with heap:=h',toks:=tk}):wpAny (model prog w) A (call (.type "list") [.ref d]) Q E s:=by
 subst hn;exact kdl_call (kdl_dict lo) hh hm (kdl_size hl) q
end PySem.Mm
end
section
namespace Mi
open PySem L2 PySem.SeqAt PySem.Spec PyProof.Rows
variable [KFrag]
section
variable {X:Cx} {a b c e:Expr} {es:List Expr} {pos p:Pos} {fa fb fc fe:FE} {ra rb rc re:Bool} {fs:FA} {rr:Bool} {x:Str} {id T:String}
theorem i_ {P:Addr->Prop} {H:Hp} {xs:List V} {us:List Value} {d:D} (r:bB P H xs [d]) (vr:Vals xs us):∃v u,xs=[v]/\us=[u]/\Rep P H v d/\RelV v u:=by
 cases r with
 | cons r t=>
  cases t;cases vr with
  | cons v vt=>
   cases vt;exact ⟨_,_,rfl,rfl,r,v⟩
theorem DY {f:List D->Res D} {fr:Bool} {σ:L2.St} {H:Hp} {Q:VK} (h:gE (aX f fs) fr σ H Q):tCB (rs f fr) (gA fs rr) σ H Q:=by
 obtain ⟨ρ,d,E,h,q⟩:=h;obtain ⟨ds,h1,h2⟩:=aY h;exact ⟨ρ,ds,E,h1,fun vs H1 s1 r1 _=>⟨ds,d,r1,h2,q.imp s1 id⟩⟩
theorem bA {f:List D->Res D} {fr:Bool} (hc:jA X (.builtin id) (rs f fr)) (hg:Gl X x) (hm:X.mg x=none) (hv:bootBuiltins x=some (.builtin id)) (ha:PA X (e::es) (gA fs rr)) (hn:x ≠ "__name__":=by decide) (hdb:nDb x:=by decide)
  (he:starEach (e::es) X.env=(false,eval e X.env)::starEach es X.env:=by rfl) (hpl:(backTo pos (starEach es X.env)).any (·.1)=false:=by rfl):PE X (.Call (.Name x p) (e::es) [] pos) (gE (aX f fs) fr):=
 PE.imp (BV hc hg hm hv ha hn hdb he hpl) fun _ _ _=>DY
theorem qJ {f:List D->Res D} {fr:Bool} (hc:jA X (.type T) (rs f fr)) (hg:Gl X x) (hm:X.mg x=none) (hv:bootBuiltins x=some (.type T)) (ha:PA X (e::es) (gA fs rr)) (hn:x ≠ "__name__":=by decide) (hdb:nDb x:=by decide)
  (he:starEach (e::es) X.env=(false,eval e X.env)::starEach es X.env:=by rfl) (hpl:(backTo pos (starEach es X.env)).any (·.1)=false:=by rfl):PE X (.Call (.Name x p) (e::es) [] pos) (gE (aX f fs) fr):=
 PE.imp (wC hc hg hm hv ha hn hdb he hpl) fun _ _ _=>DY
theorem dY (hK:KFrag.K=X.K):jA X (.builtin "len") (rs fK true):=by
 intro pins s σ H xs us Q I vr ⟨ds,d,r,e,k⟩;unfold fK at e;split at e
 ·cases e;obtain ⟨vv,uu,rfl,rfl,r,v⟩:=i_ r vr;obtain ⟨l,ys,rfl,hl,rr⟩:=r.dG;cases v;exact fZ pins s σ H [.ref l] [.ref l] Q I (.cons rfl .nil) ⟨l,ys,rfl,.inr (.of hl),by rw [rr.length];exact k.int⟩
 ·cases e;obtain ⟨vv,uu,rfl,rfl,r,v⟩:=i_ r vr;obtain ⟨l,ys,rfl,hl,rr⟩:=r.eF (K:=X.K);cases v;exact fZ pins s σ H [.ref l] [.ref l] Q I (.cons rfl .nil) ⟨l,ys,rfl,.inl hl,by rw [rr.length];exact k.int⟩
 ·cases e;obtain ⟨vv,uu,rfl,rfl,r,v⟩:=i_ r vr;cases r with
  | @frz l xs ds ee rr=>
   cases v;exact fZ pins s σ H [.ref l] [.ref l] Q I (.cons rfl .nil) ⟨l,xs,rfl,.inl (ee.sq hK),by rw [rr.length];exact k.int⟩
 ·cases e;obtain ⟨vv,uu,rfl,rfl,r,v⟩:=i_ r vr;cases r with
  | cel ee pp rr=>
   cases v;exact fZ pins s σ H [.ref _] [.ref _] Q I (.cons rfl .nil) ⟨_,_,rfl,.inl (.inl (.inl ee)),by rw [rr.length];exact k.int⟩
 ·split at e
  ·rename_i hl;cases e;obtain ⟨vv,uu,rfl,rfl,r,v⟩:=i_ r vr;cases r;exact wF pins s σ H _ _ Q I (.cons v .nil) ⟨_,rfl,pF hl,k.int⟩
  ·cases e
 ·cases e
theorem kO.keys {P P':Addr->Prop} {H:Hp}:∀{kvs:List (Key×V)} {ds:List (D×D)},kO P H kvs ds->bB P' H (kvs.map fun p=>kV p.1) (iH ds)
 | _,_,.nil=>.nil
 | _,_,.cons (k:=k) _ t=>.cons (by cases k <;> first|exact .int _|exact .str _) t.keys
theorem list_dict {pins:List (Addr×Obj)} {s:Shared} {σ:L2.St} {H:Hp} {l:Addr} {kvs:List (Key×V)} (hc:X.calm=true) (I:Inv X pins σ H s) (e:H l=some (.dK kvs)) {Q:Value->Shared->Prop}
  (q:∀p s',H p=none->Inv X pins σ (upd H p (.lst (kvs.map fun p=>kV p.1))) s'->(∀l0 o0,H l0=some o0->l0≠p)->Q (.ref p) s'):wpAny (model X.prog X.w) X.A (call (.type "list") [.ref l]) Q X.xe s:=by
 obtain ⟨z,hd,vs,rel,dd⟩:=HR I.hok e;obtain ⟨ep,da⟩:=dd.dictAt;have hlen:kvs.length=vs.length:=Paired.length rel;refine Mm.wZ (I.ok.hd hc) hd da rfl (by rw [<-hlen];rw [sizeLine_eq] at z;lia) fun h' tk acc' c' kp e1 it=>?_
 obtain ⟨i1,i2⟩:=it;have hfr:H s.heap.objs.size=none:=I.hok.fresh (Nat.le_refl _);refine q _ _ hfr (I.laid (t':=tk) kp (Nat.le_refl _) ?_) fun l0 o0 h0=>bZ h0 hfr
 refine ⟨by rw [List.length_map];exact z,acc'.toList,c',?_,by simpa using e1⟩;have gen:∀(kvs:List (Key×V)) (vs:List (Key×Value)) (xs:List Value),KV kvs vs->xs.length=vs.length->(∀(j:Nat) (v:Value),xs[j]?=some v->∃k x,vs[j]?=some (k,x)/\(b_ X.prog X.w).is k v=true)->Vals (kvs.map fun p=>kV p.1) xs:=by
  intro kvs vs xs rel;induction rel generalizing xs with
  | nil=>intro hl _;cases xs with|nil=>exact .nil|cons _ _=>simp at hl
  | @cons p q ps qs hpq t ih=>
   intro hl g;cases xs with
   | nil=>simp at hl
   | cons x xs=>
    refine .cons ?_ (ih xs (by simpa using hl) fun j v hv=>g (j+1) v (by simpa using hv));obtain ⟨k,x',h1,h2⟩:=g 0 x rfl;have h1':q=(k,x'):=by simpa using h1
    show RelV (kV p.1) x;rw [hpq.1,h1'];rcases bW h2 with ⟨i,t,rfl,rfl⟩|⟨i,t,rfl,rfl⟩
    ·exact ⟨t,rfl⟩
    ·exact ⟨t,rfl⟩
 exact gen kvs vs acc'.toList rel (by simpa using i1) fun j v hv=>i2 j v (by simpa using hv)
theorem ZJ (hc:X.calm=true):jA X (.type "list") (rs T4 true):=by
 intro pins s σ H xs us Q I vr ⟨ds,d,r,e,k⟩;unfold T4 at e;split at e
 ·split at e
  ·rename_i hl;cases e;obtain ⟨vv,uu,rfl,rfl,r,v⟩:=i_ r vr;obtain ⟨l,ys,rfl,hl',rr⟩:=r.dG;cases v;refine oH pins s σ H [.ref l] [.ref l] Q I (.cons rfl .nil) ⟨l,ys,rfl,.inr (.of hl'),fun p hp=>?_⟩;have sp:bN H (upd H p (.lst ys)):=bN.upd hp;exact k _ _ sp (.lst aC trivial (rr.same sp)) fun _=>.lst aC hp ((rr.bF hl).same sp)
  ·cases e
 ·split at e
  ·rename_i hl;cases e;obtain ⟨vv,uu,rfl,rfl,r,v⟩:=i_ r vr;obtain ⟨l,ys,rfl,hl',rr⟩:=r.eF (K:=X.K);cases v;refine oH pins s σ H [.ref l] [.ref l] Q I (.cons rfl .nil) ⟨l,ys,rfl,.inl hl',fun p hp=>?_⟩;have sp:bN H (upd H p (.lst ys)):=bN.upd hp;exact k _ _ sp (.lst aC trivial (rr.same sp)) fun _=>.lst aC hp ((rr.bF hl).same sp)
  ·cases e
 ·split at e
  ·rename_i hl;cases e;obtain ⟨vv,uu,rfl,rfl,r,v⟩:=i_ r vr;cases r with
   | @dK l kvs ds e _ r n=>
    cases v;refine list_dict hc I e fun p s' hp I' _=>⟨.ref p,_,I',rfl,?_⟩
    have sp:bN H (upd H p (.lst (kvs.map fun p=>kV p.1))):=bN.upd hp;exact k _ _ sp (.lst aC trivial (r.keys.same sp)) fun _=>.lst aC hp (r.keys.same sp)
   | @dT l kvs ds e _ r n=>
    cases v;cases r with
    | cons r t=>simp [isTup] at hl
    | nil=>
     have e2:=uR (o':=.dK []) e;refine list_dict hc (j7 I e) aC fun p s' hp I' hne=>?_
     have hp':p≠l:=fun z=>by subst z;rw [aC] at hp;cases hp
     have hpn:H p=none:=by rw [aR hp'] at hp;exact hp
     have hcm:upd (upd (upd H l (.dK [])) p (.lst [])) l (.dT [])=upd H p (.lst []):=by
      funext b
      by_cases hb:b=l
      ·subst hb;rw [aC,aR (Ne.symm hp'),e]
      ·rw [aR hb];by_cases hb2:b=p
       ·subst hb2;rw [aC,aC]
       ·rw [aR hb2,aR hb2,aR hb]
     have I2:=j6 I' (a:=l) (by rw [aR (Ne.symm hp'),aC]);have I3:Inv X pins σ (upd H p (.lst [])) s':=by
      have:Inv X pins σ (upd (upd (upd H l (.dK [])) p (.lst [])) l (.dT [])) s':=I2;rwa [hcm] at this
     have sp:bN H (upd H p (.lst [])):=bN.upd hpn;exact ⟨.ref p,_,I3,rfl,k _ _ sp (.lst aC trivial .nil) fun _=>.lst aC hpn .nil⟩
  ·cases e
 ·cases e
theorem D_:jA X (.type "tuple") (rs CN false):=by
 intro pins s σ H xs us Q I vr ⟨ds,d,r,e,k⟩;unfold CN at e;split at e
 ·cases e;obtain ⟨vv,uu,rfl,rfl,r,v⟩:=i_ r vr;obtain ⟨l,ys,rfl,hl',rr⟩:=r.dG;cases v;exact mC pins s σ H [.ref l] [.ref l] Q I (.cons rfl .nil) ⟨l,ys,rfl,.inr ⟨.of hl',k.self (.tup hl' rr) fun z=>by cases z⟩⟩
 ·cases e;obtain ⟨vv,uu,rfl,rfl,r,v⟩:=i_ r vr;obtain ⟨l,ys,rfl,hl',rr⟩:=r.eF (K:=X.K);cases v;refine mC pins s σ H [.ref l] [.ref l] Q I (.cons rfl .nil) ⟨l,ys,rfl,.inl ⟨hl',fun p hp=>?_⟩⟩;have sp:bN H (upd H p (.tup ys)):=bN.upd hp;exact k _ _ sp (.tup aC (rr.same sp)) fun z=>by cases z
 ·cases e
mutual
theorem tK:∀(d:D),d.plain=true->d.pure=true
 | .tup xs,h=>by rw [D.plain] at h;rw [D.pure];exact oM xs h
 | .int _,_=>rfl
 | .str _,_=>rfl
 | .uD,h=>by simp [D.plain] at h
 | .non,_=>rfl
 | .bl _,_=>rfl
 | .lst _,h=>by simp [D.plain] at h
 | .dct _,h=>by simp [D.plain] at h
 | .scr _,h=>by simp [D.plain] at h
 | .fdc _,h=>by simp [D.plain] at h
 | .cel _ _,h=>by simp [D.plain] at h
theorem oM:∀(ds:List D),D.fO ds=true->D.aW ds=true
 | [],_=>rfl
 | x::xs,h=>by rw [D.fO,Bool.and_eq_true] at h;rw [D.aW,Bool.and_eq_true];exact ⟨tK x h.1,oM xs h.2⟩
end
theorem qK {ds:List D} (h:bL ds=true):D.aW (jB ds)=true:=g_.mpr fun d hd=>tK d (cU h ((d8 ds).mem_iff.mp hd)).1
theorem mV (hu:X.A.units+20<cLine):jA X (.builtin "sorted") (rs gK true):=by
 intro pins s σ H xs us Q I vr ⟨ds,d,r,e,k⟩;unfold gK at e;split at e
 ·split at e
  ·rename_i hl;cases e;obtain ⟨vv,uu,rfl,rfl,r,v⟩:=i_ r vr;obtain ⟨l,ys,rfl,hl',rr⟩:=r.eF (K:=X.K);cases v;refine JF I hu hl' rr hl fun p xs' hp r'=>?_
   have sp:bN H (upd H p (.lst xs')):=bN.upd hp;exact k _ _ sp (.lst aC trivial (r'.same sp)) fun _=>.lst aC hp ((r'.bF (qK hl)).same sp)
  ·cases e
 ·cases e
theorem isi {pins:List (Addr×Obj)} {s:Shared} {σ:L2.St} {H:Hp} {v:V} {u:Value} {d:D} {t:Ty} {k:Bool} (I:Inv X pins σ H s) (r:Rep All H v d) (ru:RelV v u) (h:MP t d=.ok k) {Q:Value->Shared->Prop}
  (q:∀tk,Q (.bool k) {s with toks:=tk}):wpAny (model X.prog X.w) X.A (call (.builtin "isinstance") [u,.type t.nm]) Q X.xe s:=by
 have q0:Q (.bool k) s:=q s.toks;cases r with
 | non=>cases ru;cases t <;> simp only [MP] at h <;> cases h <;> first|exact IsiPair.NoneType_int (q _)|exact IsiPair.NoneType_str (q _)|exact IsiPair.NoneType_bool (q _)|exact IsiPair.NoneType_list (q _)|exact IsiPair.NoneType_tuple (q _)|exact IsiPair.NoneType_dict (q _)
 | bl b=>cases ru;cases t <;> simp only [MP] at h <;> cases h <;> first|exact IsiPair.bool_int q0|exact IsiPair.bool_str (q _)|exact IsiPair.bool_bool q0|exact IsiPair.bool_list (q _)|exact IsiPair.bool_tuple (q _)|exact IsiPair.bool_dict (q _)
 | int b=>obtain ⟨tt,rfl⟩:=ru;cases t <;> simp only [MP] at h <;> cases h <;> first|exact IsiPair.int_int q0|exact IsiPair.int_str (q _)|exact IsiPair.int_bool (q _)|exact IsiPair.int_list (q _)|exact IsiPair.int_tuple (q _)|exact IsiPair.int_dict (q _)
 | str b=>obtain ⟨tt,rfl⟩:=ru;cases t <;> simp only [MP] at h <;> cases h <;> first|exact IsiPair.str_int (q _)|exact IsiPair.str_str q0|exact IsiPair.str_bool (q _)|exact IsiPair.str_list (q _)|exact IsiPair.str_tuple (q _)|exact IsiPair.str_dict (q _)
 | tup e rr=>
  cases ru;obtain ⟨its,vr,o,ho,hc,_⟩:=fB I e;cases t <;> simp only [MP] at h <;> cases h <;> first|exact IsiPair.tuple_int ho hc (q _)|exact IsiPair.tuple_str ho hc (q _)|exact IsiPair.tuple_bool ho hc (q _)|exact IsiPair.tuple_list ho hc (q _)|exact IsiPair.tuple_tuple ho hc q0|exact IsiPair.tuple_dict ho hc (q _)
 | lst e p rr=>
  cases ru;obtain ⟨its,vr,o,ho,hc,_⟩:=k_ I (.of e);cases t <;> simp only [MP] at h <;> cases h <;> first|exact IsiPair.list_int ho hc (q _)|exact IsiPair.list_str ho hc (q _)|exact IsiPair.list_bool ho hc (q _)|exact IsiPair.list_list ho hc q0|exact IsiPair.list_tuple ho hc (q _)|exact IsiPair.list_dict ho hc (q _)
 | frz e rr=>cases t <;> cases h
 | fdK e rr n=>cases t <;> cases h
 | fdT e rr n=>cases t <;> cases h
 | cel e p rr=>cases t <;> cases h
 | dK e p rr n=>
  cases ru;obtain ⟨_,_,_,_,o,_,_,ho,hx,_⟩:=HR I.hok e;have hc:=hx.1;cases t <;> simp only [MP] at h <;> cases h <;> first|exact IsiPair.dict_int ho hc (q _)|exact IsiPair.dict_str ho hc (q _)|exact IsiPair.dict_bool ho hc (q _)|exact IsiPair.dict_list ho hc (q _)|exact IsiPair.dict_tuple ho hc (q _)|exact IsiPair.dict_dict ho hc q0
 | dT e p rr n=>
  cases ru;obtain ⟨_,_,_,_,o,_,_,ho,hx,_⟩:=TJ I.hok e;have hc:=hx.1;cases t <;> simp only [MP] at h <;> cases h <;> first|exact IsiPair.dict_int ho hc (q _)|exact IsiPair.dict_str ho hc (q _)|exact IsiPair.dict_bool ho hc (q _)|exact IsiPair.dict_list ho hc (q _)|exact IsiPair.dict_tuple ho hc (q _)|exact IsiPair.dict_dict ho hc q0
noncomputable def aFx (t:Ty):List V->Hp->VK->Prop:=fun xs H Q=>∃v d k,xs=[v,.ty t.nm]/\Rep All H v d/\MP t d=.ok k/\Q (.bl k) H
theorem aCc (t:Ty):jA X (.builtin "isinstance") (aFx t):=by
 intro pins s σ H xs us Q I vr ⟨v,d,k,e,r,h,q⟩;subst e;cases vr with
 | cons rv vt=>
  cases vt with
  | cons rt vt=>
   cases vt;cases rt;exact isi I r rv h fun tk=>⟨.bl k,H,I.tok tk,rfl,q⟩
theorem EY (t:Ty) {y:Str} {p2:Pos} (ha:PE X a (gE fa ra)) (hg:Gl X "isinstance") (hm:X.mg "isinstance" = none) (hv:bootBuiltins "isinstance" = some (.builtin "isinstance")) (gy:Gl X y) (my:X.mg y=none) (vy:bootBuiltins y=some (.type t.nm))
  (hy:y ≠ "__name__":=by decide) (hyd:(y==("__debug__" : Str))=false:=by decide)
  (he:starEach [a,.Name y p2] X.env=(false,eval a X.env)::starEach [.Name y p2] X.env:=by rfl) (he2:starEach [.Name y p2] X.env=(false,eval (.Name y p2) X.env)::starEach [] X.env:=by rfl)
  (hpl:(backTo pos (starEach [.Name y p2] X.env)).any (·.1)=false:=by rfl):PE X (.Call (.Name "isinstance" p) [a,.Name y p2] [] pos) (gE (b1 (M5 t) fa) true):=
 PE.imp (BV (aCc t) hg hm hv (eV ha (eV (X4 gy my vy (v:=.ty t.nm) rfl hy hyd) gU he2) he) (by decide) (by decide) he hpl) fun σ H Q ⟨ρ,d,E,h,q⟩=>by
  obtain ⟨x,h1,h⟩:=aY h;obtain ⟨k,h2,h⟩:=aY h;cases h;exact ⟨ρ,x,E,h1,fun v H1 s1 r1 _=>⟨v,x,k,rfl,r1,h2,(q.imp s1 id).bl⟩⟩
noncomputable def spD (f:List D->Res D) (n:Nat):Sp:=fun vs H Q _=>∃ds d,ds.length=n/\bB All H vs ds/\f ds=.ok d/\kR H d true Q
theorem O6 {f:List D->Res D} {n:Nat} {vs:List V} {H:Hp} {Q:VK} {E:XK} (h:spD f n vs H Q E):vs.length=n:=by
 obtain ⟨ds,d,h1,r,_⟩:=h;rw [r.length,h1]
theorem ZK {k:Nat} {fad:Addr} {fd:FuncData} {ps:List Str} {f:List D->Res D} {n:Nat} (F:HF X.prog X.w X.K X.mg X.base CX0 k fad fd ps (spD f n)) (hr:o9 k X.A) (hg:Gl X x) (hm:X.mg x=some (.ref fad)) (hk:PySem.W.keepIn X.K (.ref fad)=true) (hb:Binds X.K fd ps [])
  (ha:PA X (e::es) (gA fs rr)) (hdb:nDb x:=by decide) (he:starEach (e::es) X.env=(false,eval e X.env)::starEach es X.env:=by rfl) (hpl:(backTo pos (starEach es X.env)).any (·.1)=false:=by rfl) :
  PE X (.Call (.Name x p) (e::es) [] pos) (gE (aX (fL n f) fs) true):=
 PE.imp (YB F hr hg hm hk hb .nil aE4 ha hdb he hpl) fun σ H Q ⟨ρ,d,E,h,q⟩=>by
  obtain ⟨ds,h1,h⟩:=aY h;unfold fL at h;split at h
  ·rename_i hl;exact ⟨ρ,ds,E,h1,fun vs H1 s1 r1 _=>⟨ds,d,of_decide_eq_true hl,by rw [List.append_nil];exact r1,h,q.imp s1 id⟩⟩
  ·cases h
end
end Mi
end
section
namespace Mi
open PySem L2 PySem.SeqAt PySem.Spec PyProof.Rows
def E_ (x:Str):List D:=x.cps.toList.map fun c=>D.str ⟨#[c]⟩
def O7 (xs:List D):List D:=xs.zipIdx.map fun p=>.tup [.int p.2,p.1]
def aDe (xs ys:List D):List D:=(xs.zip ys).map fun p=>.tup [p.1,p.2]
noncomputable def U0 (m:Nat) (xs:List D):List D:=xs.zipIdx.map fun p=>.tup [.int ((m+p.2:Nat):Int),p.1]
variable [KFrag]
noncomputable def aFy (x:Str):It:=⟨fun i _=>i<x.cps.size,fun i H v H'=>H'=H/\∃c,x.cps[i]?=some c/\v=.str ⟨#[c]⟩,fun i _=>x.cps.size<=i⟩
noncomputable def Ite (K:PySem.W.Frag) (a:Addr):It:=
 ⟨fun i H=>∃xs x,SqL K H a xs/\xs[i]?=some x,fun i H v H'=>∃t x,(∀xs,SqL K H a xs->xs[i]?=some x)/\v=.ref t/\H t=none/\H'=upd H t (.tup [.int i,x]),fun i H=>∃xs,SqL K H a xs/\xs.length<=i⟩
noncomputable def aFz (K:PySem.W.Frag) (m:Nat) (a:Addr):It:=
 ⟨fun i H=>∃xs x,SqL K H a xs/\xs[i]?=some x,fun i H v H'=>∃t x,(∀xs,SqL K H a xs->xs[i]?=some x)/\v=.ref t/\H t=none/\H'=upd H t (.tup [.int ((m+i:Nat):Int),x]),fun i H=>∃xs,SqL K H a xs/\xs.length<=i⟩
noncomputable def Itz (a b:Addr):It :=
  ⟨fun i H => ∃xs ys x y, H a=some (.tup xs) /\ H b=some (.tup ys) /\ xs[i]?=some x /\ ys[i]?=some y, fun i H v H' => ∃t x y, (∀xs, H a=some (.tup xs) -> xs[i]?=some x) /\ (∀ys, H b=some (.tup ys) -> ys[i]?=some y) /\ v=.ref t /\ H t=none /\ H'=upd H t (.tup [x, y]),
   fun i H => ∃xs ys, H a=some (.tup xs) /\ H b=some (.tup ys) /\ ys.length=xs.length /\ xs.length <= i⟩
theorem U3 {m:Nat} {xs:List D} {i:Nat}:(U0 m xs)[i]?=(xs[i]?).map fun d=>.tup [.int ((m+i:Nat):Int),d]:=by
 unfold U0;rw [List.getElem?_map,List.getElem?_zipIdx,Nat.zero_add];cases xs[i]? <;> rfl
theorem U4 {xs:List D} {i:Nat}:(O7 xs)[i]?=(xs[i]?).map fun d=>.tup [.int i,d]:=by
 unfold O7;rw [List.getElem?_map,List.getElem?_zipIdx,Nat.zero_add];cases xs[i]? <;> rfl
theorem O8 (xs:List D):(O7 xs).length=xs.length:=by simp [O7]
inductive ItQ (K:PySem.W.Frag) (P:Addr->Prop) (J:It) (H:Hp) (items:List D):Prop
 | lst (a:Addr) (e:J=Itl K a) (r:Rep P H (.ref a) (.lst items))
 | tup (a:Addr) (e:J=Itt K a) (r:Rep P H (.ref a) (.tup items))
 | rng (lo:Int) (n:Nat) (e:J=Itr lo n) (r:items=(List.range n).map fun (k:Nat)=>D.int (lo+k))
 | chs (x:Str) (e:J=aFy x) (r:items=E_ x)
 | enm (a:Addr) (ds:List D) (e:J=Ite K a) (r:Rep P H (.ref a) (.lst ds)) (h:items=O7 ds)
 | enf (m:Nat) (a:Addr) (ds:List D) (e:J=aFz K m a) (r:Rep P H (.ref a) (.lst ds)) (h:items=U0 m ds)
 | scr (a:Addr) (hK:KFrag.K=K) (e:J=Itl K a) (r:Rep P H (.ref a) (.scr items))
 | zip (a b:Addr) (ds es:List D) (e:J=Itz a b) (r:Rep P H (.ref a) (.tup ds)) (q:Rep P H (.ref b) (.tup es)) (n:es.length=ds.length) (h:items=aDe ds es)
theorem ItQ.keep {K:PySem.W.Frag} {P P':Addr->Prop} {J:It} {H H':Hp} {items:List D} (h:ItQ K P J H items) (k:T6 P H H') (m:∀a,P a->P' a):ItQ K P' J H' items:=by
 cases h with
 | lst a e r=>exact .lst a e (r.keep k m)
 | tup a e r=>exact .tup a e (r.keep k m)
 | rng lo n e r=>exact .rng lo n e r
 | chs x e r=>exact .chs x e r
 | enm a ds e r h=>exact .enm a ds e (r.keep k m) h
 | enf m' a ds e r h=>exact .enf m' a ds e (r.keep k m) h
 | zip a b ds es e r q n h=>exact .zip a b ds es e (r.keep k m) (q.keep k m) n h
 | scr a hK e r=>exact .scr a hK e (r.keep k m)
theorem ItQ.stop {K:PySem.W.Frag} {P:Addr->Prop} {J:It} {H:Hp} {items:List D} {i:Nat} (h:ItQ K P J H items) (hi:items.length<=i):J.stop i H:=by
 cases h with
 | lst a e r=>
  subst e;obtain ⟨a',xs,e,hq,rr⟩:=r.eF (K:=K);cases e;exact ⟨xs,hq,by rw [rr.length];exact hi⟩
 | tup a e r=>
  subst e;obtain ⟨a',xs,e,hq,rr⟩:=r.dG;cases e;exact ⟨xs,.of hq,by rw [rr.length];exact hi⟩
 | rng lo n e r=>
  subst e r;show n<=i;simpa using hi
 | chs x e r=>
  subst e r;show x.cps.size<=i;simpa [E_] using hi
 | enm a ds e r h=>
  subst e h;obtain ⟨a',xs,e,hq,rr⟩:=r.eF (K:=K);cases e;exact ⟨xs,hq,by rw [rr.length,<-O8];exact hi⟩
 | enf m a ds e r h=>
  subst e h;obtain ⟨a',xs,e,hq,rr⟩:=r.eF (K:=K);cases e;exact ⟨xs,hq,by rw [rr.length];simpa [U0] using hi⟩
 | zip a b ds es e r q n h=>
  subst e h;obtain ⟨a',xs,e,hq,rr⟩:=r.dG;cases e;obtain ⟨b',ys,e,hq2,rr2⟩:=q.dG;cases e;have:(aDe ds es).length=ds.length:=by simp [aDe,n]
  exact ⟨xs,ys,hq,hq2,by rw [rr.length,rr2.length];exact n,by rw [rr.length];lia⟩
 | scr a hK e r=>
  subst e;cases r with
  | frz ee rr=>exact ⟨_,ee.sq hK,by rw [rr.length];exact hi⟩
theorem ItQ.go {K:PySem.W.Frag} {P:Addr->Prop} {J:It} {H:Hp} {items:List D} {i:Nat} {d:D} (h:ItQ K P J H items) (hi:items[i]?=some d):J.go i H/\∀x H',J.yld i H x H'->bN H H'/\Rep P H' x d:=by
 cases h with
 | lst a e r=>
  subst e;obtain ⟨a',xs,e,hq,rr⟩:=r.eF (K:=K);cases e;obtain ⟨v,h1,h2⟩:=rr.get hi;refine ⟨⟨xs,v,hq,h1⟩,fun x H' ⟨e,hy⟩=>?_⟩;subst e;refine ⟨bN.refl _,?_⟩;have:=hy xs hq;rw [h1] at this;cases this;exact h2
 | tup a e r=>
  subst e;obtain ⟨a',xs,e,hq,rr⟩:=r.dG;cases e;obtain ⟨v,h1,h2⟩:=rr.get hi;refine ⟨⟨xs,v,.of hq,h1⟩,fun x H' ⟨e,hy⟩=>?_⟩;subst e;refine ⟨bN.refl _,?_⟩;have:=hy xs (.of hq);rw [h1] at this;cases this;exact h2
 | rng lo n e r=>
  subst e r;have hlt:i<n:=by
   have:=(List.getElem?_eq_some_iff.mp hi).1;simpa using this
  refine ⟨hlt,fun x H' ⟨e,hy⟩=>?_⟩;subst e;have e2:D.int (lo+(i:Int))=d:=by simpa [hlt] using hi
  rw [hy,<-e2];exact ⟨bN.refl _,.int _⟩
 | chs z e r=>
  subst e r;have hlt:i<z.cps.size:=by
   have:=(List.getElem?_eq_some_iff.mp hi).1;simpa [E_] using this
  refine ⟨hlt,fun x H' ⟨e,c,hc,hv⟩=>?_⟩;subst e hv;refine ⟨bN.refl _,?_⟩;have e2:D.str ⟨#[c]⟩=d:=by
   unfold E_ at hi;rw [List.getElem?_map,Array.getElem?_toList,hc] at hi;simpa using hi
  rw [<-e2];exact .str _
 | enm a ds e r h=>
  subst e h;obtain ⟨a',xs,e,hq,rr⟩:=r.eF (K:=K);cases e;rw [U4] at hi;cases hd:ds[i]? with
  | none=>rw [hd] at hi;cases hi
  | some y=>
   rw [hd] at hi;cases hi;obtain ⟨v,h1,h2⟩:=rr.get hd;refine ⟨⟨xs,v,hq,h1⟩,fun x H' ⟨t,u,hy,e1,e2,e3⟩=>?_⟩;subst e1 e3;have:=hy xs hq;rw [h1] at this;cases this;have sp:bN H (upd H t (.tup [.int i,v])):=bN.upd e2;exact ⟨sp,.tup aC (.cons (.int _) (.cons (h2.same sp) .nil))⟩
 | enf m a ds e r h=>
  subst e h;obtain ⟨a',xs,e,hq,rr⟩:=r.eF (K:=K);cases e;rw [U3] at hi;obtain ⟨y,hd,rfl⟩:=Option.map_eq_some_iff.mp hi;obtain ⟨v,h1,h2⟩:=rr.get hd;refine ⟨⟨xs,v,hq,h1⟩,fun x H' ⟨t,u,hy,e1,e2,e3⟩=>?_⟩;subst e1 e3;have:=hy xs hq;rw [h1] at this;cases this;have sp:bN H (upd H t (.tup [.int ((m+i:Nat):Int),v])):=bN.upd e2;exact ⟨sp,.tup aC (.cons (.int _) (.cons (h2.same sp) .nil))⟩
 | zip a b ds es e r q n h=>
  subst e h;obtain ⟨a',xs,e,hq,rr⟩:=r.dG;cases e;obtain ⟨b',ys,e,hq2,rr2⟩:=q.dG;cases e;unfold aDe at hi;rw [List.getElem?_map] at hi;obtain ⟨⟨x,y⟩,hd,rfl⟩:=Option.map_eq_some_iff.mp hi;rw [List.getElem?_zip_eq_some] at hd;obtain ⟨v,h1,h2⟩:=rr.get hd.1;obtain ⟨v',h3,h4⟩:=rr2.get hd.2;refine ⟨⟨xs,ys,v,v',hq,hq2,h1,h3⟩,fun x H' ⟨t,u,u',hy,hy',e1,e2,e3⟩=>?_⟩;subst e1 e3;have z:=hy xs hq;rw [h1] at z;cases z;have z:=hy' ys hq2;rw [h3] at z;cases z;have sp:bN H (upd H t (.tup [v,v'])):=bN.upd e2;exact ⟨sp,.tup aC (.cons (h2.same sp) (.cons (h4.same sp) .nil))⟩
 | scr a hK e r=>
  subst e;cases r with
  | @frz _ xs _ ee rr=>
   obtain ⟨v,h1,h2⟩:=rr.get hi;refine ⟨⟨xs,v,ee.sq hK,h1⟩,fun x H' ⟨e,hy⟩=>?_⟩;subst e;refine ⟨bN.refl _,?_⟩;have:=hy xs (ee.sq hK);rw [h1] at this;cases this;exact h2
noncomputable def gI (K:PySem.W.Frag) (f:FI):TI:=fun σ H R=>∃ρ items k,ER H σ ρ/\f ρ=.ok (items,k)/\∀J H1,bN H H1->ItQ K All J H1 items->(k=true->ItQ K (New H) J H1 items)->R J H1
noncomputable def gIV (K:PySem.W.Frag) (i:Nat):TI:=fun σ H R=>∃v d items,σ[i]?=some (some v)/\Rep All H v d/\mL d=.ok items/\∀J,(∀P:Addr->Prop,Rep P H v d->ItQ K P J H items)->R J H
section
variable {X:Cx} {tg l a b:Expr} {fl fa:FE} {rl ra rr:Bool} {fs:FA} {p pos:Pos}
theorem uU {pins:List (Addr×Obj)} {s1:Shared} {σ:L2.St} {H1:Hp} {R:It->Hp->Prop} {v:V} {u:Value} {d:D} {items:List D} (I1:Inv X pins σ H1 s1) (r:Rep All H1 v d) (ru:RelV v u) (hi:mL d=.ok items)
  (q:∀J,(∀P:Addr->Prop,Rep P H1 v d->ItQ X.K P J H1 items)->R J H1):wpAny (model X.prog X.w) X.A (pyIter u) (PIE X pins σ tg R) X.xe s1:=by
 cases d <;> simp only [mL] at hi <;> cases hi
 ·obtain ⟨a,xs,rfl,e,rr⟩:=r.dG;cases ru;obtain ⟨its,rv,p,hz⟩:=I1.tuple (.of e);refine wpAny_pyIter_tuple (show s1.heap.IsTuple a its.toArray from p) ?_;refine ⟨s1.heap.objs.size,[s1.heap.objs.size],_,_,H1,rfl,I1.kept (t':=s1.toks) fun b o e=>Heap.get?_push_of_some _ e,G9 a _,⟨_,Heap.get?_push_size _ rfl,rfl,rfl⟩,fun b hb=>?_,q _ fun P r=>.tup a rfl r⟩;have e:b=s1.heap.objs.size:=by simpa using hb
  subst e;exact I1.aD6 (Nat.le_refl _) (I1.hok.fresh (Nat.le_refl _))
 ·obtain ⟨a,xs,rfl,e,rr⟩:=r.eF (K:=X.K);cases ru;obtain ⟨its,rv,p,hz⟩:=I1.list e;refine wpAny_pyIter_list p.isList ?_;refine ⟨s1.heap.objs.size,[s1.heap.objs.size],_,_,H1,rfl,I1.kept (t':=s1.toks) fun b o e=>Heap.get?_push_of_some _ e,v8 a _,⟨_,Heap.get?_push_size _ rfl,rfl,rfl⟩,fun b hb=>?_,q _ fun P r=>.lst a rfl r⟩;have e:b=s1.heap.objs.size:=by simpa using hb
  subst e;exact I1.aD6 (Nat.le_refl _) (I1.hok.fresh (Nat.le_refl _))
theorem mW (hl:PE X l (gE fl rl)):PI X tg l (gI X.K (dM fl rl)):=by
 intro pins s σ H R I ⟨ρ,items,k,E,h,q⟩;obtain ⟨d,h1,h⟩:=aY h;obtain ⟨its,h2,h⟩:=aY h;cases h;refine thn (hl pins s σ H _ I ⟨ρ,d,E,h1,fun v H1 s1 r1 n1=>(show (∃d',Rep All H1 v d/\d'=d/\∀J,(∀P:Addr->Prop,Rep P H1 v d->ItQ X.K P J H1 items)->R J H1) from ⟨d,r1,rfl,fun J hJ=>q J H1 s1 (hJ _ r1) fun hk=>hJ _ ?_⟩)⟩) fun u s1 ⟨v,H1,I1,ru,d',r1,e,q1⟩=>uU I1 r1 ru h2 q1
 rw [Bool.or_eq_true] at hk;rcases hk with hk|hk
 ·exact n1 hk
 ·exact r1.bF hk
theorem W8 {i:Nat} {x:Str} (hN:X.N[i]?=some x) (hv:Vis X.env.scope x) (hd:nDb x:=by decide) (hcd:nCd x:=by decide):PI X tg (.Name x pos) (gIV X.K i):=by
 intro pins s σ H R I ⟨v,d,items,hσ,r,hi,q⟩;exact thn (dH hN hv hd hcd pins s σ H (fun w H1=>w=v/\H1=H) I ⟨v,hσ,rfl,rfl⟩) fun u s1 ⟨w,H1,I1,ru,e1,e2⟩=>by
  subst e1 e2;exact uU I1 r ru hi q
theorem JK {i:Int} (h:p8 i=true):-(2 ^ 62)<=i/\i<2 ^ 62:=by
 simp only [p8,Bool.and_eq_true,decide_eq_true_eq] at h;exact h
theorem PI.imp {w w':TI} (h:PI X tg l w) (i:∀σ H R,w' σ H R->w σ H R):PI X tg l w':=fun pins s σ H R I q=>h pins s σ H R I (i σ H R q)
theorem lQ (hg:Gl X "range") (hm:X.mg "range" = none) (ha:PA X [a] (gA fs rr)) (hs:starEach [a] X.env=[(false,eval a X.env)]:=by rfl):PI X tg (.Call (.Name "range" p) [a] [] pos) (gI X.K (mO fs lN)):=
 PI.imp (KR hg hm ha hs) fun σ H R ⟨ρ,items,k,E,h,q⟩=>by
  obtain ⟨xs,h1,h⟩:=aY h;unfold lN at h;split at h
  ·split at h
   ·rename_i hb;cases h;obtain ⟨b1,b2⟩:=JK hb;refine ⟨ρ,_,E,h1,fun vs H1 s1 r1 _=>?_⟩;cases r1 with
    | cons r t=>
     cases t;cases r;exact ⟨_,rfl,b1,b2,q _ H1 s1 (.rng 0 _ rfl rfl) fun _=>.rng 0 _ rfl rfl⟩
   ·cases h
  ·cases h
end
theorem U5 (n:Nat) (ρ bs:List D) (i:Nat) (h:i<n):(CP n ρ++bs).getD i .uD=ρ.getD i .uD:=by
 rw [List.getD_eq_getElem?_getD,List.getElem?_append_left (by simp [CP];exact h)];simp [CP,h]
theorem FJ (n:Nat) (ρ:List D):(CP n ρ).length=n:=by simp [CP]
noncomputable def TgC (g:TG) (t:D->Res (List D)) (n m:Nat):Prop:=∀(v:V) (d:D) (bs:List D) (σ:L2.St) (H:Hp) (Q:L2.St->Hp->Prop),σ.length=n->Rep All H v d->t d=.ok bs->
 (∀σ2,Ext (σ++List.replicate m none) σ2->(∀j b,bs[j]?=some b->∃w,σ2[n+j]?=some (some w)/\Rep All H w b)->Q σ2 H)->g v (σ++List.replicate m none) H Q
theorem ER.ext {H:Hp} {σ σ2:L2.St} {ρ bs:List D} {n m:Nat} (E:ER H σ ρ) (hn:σ.length=n) (x:Ext (σ++List.replicate m none) σ2) (hb:∀j b,bs[j]?=some b->∃w,σ2[n+j]?=some (some w)/\Rep All H w b):ER H σ2 (CP n ρ++bs):=by
 intro i hi;by_cases h:i<n
 ·rw [U5 n ρ bs i h] at hi ⊢;obtain ⟨v,h1,h2⟩:=E i hi;exact ⟨v,x.2 i v (by rw [List.getElem?_append_left (by rw [hn];exact h)];exact h1),h2⟩
 ·have e:(CP n ρ++bs).getD i .uD=bs.getD (i-n) .uD:=by
   rw [List.getD_eq_getElem?_getD,List.getElem?_append_right (by rw [FJ];lia),FJ,<-List.getD_eq_getElem?_getD]
  rw [e] at hi ⊢;cases hq:bs[i-n]? with
  | none=>rw [List.getD_eq_getElem?_getD,hq] at hi;exact absurd rfl hi
  | some b=>
   obtain ⟨w,h1,h2⟩:=hb (i-n) b hq;rw [List.getD_eq_getElem?_getD,hq];exact ⟨w,by rw [<-h1];congr 1;lia,h2⟩
theorem xF {K:PySem.W.Frag} {it:FI} {t:D->Res (List D)} {c:FT} {f:FE} {k:Bool} {n m:Nat} {g:TG} {tc:TT} (tg:TgC g t n m) (hc:∀σ H Q,gT c σ H Q->tc σ H Q) {σ:L2.St} {H:Hp} {Q:VK} (hn:σ.length=n) (h:gE (gM n it t c f k) true σ H Q) :
  NZ (gI K it) g tc (gE f k) m σ H Q:=by
 obtain ⟨ρ,d,E,h,q⟩:=h;obtain ⟨⟨items,kk⟩,h1,h⟩:=aY h;split at h
 ·rename_i hlim;obtain ⟨ys,h2,h⟩:=aY h;cases h;refine ⟨ρ,items,kk,E,h1,fun J H1 s1 hJ _ p hp=>?_⟩;have hp0:H p=none:=s1.free hp;refine ⟨fun i n' vs H'=>n'=items.length-i/\i<=items.length/\H' p=some (.lst vs)/\bN H1 H'/\∃acc,acc.length<=i/\bB (fun a=>H a=none/\a≠p) H' vs acc/\wL (H_ n t c f k ρ) acc (items.drop i)=.ok ys,⟨items.length,?_⟩,?_⟩
  ·exact ⟨rfl,Nat.zero_le _,aC,bN.upd hp,[],Nat.zero_le _,.nil,h2⟩
  ·rintro i n' vs H' ⟨rfl,hi,hH,sm,acc,hal,racc,hf⟩;refine ⟨hH,?_⟩;have hJ':ItQ K All J H' items:=hJ.keep (.same sm) fun _ z=>z
   rcases Nat.lt_or_ge i items.length with hlt|hge
   ·refine .inr ?_;have e:items[i]?=some items[i]:=List.getElem?_eq_getElem hlt;obtain ⟨g1,g2⟩:=hJ'.go e;have hl1:items.length<=lim:=of_decide_eq_true hlim;refine ⟨g1,?_,fun x H2 hy=>?_⟩
    ·rw [racc.length];exact Nat.lt_of_le_of_lt hal (Nat.lt_of_lt_of_le hlt (Nat.le_trans hl1 (by rw [sizeLine_eq];decide)))
    ·obtain ⟨sH,rx⟩:=g2 x H2 hy;have hH:=sH p _ hH;have sm:=sm.trans sH;have racc:=racc.same sH;rw [List.drop_eq_getElem_cons hlt] at hf;obtain ⟨acc2,hs,hf⟩:=aY hf;obtain ⟨bs,hb,hs⟩:=aY hs;obtain ⟨ok,hok,hs⟩:=aY hs;refine tg x items[i] bs σ H2 _ hn rx hb fun σ2 hx hbs=>⟨hx,hc _ _ _ ?_⟩
     have E2:ER H2 σ2 (CP n ρ++bs):=(E.same (s1.trans sm)).ext hn hx hbs;refine ⟨_,ok,E2,hok,fun H4 s4=>?_⟩;cases ok with
     | true=>
      rw [if_pos rfl];rw [if_pos rfl] at hs;obtain ⟨y,hy2,hs⟩:=aY hs;split at hs
      ·rename_i hk;cases hs;refine ⟨_,y,E2.same s4,hy2,fun w H5 s5 r5 n5=>⟨s5 p _ (s4 p _ hH),items.length-(i+1),by lia,rfl,hlt,aC,?_,acc++[y],?_,?_,hf⟩⟩
       ·exact fun b o e=>by
         rw [aR (bZ e hp)];exact s5 b o (s4 b o (sm b o e))
       ·rw [List.length_append,List.length_singleton];lia
       ·have hp5:H5 p=some (.lst vs):=s5 p _ (s4 p _ hH);have ry:Rep (fun a=>H a=none/\a≠p) H5 w y:=by
         rw [Bool.or_eq_true] at hk;rcases hk with hk|hk
         ·exact (n5 hk).mono fun a ha=>⟨((s1.trans sm).trans s4).free ha,fun z=>by subst z;have h0:=s4 _ _ hH;rw [show H4 _=none from ha] at h0;cases h0⟩
         ·exact r5.bF hk
        have all:bB (fun a=>H a=none/\a≠p) H5 (vs++[w]) (acc++[y]):=(racc.same (s4.trans s5)).snoc ry;refine all.keep (fun b o e hb=>?_) fun _ z=>z
        rw [aR]
        ·exact e
        ·rcases hb with hb|hb
         ·exact hb.2
         ·intro z;subst z;rw [hp5] at e;cases e;cases hb
      ·cases hs
     | false=>
      rw [if_neg (by simp)];rw [if_neg (by simp)] at hs;cases hs;exact ⟨items.length-(i+1),by lia,rfl,hlt,s4 p _ hH,sm.trans s4,acc,by lia,racc.same s4,hf⟩
   ·refine .inl ⟨hJ'.stop hge,?_⟩;rw [List.drop_eq_nil_of_le hge] at hf;cases hf;exact q _ _ (s1.trans sm) (.lst hH trivial racc.all) fun _=>.lst hH hp0 (racc.mono fun a z=>z.1)
 ·cases h
noncomputable def gIx:List Nat->TGs
 | []=>aF2
 | i::is=>aB3 (rT i) (gIx is)
noncomputable def kW:List Nat->List V->L2.St->L2.St
 | i::is,v::vs,σ=>kW is vs (σ.set i (some v))
 | _,_,σ=>σ
theorem zR {H:Hp} {Q:L2.St->Hp->Prop}:∀(is:List Nat) (vs:List V) (σ:L2.St),vs.length=is.length->Q (kW is vs σ) H->gIx is vs σ H Q
 | [],[],σ,_,q=>⟨rfl,q⟩
 | i::is,v::vs,σ,h,q=>⟨v,vs,rfl,zR is vs (σ.set i (some v)) (by simpa using h) q⟩
 | [],_::_,_,h,_=>by simp at h
 | _::_,[],_,h,_=>by simp at h
theorem xG:∀(is:List Nat) (vs:List V) (σ:L2.St),(kW is vs σ).length=σ.length
 | [],_,_=>by simp [kW]
 | _::_,[],_=>by simp [kW]
 | i::is,v::vs,σ=>by rw [kW,xG is vs];simp
theorem qL:∀(is:List Nat) (vs:List V) (σ:L2.St) (k:Nat),k∉is->(kW is vs σ)[k]?=σ[k]?
 | [],_,_,_,_=>by simp [kW]
 | _::_,[],_,_,_=>by simp [kW]
 | i::is,v::vs,σ,k,h=>by
  rw [List.mem_cons,not_or] at h;rw [kW,qL is vs _ k h.2,List.getElem?_set_ne (Ne.symm h.1)]
theorem FN:∀(is:List Nat) (vs:List V) (σ:L2.St) (j i:Nat) (v:V),is.Nodup->(∀i∈is,i<σ.length)->is[j]?=some i->vs[j]?=some v->(kW is vs σ)[i]?=some (some v)
 | [],_,_,_,_,_,_,_,h,_=>by simp at h
 | _::_,[],_,_,_,_,_,_,_,h=>by simp at h
 | a::is,w::vs,σ,0,i,v,hn,hl,h1,h2=>by
  have e1:a=i:=by simpa using h1
  have e2:w=v:=by simpa using h2
  subst e1 e2;rw [kW,qL is vs _ a (List.nodup_cons.mp hn).1,List.getElem?_set_self (hl a (List.mem_cons_self ..))]
 | a::is,w::vs,σ,j+1,i,v,hn,hl,h1,h2=>by
  rw [kW];exact FN is vs _ j i v (List.nodup_cons.mp hn).2 (fun i hi=>by rw [List.length_set];exact hl i (List.mem_cons_of_mem _ hi)) (by simpa using h1) (by simpa using h2)
theorem uV (n:Nat):TgC (rT n) CQ n 1:=by
 intro v d bs σ H Q hn r h q;cases h;have hl:(σ++List.replicate 1 (none:Option V)).length=n+1:=by simp [hn]
 refine q _ ⟨by simp,fun i w hi=>?_⟩ fun j b hj=>?_
 ·have:i≠n:=fun z=>by
   subst z;rw [List.getElem?_append_right (by lia)] at hi;simp [hn] at hi
  rw [List.getElem?_set_ne (Ne.symm this)];exact hi
 ·have e:j=0:=by
   have:=(List.getElem?_eq_some_iff.mp hj).1;simp at this;exact this
  subst e;have e:d=b:=by simpa using hj
  subst e;exact ⟨v,by rw [Nat.add_zero,List.getElem?_set_self (by lia)],r⟩
theorem ZL (K:PySem.W.Frag) (n m:Nat):TgC (aDp K m (gIx (List.range' n m))) (aBs m) n m:=by
 intro v d bs σ H Q hn r h q;cases d <;> simp only [aBs] at h <;> (try (cases h;done))
 split at h
 ·rename_i hm;cases h;have hm':=of_decide_eq_true hm;obtain ⟨a,xs,rfl,e,rr⟩:=r.dG;refine ⟨a,xs,rfl,.of e,by rw [rr.length];exact hm',zR _ _ _ (by rw [rr.length,hm'];simp) ?_⟩;refine q _ ⟨by rw [xG],fun i w hi=>?_⟩ fun j b hj=>?_
  ·rw [qL]
   ·exact hi
   ·intro hmem;have:=List.mem_range'_1.mp hmem;rw [List.getElem?_append_right (by lia)] at hi;rw [List.getElem?_replicate] at hi;split at hi <;> cases hi
  ·obtain ⟨w,h1,h2⟩:=rr.get hj;have hjm:j<m:=by rw [<-hm'];exact (List.getElem?_eq_some_iff.mp hj).1
   refine ⟨w,FN _ _ _ j (n+j) w (List.nodup_range' ..) (fun i hi=>?_) ?_ h1,h2⟩
   ·have:=List.mem_range'_1.mp hi;simp [hn];lia
   ·rw [List.getElem?_range' hjm];simp
 ·cases h
section
variable {X:Cx} {scope:Scope} {ownN:List Str} {elt iter tg c:Expr} {it:FI} {t:D->Res (List D)} {g:TG} {gc:FT} {fe:FE} {re:Bool} {pos:Pos}
theorem ZM {n m:Nat} (S:gC X.N X.env.scope scope ownN) (hn:X.N.length=n) (hm:ownN.length=m) (hcalm:X.calm=true) (hi:PI X tg iter (gI X.K it)) (ht:TgC g t n m) (hg:∀X',dN X X' scope ownN->PG X' tg g) (he:∀X',dN X X' scope ownN->PE X' elt (gE fe re))
  (hs:∀x,foldedSetIterable iter X.env x=pure x):PE X (.ListComp elt [⟨tg,iter,[],0⟩] scope pos) (gE (gM n it t uH fe re) true):=by
 intro pins s σ H Q I h;subst hm;exact T8 S hcalm hi hg he hs pins s σ H Q I (xF ht (fun σ H Q h=>by obtain ⟨ρ,b,E,h,q⟩:=h;cases h;exact q H (bN.refl H)) (I.len.trans hn) h)
end
end Mi
end
section
namespace Mi
open PySem L2 PySem.SeqAt PySem.Spec PyProof.Rows
variable [KFrag]
mutual
theorem Rep.dom {P:Addr->Prop} {H:Hp}:∀{v:V} {d:D},Rep P H v d->Rep (fun a=>P a/\H a≠none) H v d
 | _,_,.non=>.non
 | _,_,.bl b=>.bl b
 | _,_,.int i=>.int i
 | _,_,.str x=>.str x
 | _,_,.tup e r=>.tup e (bB.dom r)
 | _,_,.lst e p r=>.lst e ⟨p,by rw [e];simp⟩ (bB.dom r)
 | _,_,.cel e p r=>.cel e ⟨p,by rw [e];simp⟩ (bB.dom r)
 | _,_,.frz e r=>.frz e (bB.dom r)
 | _,_,.dK e p r n=>.dK e ⟨p,by rw [e];simp⟩ (kO.dom r) n
 | _,_,.dT e p r n=>.dT e ⟨p,by rw [e];simp⟩ (nO.dom r) n
 | _,_,.fdK e r n=>.fdK e (kO.dom r) n
 | _,_,.fdT e r n=>.fdT e (nO.dom r) n
theorem bB.dom {P:Addr->Prop} {H:Hp}:∀{v:List V} {d:List D},bB P H v d->bB (fun a=>P a/\H a≠none) H v d
 | _,_,.nil=>.nil
 | _,_,.cons r t=>.cons (Rep.dom r) (bB.dom t)
theorem kO.dom {P:Addr->Prop} {H:Hp}:∀{v:List (Key×V)} {d:List (D×D)},kO P H v d->kO (fun a=>P a/\H a≠none) H v d
 | _,_,.nil=>.nil
 | _,_,.cons r t=>.cons (Rep.dom r) (kO.dom t)
theorem nO.dom {P:Addr->Prop} {H:Hp}:∀{v:List (List Key×V)} {d:List (D×D)},nO P H v d->nO (fun a=>P a/\H a≠none) H v d
 | _,_,.nil=>.nil
 | _,_,.cons r t=>.cons (Rep.dom r) (nO.dom t)
end
theorem kO.bF {P P':Addr->Prop} {H:Hp}:∀{v:List (Key×V)} {d:List (D×D)},kO P H v d->D.aW (d.map (·.2))=true->kO P' H v d
 | _,_,.nil,_=>.nil
 | _,_,.cons r t,h=>by
  rw [List.map_cons,D.aW,Bool.and_eq_true] at h;exact .cons (r.bF h.1) (t.bF h.2)
theorem nO.bF {P P':Addr->Prop} {H:Hp}:∀{v:List (List Key×V)} {d:List (D×D)},nO P H v d->D.aW (d.map (·.2))=true->nO P' H v d
 | _,_,.nil,_=>.nil
 | _,_,.cons r t,h=>by
  rw [List.map_cons,D.aW,Bool.and_eq_true] at h;exact .cons (r.bF h.1) (t.bF h.2)
theorem Rep.aCd {P P':Addr->Prop} {H:Hp} {a:Addr} {d:D} (r:Rep P H (.ref a) d) (h:inner d=true) (hp:P' a):Rep P' H (.ref a) d:=by
 cases r with
 | tup e r=>cases h
 | lst e p r=>exact .lst e hp (r.bF h)
 | cel e p r=>exact .cel e hp (r.bF h)
 | frz e r=>cases h
 | dK e p r n=>exact .dK e hp (r.bF h) n
 | dT e p r n=>exact .dT e hp (r.bF h) n
 | fdK e r n=>cases h
 | fdT e r n=>cases h
noncomputable def Own (own:Nat->Bool) (σ:L2.St) (a:Addr):Prop:=∃i,own i=true/\σ[i]?=some (some (.ref a))
structure ES (own:Nat->Bool) (H:Hp) (σ:L2.St) (ρ:List D):Prop where
 len:σ.length=ρ.length
 at_:∀i,ρ.getD i .uD≠.uD->∃v,σ[i]?=some (some v)/\(own i=false->Rep (fun a=>¬Own own σ a) H v (ρ.getD i .uD))
 own:∀i v,own i=true->σ[i]?=some (some v)->∃a o,v=.ref a/\Rep All H v (ρ.getD i .uD)/\inner (ρ.getD i .uD)=true/\H a=some o/\nU o=true/\∀j,own j=true->σ[j]?=some (some (.ref a))->j=i
variable {own:Nat->Bool}
theorem ES.er {H:Hp} {σ:L2.St} {ρ:List D} (e:ES own H σ ρ):ER H σ ρ:=fun i hi=>by
 obtain ⟨v,h1,h2⟩:=e.at_ i hi;cases ho:own i with
 | false=>exact ⟨v,h1,(h2 ho).all⟩
 | true=>
  obtain ⟨a,o,_,h3,_⟩:=e.own i v ho h1;exact ⟨v,h1,h3⟩
theorem ES.live {H:Hp} {σ:L2.St} {ρ:List D} (e:ES own H σ ρ) {a:Addr} (h:Own own σ a):∃o,H a=some o/\nU o=true:=by
 obtain ⟨i,hi,hs⟩:=h;obtain ⟨b,o,eb,_,_,h3,h4,_⟩:=e.own i _ hi hs;cases eb;exact ⟨o,h3,h4⟩
theorem ES.same {H H':Hp} {σ:L2.St} {ρ:List D} (e:ES own H σ ρ) (s:bN H H'):ES own H' σ ρ:=by
 refine ⟨e.len,fun i hi=>?_,fun i v hi hv=>?_⟩
 ·obtain ⟨v,h1,h2⟩:=e.at_ i hi;exact ⟨v,h1,fun ho=>(h2 ho).same s⟩
 ·obtain ⟨a,o,h1,h2,h3,h4,h5,h6⟩:=e.own i v hi hv;exact ⟨a,o,h1,h2.same s,h3,s _ _ h4,h5,h6⟩
noncomputable def KU (own:Nat->Bool) (σ:L2.St) (H:Hp) (σ':L2.St) (H':Hp):Prop:=∀a o,H a=some o->¬Own own σ a->H' a=some o/\¬Own own σ' a
theorem KU.trans {σ σ1 σ2:L2.St} {H H1 H2:Hp} (a:KU own σ H σ1 H1) (b:KU own σ1 H1 σ2 H2):KU own σ H σ2 H2:=fun c o e n=>let ⟨e1,n1⟩:=a c o e n;b c o e1 n1
theorem KU.same {σ:L2.St} {H H':Hp} (s:bN H H'):KU own σ H σ H':=fun a o e n=>⟨s a o e,n⟩
theorem KU.keep {σ σ':L2.St} {H H':Hp} {ρ:List D} (k:KU own σ H σ' H') (e:ES own H σ ρ):T6 (fun a=>¬Own own σ a) H H':=fun a o h hp=>by
 by_cases ho:Own own σ a
 ·obtain ⟨o',h1,h2⟩:=e.live ho;rw [h] at h1;cases h1;rcases hp with hp|hp
  ·exact absurd ho hp
  ·rw [h2] at hp;cases hp
 ·exact (k a o h ho).1
theorem KU.rep {σ σ':L2.St} {H H':Hp} {ρ:List D} (k:KU own σ H σ' H') (e:ES own H σ ρ) {v:V} {d:D} (r:Rep (fun a=>¬Own own σ a) H v d):Rep (fun a=>¬Own own σ' a) H' v d:=by
 refine r.dom.keep (P':=fun a=>¬Own own σ' a) (fun a o h hp=>?_) fun a ⟨h1,h2⟩=>?_
 ·refine k.keep e a o h (hp.imp (fun z=>z.1) id)
 ·cases q:H a with
  | none=>exact absurd q h2
  | some o=>exact (k a o q h1).2
noncomputable def kRt (own:Nat->Bool) (D:Ends) (σ:L2.St) (H:Hp) (d:Mi.D):Prop:=if own rtX=true then ∃d0 ρ',d=.tup (d0::ρ')/\∀v σ' H',KU own σ H σ' H'->ES own H' σ' ρ'->Rep (fun a=>(Own own σ a\/H a=none)/\∀i b xs,ρ'.getD i .uD=.cel b xs->a≠b) H' v d0->D.rt v H'
  else ∀v H',(∀a o,H a=some o->¬Own own σ a->H' a=some o)->Rep (fun a=>Own own σ a\/H a=none) H' v d->D.rt v H'
theorem kRt.old {own:Nat->Bool} {D:Ends} {σ:L2.St} {H:Hp} {d:Mi.D} (h:kRt own D σ H d) (hx:own rtX=false):∀v H',(∀a o,H a=some o->¬Own own σ a->H' a=some o)->Rep (fun a=>Own own σ a\/H a=none) H' v d->D.rt v H':=by
 unfold kRt at h;rw [if_neg (by rw [hx];simp)] at h;exact h
theorem kRt.mk {own:Nat->Bool} {D:Ends} {σ:L2.St} {H:Hp} {d:Mi.D} (hx:own rtX=false) (h:∀v H',(∀a o,H a=some o->¬Own own σ a->H' a=some o)->Rep (fun a=>Own own σ a\/H a=none) H' v d->D.rt v H'):kRt own D σ H d:=by
 unfold kRt;rw [if_neg (by rw [hx];simp)];exact h
noncomputable def kS (own:Nat->Bool) (D:Ends) (σ:L2.St) (H:Hp):Fl->Prop
 | .nx ρ=>∀σ' H',KU own σ H σ' H'->ES own H' σ' ρ->D.nx σ' H'
 | .bk ρ=>∀σ' H',KU own σ H σ' H'->ES own H' σ' ρ->D.bk σ' H'
 | .ct ρ=>∀σ' H',KU own σ H σ' H'->ES own H' σ' ρ->D.ct σ' H'
 | .rt d=>kRt own D σ H d
theorem kS.step {D:Ends} {σ σ':L2.St} {H H':Hp} {fl:Fl} (k:KU own σ H σ' H') (h:kS own D σ H fl):kS own D σ' H' fl:=by
 cases fl with
 | nx ρ=>exact fun σ2 H2 k2 e=>h σ2 H2 (k.trans k2) e
 | bk ρ=>exact fun σ2 H2 k2 e=>h σ2 H2 (k.trans k2) e
 | ct ρ=>exact fun σ2 H2 k2 e=>h σ2 H2 (k.trans k2) e
 | rt d=>
  have old:∀a,(Own own σ' a\/H' a=none)->Own own σ a\/H a=none:=fun a ha=>by
   cases q:H a with
   | none=>exact .inr rfl
   | some o=>
    refine .inl (Classical.byContradiction fun n=>?_);obtain ⟨e1,n1⟩:=k a o q n;rcases ha with ha|ha
    ·exact n1 ha
    ·rw [e1] at ha;cases ha
  have h:kRt own D σ H d:=h;show kRt own D σ' H' d;unfold kRt at h ⊢;by_cases hx:own rtX=true
  ·rw [if_pos hx] at h ⊢;obtain ⟨d0,ρ',e,g⟩:=h;exact ⟨d0,ρ',e,fun v σ2 H2 k2 E2 r=>g v σ2 H2 (k.trans k2) E2 (r.mono fun a ha=>⟨old a ha.1,ha.2⟩)⟩
  ·rw [if_neg hx] at h ⊢;exact fun v H2 hk r=>h v H2 (fun a o e n=>let ⟨e1,n1⟩:=k a o e n;hk a o e1 n1) (r.mono fun a ha=>old a ha)
noncomputable def tS (own:Nat->Bool) (f:FS):TS:=fun D σ H=>∃ρ fl,ES own H σ ρ/\f ρ=.ok fl/\kS own D σ H fl
theorem PS.imp {X:Cx} {st:Stmt} {t t':TS} (h:PS X st t) (i:∀D σ H,t' D σ H->t D σ H):PS X st t':=fun pins s σ H D I q=>h pins s σ H D I (i D σ H q)
theorem PSs.imp {X:Cx} {st:List Stmt} {t t':TS} (h:PSs X st t) (i:∀D σ H,t' D σ H->t D σ H):PSs X st t':=fun pins s σ H D I q=>h pins s σ H D I (i D σ H q)
section
variable {X:Cx} {a b c e:Expr} {pos pos':Pos} {fa fb fc fe:FE} {ra rb rc re:Bool} {ga gb gc:FT} {f g:FS} {st:Stmt} {rest s1 s2:List Stmt}
theorem iI:PSs X [] (tS own mQ):=PSs.imp KJ fun D σ H ⟨ρ,fl,E,h,q⟩=>by
 cases h;exact q σ H (fun a o e n=>⟨e,n⟩) E
theorem ZP {D:Ends} {σ:L2.St} {H:Hp} (h:tS own (bO f g) D σ H):aF1 (tS own f) (tS own g) D σ H:=by
 obtain ⟨ρ,fl,E,h,q⟩:=h;obtain ⟨r,h1,h2⟩:=aY h;refine ⟨ρ,r,E,h1,?_⟩;cases r with
 | nx ρ'=>exact fun σ' H' k E'=>⟨ρ',fl,E',h2,q.step k⟩
 | bk ρ'=>cases h2;exact q
 | ct ρ'=>cases h2;exact q
 | rt d=>cases h2;exact q
theorem aJ (h1:PS X st (tS own f)) (h2:PSs X rest (tS own g)):PSs X (st::rest) (tS own (bO f g)):=PSs.imp (o8 h1 h2) fun _ _ _=>ZP
theorem a_ (h1:PS X st (tS own f)):PSs X [st] (tS own f):=tW h1
theorem oX (hc:PT X c (gT gc)) (ha:PSs X s1 (tS own f)) (hb:PSs X s2 (tS own g)):PS X (.If c s1 s2 pos) (tS own (sIf gc f g)):=PS.imp (aB2 hc ha hb) fun D σ H ⟨ρ,fl,E,h,q⟩=>by
 obtain ⟨k,h1,h2⟩:=aY h;refine ⟨ρ,k,E.er,h1,fun H' s=>?_⟩;cases k with
 | true=>rw [if_pos rfl];rw [if_pos rfl] at h2;exact ⟨ρ,fl,E.same s,h2,q.step (.same s)⟩
 | false=>rw [if_neg (by simp)];rw [if_neg (by simp)] at h2;exact ⟨ρ,fl,E.same s,h2,q.step (.same s)⟩
theorem lB (he:PE X e (gE fe re)) (hx:own rtX=false:=by rfl):PS X (.Return (some e) pos) (tS own (pB fe re)):=PS.imp (BP he) fun D σ H ⟨ρ,fl,E,h,q⟩=>by
 obtain ⟨d,h1,h2⟩:=aY h;split at h2
 ·rename_i hk;cases h2;refine ⟨ρ,d,E.er,h1,fun v H' s r n=>q.old hx v H' (fun a o e _=>s a o e) ?_⟩;rw [Bool.or_eq_true] at hk;rcases hk with hk|hk
  ·exact (n hk).mono fun a ha=>.inr ha
  ·exact r.bF hk
 ·cases h2
theorem uW {i:Nat} {x:Str} (ho:own i=true) (hN:X.N[i]?=some x) (hv:Vis X.env.scope x) (hd:nDb x:=by decide) (hcd:nCd x:=by decide) (hx:own rtX=false:=by rfl):PS X (.Return (some (.Name x pos')) pos) (tS own (wM i)):=
 PS.imp (BP (dH hN hv hd hcd)) fun D σ H ⟨ρ,fl,E,h,q⟩=>by
 obtain ⟨d,h1,h2⟩:=aY h;cases h2;obtain ⟨v,hv,r,e⟩:=E.er.var h1;obtain ⟨a,o,rfl,r2,hin,_⟩:=E.own i v ho hv;rw [e] at hin;exact ⟨_,hv,q.old hx _ H (fun a o e _=>e) (r.aCd hin (.inl ⟨i,ho,hv⟩))⟩
theorem qM {σ:L2.St} {i:Nat} {v:V} (ho:own i=false) (a:Addr):Own own (σ.set i (some v)) a↔Own own σ a:=by
 constructor
 ·rintro ⟨j,hj,e⟩;have:i≠j:=fun z=>by subst z;rw [ho] at hj;cases hj
  rw [List.getElem?_set_ne this] at e;exact ⟨j,hj,e⟩
 ·rintro ⟨j,hj,e⟩;have:i≠j:=fun z=>by subst z;rw [ho] at hj;cases hj
  exact ⟨j,hj,by rw [List.getElem?_set_ne this];exact e⟩
theorem aN {ρ:List D} {i j:Nat} {d:D}:(ρ.set i d).getD j .uD=if i=j/\i<ρ.length then d else ρ.getD j .uD:=by
 rw [List.getD_eq_getElem?_getD,List.getD_eq_getElem?_getD,List.getElem?_set];by_cases h:i=j
 ·subst h;by_cases h2:i<ρ.length
  ·simp [h2]
  ·simp [h2]
 ·simp [h]
theorem ES.set {H:Hp} {σ:L2.St} {ρ:List D} {i:Nat} {v:V} {d:D} (E:ES own H σ ρ) (ho:own i=false) (r:Rep (fun a=>¬Own own σ a) H v d):ES own H (σ.set i (some v)) (ρ.set i d):=by
 have hO:(fun a=>¬Own own (σ.set i (some v)) a)=fun a=>¬Own own σ a:=funext fun a=>by rw [qM ho]
 refine ⟨by simp [E.len],fun j hj=>?_,fun j w hj hw=>?_⟩
 ·rw [aN] at hj ⊢;rw [hO];by_cases h:i=j/\i<ρ.length
  ·rw [if_pos h];obtain ⟨rfl,hl⟩:=h;exact ⟨v,by rw [List.getElem?_set_self (by rw [E.len];exact hl)],fun _=>r⟩
  ·rw [if_neg h] at hj ⊢;obtain ⟨w,h1,h2⟩:=E.at_ j hj;by_cases hij:i=j
   ·subst hij;have:i<σ.length:=(List.getElem?_eq_some_iff.mp h1).1;rw [E.len] at this;exact absurd ⟨rfl,this⟩ h
   ·exact ⟨w,by rw [List.getElem?_set_ne hij];exact h1,h2⟩
 ·have hij:i≠j:=fun z=>by subst z;rw [ho] at hj;cases hj
  rw [List.getElem?_set_ne hij] at hw;rw [aN,if_neg fun z=>hij z.1];obtain ⟨a,o,h1,h2,h3,h4,h5,h6⟩:=E.own j w hj hw;refine ⟨a,o,h1,h2,h3,h4,h5,fun k hk hs=>h6 k hk ?_⟩;have hik:i≠k:=fun z=>by subst z;rw [ho] at hk;cases hk
  rwa [List.getElem?_set_ne hik] at hs
theorem ES.aG0 {H H':Hp} {σ:L2.St} {ρ:List D} {i:Nat} {a:Addr} {o:HO} {d:D} (E:ES own H σ ρ) (s:bN H H') (ho:own i=true) (hn:H a=none) (r:Rep All H' (.ref a) d) (hin:inner d=true) (ha:H' a=some o) (hm:nU o=true) :
  ES own H' (σ.set i (some (.ref a))) (ρ.set i d)/\KU own σ H (σ.set i (some (.ref a))) H':=by
 have hO:∀b,H b≠none->¬Own own σ b->¬Own own (σ.set i (some (.ref a))) b:=fun b hb n ⟨j,hj,e⟩=>by
  by_cases hij:i=j
  ·subst hij;by_cases hl:i<σ.length
   ·rw [List.getElem?_set_self hl] at e;cases e;exact hb hn
   ·rw [List.getElem?_set,if_pos rfl,if_neg hl] at e;cases e
  ·rw [List.getElem?_set_ne hij] at e;exact n ⟨j,hj,e⟩
 refine ⟨⟨by simp [E.len],fun j hj=>?_,fun j w hj hw=>?_⟩,fun b ob e n=>⟨s b ob e,hO b (by rw [e];simp) n⟩⟩
 ·rw [aN] at hj ⊢;by_cases h:i=j/\i<ρ.length
  ·rw [if_pos h];obtain ⟨rfl,hl⟩:=h;exact ⟨.ref a,by rw [List.getElem?_set_self (by rw [E.len];exact hl)],fun z=>by rw [ho] at z;cases z⟩
  ·rw [if_neg h] at hj ⊢;obtain ⟨w,h1,h2⟩:=E.at_ j hj;by_cases hij:i=j
   ·subst hij;have:i<σ.length:=(List.getElem?_eq_some_iff.mp h1).1;rw [E.len] at this;exact absurd ⟨rfl,this⟩ h
   ·exact ⟨w,by rw [List.getElem?_set_ne hij];exact h1,fun hj=>((h2 hj).dom.same s).mono fun b ⟨n,hb⟩=>hO b hb n⟩
 ·by_cases hij:i=j
  ·subst hij;have hl:i<σ.length:=by
    have:=(List.getElem?_eq_some_iff.mp hw).1;simpa using this
   rw [List.getElem?_set_self hl] at hw;cases hw;rw [aN,if_pos ⟨rfl,by rw [<-E.len];exact hl⟩];refine ⟨a,o,rfl,r,hin,ha,hm,fun k hk hs=>?_⟩;by_cases hik:i=k
   ·exact hik.symm
   ·rw [List.getElem?_set_ne hik] at hs;obtain ⟨o',h1,_⟩:=E.live ⟨k,hk,hs⟩;rw [hn] at h1;cases h1
  ·rw [List.getElem?_set_ne hij] at hw;rw [aN,if_neg fun z=>hij z.1];obtain ⟨b,ob,h1,h2,h3,h4,h5,h6⟩:=E.own j w hj hw;refine ⟨b,ob,h1,h2.same s,h3,s _ _ h4,h5,fun k hk hs=>?_⟩;by_cases hik:i=k
   ·subst hik;by_cases hl:i<σ.length
    ·rw [List.getElem?_set_self hl] at hs;cases hs;rw [hn] at h4;cases h4
    ·rw [List.getElem?_set,if_pos rfl,if_neg hl] at hs;cases hs
   ·rw [List.getElem?_set_ne hik] at hs;exact h6 k hk hs
theorem aCe {P:Addr->Prop} {H:Hp} {v:V} {d:D} (r:Rep P H v d) (hin:inner d=true):∃a o,v=.ref a/\P a/\H a=some o/\nU o=true:=by
 cases r with
 | lst e p r=>exact ⟨_,_,rfl,p,e,rfl⟩
 | cel e p r=>exact ⟨_,_,rfl,p,e,rfl⟩
 | dK e p r n=>exact ⟨_,_,rfl,p,e,rfl⟩
 | dT e p r n=>exact ⟨_,_,rfl,p,e,rfl⟩
 | fdK e r n=>cases hin
 | fdT e r n=>cases hin
 | _=>cases hin
theorem ZQ {H H':Hp} {σ:L2.St} {ρ:List D} (E:ES own H σ ρ) {v:V} {d:D} (r:Rep (New H) H' v d):Rep (fun a=>¬Own own σ a) H' v d:=r.mono fun a ha ho=>by
 obtain ⟨o,h1,_⟩:=E.live ho;rw [show H a=none from ha] at h1;cases h1
theorem O9 {o:Bool} {i:Nat} {D':Ends} {σ:L2.St} {H:Hp} (ho:own i=o) (h:tS own (b8 o i fe re) D' σ H):aD5 (gE fe re) (rT i) D' σ H:=by
 obtain ⟨ρ,fl,E,h,q⟩:=h;obtain ⟨d,h1,h2⟩:=aY h;cases o with
 | true=>
  simp only [if_true] at h2;split at h2
  ·rename_i hk;cases h2;refine ⟨ρ,d,E.er,h1,fun v H' s r n=>?_⟩;rw [Bool.and_eq_true] at hk;obtain ⟨a,ob,rfl,hn,ha,hm⟩:=aCe (n hk.1) hk.2;obtain ⟨E2,k⟩:=E.aG0 s ho hn r hk.2 ha hm;exact q _ H' k E2
  ·cases h2
 | false=>
  simp only [Bool.false_eq_true,if_false] at h2;split at h2
  ·rename_i hk;cases h2;refine ⟨ρ,d,E.er,h1,fun v H' s r n=>?_⟩;rw [Bool.or_eq_true] at hk;have r2:Rep (fun a=>¬Own own σ a) H' v d:=by
    rcases hk with hk|hk
    ·exact ZQ E (n hk)
    ·exact r.bF hk
   exact q _ H' (fun a ob e hn=>⟨s a ob e,by rw [qM ho];exact hn⟩) ((E.same s).set ho r2)
  ·cases h2
theorem bM {i:Nat} {x:Str} {o:Bool} (ho:own i=o) (hN:X.N.Nodup) (hi:X.N[i]?=some x) (hx:Loc X.env.scope x) (he:PE X e (gE fe re)) (hs:swapsWith e (some (.Name x pos')) pos.line X.env=pure false:=by rfl) (hf:X.fn x=true\/X.env.scope.names.lookup x=some .local:=by first|exact .inl rfl|exact .inr rfl|assumption) :
  PS X (.Assign [.Name x pos'] e pos) (tS own (b8 o i fe re)):=PS.imp (lZ hN hi hx he hs hf) fun _ _ _=>O9 ho
theorem aEc {i j:Nat} {x y:Str} {py:Pos} (ho:own i=false) (hoj:own j=false) (hN:X.N.Nodup) (hi:X.N[i]?=some x) (hx:Loc X.env.scope x) (hj:X.N[j]?=some y) (hy:Vis X.env.scope y) (hs:swapsWith (.Name y py) (some (.Name x pos')) pos.line X.env=pure false:=by rfl) (hf:X.fn x=true\/X.env.scope.names.lookup x=some .local:=by first|exact .inl rfl|exact .inr rfl|assumption)
  (hd:(y==("__debug__" : Str))=false:=by decide) (hcd:(y==("__classdict__" : Str))=false:=by decide):PS X (.Assign [.Name x pos'] (.Name y py) pos) (tS own (sAl i j)):=PS.imp (lZ hN hi hx (dH hj hy hd hcd) hs hf) fun D' σ H ⟨ρ,fl,E,h,q⟩=>by
 obtain ⟨d,h1,h2⟩:=aY h;cases h2;obtain ⟨v,hv,r,e⟩:=E.er.var h1;have hne:ρ.getD j .uD≠.uD:=fun z=>by
  rw [z] at e;subst e;exact Rep.uD r
 obtain ⟨w,hw,hr⟩:=E.at_ j hne;rw [hv] at hw;cases hw;have r2:=hr hoj;rw [e] at r2;exact ⟨v,hv,q _ H (fun a ob e hn=>⟨e,by rw [qM ho];exact hn⟩) (E.set ho r2)⟩
theorem ES.mut {H:Hp} {σ:L2.St} {ρ:List D} {i:Nat} {a:Addr} {o:HO} {d:D} (E:ES own H σ ρ) (ho:own i=true) (hi:σ[i]?=some (some (.ref a))) (hm:nU o=true) (r:Rep All (upd H a o) (.ref a) d) (hin:inner d=true) :
  ES own (upd H a o) σ (ρ.set i d)/\KU own σ H σ (upd H a o):=by
 have hOa:Own own σ a:=⟨i,ho,hi⟩
 obtain ⟨a',oa,ea,_,_,hHa,hma,huq⟩:=E.own i _ ho hi;cases ea;have k:KU own σ H σ (upd H a o):=fun b ob e n=>⟨by rw [aR (fun z=>by subst z;exact n hOa)];exact e,n⟩
 have hl:i<ρ.length:=by rw [<-E.len];exact (List.getElem?_eq_some_iff.mp hi).1
 refine ⟨⟨by simp [E.len],fun j hj=>?_,fun j w hj hw=>?_⟩,k⟩
 ·rw [aN] at hj ⊢;by_cases h:i=j/\i<ρ.length
  ·obtain ⟨rfl,_⟩:=h;exact ⟨_,hi,fun z=>by rw [ho] at z;cases z⟩
  ·rw [if_neg h] at hj ⊢;obtain ⟨w,h1,h2⟩:=E.at_ j hj;exact ⟨w,h1,fun hj=>k.rep E (h2 hj)⟩
 ·by_cases hij:i=j
  ·subst hij;rw [hi] at hw;cases hw;rw [aN,if_pos ⟨rfl,hl⟩];exact ⟨a,o,rfl,r,hin,aC,hm,huq⟩
  ·rw [aN,if_neg fun z=>hij z.1];obtain ⟨b,ob,h1,h2,h3,h4,h5,h6⟩:=E.own j w hj hw;subst h1;have hba:b≠a:=fun z=>by subst z;exact hij (h6 i ho hi)
   refine ⟨b,ob,rfl,?_,h3,by rw [aR hba];exact h4,h5,h6⟩;refine (h2.aCd (P':=fun c=>c=b) h3 rfl).keep (fun c oc hc hp=>?_) fun _ _=>trivial
   rw [aR]
   ·exact hc
   ·intro z;subst z;rcases hp with hp|hp
    ·exact hba hp.symm
    ·rw [hHa] at hc;cases hc;rw [hma] at hp;cases hp
theorem ES.ownAt {H:Hp} {σ:L2.St} {ρ:List D} {i:Nat} (E:ES own H σ ρ) (ho:own i=true) (hd:ρ.getD i .uD≠.uD):∃a o,σ[i]?=some (some (.ref a))/\Rep All H (.ref a) (ρ.getD i .uD)/\inner (ρ.getD i .uD)=true/\H a=some o/\nU o=true:=by
 obtain ⟨v,h1,_⟩:=E.at_ i hd;obtain ⟨a,o,rfl,h2,h3,h4,h5,_⟩:=E.own i v ho h1;exact ⟨a,o,h1,h2,h3,h4,h5⟩
theorem tL {H:Hp} {a:Addr} {xs:List D} (r:Rep All H (.ref a) (.lst xs)):∃vs,H a=some (.lst vs)/\bB All H vs xs:=by
 cases r with
 | lst e _ r=>exact ⟨_,e,r⟩
theorem bB.upd {H:Hp} {a:Addr} {vs:List V} {xs:List D} {o:HO} {ob:HO} (r:bB All H vs xs) (hp:D.aW xs=true) (ha:H a=some ob) (hm:nU ob=true):bB All (upd H a o) vs xs:=by
 refine (r.bF (P':=fun _=>False) hp).keep (fun c oc hc h=>?_) fun _ h=>h.elim
 rw [aR]
 ·exact hc
 ·intro z;subst z;rcases h with h|h
  ·exact h
  ·rw [ha] at hc;cases hc;rw [hm] at h;cases h
theorem qN {xs ys:List D}:D.aW (xs++ys)=(D.aW xs&&D.aW ys):=by
 induction xs with
 | nil=>simp [D.aW]
 | cons x xs ih=>rw [List.cons_append,D.aW,D.aW,ih,Bool.and_assoc]
theorem qO {i:Nat} {x:Str} {p1 apos cpos:Pos} (ho:own i=true) (hN:X.N[i]?=some x) (hv:Vis X.env.scope x) (he:PE X e (gE fe re)) (hd:nDb x:=by decide) (hcd:nCd x:=by decide)
  (hbase:attributeBase (.Name x p1) "append" X.env (eval (.Name x p1) X.env)=eval (.Name x p1) X.env:=by rfl)
  (hs1:starEach [e] X.env=(false,eval e X.env)::starEach [] X.env:=by rfl)
  (hfew:((backTo cpos (starEach [e] X.env)).all (fun x=>!x.1)&&(backToKw cpos (keywordEach [] X.env)).all (fun x=>x.1.isSome)
   && decide (([e]:List Expr).length+([]:List Keyword).length+(if ([]:List Keyword).isEmpty then 0 else 1)<30))=true:=by rfl)
  (hline:(apos.endLine==cpos.line)=true:=by rfl)
  (hs:swapsWith (.Call (.Attribute (.Name x p1) "append" apos) [e] [] cpos) none pos.line X.env=pure false:=by rfl) :
  PS X (.Expr (.Call (.Attribute (.Name x p1) "append" apos) [e] [] cpos) pos) (tS own (uI i fe)):=
 PS.imp (nP (HN PySem.F.plainAttrs_list PySem.F.slot_list_append PySem.F.type_list_append gW (dH hN hv hd hcd) (eV he gU hs1) hbase hfew hline hs1 rfl) hs) fun D' σ H ⟨ρ,fl,E,h,q⟩=>by
 obtain ⟨d,h1,h2⟩:=aY h;split at h2
 ·rename_i xs hx;split at h2
  ·rename_i hk;cases h2;rw [Bool.and_eq_true] at hk;obtain ⟨a,o,hσ,r,hin,ha,hm⟩:=E.ownAt ho (by rw [hx];intro z;cases z);rw [hx] at r hin;obtain ⟨vs,hl,rr⟩:=tL r;refine ⟨_,hσ,.inl ⟨rfl,vs,.of hl⟩,ρ,d,E.er,h1,fun v H' s rv _=>⟨a,vs,v,rfl,rfl,s _ _ hl,by rw [rr.length];exact qF hk.1,?_⟩⟩;have E':=E.same s;have hl':=s _ _ hl;obtain ⟨E2,k2⟩:=E'.mut (o:=.lst (vs++[v])) (d:=.lst (xs++[d])) ho hσ rfl (.lst aC trivial (((rr.same s).snoc rv).upd (by rw [qN];simp only [Bool.and_eq_true];exact ⟨hin,by simp [D.aW,hk.2]⟩) hl' rfl)) (by show D.aW (xs++[d])=true;rw [qN];simp only [Bool.and_eq_true];exact ⟨hin,by simp [D.aW,hk.2]⟩);exact q _ _ ((KU.same s).trans k2) E2
  ·cases h2
 ·cases h2
end
end Mi
end
section
namespace L2
open PySem PySem.Spec PyProof.Rows
section
variable {X:Cx} {scope:Scope} {own:List Str}
theorem U6 {y:Str} {py:Pos} {iy:Nat} (hNn:X.N.Nodup) (hiy:X.N[iy]?=some y) (hxy:Loc X.env.scope y) (hfy:X.fn y=true\/X.env.scope.names.lookup y=some .local) {pins:List (Addr×Obj)} {σ:St} {D:Ends} {p C:Addr} {H5:Hp} {s6:Shared} {m6:Str->Option Value} (f:Inv X pins σ H5 s6) (k:KN X pins H5 C) (n:s6.heap.Ns C m6) (q:rT iy (.ref p) σ H5 D.nx):compPost (model X.prog X.w) X.A X.xe (some (assign (.Name y py) X.env)) (fun _ s'=>SP X pins D .next s') (.ref p) C (.ok .next) s6:=by
 obtain ⟨oC,esC,epC,hoC,hdC,_⟩:=id n;have finP:=f.yO (pins':=pins++[(C,oC)]) fun p hp=>(List.mem_append.mp hp).elim (fun z=>f.pin p (List.mem_append_right _ z)) fun z=>by
  have z':p=(C,oC):=by simpa using z
  subst z';exact ⟨hoC,k.1,k.2.1,k.2.2.1,fun v z=>by rw [hdC] at z;cases z⟩
 refine thn (bI (pos:=py) hNn hiy hxy hfy _ _ σ H5 (.ref p) (.ref p) D.nx finP rfl q) fun _ s7 ⟨σ7,H7,I7,q7⟩=>?_
 obtain ⟨g7,hC7,_⟩:=I7.pin (C,oC) (List.mem_append_right _ (List.mem_append_right _ (by simp)));refine ⟨m6,n.at' fun o e=>?_,fun h' sb=>⟨σ7,H7,Inv.turned (t':=s7.toks) I7.l_ (fun b o hb e=>sb.extBut b o hb e) hC7 k.2.1 k.2.2.2.1 k.2.2.2.2.1 k.2.2.2.2.2,q7⟩⟩;rw [hoC] at e;cases e;exact g7
theorem aEd {elt iter tg:Expr} {ifs:List Expr} {wi:TI} {g:TG} {tc:TT} {te:TE} {pos:Pos} (S:gC X.N X.env.scope scope own) (hcalm:X.calm=true) (hi:PI X tg iter wi)
  (hg:∀X',dN X X' scope own->PG X' tg g) (hc:(ifs=[]/\tc=fun _ H Q=>Q true H)\/∃c,ifs=[c]/\∀X',dN X X' scope own->PT X' c tc) (he:∀X',dN X X' scope own->PE X' elt te)
  (hs:∀x,foldedSetIterable iter X.env x=pure x) {y:Str} {py pos2:Pos} {iy:Nat} (hNn:X.N.Nodup) (hiy:X.N[iy]?=some y) (hxy:Loc X.env.scope y) (hfy:X.fn y=true\/X.env.scope.names.lookup y=some .local) (hsw:swapsWith (.ListComp elt [⟨tg,iter,ifs,0⟩] scope pos) (some (.Name y py)) pos2.line X.env=pure true):PS X (.Assign [.Name y py] (.ListComp elt [⟨tg,iter,ifs,0⟩] scope pos) pos2) (aD5 (NZ wi g tc te own.length) (rT iy)):=by
 intro pins s σ H D I h;rw [exec_Assign_Name_used _ _ _ _ hsw];refine wpAny_bind (wpAny_standAt (wpAny_bind ?_));show wpAny _ X.A (do let _ <- comprehension (.ListComp elt [⟨tg,iter,ifs,0⟩] scope pos) scope X.env _ (newList []) false (eval iter X.env) (some (assign (.Name y py) X.env))) _ _ s;exact wpAny_bind (wpAny_mono (N5 (QQ:=fun _ s'=>SP X pins D .next s') S hcalm hi hg hc he hs I h (U6 hNn hiy hxy hfy)) (fun _ s' hq=>wpAny_pure (wpAny_pure hq)) fun _ _ e=>e)
theorem O_ {elt iter tg c:Expr} {wi:TI} {g:TG} {tc:TT} {te:TE} {pos:Pos} (S:gC X.N X.env.scope scope own) (hcalm:X.calm=true) (hi:PI X tg iter wi)
  (hg:∀X',dN X X' scope own->PG X' tg g) (hc:∀X',dN X X' scope own->PT X' c tc) (he:∀X',dN X X' scope own->PE X' elt te)
  (hs:∀x,foldedSetIterable iter X.env x=pure x) {y:Str} {py pos2:Pos} {iy:Nat} (hNn:X.N.Nodup) (hiy:X.N[iy]?=some y) (hxy:Loc X.env.scope y) (hfy:X.fn y=true\/X.env.scope.names.lookup y=some .local) (hsw:swapsWith (.ListComp elt [⟨tg,iter,[c],0⟩] scope pos) (some (.Name y py)) pos2.line X.env=pure true):PS X (.Assign [.Name y py] (.ListComp elt [⟨tg,iter,[c],0⟩] scope pos) pos2) (aD5 (NZ wi g tc te own.length) (rT iy)):=
 aEd S hcalm hi hg (.inr ⟨c,rfl,hc⟩) he hs hNn hiy hxy hfy hsw
end
end L2
end
section
namespace Mi
open PySem L2 PySem.SeqAt PySem.Spec PyProof.Rows
variable [KFrag]
variable {own:Nat->Bool}
section
variable {X:Cx} {a b c e:Expr} {pos pos':Pos} {fa fb fc fe:FE} {ra rb rc re:Bool} {ga gb gc:FT} {f g:FS} {st:Stmt} {rest s1 s2:List Stmt}
variable {scope:Scope} {ownN:List Str} {elt iter tg:Expr} {it:FI} {t:D->Res (List D)} {gt:TG}
theorem PB {n m:Nat} {y:Str} {py pos2:Pos} {iy:Nat} {o:Bool} (S:gC X.N X.env.scope scope ownN) (hn:X.N.length=n) (hm:ownN.length=m) (hcalm:X.calm=true) (hi:PI X tg iter (gI X.K it)) (ht:TgC gt t n m) (hg:∀X',dN X X' scope ownN->PG X' tg gt) (hc:∀X',dN X X' scope ownN->PT X' c (gT gc)) (he:∀X',dN X X' scope ownN->PE X' elt (gE fe re))
  (hs:∀x,foldedSetIterable iter X.env x=pure x) (ho:own iy=o) (hNn:X.N.Nodup) (hiy:X.N[iy]?=some y) (hxy:Loc X.env.scope y) (hfy:X.fn y=true\/X.env.scope.names.lookup y=some .local) (hsw:swapsWith (.ListComp elt [⟨tg,iter,[c],0⟩] scope pos) (some (.Name y py)) pos2.line X.env=pure true) :
  PS X (.Assign [.Name y py] (.ListComp elt [⟨tg,iter,[c],0⟩] scope pos) pos2) (tS own (b8 o iy (gM n it t gc fe re) true)):=by
 intro pins s σ H D I h;subst hm;refine O_ S hcalm hi hg hc he hs hNn hiy hxy hfy hsw pins s σ H D I ?_;exact xF ht (fun σ H Q h=>h) (I.len.trans hn) (O9 ho h)
noncomputable def ZR:V->List V->Hp->VK->Prop:=fun x vs H Q=>∃l xs j y,x=.ref l/\vs=[.int j,y]/\H l=some (.lst xs)/\0<=j/\j<=xs.length/\xs.length<sizeLine/\Q .non (upd H l (.lst (xs.take j.toNat++y::xs.drop j.toNat)))
theorem PJ:MtR X "list.insert" ZR:=by
 intro pins s σ H x vs v us Q I rx rv h;obtain ⟨l,xs,j,y,rfl,rfl,hH,h0,h1,hz,q⟩:=h;cases rx;cases rv with
 | cons rj rv=>
  cases rv with
  | cons ry rv=>
   cases rv;obtain ⟨tt,rfl⟩:=rj;obtain ⟨z,its,n,r,hl,e⟩:=I.aE2 hH;have hs:sizeLine=16777216:=sizeLine_eq;refine call_meets F.slot_list_insert ⟨_,e,rfl⟩ F.entry_list_insert (F.args_list_insert_3 _ _ _) (AutoSeq1.list_insert_list_int_val_1 l its.toArray n j tt _ (by
    rw [show Builtin.List.listFitsIndex j=true from by unfold Builtin.List.listFitsIndex;simp only [Bool.and_eq_true,decide_eq_true_eq];lia];decide) (by rw [List.size_toArray];lia)) ⟨e,?_⟩
   refine ⟨.non,_,I.aE1 (its':=its.take j.toNat++_::its.drop j.toNat) hH e ?_ ((r.take j.toNat).append (.cons ry (r.drop j.toNat))) ?_,rfl,q⟩
   ·have hj:¬j<0:=by lia
    have hm:min j.toNat its.length=j.toNat:=by lia
    simp only [hj,if_false,List.size_toArray,hm];apply Array.toList_inj.mp;simp [List.extract_eq_drop_take]
    first|rfl|(rw [List.take_of_length_le];simp)
   ·rw [List.length_append,List.length_cons,List.length_take,List.length_drop];lia
theorem aCf {i:Nat} {x:Str} {p1 apos cpos:Pos} (ho:own i=true) (hN:X.N[i]?=some x) (hv:Vis X.env.scope x) (ha:PE X a (gE fa ra)) (he:PE X e (gE fe re)) (hd:nDb x:=by decide) (hcd:nCd x:=by decide)
  (hbase:attributeBase (.Name x p1) "insert" X.env (eval (.Name x p1) X.env)=eval (.Name x p1) X.env:=by rfl)
  (hs0:starEach [a,e] X.env=(false,eval a X.env)::starEach [e] X.env:=by rfl) (hs1:starEach [e] X.env=(false,eval e X.env)::starEach [] X.env:=by rfl)
  (hfew:((backTo cpos (starEach [a,e] X.env)).all (fun x=>!x.1)&&(backToKw cpos (keywordEach [] X.env)).all (fun x=>x.1.isSome)
   && decide (([a,e]:List Expr).length+([]:List Keyword).length+(if ([]:List Keyword).isEmpty then 0 else 1)<30))=true:=by rfl)
  (hline:(apos.endLine==cpos.line)=true:=by rfl) (hpl:(backTo cpos (starEach [e] X.env)).any (·.1)=false:=by rfl)
  (hs:swapsWith (.Call (.Attribute (.Name x p1) "insert" apos) [a,e] [] cpos) none pos.line X.env=pure false:=by rfl) :
  PS X (.Expr (.Call (.Attribute (.Name x p1) "insert" apos) [a,e] [] cpos) pos) (tS own (aBt i fa fe)):=
 PS.imp (nP (HN PySem.F.plainAttrs_list PySem.F.slot_list_insert PySem.F.type_list_insert PJ (dH hN hv hd hcd) (eV ha (eV he gU hs1) hs0) hbase hfew hline hs0 hpl) hs) fun D' σ H ⟨ρ,fl,E,h,q⟩=>by
 obtain ⟨j,h0,h⟩:=aY h;obtain ⟨d,h1,h2⟩:=aY h;split at h2
 ·rename_i xs jj hx;split at h2
  ·rename_i hk;cases h2;simp only [Bool.and_eq_true,decide_eq_true_eq] at hk;obtain ⟨⟨⟨hk1,hk2⟩,hk3⟩,hk4⟩:=hk;obtain ⟨a,o,hσ,r,hin,ha,hm⟩:=E.ownAt ho (by rw [hx];intro z;cases z);rw [hx] at r hin;obtain ⟨vs,hl,rr⟩:=tL r;refine ⟨_,hσ,.inl ⟨rfl,vs,.of hl⟩,ρ,_,E.er,h0,fun v0 H0 s0 rv0 _=>⟨ρ,d,E.er.same s0,h1,fun v H' s rv _=>?_⟩⟩;cases rv0;have s':=s0.trans s;refine ⟨a,vs,jj,v,rfl,rfl,s' _ _ hl,hk3,by rw [rr.length];exact hk4,by rw [rr.length];exact Nat.lt_of_lt_of_le hk1 (by rw [sizeLine_eq];decide),?_⟩;have E':=E.same s';have hl':=s' _ _ hl;have hin':D.aW xs=true:=hin;have hp:D.aW (xs.take jj.toNat++d::xs.drop jj.toNat)=true:=g_.mpr fun y hy=>by
    rcases List.mem_append.mp hy with hy|hy
    ·exact g_.mp hin' y (List.mem_of_mem_take hy)
    ·rcases List.mem_cons.mp hy with rfl|hy
     ·exact hk2
     ·exact g_.mp hin' y (List.mem_of_mem_drop hy)
   have rr':=rr.same s';obtain ⟨E2,k2⟩:=E'.mut (o:=.lst (vs.take jj.toNat++v::vs.drop jj.toNat)) (d:=.lst (xs.take jj.toNat++d::xs.drop jj.toNat)) ho hσ rfl (.lst aC trivial (((rr'.take jj.toNat).append (.cons rv (rr'.drop jj.toNat))).upd hp hl' rfl)) hp;exact q _ _ ((KU.same s').trans k2) E2
  ·cases h2
 ·cases h2
theorem FP {κ:Type} [DecidableEq κ] {p:κ×V} {r:List (κ×V)} {k:κ} {v:V} (e:p.1=k) (h:k∉r.map (·.1)):putK (p::r) k v=(k,v)::r:=by
 unfold putK;rw [if_pos (by simp [e]),List.map_cons,if_pos e,e]
 congr 1
 have:∀q∈r,(fun kv:κ×V=>if kv.1=k then (kv.1,v) else kv) q=id q:=fun q hq=>by
  have:q.1≠k:=fun z=>h (List.mem_map.mpr ⟨q,hq,z⟩)
  simp [this]
 rw [List.map_congr_left this,List.map_id]
theorem FQ {κ:Type} [DecidableEq κ] {p:κ×V} {r:List (κ×V)} {k:κ} {v:V} (e:¬p.1=k):putK (p::r) k v=p::putK r k v:=by
 unfold putK;rw [List.any_cons,decide_eq_false e,Bool.false_or];split
 ·rw [List.map_cons,if_neg e]
 ·rfl
theorem mX {κ:Type} [DecidableEq κ] {k:κ} {v:V}:∀{kvs:List (κ×V)},(kvs.map (·.1)).Nodup->((putK kvs k v).map (·.1)).Nodup:=fun {kvs} h=>by
 by_cases hk:lW kvs k=none
 ·exact YM v h hk
 ·unfold putK;rw [if_pos (by rw [mG];exact Option.isSome_iff_ne_none.mpr hk),List.map_map];have:(fun x:κ×V=>x.1) ∘ (fun kv:κ×V=>if kv.1=k then (kv.1,v) else kv)=fun x=>x.1:=by
   funext q
   simp only [Function.comp];split <;> rfl
  rw [this];exact h
theorem uX {P:Addr->Prop} {H:Hp} {k:Key} {v:V} {d:D} (rv:Rep P H v d):∀{kvs:List (Key×V)} {ds:List (D×D)},kO P H kvs ds->(kvs.map (·.1)).Nodup->kO P H (putK kvs k v) (putD ds (kD k) d)
 | _,_,.nil,_=>.cons rv .nil
 | _,_,.cons (k:=k') (v:=v') (r:=rs) r t,hn=>by
  rw [List.map_cons] at hn;obtain ⟨h1,h2⟩:=List.nodup_cons.mp hn;rw [putD,wV];by_cases h:k'=k
  ·subst h;rw [if_pos (by simp),FP rfl h1];exact .cons rv t
  ·rw [if_neg (by simpa using h),FQ (p:=(k',v')) h];exact .cons r (uX rv t h2)
theorem uY {P:Addr->Prop} {H:Hp} {k:List Key} {v:V} {d:D} (rv:Rep P H v d):∀{kvs:List (List Key×V)} {ds:List (D×D)},nO P H kvs ds->(kvs.map (·.1)).Nodup->nO P H (putK kvs k v) (putD ds (.tup (k.map kD)) d)
 | _,_,.nil,_=>.cons rv .nil
 | _,_,.cons (k:=k') (v:=v') (r:=rs) r t,hn=>by
  rw [List.map_cons] at hn;obtain ⟨h1,h2⟩:=List.nodup_cons.mp hn;rw [putD,ZC];by_cases h:k'=k
  ·subst h;rw [if_pos (by simp),FP rfl h1];exact .cons rv t
  ·rw [if_neg (by simpa using h),FQ (p:=(k',v')) h];exact .cons r (uY rv t h2)
theorem kO.length {P:Addr->Prop} {H:Hp}:∀{kvs:List (Key×V)} {ds:List (D×D)},kO P H kvs ds->kvs.length=ds.length
 | _,_,.nil=>rfl
 | _,_,.cons _ t=>by rw [List.length_cons,List.length_cons,kO.length t]
theorem nO.length {P:Addr->Prop} {H:Hp}:∀{kvs:List (List Key×V)} {ds:List (D×D)},nO P H kvs ds->kvs.length=ds.length
 | _,_,.nil=>rfl
 | _,_,.cons _ t=>by rw [List.length_cons,List.length_cons,nO.length t]
theorem uZ {H:Hp} {a:Addr} {o ob:HO} (ha:H a=some ob) (hm:nU ob=true):T6 (fun _=>False) H (L2.upd H a o):=fun c oc hc h=>by
 rw [aR]
 ·exact hc
 ·intro z;subst z;rcases h with h|h
  ·exact h.elim
  ·rw [ha] at hc;cases hc;rw [hm] at h;cases h
theorem j8 {d:D} {k:D} (hd:d.pure=true):∀{ds:List (D×D)},D.aW (ds.map (·.2))=true->D.aW ((putD ds k d).map (·.2))=true
 | [],_=>by simp [putD,D.aW,hd]
 | (q,w)::r,h=>by
  rw [List.map_cons,D.aW,Bool.and_eq_true] at h;rw [putD];split
  ·rw [List.map_cons,D.aW,Bool.and_eq_true];exact ⟨hd,h.2⟩
  ·rw [List.map_cons,D.aW,Bool.and_eq_true];exact ⟨h.1,j8 hd h.2⟩
theorem aCg {pins:List (Addr×Obj)} {s:Shared} {σ:L2.St} {H:Hp} {ad:Addr} {y v:V} {ds:List (D×D)} {k d:D} (I:Inv X pins σ H s) (rd:Rep All H (.ref ad) (.dct ds)) (hin:D.aW (ds.map (·.2))=true) (rk:Rep All H y k) (hk:rW ds k=true) (hl:ds.length<sizeLine) (rv:Rep All H v d) (hd:d.pure=true) :
  ∃H1 o,Inv X pins σ H1 s/\TQ H1 ad y v (L2.upd H ad o)/\nU o=true/\Rep All (L2.upd H ad o) (.ref ad) (.dct (putD ds k d)):=by
 unfold rW at hk;rw [Bool.and_eq_true] at hk;obtain ⟨h1,h2⟩:=hk;have rv':Rep (fun _=>False) H v d:=rv.bF hd;cases rd with
 | @dK _ kvs ds e _ r n=>
  have hlen:=r.length;rcases g8 h1 rk with ⟨q,rfl,rfl⟩|⟨b,ks,rfl,eb,rfl⟩
  ·refine ⟨H,.dK (putK kvs q v),I,.k e (by lia),rfl,.dK aC trivial ?_ (mX n)⟩;exact (uX rv' (r.bF hin) n).keep (uZ e rfl) fun _ z=>z.elim
  ·cases r with
   | nil=>
    refine ⟨L2.upd H ad (.dT []),.dT (putK [] ks v),j6 I e,?_,rfl,.dT aC trivial ?_ (mX List.nodup_nil)⟩
    ·have:=TQ.t (H:=L2.upd H ad (.dT [])) (a:=ad) (b:=b) (kvs:=[]) (k:=ks) (v:=v) aC (by rw [aR (XS eb e (by intro z;cases z))];exact eb) hl;rwa [yN] at this
    ·exact (uY (k:=ks) rv' .nil List.nodup_nil).keep (uZ e rfl) fun _ z=>z.elim
   | cons r t=>
    rw [List.all_cons,j5] at h2;simp [isTup] at h2
 | @dT _ kvs ds e _ r n=>
  have hlen:=r.length;rcases g8 h1 rk with ⟨q,rfl,rfl⟩|⟨b,ks,rfl,eb,rfl⟩
  ·cases r with
   | nil=>
    refine ⟨L2.upd H ad (.dK []),.dK (putK [] q v),j7 I e,?_,rfl,.dK aC trivial ?_ (mX List.nodup_nil)⟩
    ·have:=TQ.k (H:=L2.upd H ad (.dK [])) (a:=ad) (kvs:=[]) (k:=q) (v:=v) aC hl;rwa [yN] at this
    ·exact (uX (k:=q) rv' .nil List.nodup_nil).keep (uZ e rfl) fun _ z=>z.elim
   | cons r t=>
    rw [List.all_cons,j5] at h2;simp [isTup] at h2
  ·refine ⟨H,.dT (putK kvs ks v),I,.t e eb (by lia),rfl,.dT aC trivial ?_ (mX n)⟩;exact (uY rv' (r.bF hin) n).keep (uZ e rfl) fun _ z=>z.elim
theorem PK {i:Nat} {x:Str} {p1:Pos} {value k:Expr} {fv fk:FE} {rv rk:Bool} (hu:X.A.units+20<cLine) (ho:own i=true) (hN:X.N[i]?=some x) (hvi:Vis X.env.scope x) (hk:PE X k (gE fk rk)) (hv:PE X value (gE fv rv))
  (hs:swapsWith value (some (.Subscript (.Name x p1) k pos')) pos.line X.env=pure false:=by rfl) (hd:nDb x:=by decide) (hcd:nCd x:=by decide) :
  PS X (.Assign [.Subscript (.Name x p1) k pos'] value pos) (tS own (T5 i fk fv)):=by
 intro pins s σ H D' I ⟨ρ,fl,E,h,q⟩;obtain ⟨d,h0,h⟩:=aY h;obtain ⟨kd,h1,h2⟩:=aY h;split at h2
 ·rename_i kvs hx;split at h2
  ·rename_i hg;cases h2;simp only [Bool.and_eq_true] at hg;obtain ⟨⟨hg1,hg2⟩,hg3⟩:=hg;obtain ⟨a,o,hσ,r,hin,ha,hm⟩:=E.ownAt ho (by rw [hx];intro z;cases z);rw [hx] at r hin;refine wpAny_Assign_Subscript (thn (hv pins s σ H (fun v H1=>bN H H1/\Rep All H1 v d) I ⟨ρ,d,E.er,h0,fun v H1 s1 r1 _=>⟨s1,r1⟩⟩) fun rr s1 ⟨v,H1,I1,rv1,sm1,rp1⟩=>
    thn (dH hN hvi hd hcd pins s1 σ H1 (fun w H2=>w=.ref a/\H2=H1) I1 ⟨_,hσ,rfl,rfl⟩) fun u s2 ⟨xx,H2,I2,rx,ex,eH⟩=>
    thn (hk pins s2 σ H2 (fun w H3=>bN H2 H3/\Rep All H3 w kd) I2 ⟨ρ,kd,by rw [eH];exact E.er.same sm1,h1,fun v H1 s1 r1 _=>⟨s1,r1⟩⟩) fun iv s3 ⟨y,H3,I3,ry,sm3,rp3⟩=>?_) hs
   subst ex eH;obtain rfl:u=Value.ref a:=rx;have sm:=sm1.trans sm3;obtain ⟨H4,o4,I4,g,hmo,rp⟩:=aCg I3 (r.same sm) hin rp3 hg2 (qF hg1) (rp1.same sm3) hg3;obtain ⟨E2,k2⟩:=(E.same sm).mut ho hσ hmo rp (j8 hg3 hin);exact pQ (by lia) I4 g ry rv1 fun s4 I5=>⟨σ,_,I5,q _ _ ((KU.same sm).trans k2) E2⟩
  ·cases h2
 ·cases h2
noncomputable def TgS (own:Nat->Bool) (g:TG) (t:D->List D->Res (List D)):Prop:=∀(v:V) (d:D) (ρ ρ':List D) (σ:L2.St) (H:Hp) (Q:L2.St->Hp->Prop),ES own H σ ρ->Rep (fun a=>¬Own own σ a) H v d->t d ρ=.ok ρ'->
 (∀σ',ES own H σ' ρ'->(∀a,Own own σ' a↔Own own σ a)->Q σ' H)->g v σ H Q
theorem iJ {i:Nat} (ho:own i=false):TgS own (rT i) (tg1 i):=fun v d ρ ρ' σ H Q E r h q=>by
 cases h;exact q _ (E.set ho r) fun a=>qM ho a
theorem ItQ.ku {K:PySem.W.Frag} {J:It} {items:List D} {σ σ':L2.St} {H H':Hp} {ρ:List D} (h:ItQ K (fun a=>¬Own own σ a) J H items) (k:KU own σ H σ' H') (E:ES own H σ ρ):ItQ K (fun a=>¬Own own σ' a) J H' items:=by
 cases h with
 | lst a e r=>exact .lst a e (k.rep E r)
 | tup a e r=>exact .tup a e (k.rep E r)
 | rng lo n e r=>exact .rng lo n e r
 | chs x e r=>exact .chs x e r
 | enm a ds e r h=>exact .enm a ds e (k.rep E r) h
 | enf m a ds e r h=>exact .enf m a ds e (k.rep E r) h
 | zip a b ds es e r q n h=>exact .zip a b ds es e (k.rep E r) (k.rep E q) n h
 | scr a hK e r=>exact .scr a hK e (k.rep E r)
theorem u0 {K:PySem.W.Frag} {g:TG} {t:D->List D->Res (List D)} {body:FS} {D':Ends} {J:It} {items:List D} {σ:L2.St} {H1:Hp} {ρ:List D} {fl:Fl} (tg:TgS own g t) (E:ES own H1 σ ρ) (hJ:ItQ K (fun a=>¬Own own σ a) J H1 items) (hf:lY t body items ρ=.ok fl) (q:kS own D' σ H1 fl) :
  ∃W:Nat->Nat->L2.St->Hp->Prop,(∃m,W 0 m σ H1)/\∀i m σ H,W i m σ H->
   (J.stop i H/\D'.nx σ H)\/(J.go i H/\∃N:L2.St->Hp->Prop,(∀σ' H',N σ' H'->∃m',m'<m/\W (i+1) m' σ' H')/\∀x H',J.yld i H x H'->g x σ H' fun σ2 H2=>tS own body {D' with nx:=N,ct:=N,bk:=D'.nx} σ2 H2):=by
 refine ⟨fun i m σ' H'=>m=items.length-i/\i<=items.length/\ItQ K (fun a=>¬Own own σ' a) J H' items/\∃ρ',ES own H' σ' ρ'/\lY t body (items.drop i) ρ'=.ok fl/\kS own D' σ' H' fl,⟨items.length,rfl,Nat.zero_le _,hJ,ρ,E,hf,q⟩,?_⟩;rintro i m σ' H' ⟨rfl,hi,hJ',ρ',E',hf',q'⟩;rcases Nat.lt_or_ge i items.length with hlt|hge
 ·refine .inr ?_;have e:items[i]?=some items[i]:=List.getElem?_eq_getElem hlt;obtain ⟨g1,g2⟩:=hJ'.go e;rw [List.drop_eq_getElem_cons hlt] at hf';obtain ⟨ρ1,h1,hf2⟩:=aY hf';obtain ⟨r,h2,hf3⟩:=aY hf2;refine ⟨g1,fun σ2 H2=>ItQ K (fun a=>¬Own own σ2 a) J H2 items/\∃ρ',ES own H2 σ2 ρ'/\lY t body (items.drop (i+1)) ρ'=.ok fl/\kS own D' σ2 H2 fl,fun σ2 H2 ⟨n1,n2⟩=>⟨items.length-(i+1),by lia,rfl,hlt,n1,n2⟩,fun x H2 hy=>?_⟩;obtain ⟨sH,rx⟩:=g2 x H2 hy;have ks:KU own σ' H' σ' H2:=fun a o e n=>⟨sH a o e,n⟩
  have hJ':=hJ'.ku ks E';have q':=q'.step ks;have E':=E'.same sH;refine tg x items[i] ρ' ρ1 σ' H2 _ E' rx h1 fun σ2 E2 hO=>?_
  have k0:KU own σ' H2 σ2 H2:=fun a o e n=>⟨e,by rw [hO];exact n⟩
  have hJ2:=hJ'.ku k0 E';have q2:=q'.step k0;refine ⟨ρ1,r,E2,h2,?_⟩;cases r with
  | nx ρ2=>exact fun σ3 H3 k3 E3=>⟨hJ2.ku k3 E2,ρ2,E3,hf3,q2.step k3⟩
  | ct ρ2=>exact fun σ3 H3 k3 E3=>⟨hJ2.ku k3 E2,ρ2,E3,hf3,q2.step k3⟩
  | bk ρ2=>cases hf3;exact fun σ3 H3 k3 E3=>q2 σ3 H3 k3 E3
  | rt d=>cases hf3;exact q2
 ·refine .inl ⟨hJ'.stop hge,?_⟩;rw [List.drop_eq_nil_of_le hge] at hf';cases hf';exact q' σ' H' (fun a o e n=>⟨e,n⟩) E'
theorem tM {tg iter:Expr} {body:List Stmt} {g:TG} {t:D->List D->Res (List D)} {it:FI} {fb:FS} (hp:PassesOwn (model X.prog X.w) X.A X.env X.xe) (hc:X.calm=true) (hi:PI X tg iter (gI X.K it)) (ht:TgS own g t) (hg:PG X tg g) (hb:PSs X body (tS own fb))
  (hs:∀x,foldedSetIterable iter X.env x=pure x:=by intro _;rfl):PS X (.For tg iter body [] pos) (tS own (wN it t fb)):=PS.imp (pM hp hc hi hg hb hs) fun D' σ H ⟨ρ,fl,E,h,q⟩=>by
 obtain ⟨⟨items,k⟩,h1,h2⟩:=aY h;split at h2
 ·rename_i hk;exact ⟨ρ,items,k,E.er,h1,fun J H1 s1 _ hJ=>u0 ht (E.same s1) ((hJ hk).keep (fun _ _ e _=>e) fun a ha ho=>by
   obtain ⟨o,e1,_⟩:=E.live ho;rw [show H a=none from ha] at e1;cases e1) h2 (q.step (.same s1))⟩
 ·cases h2
theorem ZS {tg:Expr} {body:List Stmt} {g:TG} {t:D->List D->Res (List D)} {i:Nat} {x:Str} {px:Pos} {fb:FS} (ho:own i=false) (hp:PassesOwn (model X.prog X.w) X.A X.env X.xe) (hc:X.calm=true) (hN:X.N[i]?=some x) (hv:Vis X.env.scope x) (ht:TgS own g t) (hg:PG X tg g) (hb:PSs X body (tS own fb))
  (hs:∀z,foldedSetIterable (.Name x px) X.env z=pure z:=by intro _;rfl) (hd:nDb x:=by decide) (hcd:nCd x:=by decide):PS X (.For tg (.Name x px) body [] pos) (tS own (IK i t fb)):=PS.imp (pM hp hc (W8 hN hv hd hcd) hg hb hs) fun D' σ H ⟨ρ,fl,E,h,q⟩=>by
 obtain ⟨d,h1,h⟩:=aY h;obtain ⟨items,h2,h3⟩:=aY h;obtain ⟨v,hv,r,e⟩:=E.er.var h1;have hne:ρ.getD i .uD≠.uD:=fun z=>by
  rw [z] at e;subst e;exact Rep.uD r
 obtain ⟨w,hw,hr⟩:=E.at_ i hne;rw [hv] at hw;cases hw;have r2:=hr ho;rw [e] at r2;exact ⟨v,d,items,hv,r,h2,fun J hJ=>u0 ht E (hJ _ r2) h3 q⟩
theorem FW {own:Nat->Bool} {N ps:List Str} {vs:List V} {ds:List D} {H:Hp} (hst:start N vs=vs.map some++List.replicate (N.length-ps.length) none) (hl:ds.length=ps.length) (r:bB All H vs ds) (hown:∀i,i<ps.length->own i=false) (noown:∀a,¬Own own (start N vs) a):ES own H (start N vs) (ds++List.replicate (N.length-ps.length) .uD):=by
 refine ⟨by rw [hst];simp [r.length],fun i hi=>?_,fun i v hi hv=>?_⟩
 ·have hlt:i<ds.length:=Nat.lt_of_not_le fun hge=>hi (by
   rw [List.getD_eq_getElem?_getD,List.getElem?_append_right hge,List.getElem?_replicate];split <;> rfl)
  have e:(ds++List.replicate (N.length-ps.length) D.uD).getD i .uD=ds[i]:=by
   rw [List.getD_eq_getElem?_getD,List.getElem?_append_left hlt,List.getElem?_eq_getElem hlt];rfl
  obtain ⟨v,g1,g2⟩:=r.get (i:=i) (d:=ds[i]) (by simp [hlt]);refine ⟨v,by rw [hst,List.getElem?_append_left (by simp [r.length,hlt])];simp [g1],fun _=>?_⟩;rw [e];exact g2.mono fun a _=>noown a
 ·exfalso;rw [hst] at hv;by_cases h:i<ps.length
  ·rw [hown i h] at hi;cases hi
  ·rw [List.getElem?_append_right (by simp [r.length,hl];lia)] at hv;rw [List.getElem?_replicate] at hv;split at hv <;> cases hv
theorem ZV {own:Nat->Bool} {N ps:List Str} {f:FS} {vs:List V} {H:Hp} {Q:VK} {E:XK} (hx:own rtX=false) (hown:∀i,i<ps.length->own i=false) (h0:spD (fnS ps.length N.length f) ps.length vs H Q E):tS own f {nx:=fun _ H'=>Q .non H',rt:=Q} (start N vs) H:=by
 obtain ⟨ds,d,hl,r,h,q⟩:=h0
 ·obtain ⟨fl,h1,h2⟩:=aY h;have hst:start N vs=vs.map some++List.replicate (N.length-ps.length) none:=by
   show vs.map some++List.replicate (N.length-vs.length) none=_;rw [r.length,hl]
  have noown:∀a,¬Own own (start N vs) a:=fun a ⟨i,hi,e⟩=>by
   rw [hst] at e;by_cases h:i<ps.length
   ·rw [hown i h] at hi;cases hi
   ·rw [List.getElem?_append_right (by simp [r.length,hl];lia)] at e;rw [List.getElem?_replicate] at e;split at e <;> cases e
  have E0:ES own H (start N vs) (ds++List.replicate (N.length-ps.length) .uD):=FW hst hl r hown noown;refine ⟨_,fl,E0,h1,?_⟩;have sm:∀{σ':L2.St} {H':Hp},KU own (start N vs) H σ' H'->bN H H':=fun k a o e=>(k a o e (noown a)).1
  cases fl with
  | nx ρ'=>cases h2;exact fun σ' H' k E'=>q .non H' (sm k) .non fun _=>.non
  | rt d'=>
   cases h2;refine kRt.mk hx fun v H' hk rp=>q v H' (fun a o e=>hk a o e (noown a)) rp.all fun _=>rp.mono fun a ha=>?_
   rcases ha with ha|ha
   ·exact absurd ha (noown a)
   ·exact ha
  | bk ρ'=>cases h2
  | ct ρ'=>cases h2
theorem aEe {P:Program} {w:World} {K:PySem.W.Frag} {mg:Str->Option Value} {base:Heap} {x qual:Str} {st:Stmt} {fad:Addr} {fd:FuncData} {N ps:List Str} {k:Nat} {f:FS} (F:Fun K x qual st fad fd) (S:bY N ps (aQ st)) (own:Nat->Bool) (hown:∀i,i<ps.length->own i=false) (hNl:ps.length<=N.length)
  (hbody:∀(cdv:Value) (A:Around) (outer:List Env) (s:Shared) (H:Hp) (E:XK),o9 k (A.deeper (envOfC qual (aQ st) s.heap.objs.size fad cdv))->PSs (R4 CX0 P w K mg base N qual (aQ st) fad cdv A outer s H E).nox (eX st) (tS own f)) (hx:own rtX=false:=by rfl):HF P w K mg base CX0 (k+1) fad fd ps (spD (fnS ps.length N.length f) ps.length):=
 F.ok S (fun vs H Q E h=>O6 h) fun cdv A outer s H vs Q E hr h=>⟨_,hbody cdv A outer s H E hr,ZV hx hown h⟩
end
end Mi
end
section
namespace Mi
open PySem L2 PySem.SeqAt PySem.Spec PyProof.Rows
variable [KFrag]
structure aEf where
 s₀:Shared
 H₀:Hp
 env:Env
 outer:List Env
 stack:List Env
 ex:List Addr
 fn:Str->Bool
 pn:List (Addr×Obj)
noncomputable abbrev mkC (X:Cx) (scope:Scope) (ownN:List Str) (y:aEf):Cx:=
 {X with N:=X.N.map (mR ownN)++ownN,s₀:=y.s₀,H₀:=y.H₀,env:={y.env with scope:=relabel scope X.env},outer:=y.outer,stack:=y.stack,ex:=y.ex,fn:=y.fn,pn:=y.pn,xe:=fun _ _=>False}
theorem xH {X X':Cx} {scope:Scope} {ownN:List Str} (cc:dN X X' scope ownN):∃y,X'=mkC X scope ownN y:=by
 refine ⟨⟨X'.s₀,X'.H₀,X'.env,X'.outer,X'.stack,X'.ex,X'.fn,X'.pn⟩,?_⟩;obtain ⟨h1,h2,h3,h4,h5,h6,h7,h8,h9,h10⟩:=cc;cases X' with
 | mk a b c d e f g h i j k l m n o p q=>
  cases j;dsimp only at *;subst h1 h2 h3 h4 h5 h6 h7 h8 h9 h10;rfl
section
variable {own:Nat->Bool} {X:Cx} {scope:Scope} {ownN:List Str} {elt iter tg c:Expr} {it:FI} {t:D->Res (List D)} {g:TG} {gc:FT} {fe:FE} {re:Bool} {pos:Pos} {n m:Nat}
theorem FZ (S:gC X.N X.env.scope scope ownN) (hn:X.N.length=n) (hm:ownN.length=m) (hcalm:X.calm=true) (hi:PI X tg iter (gI X.K it)) (ht:TgC g t n m) (hg:∀y,PG (mkC X scope ownN y) tg g) (he:∀y,PE (mkC X scope ownN y) elt (gE fe re))
  (hs:∀x,foldedSetIterable iter X.env x=pure x):PE X (.ListComp elt [⟨tg,iter,[],0⟩] scope pos) (gE (gM n it t uH fe re) true):=
 ZM S hn hm hcalm hi ht (fun X' cc=>by obtain ⟨y,rfl⟩:=xH cc;exact hg y) (fun X' cc=>by obtain ⟨y,rfl⟩:=xH cc;exact he y) hs
theorem nZ {y:Str} {py pos2:Pos} {iy:Nat} {o:Bool} (S:gC X.N X.env.scope scope ownN) (hn:X.N.length=n) (hm:ownN.length=m) (hcalm:X.calm=true) (hi:PI X tg iter (gI X.K it)) (ht:TgC g t n m) (hg:∀y,PG (mkC X scope ownN y) tg g) (hc:∀y,PT (mkC X scope ownN y) c (gT gc)) (he:∀y,PE (mkC X scope ownN y) elt (gE fe re))
  (hs:∀x,foldedSetIterable iter X.env x=pure x) (ho:own iy=o) (hNn:X.N.Nodup) (hiy:X.N[iy]?=some y) (hxy:Loc X.env.scope y) (hfy:X.fn y=true\/X.env.scope.names.lookup y=some .local) (hsw:swapsWith (.ListComp elt [⟨tg,iter,[c],0⟩] scope pos) (some (.Name y py)) pos2.line X.env=pure true) :
  PS X (.Assign [.Name y py] (.ListComp elt [⟨tg,iter,[c],0⟩] scope pos) pos2) (tS own (b8 o iy (gM n it t gc fe re) true)):=
 PB S hn hm hcalm hi ht (fun X' cc=>by obtain ⟨y,rfl⟩:=xH cc;exact hg y) (fun X' cc=>by obtain ⟨y,rfl⟩:=xH cc;exact hc y) (fun X' cc=>by obtain ⟨y,rfl⟩:=xH cc;exact he y) hs ho hNn hiy hxy hfy hsw
end
noncomputable def cY (P:Program) (w:World) (K:PySem.W.Frag) (mg:Str->Option Value) (base:Heap) (k:Nat) (x:Str) (n:Nat) (f:List D->Res D):Prop:=
 ∃(fad:Addr) (fd:FuncData) (ps:List Str),HF P w K mg base CX0 k fad fd ps (spD f n)/\mg x=some (.ref fad)/\PySem.W.keepIn K (.ref fad)=true/\Binds K fd ps []
section
variable {X:Cx} {e:Expr} {es:List Expr} {pos p:Pos} {fs:FA} {rr:Bool} {x:Str} {k n:Nat} {f:List D->Res D}
theorem bV {k':Nat} (C:cY X.prog X.w X.K X.mg X.base k x n f) (hr:o9 k' X.A) (hkk:k<=k') (hg:Gl X x) (ha:PA X (e::es) (gA fs rr)) (hdb:nDb x:=by decide) (he:starEach (e::es) X.env=(false,eval e X.env)::starEach es X.env:=by rfl) (hpl:(backTo pos (starEach es X.env)).any (·.1)=false:=by rfl) :
  PE X (.Call (.Name x p) (e::es) [] pos) (gE (aX (fL n f) fs) true):=by
 obtain ⟨fad,fd,ps,F,hm,hk,hb⟩:=C;exact ZK F (hr.mono hkk) hg hm hk hb ha hdb he hpl
theorem jK {P:Program} {w:World} {K:PySem.W.Frag} {mg:Str->Option Value} {base:Heap} {st:Stmt} {fad:Addr} {fd:FuncData} {N ps:List Str} {fs:FS} (F:Fun K x x st fad fd) (hm:mg x=some (.ref fad)) (hb:Binds K fd ps []) (S:bY N ps (aQ st)) (own:Nat->Bool) (hown:∀i,i<ps.length->own i=false) (hNl:ps.length<=N.length)
  (hbody:∀(cdv:Value) (A:Around) (outer:List Env) (s:Shared) (H:Hp) (E:XK),o9 k (A.deeper (envOfC x (aQ st) s.heap.objs.size fad cdv))->PSs (R4 CX0 P w K mg base N x (aQ st) fad cdv A outer s H E).nox (eX st) (tS own fs)) (hx:own rtX=false:=by rfl):cY P w K mg base (k+1) x ps.length (fnS ps.length N.length fs):=
 ⟨fad,fd,ps,aEe F S own hown hNl hbody hx,hm,F.kp,hb⟩
end
theorem zT {A:Around} {k:Nat} (hr:o9 k A):A.units+20<cLine:=Nat.lt_of_le_of_lt (Nat.add_le_add_left (by decide:20<=64) _) hr.units
structure Bt (mg:Str->Option Value):Prop where
 len:mg "len" = none
 min:mg "min" = none
 max:mg "max" = none
 list:mg "list" = none
 tuple:mg "tuple" = none
 sorted:mg "sorted" = none
 range:mg "range" = none
 isi:mg "isinstance" = none
 int:mg "int" = none
 bool:mg "bool" = none
 str:mg "str" = none
 dict:mg "dict" = none
 all:mg "all" = none
 enum:mg "enumerate" = none
 sum:mg "sum" = none
 zip:mg "zip" = none
 abs:mg "abs" = none
 reversed:mg "reversed" = none
theorem dZ:bootBuiltins "len" = some (.builtin "len"):=by decide +kernel
theorem PL:bootBuiltins "min" = some (.builtin "min"):=by decide +kernel
theorem PN:bootBuiltins "max" = some (.builtin "max"):=by decide +kernel
theorem mY:bootBuiltins "sorted" = some (.builtin "sorted"):=by decide +kernel
theorem fG:bootBuiltins "isinstance" = some (.builtin "isinstance"):=by decide +kernel
theorem u5:bootBuiltins "list" = some (.type "list"):=by decide +kernel
theorem F_:bootBuiltins "tuple" = some (.type "tuple"):=by decide +kernel
theorem aCh:bootBuiltins "int" = some (.type "int"):=by decide +kernel
theorem ZW:bootBuiltins "bool" = some (.type "bool"):=by decide +kernel
theorem ints_rep {P:Addr->Prop} {H:Hp}:∀ns:List Int,bB P H (ns.map V.int) (ns.map D.int)
 | []=>.nil
 | n::ns=>.cons (.int n) (ints_rep ns)
end Mi
namespace Mi
open PySem L2
theorem PP {K:PySem.W.Frag} {f:List D->Res D} {H:Hp} {a:Addr} {ns:List Int} {E:XK} (main:∀ns:List Int,ns.length<=63->f [.scr (ns.map D.int)]=.ok (.bl true)) (hl:ns.length<=63) (hO:Only H) (hS:SqL K H a (ns.map V.int)):@spD ⟨K⟩ f 1 [.ref a] H (fun v _=>v=.bl true) E:=by
 letI:KFrag:=⟨K⟩
 refine ⟨[.scr (ns.map D.int)],.bl true,rfl,.cons (.frz ?_ (ints_rep ns)) .nil,main ns hl,fun v H' s r n=>by cases r;rfl⟩;rcases hS with (h|⟨o,h⟩)|h
 ·rcases hO a with z|⟨o,xs,z⟩
  ·rw [h] at z;cases z
  ·rw [h] at z;cases z
 ·exact .inl ⟨o,h⟩
 ·exact .inr h
end Mi
end
section
namespace Mi
open PySem L2 PySem.SeqAt PySem.Spec PyProof.Rows
variable [KFrag]
section
variable {X:Cx}
section
variable {tg l a:Expr} {fl fa:FE} {rl ra:Bool} {p pos:Pos}
end
end
section
variable {X:Cx} {pos p:Pos} {x:Str} {k:Nat} {f:List D->Res D}
end
end Mi
end
section
namespace Mi
open PySem L2
theorem W9 (b:Bool):asB (.bl b)=.ok b:=rfl
theorem bQ:lim=1000000:=by unfold lim;exact Eq.refl _
theorem PQ {n:Nat} {ρ:List D} (h:ρ.length=n):CP n ρ=ρ:=by
 subst h;apply List.ext_getElem
 ·simp [CP]
 ·intro i h1 h2;simp [CP,h2]
theorem d9 {n:Nat} {f:List D->Res D} {ds:List D} (h:ds.length=n):fL n f ds=f ds:=by
 unfold fL;rw [if_pos (by simp [h])]
theorem aH {f:D->D->Res D} {a b:FE} {ρ:List D} {x y z:D} (h1:a ρ=.ok x) (h2:b ρ=.ok y) (h3:f x y=.ok z):b2 f a b ρ=.ok z:=by
 unfold b2;rw [h1,Res.aM,h2,Res.aM,h3]
theorem bT {i:Nat} {f:FE} {ρ:List D} {d:D} (h:f ρ=.ok d):b8 false i f true ρ=.ok (.nx (ρ.set i d)):=by
 unfold b8;rw [h,Res.aM];rfl
theorem zU {i:Nat} {f:FE} {ρ:List D} {d:D} (h:f ρ=.ok d) (hp:d.pure=true):b8 false i f false ρ=.ok (.nx (ρ.set i d)):=by
 unfold b8;rw [h,Res.aM];simp only [hp,Bool.false_or,Bool.false_eq_true,if_false,if_true]
theorem eY {i:Nat} {f:FE} {ρ:List D} {d:D} (h:f ρ=.ok d) (hp:inner d=true):b8 true i f true ρ=.ok (.nx (ρ.set i d)):=by
 unfold b8;rw [h,Res.aM];simp only [hp,Bool.and_self,if_true]
theorem aEg {i j:Nat} {ρ:List D} {d:D} (h:lX j ρ=.ok d):sAl i j ρ=.ok (.nx (ρ.set i d)):=by
 unfold sAl;rw [h,Res.aM]
theorem aK {f g:FS} {ρ ρ':List D} {r:Res Fl} (h1:f ρ=.ok (.nx ρ')) (h2:g ρ'=r):bO f g ρ=r:=by
 unfold bO;rw [h1,Res.aM];exact h2
theorem U7 {c:FT} {f g:FS} {ρ:List D} {k:Bool} {r:Res Fl} (h1:c ρ=.ok k) (h2:(if k then f ρ else g ρ)=r):sIf c f g ρ=r:=by
 unfold sIf;rw [h1,Res.aM];exact h2
theorem PX {c:FT} {f g:FS} {ρ:List D} {r:Res Fl} (h1:c ρ=.ok true) (h2:f ρ=r):sIf c f g ρ=r:=U7 h1 (by rw [if_pos rfl];exact h2)
theorem pG {c:FT} {f g:FS} {ρ:List D} {r:Res Fl} (h1:c ρ=.ok false) (h2:g ρ=r):sIf c f g ρ=r:=U7 h1 (by rw [if_neg (by simp)];exact h2)
theorem cA {f:FE} {ρ:List D} {k:Bool} (h1:f ρ=.ok (.bl k)):bTB f ρ=.ok k:=by
 unfold bTB;rw [h1,Res.aM];rfl
theorem P0 {a b:FT} {ρ:List D} {r:Res Bool} (h1:a ρ=.ok true) (h2:b ρ=r):zG a b ρ=r:=by
 unfold zG;rw [h1,Res.aM,if_pos rfl,h2]
theorem P_ {a b:FT} {ρ:List D} (h1:a ρ=.ok false):zG a b ρ=.ok false:=by
 unfold zG;rw [h1,Res.aM,if_neg (by simp)];rfl
theorem aF7 {f g:D->D->Res D} {a b c:FE} {ρ:List D} {x y z:D} {r:Res D} (h1:a ρ=.ok x) (h2:b ρ=.ok y) (h3:f x y=.ok (.bl true)) (h4:c ρ=.ok z) (h5:g y z=r):bCh f g a b c ρ=r:=by
 unfold bCh;rw [h1,Res.aM,h2,Res.aM,h3,Res.aM,W9,Res.aM,if_pos rfl,h4,Res.aM,h5]
theorem aG1 {f g:D->D->Res D} {a b c:FE} {ρ:List D} {x y:D} (h1:a ρ=.ok x) (h2:b ρ=.ok y) (h3:f x y=.ok (.bl false)):bCh f g a b c ρ=.ok (.bl false):=by
 unfold bCh;rw [h1,Res.aM,h2,Res.aM,h3,Res.aM,W9,Res.aM,if_neg (by simp)];rfl
theorem aD {a:FE} {b:FA} {ρ:List D} {x:D} {xs:List D} (h1:a ρ=.ok x) (h2:b ρ=.ok xs):aF a b ρ=.ok (x::xs):=by
 unfold aF;rw [h1,Res.aM,h2,Res.aM];rfl
theorem aV {f:List D->Res D} {a:FA} {ρ:List D} {xs:List D} {d:D} (h1:a ρ=.ok xs) (h2:f xs=.ok d):aX f a ρ=.ok d:=by
 unfold aX;rw [h1,Res.aM,h2]
theorem lC {a:FA} {ρ:List D} {xs:List D} (h:a ρ=.ok xs) (hl:xs.length<=lim):oJ a ρ=.ok (.tup xs):=by
 unfold oJ;rw [h,Res.aM,if_pos (decide_eq_true hl)];rfl
theorem oN {f:FE} {ρ:List D} {d:D} {k:Bool} (h:f ρ=.ok d) (hp:(k||d.pure)=true):pB f k ρ=.ok (.rt d):=by
 unfold pB;rw [h,Res.aM,if_pos hp]
theorem qP {it:FI} {t:D->List D->Res (List D)} {body:FS} {ρ:List D} {xs:List D} {r:Res Fl} (h1:it ρ=.ok (xs,true)) (h2:lY t body xs ρ=r):wN it t body ρ=r:=by
 unfold wN;rw [h1,Res.aM];exact h2
theorem QB {i:Nat} {t:D->List D->Res (List D)} {body:FS} {ρ:List D} {d:D} {xs:List D} {r:Res Fl} (h1:lX i ρ=.ok d) (h2:mL d=.ok xs) (h3:lY t body xs ρ=r):IK i t body ρ=r:=by
 unfold IK;rw [h1,Res.aM,h2,Res.aM];exact h3
theorem qQ {f:FA} {ρ:List D} {n:Int} (h:f ρ=.ok [.int n]) (h1:0<=n) (h2:n<=1000000):mO f lN ρ=.ok ((List.range n.toNat).map fun (k:Nat)=>D.int (0+(k:Int)),true):=by
 unfold mO;rw [h,Res.aM];have:p8 n=true:=by
  simp only [p8,Bool.and_eq_true,decide_eq_true_eq];lia
 simp only [lN,this,if_true]
theorem QC {i:Nat} {f g:FE} {ρ:List D} {kvs:List (D×D)} {k d:D} (h1:g ρ=.ok d) (h2:f ρ=.ok k) (h3:ρ.getD i .uD=.dct kvs) (h4:kvs.length<lim) (h5:rW kvs k=true) (h6:d.pure=true):T5 i f g ρ=.ok (.nx (ρ.set i (.dct (putD kvs k d)))):=by
 unfold T5;rw [h1,Res.aM,h2,Res.aM,h3];simp only [decide_eq_true h4,h5,h6,Bool.and_self,if_true]
theorem aCi {i:Nat} {f g:FE} {ρ:List D} {xs:List D} {j:Int} {d:D} (h1:f ρ=.ok (.int j)) (h2:g ρ=.ok d) (h3:ρ.getD i .uD=.lst xs) (h4:xs.length<lim) (h5:d.pure=true) (h6:0<=j) (h7:j<=xs.length):aBt i f g ρ=.ok (.nx (ρ.set i (.lst (xs.take j.toNat++d::xs.drop j.toNat)))):=by
 unfold aBt;rw [h1,Res.aM,h2,Res.aM,h3];simp only [decide_eq_true h4,h5,decide_eq_true h6,decide_eq_true h7,Bool.and_self,if_true]
theorem qR {i:Nat} {f:FE} {ρ:List D} {xs:List D} {d:D} (h1:f ρ=.ok d) (h3:ρ.getD i .uD=.lst xs) (h4:xs.length<lim) (h5:d.pure=true):uI i f ρ=.ok (.nx (ρ.set i (.lst (xs++[d])))):=by
 unfold uI;rw [h1,Res.aM,h3];simp only [decide_eq_true h4,h5,Bool.and_self,if_true]
theorem h_ {t:D->List D->Res (List D)} {body:FS} {x:D} {xs:List D} {ρ ρ1 ρ2:List D} {r:Res Fl} (h1:t x ρ=.ok ρ1) (h2:body ρ1=.ok (.nx ρ2)) (h3:lY t body xs ρ2=r):lY t body (x::xs) ρ=r:=by
 rw [lY,h1,Res.aM,h2,Res.aM];exact h3
theorem jL (L:List D) (i:Int) (h0:0<=i) (h1:i<L.length):∃(h:i.toNat<L.length),getD (.lst L) (.int i)=.ok L[i.toNat]:=by
 have hlt:i.toNat<L.length:=by lia
 refine ⟨hlt,?_⟩;show Res.ofOpt ((ixD L.length i).bind fun j=>L[j]?)=_;unfold ixD;rw [if_pos h0,if_pos h1];simp only [Option.bind_some];rw [List.getElem?_eq_getElem hlt];rfl
theorem mZ (L:List D):fK [.lst L]=.ok (.int L.length):=rfl
theorem qT {n:Nat} {it:FI} {t:D->Res (List D)} {c:FT} {f:FE} {k kk:Bool} {ρ:List D} {xs ys:List D} (h1:it ρ=.ok (xs,kk)) (h2:xs.length<=lim) (h3:wL (H_ n t c f k ρ) [] xs=.ok ys):gM n it t c f k ρ=.ok (.lst ys):=by
 unfold gM;rw [h1,Res.aM];simp only [decide_eq_true h2,if_true];rw [h3];rfl
theorem m5 {a:FE} {fr:Bool} {ρ:List D} {d:D} {xs:List D} (h1:a ρ=.ok d) (h2:mL d=.ok xs):dM a fr ρ=.ok (xs,fr||d.pure):=by
 unfold dM;rw [h1,Res.aM,h2,Res.aM];rfl
theorem m9 {n:Nat} {c:FT} {f:FE} {k:Bool} {ρ acc:List D} {x y:D} {b:Bool} (hρ:ρ.length=n) (h1:c (ρ++[x])=.ok b) (h2:b=true->f (ρ++[x])=.ok y/\(k||y.pure)=true):H_ n CQ c f k ρ acc x=.ok (if b then acc++[y] else acc):=by
 unfold H_;show (do let ok <- c (CP n ρ++[x]);_)=_;rw [PQ hρ,h1,Res.aM];cases b with
 | true=>
  obtain ⟨e1,e2⟩:=h2 rfl;rw [if_pos rfl,e1,Res.aM,if_pos e2,if_pos rfl];rfl
 | false=>
  rw [if_neg (by simp),if_neg (by simp)];rfl
theorem iB {α:Type} (g:List D->D->Res (List D)) (d:α->D) (p:α->Bool) (y:α->D) (h:∀acc a,g acc (d a)=.ok (if p a then acc++[y a] else acc)):∀(xs:List α) (acc:List D),wL g acc (xs.map d)=.ok (acc++(xs.filter p).map y)
 | [],acc=>by simp [wL]
 | x::xs,acc=>by
  rw [List.map_cons,wL,h];show wL g _ _=_;rw [iB g d p y h xs];by_cases hp:p x
  ·simp [hp]
  ·simp [hp]
theorem fC (a b:Int):aU .add (.int a) (.int b)=.ok (.int (a+b)):=rfl
theorem aCj (a b:Int):aU .sub (.int a) (.int b)=.ok (.int (a-b)):=rfl
theorem QD (a b:Int) (h:p7 b=true):aU .mul (.int a) (.int b)=.ok (.int (a*b)):=by
 simp only [aU,h,Bool.or_true,if_true]
theorem zV (a b:Int) (h:p7 a=true):aU .mul (.int a) (.int b)=.ok (.int (a*b)):=by
 simp only [aU,h,Bool.true_or,if_true]
theorem fU (a b:Int) (h1:0<b) (h2:b<1073741824):aU .fdiv (.int a) (.int b)=.ok (.int (a / b)):=by
 simp only [aU,decide_eq_true h1,decide_eq_true h2,Bool.and_self,if_true]
theorem fV (a b:Int) (h1:0<b):aU .mod (.int a) (.int b)=.ok (.int (a % b)):=by
 simp only [aU,decide_eq_true h1,if_true]
theorem j9 (a:Int) (h1:-1000000<=a) (h2:a<=1000000):p7 a=true:=by
 simp only [p7,Bool.and_eq_true,decide_eq_true_eq];lia
theorem y_ (a b:Str) (h:a.length+b.length<=lim):aU .add (.str a) (.str b)=.ok (.str (a++b)):=by
 simp only [aU,decide_eq_true h,if_true]
theorem str_len (a b:Str):(a++b).length=a.length+b.length:=by
 show (a.cps++b.cps).size=_;rw [Array.size_append];rfl
theorem u_ (a b:List D) (h:a.length+b.length<=lim) (ha:D.aW a=true) (hb:D.aW b=true):aU .add (.lst a) (.lst b)=.ok (.lst (a++b)):=by
 simp only [aU,decide_eq_true h,ha,hb,Bool.and_self,if_true]
theorem W_ (n:Nat) (h:n<=1000):aU .pow (.int 10) (.int n)=.ok (.int (10 ^ n)):=by
 have h1:decide ((0:Int)<=(n:Int))=true:=by simp
 have h2:decide ((n:Int)<=1000000)=true:=by simp;lia
 have h3:decide ((10:Int).natAbs<2 ^ 64)=true:=by decide
 simp only [aU,h1,h2,h3,Bool.and_self,if_true,Int.toNat_natCast]
theorem fM (S:List Int):D.aW (S.map D.int)=true:=by
 induction S with
 | nil=>rfl
 | cons q Q ih=>rw [List.map_cons,D.aW,ih];rfl
theorem ZX (ns:List Int) (lo hi:Option Int):cutD (ns.map D.int) lo hi=(cutD ns lo hi).map D.int:=by
 unfold cutD;rw [List.length_map,List.map_take,List.map_drop]
theorem ZZ (ns:List Int) (lo hi:Option Int):(cutD ns lo hi).length<=ns.length:=by
 unfold cutD;exact Nat.le_trans (List.length_take_le' ..) (by rw [List.length_drop];lia)
end Mi
end
section
namespace Mi
open PySem L2 PySem.SeqAt PySem.Spec PyProof.Rows
section
variable {P:Program} {w:World} {K:PySem.W.Frag} {mg:Str->Option Value} {base:Heap} {N:List Str} {qual:Str} {scope:Scope} {f C:Addr} {cd:Value} {A:Around} {outer:List Env} {s:Shared} {H:Hp} {E:XK}
end
section
variable [KFrag]
end
end Mi
end
section
namespace Mi
open PySem L2 PySem.W PySem.SeqAt PySem.Spec PyProof.Rows PySem.Builtin PySem.Builtin.ObjectAttr PySem.Builtin.Getset_descriptor
section
variable {prog:Program} {w:World} {A:Around} {E:Value->Shared->Prop} {s:Shared} {K:Frag} {x C:Addr}
end
end Mi
end
section
namespace Mi
open PySem L2 PySem.W PySem.SeqAt PySem.Spec PyProof.Rows
section
variable {X:Cx} {pins:List (Addr×Obj)} {σ:L2.St} {H H1 H2:Hp} {s:Shared} {h h6:Heap} {a:Addr}
end
end Mi
end
section
namespace Mi
open PySem L2 PySem.W PySem.SeqAt PySem.Spec PyProof.Rows
variable [KFrag]
section
variable {X:Cx} {C:Addr} {i:Nat} {cs:List Addr} {b:Bool} {y:Str} {p np tpos pos:Pos} {es:List Expr} {kk:Nat} {ce:Expr} {v:V} {u:Value}
end
noncomputable def Z0 (a:FA):FE:=fun ρ=>do let xs <- a ρ;if decide (xs.length<=lim)&&D.aW xs then pure (.lst xs) else .bad
theorem QF {X:Cx} {pos:Pos} {es:List Expr} {f:FA} {r:Bool} (h:PA X es (gA f r)):PE X (.List es pos) (gE (Z0 f) true):=PE.imp (tD h) fun σ H Q ⟨ρ,d,E,h,q⟩=>by
  obtain ⟨xs,h1,h⟩:=aY h;split at h
  ·rename_i hl;rw [Bool.and_eq_true] at hl;cases h;refine ⟨ρ,xs,E,h1,fun vs H1 s1 r1 n1=>⟨?_,fun p hp=>?_⟩⟩
   ·rw [r1.length];exact Nat.le_trans (of_decide_eq_true hl.1) (by rw [sizeLine_eq];decide)
   ·have sp:bN H1 (upd H1 p (.lst vs)):=bN.upd hp;exact q _ _ (s1.trans sp) (.lst aC trivial (r1.same sp)) fun _=>.lst aC (s1.free hp) ((r1.bF hl.2).same sp)
  ·cases h
end Mi
end
section
namespace Mi
open PySem L2 PySem.SeqAt PySem.Spec PyProof.Rows
noncomputable def GC:List D->Res D
 | [.int n]=>if decide (-1000000<=n)&&decide (n<=1000000) then .ok (.lst ((List.range n.toNat).map fun (k:Nat)=>D.int k)) else .bad
 | _=>.bad
variable [KFrag]
section
variable {X:Cx} {a e:Expr} {es:List Expr} {p p2 pos pos2:Pos} {fs:FA} {rr:Bool}
theorem JL:∀(n:Nat) (f:Nat->Int) (xs:List Value),xs.length=n->(∀(j:Nat) (v:Value),xs[j]?=some v->∃t,v=.int (f j) t)->Vals ((List.range n).map fun (k:Nat)=>V.int (f k)) xs:=by
 intro n;induction n with
 | zero=>intro f xs hl _;cases xs with|nil=>exact .nil|cons _ _=>simp at hl
 | succ n ih=>
  intro f xs hl h;cases xs with
  | nil=>simp at hl
  | cons x xs=>
   rw [List.range_succ_eq_map,List.map_cons,List.map_map];exact .cons (h 0 x rfl) (ih (fun k=>f (k+1)) xs (by simpa using hl) fun j v hj=>h (j+1) v (by simpa using hj))
theorem U8 (hc:X.calm=true):jA X (.type "list") (fun vs H Q=>∃r n,vs=[.ref r]/\H r=some (.rng 0 n)/\-1000000<=n/\n<=1000000/\∀q,H q=none->Q (.ref q) (upd H q (.lst ((List.range n.toNat).map fun (k:Nat)=>V.int k)))):=by
 intro pins s σ H vs us Q I vr ⟨r,n,e,er,h1,h2,q⟩;subst e;cases vr with
 | cons r1 vr=>
  cases vr;cases r1;obtain ⟨t,u,v,hr⟩:=I.hok r _ er;have hn:Builtin.Range.rangeSize 0 n 1=(n.toNat:Int):=by rw [rangeSize_one];split <;> lia
  refine call_list_range (n:=n.toNat) (I.ok.hd hc) hr (small_one (by lia) (by lia) (by lia) (by lia)) hn (by lia) fun h' tk acc' c' hk hS' hacc=>?_
  have hfr:H s.heap.objs.size=none:=I.hok.fresh (Nat.le_refl _);refine ⟨.ref s.heap.objs.size,_,I.laid (t':=tk) hk (Nat.le_refl _) ?_,rfl,q _ hfr⟩;refine ⟨by rw [List.length_map,List.length_range,sizeLine_eq];lia,acc'.toList,c',JL _ (fun k=>(k:Int)) _ (by simp [hacc.1]) fun j v hj=>?_,by simpa using hS'⟩;obtain ⟨t,ht⟩:=hacc.2 j v (by simpa using hj);exact ⟨t,by rw [ht];congr 1;lia⟩
theorem qU {P:Addr->Prop} {H:Hp}:∀(l:List Nat),bB P H (l.map fun (k:Nat)=>V.int k) (l.map fun (k:Nat)=>D.int k)
 | []=>.nil
 | n::l=>.cons (.int _) (qU l)
theorem U9 (hc:X.calm=true) (hg:Gl X "list") (hm:X.mg "list" = none) (hg2:Gl X "range") (hm2:X.mg "range" = none) (ha:PA X [a] (gA fs rr)) (hs:starEach [a] X.env=[(false,eval a X.env)]:=by rfl) :
  PE X (.Call (.Name "list" p) [.Call (.Name "range" p2) [a] [] pos2] [] pos) (gE (aX GC fs) true):=by
 have hr:PE X (.Call (.Name "range" p2) [a] [] pos2) (fun σ H Q=>∃ρ n,ER H σ ρ/\fs ρ=.ok [.int n]/\∀H1 r,bN H H1->H1 r=none->Q (.ref r) (upd H1 r (.rng 0 n))):=by
  intro pins s σ H Q I ⟨ρ,n,E,h1,q⟩;refine wpAny_Call_Name_kw (v7 I hg2 hm2 boot_range ?_);refine PyProof.Rows.callWith_type1 (thn (ha pos2 pins s σ H (fun vs H1=>bN H H1/\vs=[.int n]) I ⟨ρ,_,E,h1,fun vs H1 s1 r1 _=>⟨s1,?_⟩⟩) fun us s1 ⟨vs,H1,I1,r1,sm,e⟩=>?_) hs rfl
  ·cases r1 with
   | cons r t=>cases t;cases r;rfl
  ·subst e;cases r1 with
   | cons r t=>
    cases t;obtain ⟨t,rfl⟩:=r;have hfr:H1 s1.heap.objs.size=none:=I1.hok.fresh (Nat.le_refl _);exact call_range_1 ⟨.ref s1.heap.objs.size,_,I1.laid (o:=.rng 0 n) (fun b o e=>Heap.get?_push_of_some _ e) (Nat.le_refl _) ⟨_,_,_,Heap.get?_push_size _ rfl⟩,rfl,q H1 _ sm hfr⟩
 refine PE.imp (wC (U8 hc) hg hm u5 (eV hr gU)) fun σ H Q ⟨ρ,d,E,h,q⟩=>?_
 obtain ⟨xs,h1,h2⟩:=aY h;unfold GC at h2;split at h2
 ·rename_i n;split at h2
  ·rename_i hb;rw [Bool.and_eq_true] at hb;cases h2;refine ⟨ρ,n,E,h1,fun H1 r s1 hr=>⟨r,n,rfl,aC,of_decide_eq_true hb.1,of_decide_eq_true hb.2,fun q' hq'=>?_⟩⟩;have s2:=bN.upd (o:=.rng 0 n) hr;have s3:=bN.upd (o:=.lst ((List.range n.toNat).map fun (k:Nat)=>V.int k)) hq';exact q _ _ ((s1.trans s2).trans s3) (.lst aC trivial (qU _)) fun _=>.lst aC ((s1.trans s2).free hq') (qU _)
  ·cases h2
 ·cases h2
end
section
variable {X:Cx} {own:Nat->Bool} {a b e:Expr} {pos:Pos} {fs:FA} {rr re:Bool} {fe:FE}
end
end Mi
end
section
namespace Mi
open PySem L2 PySem.SeqAt PySem.Spec PyProof.Rows
variable [KFrag]
section
variable {X:Cx} {pins:List (Addr×Obj)} {σ:L2.St} {H:Hp} {s:Shared} {a:Addr} {kvs:List (Key×V)}
end
section
variable {X:Cx} {scope:Scope} {x c:Str} {i n:Nat} {elt:Expr} {fe:FE} {re:Bool} {np ap cp cpos pos:Pos}
end
end Mi
end
section
namespace Mi
open PySem L2 PySem.SeqAt PySem.Spec PyProof.Rows AutoSeq1 MeetsSeq MeetsSeq2 MeetsSeq3
section
variable {P:Program} {w:World} {l b:Addr} {xs ys:Array Value} {n m:Nat} {dd de:Option Addr} {sl sm:Array (Option Value)} {e:Nat->Bool}
end
variable [KFrag]
section
variable {X:Cx} {pins:List (Addr×Obj)} {σ:L2.St} {H:Hp} {s:Shared}
end
end Mi
end
section
namespace Mi
open PySem L2 PySem.SeqAt PySem.Spec PyProof.Rows
variable [KFrag]
section
variable {P:Program} {w:World} {K:PySem.W.Frag} {mg:Str->Option Value} {base:Heap} {x qual:Str} {st:Stmt} {fad T:Addr} {its:Array Value} {fd:FuncData} {N ps:List Str} {k:Nat} {f:FS}
end
section
variable {X:Cx} {e ke:Expr} {es:List Expr} {pos p kp:Pos} {fs:FA} {rr re:Bool} {fk:FE} {x kw:Str} {k k' n:Nat} {df:D} {f:List D->Res D}
end
end Mi
end
section
namespace Mi
open PySem L2 PySem.SeqAt PySem.Spec PyProof.Rows
noncomputable def GD (c:FT) (body:FS):Nat->List D->Res Fl
 | 0,_=>.bad
 | n+1,ρ=>do
  let k <- c ρ
  if k then (do
   let r <- body ρ
   match r with
   | .nx ρ'=>GD c body n ρ'
   | .ct ρ'=>GD c body n ρ'
   | .bk ρ'=>.ok (.nx ρ')
   | .rt d=>.ok (.rt d))
  else .ok (.nx ρ)
def aDf (c:FT) (body:FS):FS:=fun ρ=>GD c body 1000 ρ
variable [KFrag]
section
variable {X:Cx} {pos:Pos}
theorem QG {own:Nat->Bool} {c:Expr} {body:List Stmt} {gc:FT} {fb:FS} (hp:PassesOwn (model X.prog X.w) X.A X.env X.xe) (hc:PT X c (gT gc)) (hb:PSs X body (tS own fb)):PS X (.While c body [] pos) (tS own (aDf gc fb)):=
 PS.imp (SX hp hc hb) fun D σ H ⟨ρ,fl,E,h,q⟩=>by
 refine ⟨fun m σ' H'=>∃ρ' ,ES own H' σ' ρ'/\GD gc fb m ρ'=.ok fl/\kS own D σ' H' fl,⟨1000,ρ,E,h,q⟩,?_⟩;rintro m σ H ⟨ρ,E,h,q⟩;cases m with
 | zero=>cases h
 | succ m=>
  rw [GD] at h;obtain ⟨k,h1,h2⟩:=aY h;refine ⟨ρ,k,E.er,h1,fun H1 s=>?_⟩;cases k with
  | true=>
   rw [if_pos rfl];rw [if_pos rfl] at h2;obtain ⟨r,h3,h4⟩:=aY h2;refine ⟨fun σ' H'=>∃ρ',ES own H' σ' ρ'/\GD gc fb m ρ'=.ok fl/\kS own D σ' H' fl,fun σ' H' w=>⟨m,Nat.lt_succ_self m,w⟩,ρ,r,E.same s,h3,?_⟩;have q1:=q.step (.same s);cases r with
   | nx ρ'=>exact fun σ' H' ku E'=>⟨ρ',E',h4,q1.step ku⟩
   | ct ρ'=>exact fun σ' H' ku E'=>⟨ρ',E',h4,q1.step ku⟩
   | bk ρ'=>cases h4;exact fun σ' H' ku E'=>q1 σ' H' ku E'
   | rt d=>cases h4;exact q1
  | false=>
   rw [if_neg (by simp)];rw [if_neg (by simp)] at h2;cases h2;exact (q.step (.same s)) σ H1 (fun a o e n=>⟨e,n⟩) (E.same s)
end
end Mi
end
section
namespace Mi
open PySem L2 PySem.SeqAt PySem.Spec PyProof.Rows
variable [KFrag]
section
variable {X:Cx} {own:Nat->Bool} {e:Expr} {fe:FE} {re:Bool} {pos:Pos}
end
end Mi
end
section
namespace Mi
open PySem L2 PySem.SeqAt PySem.Spec PyProof.Rows
variable [KFrag]
theorem aCk {P:Program} {w:World} {k:Key} {v:Value} (h:(b_ P w).is k v=true):RelV (kV k) v:=by
 have h:yK k v=true:=h;rcases bW h with ⟨i,t,rfl,rfl⟩|⟨x,t,rfl,rfl⟩
 ·exact ⟨t,rfl⟩
 ·exact ⟨t,rfl⟩
section
variable {X:Cx} {pins:List (Addr×Obj)} {σ:L2.St} {H:Hp} {s:Shared} {a:Addr} {kvs:List (Key×V)}
end
end Mi
end
section
namespace Mi
open PySem L2 PySem.SeqAt PySem.Spec PyProof.Rows
variable [KFrag]
section
variable {X:Cx} {scope:Scope} {own:Nat->Bool} {x c y:Str} {i n iy:Nat} {elt cnd:Expr} {fe:FE} {gc:FT} {re o:Bool} {np cpos pos py pos2:Pos}
end
section
variable {own:Nat->Bool}
end
end Mi
end
section
namespace Wz
open PySem PySem.Spec
section
variable {prog:Program} {w:World} {A:Around} {E:Value->Shared->Prop} {s:Shared} {it t:Addr} {i:Nat} {xs:Array Value} {x:Value} {n:Nat} {dd:Option Addr} {sl:Array (Option Value)}
end
section
variable {z TI TO i1 i2 l1 l2:Addr} {o1 o2:Obj} {f0 f1 g0 g1 a b c d:Value} {k1 k2:Nat} {h h':Heap}
end
section
variable {prog:Program} {w:World} {A:Around} {E:Value->Shared->Prop} {s:Shared} {z TI TO i1 i2 l1 l2:Addr} {n1 n2:Nat} {d1 d2:Option Addr} {s1 s2:Array (Option Value)} {f0 f1 a b x y:Value} {k:Nat} {xs ys:Array Value}
end
end Wz
end
section
namespace Wz
open PySem PySem.Spec
section
variable {prog:Program} {w:World} {A:Around} {E:Value->Shared->Prop} {s:Shared} {z TI TO i1 i2 l1 l2:Addr} {n1 n2:Nat} {d1 d2:Option Addr} {s1 s2:Array (Option Value)} {f0 f1 a b x y:Value} {k:Nat} {xs ys:Array Value}
end
end Wz
end
section
namespace Wz
open PySem PySem.Spec
section
variable {prog:Program} {w:World} {A:Around} {E:Value->Shared->Prop} {s:Shared}
end
section
variable {prog:Program} {w:World} {A:Around} {E:Value->Shared->Prop} {hp:Heap} {g:Array GenState} {d:Drawn} {tk:Nat} {os:OsState} {a TI TO:Addr} {f0 f1:Value}
end
end Wz
end
section
namespace Wz
open PySem PySem.Spec
section
variable {prog:Program} {w:World} {A:Around} {E:Value->Shared->Prop} {s:Shared} {z TI TO i1 i2 l1 l2 d:Addr} {n1 n2:Nat} {d1 d2:Option Addr} {s1 s2:Array (Option Value)} {x y:Value} {k:Nat} {xs ys:Array Value}
end
section
variable {prog:Program} {w:World} {K:Type} [DecidableEq K] {knd:KeyKind prog w K} {A:Around} {R:Except Value Flow->Shared->Prop} {z TI TO i1 i2 l1 l2 d:Addr} {n1 n2:Nat} {d1 d2:Option Addr} {s1 s2:Array (Option Value)} {xs ys:Array Value} {ks:List K}
end
section
variable {prog:Program} {w:World} {K:Type} [DecidableEq K] {knd:KeyKind prog w K} {A:Around} {E:Value->Shared->Prop} {hp:Heap} {g:Array GenState} {dr:Drawn} {tk:Nat} {os:OsState} {z TI TO i1 i2 l1 l2:Addr} {n1 n2:Nat} {d1 d2:Option Addr} {s1 s2:Array (Option Value)} {xs ys:Array Value} {ks:List K}
end
end Wz
end
section
namespace Mi
open PySem L2 PySem.SeqAt PySem.Spec PyProof.Rows
variable [KFrag]
section
variable {X:Cx} {a b:Expr} {fs:FA} {rr:Bool} {p p2 pos pos2:Pos}
end
end Mi
end
section
namespace Mi
open PySem L2 PySem.SeqAt PySem.Spec PyProof.Rows
noncomputable def U_ (i j:Nat):FS:=fun ρ=>match ρ.getD i .uD with
 | .lst xs=>(match xs[xs.length-1]? with|some x=>.ok (.nx ((ρ.set i (.lst xs.dropLast)).set j x))|none=>.bad)
 | _=>.bad
variable [KFrag]
section
variable {X:Cx} {own:Nat->Bool} {e:Expr} {fe:FE} {re:Bool} {pos:Pos}
theorem Z1 {i j:Nat} {x y:Str} {p1 py apos cpos:Pos} (ho:own i=true) (hN:X.N[i]?=some x) (hv:Vis X.env.scope x) (hnd:X.N.Nodup) (hj:X.N[j]?=some y) (hy:Loc X.env.scope y) (hoj:own j=false) (hd:nDb x:=by decide) (hcd:nCd x:=by decide)
  (hbase:attributeBase (.Name x p1) "pop" X.env (eval (.Name x p1) X.env)=eval (.Name x p1) X.env:=by rfl)
  (hline:(apos.endLine==cpos.line)=true:=by rfl)
  (hs:swapsWith (.Call (.Attribute (.Name x p1) "pop" apos) [] [] cpos) (some (.Name y py)) pos.line X.env=pure false:=by rfl) (hf:X.fn y=true\/X.env.scope.names.lookup y=some .local:=by first|exact .inl rfl|exact .inr rfl|assumption) :
  PS X (.Assign [.Name y py] (.Call (.Attribute (.Name x p1) "pop" apos) [] [] cpos) pos) (tS own (U_ i j)):=
 PS.imp (lZ hnd hj hy (aBj PySem.F.plainAttrs_list PySem.F.slot_list_pop PySem.F.type_list_pop aBk (dH hN hv hd hcd) hbase hline) hs hf) fun D' σ H ⟨ρ,fl,E,h,q⟩=>by
 unfold U_ at h;split at h
 ·rename_i xs hx;split at h
  ·rename_i dx hdx;cases h;obtain ⟨a,o,hσ,r,hin,ha,hm⟩:=E.ownAt ho (by rw [hx];intro z;cases z);rw [hx] at r hin;obtain ⟨vs,hl,rr⟩:=tL r;obtain ⟨v,hvx,rv⟩:=rr.get hdx;have hlen:=rr.length;refine ⟨_,hσ,.inl ⟨rfl,vs,.of hl⟩,a,vs,v,rfl,rfl,hl,by rw [hlen];exact hvx,?_⟩;have hin':D.aW xs=true:=hin;have pall:∀y∈xs,y.pure=true:=fun y hy=>g_.mp hin' y hy
   have pdx:dx.pure=true:=pall dx (List.mem_of_getElem? hdx);have pe:D.aW xs.dropLast=true:=g_.mpr fun y hy=>pall y (List.dropLast_subset _ hy)
   have er:bB All H vs.dropLast xs.dropLast:=by
    rw [List.dropLast_eq_take,List.dropLast_eq_take,hlen];exact rr.take _
   obtain ⟨E2,k2⟩:=E.mut (o:=.lst vs.dropLast) (d:=.lst xs.dropLast) ho hσ rfl (.lst aC trivial (er.upd pe hl rfl)) pe;have r1:=(bB.cons rv .nil).upd (o:=.lst vs.dropLast) (by rw [D.aW,pdx];rfl) hl rfl;cases r1 with
   | cons r1 _=>
    have E3:=E2.set hoj (v:=v) (d:=dx) (r1.bF pdx);exact q _ _ (k2.trans fun b ob eb nb=>⟨eb,by rw [qM hoj];exact nb⟩) E3
  ·cases h
 ·cases h
end
end Mi
end
section
namespace Ws
open PySem PySem.Spec PySem.Builtin PySem.Builtin.Str
end Ws
namespace Mi
open PySem L2 PySem.SeqAt PySem.Spec PyProof.Rows
variable [KFrag]
end Mi
end
section
namespace Ws
open PySem PySem.Spec PySem.Builtin PySem.SeqAt PyProof.Rows
section
variable {prog:Program} {w:World} {A:Around} {E:Value->Shared->Prop} {s:Shared}
end
end Ws
namespace Mi
open PySem L2 PySem.SeqAt PySem.Spec PyProof.Rows
variable [KFrag]
section
variable {X:Cx}
end
end Mi
end
section
namespace Mi
open PySem L2 PySem.W PySem.SeqAt PySem.Spec PyProof.Rows
section
variable {prog:Program} {w:World} {K:Type}
variable [DecidableEq K] (knd:HeapKind prog w K)
variable (d a:Addr)
end
section
variable [KFrag]
variable {X:Cx} {pos:Pos}
section
variable {own:Nat->Bool} {e:Expr} {fe:FE} {re:Bool}
end
end
end Mi
end
section
namespace Mi
open PySem L2 PySem.W PySem.SeqAt PySem.Spec PyProof.Rows
noncomputable def J5 (h:Heap) (d:Addr) (es:Array DictEntry) (ep:Nat):Prop:=∃o,h.get? d=some o/\o.ExactDict/\o.data=.dict es ep
theorem J5.ty {s:Shared} {d:Addr} {es:Array DictEntry} {ep:Nat} (x:J5 s.heap d es ep):s.TypeIs (.ref d) "dict":=let ⟨o,e,c,_⟩:=x;⟨o,e,c.1⟩
theorem J5.at {h h':Heap} {d:Addr} {es:Array DictEntry} {ep:Nat} (x:J5 h d es ep) (k:∀o,h.get? d=some o->h'.get? d=some o):J5 h' d es ep:=let ⟨o,e,r⟩:=x;⟨o,k o e,r⟩
section
variable {prog:Program} {w:World} {A:Around} {E:Value->Shared->Prop} {s:Shared} {d it:Addr} {es:Array DictEntry} {ep i:Nat}
theorem VB {Q:Value->Shared->Prop} (hd:(d==sysModules)=false) (x:J5 s.heap d es ep) (q:Q (.ref s.heap.objs.size) {s with heap:=s.heap.push {cls:=.type "dict_keyiterator",data:=.fields #[.ref d,.int 0 0,.int es.size 0,.int ep 0]}}):wpAny (model prog w) A (pyIter (.ref d)) Q E s:=by
 have T:=x.ty;obtain ⟨o,e1,e2,e3⟩:=x;refine wpAny_pyIter_slot T F.slot_dict_iter (wpAny_call_entry F.slot_dict_iter T F.entry_dict_iter (?_:wpAny _ _ (Builtin.«dict.__iter__» _) _ _ _) (F.args_dict_iter_1 _));unfold Builtin.«dict.__iter__» Builtin.Dict.dictSlotNone Builtin.Dict.showsAll;refine wpAny_bind (wpAny_bind (wpAny_notOrdered_dict T (?_:wpAny _ _ (pure (Value.ref d)) _ _ s)));refine wpAny_pure (?_:wpAny _ _ ((if d==sysModules then _ else _) >>= _) _ _ s);rw [if_neg (by rw [hd];simp)];refine wpAny_bind (wpAny_pure (wpAny_bind (wpAny_dictEntries e1 e3 (wpAny_bind (wpAny_dictEpoch e1 e3 ?_)))));exact wpAny_bind (wpAny_newObj_type (wpAny_pure ⟨_,rfl, "dict_keyiterator",_,⟨_,Heap.get?_push_size _ rfl,rfl⟩,F.slot_dict_keyiterator_next.lookup,q⟩))
theorem VD {Q:Option Value->Shared->Prop} (y:s.heap.IsKeyIter it d i es.size ep) (x:J5 s.heap d es ep) (hi:i<es.size) (q:∀h',h'.IsKeyIter it d (i+1) es.size ep->Heap.SameBut it s.heap h'->Q (some es[i].key) {s with heap:=h'}):wpAny (model prog w) A (pyNext (.ref it)) Q E s:=by
 have T:=y.typeIs;obtain ⟨o,o1,o2,o3⟩:=y;obtain ⟨od,e1,e2,e3⟩:=x;have own:Builtin.Dict_items.ownsTuple "dict_keyiterator" = false:=by decide
 unfold pyNext;refine wpAny_bind (wpAny_attempt (wpAny_callSpecial?_slot (name:=Str.ofString "__next__") T F.slot_dict_keyiterator_next (wpAny_call_entry F.slot_dict_keyiterator_next T F.entry_dict_keyiterator_next ?_ (F.args_dict_keyiterator_next_1 _))));refine wpAny_bind (wpAny_pure (wpAny_bind (wpAny_bind ?_)))
 first|refine wpAny_bind (wpAny_typeNameOfWhole_keyiter T (wpAny_pure (wpAny_bind (wpAny_fieldsOf o1 o3 ?_))))|refine wpAny_bind (wpAny_typeNameOf_keyiter T (wpAny_pure (wpAny_bind (wpAny_fieldsOf o1 o3 ?_))))
 rw [own];refine (?_:wpAny _ _ (ite ((Value.ref d==Value.none)=true) _ _) _ _ s);rw [if_neg (by intro z;cases z)];refine wpAny_bind (wpAny_pure (wpAny_bind (wpAny_dictEntries e1 e3 ?_)));rw [if_neg (by simp)];refine wpAny_bind (wpAny_pure (wpAny_bind (wpAny_dictEpoch e1 e3 ?_)));rw [if_neg (by simp)];refine wpAny_pure ?_;simp only [show ¬((i:Int)<0) from by lia,if_false,Int.toNat_natCast,Array.getElem?_eq_getElem hi];refine wpAny_bind ?_
 first|refine wpAny_bind (wpAny_typeNameOfWhole_keyiter T (wpAny_pure (wpAny_bind (wpAny_isOneOf_keyiter T ?_))))|refine wpAny_bind (wpAny_typeNameOf_keyiter T (wpAny_pure (wpAny_bind (wpAny_isOneOf_keyiter T ?_))))
 refine wpAny_bind (m:=setField (.ref it) 1 (rawInt ((i:Int)+1))) (wpAny_setField o1 o3 (by simp) ?_);have z:(s.heap.update it (Obj.mapFields (·.setIfInBounds 1 (rawInt ((i:Int)+1))))).IsKeyIter it d (i+1) es.size ep:=⟨_,Heap.get?_update_self _ o1 (Obj.isFreed_of_fields (Obj.data_mapFields o3 _)),(Obj.cls_mapFields ..).trans o2,by rw [Obj.data_mapFields o3];simp [rawInt]⟩
 refine wpAny_bind (wpAny_holding (wpAny_bind (wpAny_isOneOf_keyiter (s:={s with heap:=s.heap.update it (Obj.mapFields (·.setIfInBounds 1 (rawInt ((i:Int)+1))))}) z.typeIs (?_:wpAny _ _ (pure es[i].key) _ _ _))));exact wpAny_pure (wpAny_pure ⟨_,rfl,wpAny_pure (q _ z (Heap.SameBut.update ..))⟩)
theorem Z4 {Q:Option Value->Shared->Prop} (hh:A.handled=none) (y:s.heap.IsKeyIter it d i es.size ep) (x:J5 s.heap d es ep) (hi:es.size<=i) (q:∀h',Heap.ExtBut it s.heap h'->Q none {s with heap:=h'}):wpAny (model prog w) A (pyNext (.ref it)) Q E s:=by
 have T:=y.typeIs;obtain ⟨o,o1,o2,o3⟩:=y;obtain ⟨od,e1,e2,e3⟩:=x;have own:Builtin.Dict_items.ownsTuple "dict_keyiterator" = false:=by decide
 unfold pyNext;refine wpAny_bind (wpAny_attempt (wpAny_callSpecial?_slot (name:=Str.ofString "__next__") T F.slot_dict_keyiterator_next (wpAny_call_entry F.slot_dict_keyiterator_next T F.entry_dict_keyiterator_next ?_ (F.args_dict_keyiterator_next_1 _))));refine wpAny_bind (wpAny_pure (wpAny_bind (wpAny_bind ?_)))
 first|refine wpAny_bind (wpAny_typeNameOfWhole_keyiter T (wpAny_pure (wpAny_bind (wpAny_fieldsOf o1 o3 ?_))))|refine wpAny_bind (wpAny_typeNameOf_keyiter T (wpAny_pure (wpAny_bind (wpAny_fieldsOf o1 o3 ?_))))
 rw [own];refine (?_:wpAny _ _ (ite ((Value.ref d==Value.none)=true) _ _) _ _ s);rw [if_neg (by intro z;cases z)];refine wpAny_bind (wpAny_pure (wpAny_bind (wpAny_dictEntries e1 e3 ?_)));rw [if_neg (by simp)];refine wpAny_bind (wpAny_pure (wpAny_bind (wpAny_dictEpoch e1 e3 ?_)));rw [if_neg (by simp)];refine wpAny_pure ?_;simp only [show ¬((i:Int)<0) from by lia,if_false,Int.toNat_natCast,Array.getElem?_eq_none hi];refine wpAny_bind ?_
 first|refine wpAny_bind (wpAny_typeNameOfWhole_keyiter T (wpAny_pure ?_))|refine wpAny_bind (wpAny_typeNameOf_keyiter T (wpAny_pure ?_))
 refine wpAny_bind (m:=setField (.ref it) 0 .none) (wpAny_setField o1 o3 (by simp) (wpAny_bind (m:=newExc (.type "StopIteration") []) ?_));simp only [newExc,newTuple];refine wpAny_bind (wpAny_newObj_type (wpAny_bind (m:=firstArgMember _ _) (wpAny_of_eq (a:=Value.none) (by first|rfl|(simp only [firstArgMember];rfl)) (wpAny_newObj_type ?_ (by size_fits)))) (by size_fits));simp only [raiseNew];have hh':A.in1.handled=none:=hh;refine wpAny_bind (wpAny_handled ?hd);rw [hh'];refine wpAny_bind (wpAny_pure (wpAny_throw ?thrown));refine wpAny_bind (wpAny_isInstance (b:=true) (T := "StopIteration") ⟨_,Heap.get?_push_size _ rfl,rfl⟩ isSubtype_stop ?_);exact wpAny_pure (q _ (((Heap.SameBut.update ..).extBut.push _).push _))
theorem QH (hh:A.handled=none) (I d:Addr) (hne:d≠I) (es:Array DictEntry) (ep:Nat):Walks prog w A I [I,d] [I] es.size (fun i v=>∃h:i<es.size,v=es[i].key) (fun i h=>h.IsKeyIter I d i es.size ep/\J5 h d es ep) where
 sub:=fun b hb=>List.mem_cons.mpr (.inl (List.mem_singleton.mp hb))
 frame:=fun _ _ _ st hk=>⟨Heap.IsKeyIter.at st.1 fun o e=>hk I (by simp) o e,st.2.at fun o e=>hk d (by simp) o e⟩
 item:=fun i s Q E hi st hQ=>VD st.1 st.2 hi fun h' z sb=>hQ _ h' s.toks ⟨hi,rfl⟩ ⟨z,st.2.at fun o e=>sb.extBut d o hne e⟩ fun b o hb e=>sb.extBut b o (fun h=>hb (by simp [h])) e
 done:=fun s Q E st hQ=>Z4 hh st.1 st.2 (Nat.le_refl _) fun h' ex=>hQ h' s.toks fun b o hb e=>ex b o (fun h=>hb (by simp [h])) e
 self:=fun _ _ _ _ at_ q=>wpAny_pyIter_keyiter at_.1 q
end
end Mi
end
section
namespace Mi
open PySem L2 PySem.W PySem.SeqAt PySem.Spec PyProof.Rows
section
variable {prog:Program} {w:World} {A:Around} {E:Value->Shared->Prop} {s:Shared} {r:Addr}
noncomputable def aEh (s:Shared) (F:Array Value->Prop) (q:Result) (s':Shared):Prop:=∃(h':Heap) (tk:Nat) (acc:Array Value) (c:Nat),q=.ok (.ret (.ref s.heap.objs.size))/\s'={s with heap:=h',toks:=tk}/\(∀b o,s.heap.get? b=some o->h'.get? b=some o)/\h'.get? s.heap.objs.size=some {cls:=.type "list",dict:=none,data:=.seq acc c,slots:=#[]}/\F acc
theorem Z5 {Q:List Value->Shared->Prop} {F:Array Value->Prop}
  (key:wpAny (model prog w) A.in1 (Builtin.List.listExtendWith (.ref s.heap.objs.size) (.ref r) (.ref s.heap.objs.size)) (fun fin s'=>match fin with|.done f=>aEh s F (.ok f) s'|.again c'=>c'.quiet=true/\codeAny (model prog w) A c' (aEh s F) s') (fun e s'=>aEh s F (.error e) s') {s with heap:=s.heap.push {cls:=.type "list",data:=.seq ([]:List Value).toArray}})
  (q:∀h' tk acc,(∀b o,s.heap.get? b=some o->h'.get? b=some o)->s.heap.objs.size<=h'.objs.size->F acc->Q acc.toList {s with heap:=h',toks:=tk}):wpAny (model prog w) A (collect (.ref r)) Q E s:=by
 have last:∀{h':Heap} {tk:Nat} {acc:Array Value} {c:Nat},(∀b o,s.heap.get? b=some o->h'.get? b=some o)->h'.get? s.heap.objs.size=some {cls:=.type "list",dict:=none,data:=.seq acc c,slots:=#[]}->F acc->wpAny (model prog w) A (load s.heap.objs.size >>= fun o=>match o.data with|.seq xs _=>pure xs.toList|_=>unsupported "internal:collect") Q E {s with heap:=h',toks:=tk}:=fun kp at_ f=>wpAny_bind (wpAny_load at_ (wpAny_pure (q _ _ _ kp (Nat.le_of_lt (Heap.lt_size at_)) f)))
 unfold collect;refine wpAny_bind (wpAny_runValue (codeAny_builtin entry_proto_collect' (?_:wpAny _ _ (newList [] >>= fun l=>again (.builtin "list.__iadd__" ⟨[l,.ref r],[]⟩)) _ _ s)));rw [Around.under_plainId PySem.F.plain_proto_collect];refine wpAny_bind (wpAny_newObj_type (wpAny_pure ⟨plainId_quiet PySem.F.plain_list_iadd _,codeAny_builtin entry_list_iadd' (?_:wpAny _ _ (Builtin.List.listExtendWith _ _ _) _ _ _)⟩));rw [Around.under_plainId PySem.F.plain_list_iadd];refine wpAny_mono key (fun fin s' x=>?_) fun e s' ⟨_,_,_,_,z,_⟩=>nomatch z
 cases fin with
 | done f=>
  obtain ⟨h',tk,acc,c,e,rfl,kp,at_,f⟩:=x;cases e;exact last kp at_ f
 | again c1=>
  refine ⟨x.1,codeAny_mono x.2 fun p s2 y=>?_⟩;obtain ⟨h',tk,acc,c,rfl,rfl,kp,at_,f⟩:=y;exact last kp at_ f
theorem Z6 {d:Addr} {es:Array DictEntry} {ep:Nat} (lo:(d==sysModules)=false):KdlSrc prog w "dict" d d es.size (fun i v=>∃h:i<es.size,v=es[i].key) (fun h=>J5 h d es ep) where
 type:=fun _ x=>x.ty
 there:=fun h x=>by obtain ⟨o,e,_⟩:=x;exact ⟨Heap.lt_size e,Heap.lt_size e⟩
 keep:=fun _ _ x k=>x.at fun o e=>k d (.inl rfl) o e
 notList:=rfl
 notTuple:=rfl
 hint:=fun _ _ _ _ x q=>kdl_hint_dict x.ty q
 iter:=fun _ s hh x=>⟨_,_,fun _ _ q=>VB lo x q,QH hh _ d (by obtain ⟨o,e,_⟩:=x;exact Nat.ne_of_lt (Heap.lt_size e)) es ep,⟨_,Heap.get?_push_size _ rfl,rfl,rfl⟩,x.at fun o e=>Heap.get?_push_of_some _ e⟩
theorem QJ {Q:List Value->Shared->Prop} {d:Addr} {es:Array DictEntry} {ep:Nat} (hh:A.handled=none) (lo:(d==sysModules)=false) (x:J5 s.heap d es ep) (hz:es.size<=sizeLine)
  (q:∀h' tk,(∀b o,s.heap.get? b=some o->h'.get? b=some o)->s.heap.objs.size<=h'.objs.size->Q (es.toList.map (·.key)) {s with heap:=h',toks:=tk}):wpAny (model prog w) A (collect (.ref d)) Q E s:=by
 have lt:d<s.heap.objs.size:=by obtain ⟨o,e,_⟩:=x;exact Heap.lt_size e
 refine Z5 (F:=fun acc=>acc.toList=es.toList.map (·.key)) (kdl_extend (Z6 (prog:=prog) (w:=w) (es:=es) (ep:=ep) lo) hh (x.at fun o e=>Heap.get?_push_of_some _ e) s.heap.objs.size (Nat.ne_of_gt lt) (Nat.ne_of_gt lt) _ 0 (Heap.get?_push_size _ rfl) (fun h' tk acc c kp at_ it=>⟨h',tk,acc,c,rfl,rfl,fun b o e=>kp b o (Nat.ne_of_lt (Heap.lt_size e)) (Heap.get?_push_of_some _ e),at_,?_⟩) hz) fun h' tk acc kp sz e=>by rw [e];exact q h' tk kp sz
 refine List.ext_getElem? fun i=>?_
 by_cases hi:i<es.size
 ·obtain ⟨v,hv⟩:∃v,acc[i]?=some v:=⟨acc[i]'(by rw [it.1];exact hi),by simp [it.1,hi]⟩
  obtain ⟨_,e⟩:=it.2 i v hv;rw [Array.getElem?_toList,hv,e,List.getElem?_map,Array.getElem?_toList,Array.getElem?_eq_getElem hi];rfl
 ·rw [Array.getElem?_toList,Array.getElem?_eq_none (by rw [it.1];lia),List.getElem?_eq_none (by simpa using hi)]
end
variable [KFrag]
section
variable {X:Cx}
theorem aCl {H:Hp} {s:Shared} {pins:List (Addr×Obj)} {σ:L2.St} {a:Addr} {kvs:List (List Key×V)} (I:Inv X pins σ H s) (e:H a=some (.dT kvs)):∃(es:Array DictEntry) (ep:Nat) (xs:List (List Key×Addr×Value)),J5 s.heap a es ep/\(a==sysModules)=false/\kvs.length<=sizeLine/\KT H kvs xs/\es.toList=xs.map (entryOfKey (tupleKind (b_ X.prog X.w))):=by
 obtain ⟨z,hd,xs,rel,o,es,ep,h1,h2,h3,h4,_⟩:=TJ I.hok e;exact ⟨es,ep,xs,⟨o,h1,h2,h3⟩,hd,z,rel,h4⟩
end
end Mi
end
section
namespace Wz
open PySem PySem.Spec
section
variable {prog:Program} {w:World} {A:Around} {E:Value->Shared->Prop} {s:Shared} {z TI TO i1 i2 l1 l2:Addr} {o1 o2:Obj} {a b:Value} {k1 k2:Nat}
end
end Wz
namespace Mi
open PySem L2 PySem.SeqAt PySem.Spec PyProof.Rows
variable [KFrag]
section
variable {X:Cx}
end
section
variable {X:Cx} {a b:Expr} {fs:FA} {rr:Bool} {p pos:Pos}
end
end Mi
end
section
namespace Mi
open PySem L2 PySem.SeqAt PySem.Spec PyProof.Rows
noncomputable def QK (d k e:D):Res D:=
 match d,k with
 | .lst xs,.int j=>match (ixD xs.length j).bind fun n=>(xs[n]?).map fun y=>(n,y) with
  | some (n,.lst ys)=>if decide (ys.length<lim)&&e.pure then .ok (.lst (xs.set n (.lst (ys++[e])))) else .bad
  | _=>.bad
 | .dct kvs,k=>if cT k then (match bU kvs k with
  | some (.lst ys)=>if decide (ys.length<lim)&&e.pure then .ok (.dct (putD kvs k (.lst (ys++[e])))) else .bad
  | _=>.bad) else .bad
 | _,_=>.bad
noncomputable def qW (i:Nat) (fk fe:FE):FS:=fun ρ=>do
 let d <- lX i ρ
 let k <- fk ρ
 let e <- fe ρ
 let r <- QK d k e
 .ok (.nx (ρ.set i r))
def Z7 (i:Nat) (d:D):FS:=fun ρ=>.ok (.nx (ρ.set i d))
def aEi (n:Nat):D:=.lst (List.replicate n (.lst []))
variable [KFrag]
abbrev Cel:=Nat->Option (Addr×List Addr)
def m_ (c:Cel) (a:Addr):Prop:=∃i b as,c i=some (b,as)/\a∈b::as
inductive InL (H:Hp):List V->List D->List Addr->Prop
 | nil:InL H [] [] []
 | cons {a:Addr} {vs:List V} {ds:List D} {r:List V} {es:List D} {as:List Addr}:H a=some (.lst vs)->bB All H vs ds->D.aW ds=true->InL H r es as->InL H (.ref a::r) (.lst ds::es) (a::as)
inductive InK (H:Hp):List (Key×V)->List (D×D)->List Addr->Prop
 | nil:InK H [] [] []
 | cons {k:Key} {a:Addr} {vs:List V} {ds:List D} {r:List (Key×V)} {es:List (D×D)} {as:List Addr}:H a=some (.lst vs)->bB All H vs ds->D.aW ds=true->InK H r es as->InK H ((k,.ref a)::r) ((kD k,.lst ds)::es) (a::as)
inductive InA (H:Hp) (as:List Addr):List V->List D->Prop
 | nil:InA H as [] []
 | cons {a:Addr} {vs:List V} {ds:List D} {r:List V} {es:List D}:a∈as->H a=some (.lst vs)->bB All H vs ds->D.aW ds=true->InA H as r es->InA H as (.ref a::r) (.lst ds::es)
noncomputable def aCm:HO->Bool
 | .lst _=>true
 | .dK _=>true
 | _=>false
theorem QL {o:HO} (h:aCm o=true):nU o=true:=by cases o <;> first|rfl|cases h
inductive n6 (q:Bool) (H:Hp) (b:Addr) (as:List Addr):D->Prop
 | lst {vs:List V} {ds:List D}:H b=some (.lst vs)->InL H vs ds as->n6 q H b as (.lst ds)
 | dct {kvs:List (Key×V)} {ds:List (D×D)}:H b=some (.dK kvs)->InK H kvs ds as->(kvs.map (·.1)).Nodup->n6 q H b as (.dct ds)
 | pln {d:D} {o:HO}:as=[]->H b=some o->aCm o=true->Rep All H (.ref b) d->inner d=true->n6 q H b as d
 | any {vs:List V} {ds:List D}:q=true->H b=some (.lst vs)->InA H as vs ds->(∀a∈as,∃ws,H a=some (.lst ws))->n6 q H b as (.lst ds)
section
variable {H H':Hp} {vs:List V} {ds:List D} {as:List Addr} {kvs:List (Key×V)} {es:List (D×D)}
theorem InL.reps (h:InL H vs ds as):bB All H vs ds:=by
 induction h with
 | nil=>exact .nil
 | cons e r p t ih=>exact .cons (.lst e trivial r) ih
theorem InK.reps (h:InK H kvs es as):kO All H kvs es:=by
 induction h with
 | nil=>exact .nil
 | cons e r p t ih=>exact .cons (.lst e trivial r) ih
theorem InL.same (h:InL H vs ds as) (s:bN H H'):InL H' vs ds as:=by
 induction h with
 | nil=>exact .nil
 | cons e r p t ih=>exact .cons (s _ _ e) (r.same s) p ih
theorem InK.same (h:InK H kvs es as) (s:bN H H'):InK H' kvs es as:=by
 induction h with
 | nil=>exact .nil
 | cons e r p t ih=>exact .cons (s _ _ e) (r.same s) p ih
theorem InL.live (h:InL H vs ds as):∀a∈as,∃ws,H a=some (.lst ws):=by
 induction h with
 | nil=>intro a ha;cases ha
 | cons e r p t ih=>
  intro a ha;rcases List.mem_cons.mp ha with rfl|ha
  ·exact ⟨_,e⟩
  ·exact ih a ha
theorem InK.live (h:InK H kvs es as):∀a∈as,∃ws,H a=some (.lst ws):=by
 induction h with
 | nil=>intro a ha;cases ha
 | cons e r p t ih=>
  intro a ha;rcases List.mem_cons.mp ha with rfl|ha
  ·exact ⟨_,e⟩
  ·exact ih a ha
theorem InL.upd {x:Addr} {o u:HO} (h:InL H vs ds as) (hx:x∉as) (hu:H x=some u) (hm:nU u=true):InL (upd H x o) vs ds as:=by
 induction h with
 | nil=>exact .nil
 | cons e r p t ih=>
  rw [List.mem_cons,not_or] at hx;exact .cons (by rw [aR (Ne.symm hx.1)];exact e) (r.upd p hu hm) p (ih hx.2)
theorem InK.upd {x:Addr} {o u:HO} (h:InK H kvs es as) (hx:x∉as) (hu:H x=some u) (hm:nU u=true):InK (upd H x o) kvs es as:=by
 induction h with
 | nil=>exact .nil
 | cons e r p t ih=>
  rw [List.mem_cons,not_or] at hx;exact .cons (by rw [aR (Ne.symm hx.1)];exact e) (r.upd p hu hm) p (ih hx.2)
theorem VF {ds:List D} {n:Nat} {y:D} (h:D.aW ds=true) (hn:ds[n]?=some y):y.pure=true:=by
 induction ds generalizing n with
 | nil=>simp at hn
 | cons d ds ih=>
  rw [D.aW,Bool.and_eq_true] at h;cases n with
  | zero=>simp at hn;subst hn;exact h.1
  | succ n=>exact ih h.2 (by simpa using hn)
theorem iK {ds:List D} {d:D} (h:D.aW ds=true) (hd:d.pure=true):D.aW (ds++[d])=true:=by
 rw [qN];simp only [Bool.and_eq_true];exact ⟨h,by simp [D.aW,hd]⟩
theorem QM {kvs:List (D×D)} {k y:D} (h:D.aW (kvs.map (·.2))=true) (hl:bU kvs k=some y):y.pure=true:=by
 induction kvs with
 | nil=>cases hl
 | cons p r ih=>
  rw [List.map_cons,D.aW,Bool.and_eq_true] at h;rw [bU] at hl;split at hl
  ·cases hl;exact h.1
  ·exact ih h.2 hl
theorem InL.at_ {n:Nat} {y:D} (h:InL H vs ds as) (hn:ds[n]?=some y) (nd:as.Nodup):∃a ws ys,y=.lst ys/\vs[n]?=some (.ref a)/\a∈as/\H a=some (.lst ws)/\bB All H ws ys/\
  ∀(H':Hp) (v:V) (e:D),bN H H'->Rep All H' v e->e.pure=true->InL (L2.upd H' a (.lst (ws++[v]))) vs (ds.set n (.lst (ys++[e]))) as:=by
 induction h generalizing n with
 | nil=>simp at hn
 | @cons a ws ys r es as e rr p t ih=>
  rw [List.nodup_cons] at nd;cases n with
  | zero=>
   simp only [List.getElem?_cons_zero,Option.some.injEq] at hn;subst hn;refine ⟨a,ws,ys,rfl,rfl,List.mem_cons_self ..,e,rr,fun H' v d sm rv hd=>?_⟩;exact .cons aC (((rr.same sm).snoc rv).upd (iK p hd) (sm _ _ e) rfl) (iK p hd) ((t.same sm).upd nd.1 (sm _ _ e) rfl)
  | succ n=>
   rw [List.getElem?_cons_succ] at hn;obtain ⟨a',ws',ys',h1,h2,h3,h4,h5,h6⟩:=ih hn nd.2;refine ⟨a',ws',ys',h1,by rw [List.getElem?_cons_succ];exact h2,List.mem_cons_of_mem _ h3,h4,h5,fun H' v d sm rv hd=>?_⟩;have hne:a≠a':=fun z=>by subst z;exact nd.1 h3
   exact .cons (by rw [aR hne];exact sm _ _ e) ((rr.same sm).upd p (sm _ _ h4) rfl) p (h6 H' v d sm rv hd)
theorem InK.at_ {k:Key} {y:D} (h:InK H kvs es as) (hn:bU es (kD k)=some y) (nd:as.Nodup):∃a ws ys,y=.lst ys/\lW kvs k=some (.ref a)/\a∈as/\H a=some (.lst ws)/\bB All H ws ys/\
  ∀(H':Hp) (v:V) (e:D),bN H H'->Rep All H' v e->e.pure=true->InK (L2.upd H' a (.lst (ws++[v]))) kvs (putD es (kD k) (.lst (ys++[e]))) as:=by
 induction h with
 | nil=>cases hn
 | @cons q a ws ys r es as e rr p t ih=>
  rw [List.nodup_cons] at nd;rw [bU,wV] at hn;by_cases hq:q=k
  ·subst hq;rw [decide_eq_true rfl,if_pos rfl] at hn;cases hn;refine ⟨a,ws,ys,rfl,?_,List.mem_cons_self ..,e,rr,fun H' v d sm rv hd=>?_⟩
   ·simp [lW]
   ·rw [putD,wV,decide_eq_true rfl,if_pos rfl];exact .cons aC (((rr.same sm).snoc rv).upd (iK p hd) (sm _ _ e) rfl) (iK p hd) ((t.same sm).upd nd.1 (sm _ _ e) rfl)
  ·rw [decide_eq_false hq,if_neg (by simp)] at hn;obtain ⟨a',ws',ys',h1,h2,h3,h4,h5,h6⟩:=ih hn nd.2;have hne:a≠a':=fun z=>by subst z;exact nd.1 h3
   refine ⟨a',ws',ys',h1,?_,List.mem_cons_of_mem _ h3,h4,h5,fun H' v d sm rv hd=>?_⟩
   ·rw [<-h2];simp [lW,hq]
   ·rw [putD,wV,decide_eq_false hq,if_neg (by simp)];exact .cons (by rw [aR hne];exact sm _ _ e) ((rr.same sm).upd p (sm _ _ h4) rfl) p (h6 H' v d sm rv hd)
theorem InA.reps (h:InA H as vs ds):bB All H vs ds:=by
 induction h with
 | nil=>exact .nil
 | cons m e r p t ih=>exact .cons (.lst e trivial r) ih
theorem InA.same (h:InA H as vs ds) (s:bN H H'):InA H' as vs ds:=by
 induction h with
 | nil=>exact .nil
 | cons m e r p t ih=>exact .cons m (s _ _ e) (r.same s) p ih
theorem InA.upd {x:Addr} {o u:HO} (h:InA H as vs ds) (hx:x∉as) (hu:H x=some u) (hm:nU u=true):InA (upd H x o) as vs ds:=by
 induction h with
 | nil=>exact .nil
 | cons m e r p t ih=>exact .cons m (by rw [aR (fun z=>hx (by rw [<-z];exact m))];exact e) (r.upd p hu hm) p ih
theorem Rep.aG2 {b x:Addr} {d:D} {o u:HO} (r:Rep All H (.ref b) d) (hi:inner d=true) (hx:x≠b) (hu:H x=some u) (hm:nU u=true):Rep All (L2.upd H x o) (.ref b) d:=by
 refine (r.aCd (P':=fun c=>c=b) hi rfl).keep (fun c oc hc hp=>?_) fun _ _=>trivial
 rw [aR]
 ·exact hc
 ·intro z;subst z;rcases hp with hp|hp
  ·exact hx hp
  ·rw [hu] at hc;cases hc;rw [hm] at hp;cases hp
variable {qb:Bool}
theorem n6.rep {b:Addr} {d:D} (h:n6 qb H b as d):Rep All H (.ref b) d:=by
 cases h with
 | lst e i=>exact .lst e trivial i.reps
 | dct e i n=>exact .dK e trivial i.reps n
 | pln z e m r p=>exact r
 | any z e i l=>exact .lst e trivial i.reps
theorem n6.same {b:Addr} {d:D} (h:n6 qb H b as d) (s:bN H H'):n6 qb H' b as d:=by
 cases h with
 | lst e i=>exact .lst (s _ _ e) (i.same s)
 | dct e i n=>exact .dct (s _ _ e) (i.same s) n
 | pln z e m r p=>exact .pln z (s _ _ e) m (r.same s) p
 | any z e i l=>exact .any z (s _ _ e) (i.same s) fun a ha=>let ⟨ws,h⟩:=l a ha;⟨ws,s _ _ h⟩
theorem n6.live {b:Addr} {d:D} (h:n6 qb H b as d):∀a∈b::as,∃o,H a=some o/\nU o=true:=by
 intro a ha;cases h with
 | lst e i=>
  rcases List.mem_cons.mp ha with rfl|ha
  ·exact ⟨_,e,rfl⟩
  ·obtain ⟨ws,h⟩:=i.live a ha;exact ⟨_,h,rfl⟩
 | dct e i n=>
  rcases List.mem_cons.mp ha with rfl|ha
  ·exact ⟨_,e,rfl⟩
  ·obtain ⟨ws,h⟩:=i.live a ha;exact ⟨_,h,rfl⟩
 | pln z e m r p=>
  subst z;rw [List.mem_singleton.mp ha];exact ⟨_,e,QL m⟩
 | any z e i l=>
  rcases List.mem_cons.mp ha with rfl|ha
  ·exact ⟨_,e,rfl⟩
  ·obtain ⟨ws,h⟩:=l a ha;exact ⟨_,h,rfl⟩
theorem n6.upd {b x:Addr} {d:D} {o u:HO} (h:n6 qb H b as d) (hx:x∉b::as) (hu:H x=some u) (hm:nU u=true):n6 qb (L2.upd H x o) b as d:=by
 rw [List.mem_cons,not_or] at hx;cases h with
 | lst e i=>exact .lst (by rw [aR (Ne.symm hx.1)];exact e) (i.upd hx.2 hu hm)
 | dct e i n=>exact .dct (by rw [aR (Ne.symm hx.1)];exact e) (i.upd hx.2 hu hm) n
 | pln z e m r p=>exact .pln z (by rw [aR (Ne.symm hx.1)];exact e) m (r.aG2 p hx.1 hu hm) p
 | any z e i l=>exact .any z (by rw [aR (Ne.symm hx.1)];exact e) (i.upd hx.2 hu hm) fun a ha=>let ⟨ws,h⟩:=l a ha;⟨ws,by rw [aR (fun z=>hx.2 (by rw [<-z];exact ha))];exact h⟩
end
structure NS (S:Nat->Bool) (c:Cel) (H:Hp) (σ:L2.St) (ρ:List D):Prop where
 len:σ.length=ρ.length
 dom:∀i p,c i=some p->S i=true
 nd:∀i b as,c i=some (b,as)->(b::as).Nodup
 dj:∀i j b as b' as',i≠j->c i=some (b,as)->c j=some (b',as')->∀a∈b::as,a∉b'::as'
 at_:∀i,ρ.getD i .uD≠.uD->∃v,σ[i]?=some (some v)/\(S i=false->Rep (fun a=>¬m_ c a) H v (ρ.getD i .uD))
 nst:∀i b as,c i=some (b,as)->σ[i]?=some (some (.ref b))/\n6 (S (i+1000)) H b as (ρ.getD i .uD)
 all:∀i,S i=true->ρ.getD i .uD≠.uD->∃p,c i=some p
variable {S:Nat->Bool}
theorem NS.er {c:Cel} {H:Hp} {σ:L2.St} {ρ:List D} (E:NS S c H σ ρ):ER H σ ρ:=fun i hi=>by
 obtain ⟨v,h1,h2⟩:=E.at_ i hi;cases ho:S i with
 | false=>exact ⟨v,h1,(h2 ho).all⟩
 | true=>
  obtain ⟨⟨b,as⟩,hp⟩:=E.all i ho hi;obtain ⟨h3,h4⟩:=E.nst i b as hp;exact ⟨_,h3,h4.rep⟩
theorem NS.live {c:Cel} {H:Hp} {σ:L2.St} {ρ:List D} (E:NS S c H σ ρ) {a:Addr} (h:m_ c a):∃o,H a=some o/\nU o=true:=by
 obtain ⟨i,b,as,hc,ha⟩:=h;exact (E.nst i b as hc).2.live a ha
theorem NS.same {c:Cel} {H H':Hp} {σ:L2.St} {ρ:List D} (E:NS S c H σ ρ) (s:bN H H'):NS S c H' σ ρ:=
 ⟨E.len,E.dom,E.nd,E.dj,fun i hi=>let ⟨v,h1,h2⟩:=E.at_ i hi;⟨v,h1,fun ho=>(h2 ho).same s⟩,fun i b as hc=>let ⟨h1,h2⟩:=E.nst i b as hc;⟨h1,h2.same s⟩,E.all⟩
noncomputable def KC (c:Cel) (H:Hp) (c':Cel) (H':Hp):Prop:=∀a o,H a=some o->¬m_ c a->H' a=some o/\¬m_ c' a
theorem KC.trans {c c1 c2:Cel} {H H1 H2:Hp} (a:KC c H c1 H1) (b:KC c1 H1 c2 H2):KC c H c2 H2:=fun x o e n=>let ⟨e1,n1⟩:=a x o e n;b x o e1 n1
theorem KC.same {c:Cel} {H H':Hp} (s:bN H H'):KC c H c H':=fun a o e n=>⟨s a o e,n⟩
theorem KC.rep {c c':Cel} {σ:L2.St} {H H':Hp} {ρ:List D} (k:KC c H c' H') (E:NS S c H σ ρ) {v:V} {d:D} (r:Rep (fun a=>¬m_ c a) H v d):Rep (fun a=>¬m_ c' a) H' v d:=by
 refine r.dom.keep (P':=fun a=>¬m_ c' a) (fun a o h hp=>?_) fun a ⟨h1,h2⟩=>?_
 ·by_cases ho:m_ c a
  ·obtain ⟨o',g1,g2⟩:=E.live ho;rw [h] at g1;cases g1;rcases hp with hp|hp
   ·exact absurd ho hp.1
   ·rw [g2] at hp;cases hp
  ·exact (k a o h ho).1
 ·cases q:H a with
  | none=>exact absurd q h2
  | some o=>exact (k a o q h1).2
noncomputable def kN (S:Nat->Bool) (D:Ends) (c:Cel) (H:Hp):Fl->Prop
 | .nx ρ=>∀c' σ' H',KC c H c' H'->NS S c' H' σ' ρ->D.nx σ' H'
 | .bk ρ=>∀c' σ' H',KC c H c' H'->NS S c' H' σ' ρ->D.bk σ' H'
 | .ct ρ=>∀c' σ' H',KC c H c' H'->NS S c' H' σ' ρ->D.ct σ' H'
 | .rt d=>∀v H',(∀a o,H a=some o->¬m_ c a->H' a=some o)->Rep (fun a=>m_ c a\/H a=none) H' v d->D.rt v H'
theorem kN.step {D:Ends} {c c':Cel} {H H':Hp} {fl:Fl} (k:KC c H c' H') (h:kN S D c H fl):kN S D c' H' fl:=by
 cases fl with
 | nx ρ=>exact fun c2 σ2 H2 k2 e=>h c2 σ2 H2 (k.trans k2) e
 | bk ρ=>exact fun c2 σ2 H2 k2 e=>h c2 σ2 H2 (k.trans k2) e
 | ct ρ=>exact fun c2 σ2 H2 k2 e=>h c2 σ2 H2 (k.trans k2) e
 | rt d=>
  refine fun v H2 hk r=>h v H2 (fun a o e n=>let ⟨e1,n1⟩:=k a o e n;hk a o e1 n1) (r.mono fun a ha=>?_)
  cases q:H a with
  | none=>exact .inr rfl
  | some o=>
   refine .inl (Classical.byContradiction fun n=>?_);obtain ⟨e1,n1⟩:=k a o q n;rcases ha with ha|ha
   ·exact n1 ha
   ·rw [e1] at ha;cases ha
noncomputable def tN (S:Nat->Bool) (f:FS):TS:=fun D σ H=>∃c ρ fl,NS S c H σ ρ/\f ρ=.ok fl/\kN S D c H fl
structure QS (X:Cx) (st:Stmt) (t:TS):Prop where
 out:PS X st t
structure QSs (X:Cx) (st:List Stmt) (t:TS):Prop where
 out:PSs X st t
section
variable {X:Cx} {a b c e:Expr} {pos pos':Pos} {fa fb fc fe:FE} {ra rb rc re:Bool} {ga gb gc:FT} {f g:FS} {st:Stmt} {rest s1 s2:List Stmt}
theorem n8:QSs X [] (tN S mQ):=QSs.mk <| PSs.imp KJ fun D σ H ⟨c,ρ,fl,E,h,q⟩=>by
 cases h;exact q c σ H (fun a o e n=>⟨e,n⟩) E
theorem bD (h1:QS X st (tN S f)) (h2:QSs X rest (tN S g)):QSs X (st::rest) (tN S (bO f g)):=QSs.mk <| PSs.imp (o8 h1.out h2.out) fun D σ H ⟨c,ρ,fl,E,h,q⟩=>by
 obtain ⟨r,h1,h2⟩:=aY h;refine ⟨c,ρ,r,E,h1,?_⟩;cases r with
 | nx ρ'=>exact fun c' σ' H' k E'=>⟨c',ρ',fl,E',h2,q.step k⟩
 | bk ρ'=>cases h2;exact q
 | ct ρ'=>cases h2;exact q
 | rt d=>cases h2;exact q
theorem cV (h1:QS X st (tN S f)):QSs X [st] (tN S f):=⟨tW h1.out⟩
theorem JM (hc:PT X c (gT gc)) (ha:QSs X s1 (tN S f)) (hb:QSs X s2 (tN S g)):QS X (.If c s1 s2 pos) (tN S (sIf gc f g)):=QS.mk <| PS.imp (aB2 hc ha.out hb.out) fun D σ H ⟨c',ρ,fl,E,h,q⟩=>by
 obtain ⟨k,h1,h2⟩:=aY h;refine ⟨ρ,k,E.er,h1,fun H' s=>?_⟩;cases k with
 | true=>rw [if_pos rfl];rw [if_pos rfl] at h2;exact ⟨c',ρ,fl,E.same s,h2,q.step (.same s)⟩
 | false=>rw [if_neg (by simp)];rw [if_neg (by simp)] at h2;exact ⟨c',ρ,fl,E.same s,h2,q.step (.same s)⟩
theorem tO (he:PE X e (gE fe re)):QS X (.Return (some e) pos) (tN S (pB fe re)):=QS.mk <| PS.imp (BP he) fun D σ H ⟨c,ρ,fl,E,h,q⟩=>by
 obtain ⟨d,h1,h2⟩:=aY h;split at h2
 ·rename_i hk;cases h2;refine ⟨ρ,d,E.er,h1,fun v H' s r n=>q v H' (fun a o e _=>s a o e) ?_⟩;rw [Bool.or_eq_true] at hk;rcases hk with hk|hk
  ·exact (n hk).mono fun a ha=>.inr ha
  ·exact r.bF hk
 ·cases h2
theorem NS.set {c:Cel} {H:Hp} {σ:L2.St} {ρ:List D} {i:Nat} {v:V} {d:D} (E:NS S c H σ ρ) (ho:S i=false) (r:Rep (fun a=>¬m_ c a) H v d):NS S c H (σ.set i (some v)) (ρ.set i d):=by
 have hne:∀j,S j=true->i≠j:=fun j hj z=>by subst z;rw [ho] at hj;cases hj
 refine ⟨by simp [E.len],E.dom,E.nd,E.dj,fun j hj=>?_,fun j b as hc=>?_,fun j hj hd=>?_⟩
 ·rw [aN] at hj ⊢;by_cases h:i=j/\i<ρ.length
  ·rw [if_pos h];obtain ⟨rfl,hl⟩:=h;exact ⟨v,by rw [List.getElem?_set_self (by rw [E.len];exact hl)],fun _=>r⟩
  ·rw [if_neg h] at hj ⊢;obtain ⟨w,h1,h2⟩:=E.at_ j hj;by_cases hij:i=j
   ·subst hij;have:i<σ.length:=(List.getElem?_eq_some_iff.mp h1).1;rw [E.len] at this;exact absurd ⟨rfl,this⟩ h
   ·exact ⟨w,by rw [List.getElem?_set_ne hij];exact h1,h2⟩
 ·have hij:=hne j (E.dom j _ hc);rw [aN,if_neg fun z=>hij z.1,List.getElem?_set_ne hij];exact E.nst j b as hc
 ·have hij:=hne j hj;rw [aN,if_neg fun z=>hij z.1] at hd;exact E.all j hj hd
theorem qX {i:Nat} {x:Str} (ho:S i=false) (hN:X.N.Nodup) (hi:X.N[i]?=some x) (hx:Loc X.env.scope x) (he:PE X e (gE fe re)) (hs:swapsWith e (some (.Name x pos')) pos.line X.env=pure false:=by rfl) (hf:X.fn x=true\/X.env.scope.names.lookup x=some .local:=by first|exact .inl rfl|exact .inr rfl|assumption) :
  QS X (.Assign [.Name x pos'] e pos) (tN S (b8 false i fe re)):=QS.mk <| PS.imp (lZ hN hi hx he hs hf) fun D σ H ⟨c,ρ,fl,E,h,q⟩=>by
 obtain ⟨d,h1,h2⟩:=aY h;simp only [Bool.false_eq_true,if_false] at h2;split at h2
 ·rename_i hk;cases h2;refine ⟨ρ,d,E.er,h1,fun v H' s r n=>?_⟩;rw [Bool.or_eq_true] at hk;have r2:Rep (fun a=>¬m_ c a) H' v d:=by
   rcases hk with hk|hk
   ·refine (n hk).mono fun a ha ho=>?_
    obtain ⟨o,h1,_⟩:=E.live ho;rw [show H a=none from ha] at h1;cases h1
   ·exact r.bF hk
  exact q c _ H' (.same s) ((E.same s).set ho r2)
 ·cases h2
theorem NS.app {c:Cel} {H:Hp} {σ:L2.St} {ρ:List D} {i:Nat} {b x:Addr} {as:List Addr} {d:D} {o u:HO} (E:NS S c H σ ρ) (hc:c i=some (b,as)) (hx:x∈b::as) (hu:H x=some u) (hm:nU u=true) (hn:n6 (S (i+1000)) (upd H x o) b as d):NS S c (upd H x o) σ (ρ.set i d)/\KC c H c (upd H x o):=by
 have hO:m_ c x:=⟨i,b,as,hc,hx⟩
 have k:KC c H c (upd H x o):=fun a oa e n=>⟨by rw [aR (fun z=>by subst z;exact n hO)];exact e,n⟩
 obtain ⟨hσ,_⟩:=E.nst i b as hc;have hl:i<ρ.length:=by rw [<-E.len];exact (List.getElem?_eq_some_iff.mp hσ).1
 have hS:=E.dom i _ hc;refine ⟨⟨by simp [E.len],E.dom,E.nd,E.dj,fun j hj=>?_,fun j b' as' hc'=>?_,fun j hj hd=>?_⟩,k⟩
 ·rw [aN] at hj ⊢;by_cases h:i=j/\i<ρ.length
  ·obtain ⟨rfl,_⟩:=h;exact ⟨_,hσ,fun z=>by rw [hS] at z;cases z⟩
  ·rw [if_neg h] at hj ⊢;obtain ⟨w,h1,h2⟩:=E.at_ j hj;exact ⟨w,h1,fun hj=>k.rep E (h2 hj)⟩
 ·by_cases hij:i=j
  ·subst hij;rw [hc] at hc';cases hc';rw [aN,if_pos ⟨rfl,hl⟩];exact ⟨hσ,hn⟩
  ·rw [aN,if_neg fun z=>hij z.1];obtain ⟨h1,h2⟩:=E.nst j b' as' hc';exact ⟨h1,h2.upd (E.dj i j b as b' as' hij hc hc' x hx) hu hm⟩
 ·by_cases hij:i=j
  ·subst hij;exact ⟨_,hc⟩
  ·rw [aN,if_neg fun z=>hij z.1] at hd;exact E.all j hj hd
noncomputable def aG3 (K:PySem.W.Frag):R2:=fun x y H Q=>aF4 K x y H Q\/∃a kvs k v,x=.ref a/\y=kV k/\H a=some (.dK kvs)/\lW kvs k=some v/\Q v H
theorem aF8 (hu:X.A.units+20<cLine):IxR X (aG3 X.K):=IxR.or tX fun value slice pins s σ H x y v u Q I rx ry h hs=>by
 obtain ⟨a,kvs,k,w,rfl,rfl,e,hv,q⟩:=h;cases rx;have g:K7 H a (kV k) (lW kvs k):=.k e;rw [hv] at g;exact qH hu I g ry hs (fun _ h=>h) q
theorem vA {i:Nat} {x:Str} {k:Expr} {fk:FE} {rk:Bool} {p1 p2 apos cpos:Pos} (hu:X.A.units+20<cLine) (ho:S i=true) (hN:X.N[i]?=some x) (hv:Vis X.env.scope x) (hk:PE X k (gE fk rk)) (he:PE X e (gE fe re)) (hp:pO k:=by exact fun _ _=>rfl) (hd:nDb x:=by decide) (hcd:nCd x:=by decide)
  (hbase:attributeBase (.Subscript (.Name x p1) k p2) "append" X.env (eval (.Subscript (.Name x p1) k p2) X.env)=eval (.Subscript (.Name x p1) k p2) X.env:=by rfl)
  (hs1:starEach [e] X.env=(false,eval e X.env)::starEach [] X.env:=by rfl)
  (hfew:((backTo cpos (starEach [e] X.env)).all (fun x=>!x.1)&&(backToKw cpos (keywordEach [] X.env)).all (fun x=>x.1.isSome)
   && decide (([e]:List Expr).length+([]:List Keyword).length+(if ([]:List Keyword).isEmpty then 0 else 1)<30))=true:=by rfl)
  (hline:(apos.endLine==cpos.line)=true:=by rfl)
  (hs:swapsWith (.Call (.Attribute (.Subscript (.Name x p1) k p2) "append" apos) [e] [] cpos) none pos.line X.env=pure false:=by rfl)
  (hq:S (i+1000)=false:=by rfl):QS X (.Expr (.Call (.Attribute (.Subscript (.Name x p1) k p2) "append" apos) [e] [] cpos) pos) (tN S (qW i fk fe)):=QS.mk <|
 PS.imp (nP (HN PySem.F.plainAttrs_list PySem.F.slot_list_append PySem.F.type_list_append gW (YH (aF8 hu) (dH hN hv hd hcd) hk hp) (eV he gU hs1) hbase hfew hline hs1 rfl) hs) fun D' σ H ⟨c,ρ,fl,E,h,q⟩=>by
 obtain ⟨d,h1,hA⟩:=aY h;obtain ⟨kd,h2,hB⟩:=aY hA;obtain ⟨ed,h3,hC⟩:=aY hB;obtain ⟨r,h4,hD⟩:=aY hC;cases hD;obtain ⟨v0,hv0,r0,e0⟩:=E.er.var h1;have hne:ρ.getD i .uD≠.uD:=fun z=>by rw [z] at e0;subst e0;exact Rep.uD r0
 obtain ⟨⟨b,as⟩,hc⟩:=E.all i ho hne;obtain ⟨hσ,hN0⟩:=E.nst i b as hc;have hnd:=E.nd i b as hc;rw [List.nodup_cons] at hnd;rw [e0,hq] at hN0;unfold QK at h4;split at h4
 ·rename_i xs j;split at h4
  ·rename_i n ys hix;split at h4
   ·rename_i hg;cases h4;rw [Bool.and_eq_true] at hg;obtain ⟨n',hx1,hx2⟩:=Option.bind_eq_some_iff.mp hix;obtain ⟨y',hx3,hx4⟩:=Option.map_eq_some_iff.mp hx2;cases hx4;refine ⟨.ref b,hσ,ρ,_,E.er,h2,fun kv H1 sm1 rk1 _=>?_⟩;cases rk1;have N1:=hN0.same sm1;cases N1 with
    | lst eb il=>
     obtain ⟨a,ws,zs,q1,q2,q3,q4,q5,q6⟩:=il.at_ hx3 hnd.2;cases q1;refine .inl ⟨b,_,j,.ref a,rfl,rfl,.of eb,by rw [W6,il.reps.length,hx1];exact q2,?_⟩;refine ⟨.inl ⟨rfl,_,.of q4⟩,ρ,_,E.er.same sm1,h3,fun ev H2 sm2 re2 _=>⟨a,ws,ev,rfl,rfl,sm2 _ _ q4,by rw [q5.length];exact qF hg.1,?_⟩⟩;obtain ⟨E2,k2⟩:=(E.same (sm1.trans sm2)).app (o:=.lst (ws++[ev])) hc (List.mem_cons_of_mem _ q3) (sm2 _ _ q4) rfl (.lst (by rw [aR (fun z=>hnd.1 (by rw [z];exact q3))];exact sm2 _ _ eb) (q6 H2 ev ed sm2 re2 hg.2));exact q c σ _ ((KC.same (sm1.trans sm2)).trans k2) E2
    | pln _ _ _ _ pp=>
     have:=VF pp hx3;cases this
    | any z=>cases z
   ·cases h4
  ·cases h4
 ·rename_i kvs;split at h4
  rotate_left
  ·cases h4
  rename_i hfk;obtain ⟨z,rfl⟩:∃z:Key,kd=kD z:=by
   cases kd <;> first|exact ⟨.inl _,rfl⟩|exact ⟨.inr _,rfl⟩|cases hfk
  split at h4
  ·rename_i ys hlk;split at h4
   ·rename_i hg;cases h4;rw [Bool.and_eq_true] at hg;refine ⟨.ref b,hσ,ρ,_,E.er,h2,fun kv H1 sm1 rk1 _=>?_⟩;obtain rfl:kv=kV z:=by
     cases z with
     | inl i=>cases rk1;rfl
     | inr x=>cases rk1;rfl
    have N1:=hN0.same sm1;cases N1 with
    | pln _ _ _ _ pp=>
     have:=QM pp hlk;cases this
    | dct eb il nk=>
     obtain ⟨a,ws,zs,q1,q2,q3,q4,q5,q6⟩:=il.at_ (k:=z) hlk hnd.2;cases q1;refine .inr ⟨b,_,z,.ref a,rfl,rfl,eb,q2,?_⟩;refine ⟨.inl ⟨rfl,_,.of q4⟩,ρ,_,E.er.same sm1,h3,fun ev H2 sm2 re2 _=>⟨a,ws,ev,rfl,rfl,sm2 _ _ q4,by rw [q5.length];exact qF hg.1,?_⟩⟩;obtain ⟨E2,k2⟩:=(E.same (sm1.trans sm2)).app (o:=.lst (ws++[ev])) hc (List.mem_cons_of_mem _ q3) (sm2 _ _ q4) rfl (.dct (by rw [aR (fun z=>hnd.1 (by rw [z];exact q3))];exact sm2 _ _ eb) (q6 H2 ev ed sm2 re2 hg.2) nk);exact q c σ _ ((KC.same (sm1.trans sm2)).trans k2) E2
   ·cases h4
  ·cases h4
 ·cases h4
end
end Mi
end
section
namespace Mi
open PySem L2 PySem.SeqAt PySem.Spec PyProof.Rows
variable [KFrag]
noncomputable def Z8 (H:Hp):List Addr->Hp
 | []=>H
 | a::as=>Z8 (upd H a (.lst [])) as
theorem qY:∀(as:List Addr) {H:Hp},as.Nodup->(∀a∈as,H a=none)->bN H (Z8 H as)
 | [],H,_,_=>bN.refl _
 | a::as,H,nd,h=>by
  rw [List.nodup_cons] at nd;refine (bN.upd (h a (List.mem_cons_self ..))).trans (qY as nd.2 fun x hx=>?_);rw [aR (fun z=>nd.1 (by rw [<-z];exact hx))];exact h x (List.mem_cons_of_mem _ hx)
theorem zW:∀(as:List Addr) {H:Hp} {x:Addr},as.Nodup->(∀a∈as,H a=none)->x∈as->Z8 H as x=some (.lst [])
 | [],H,x,_,_,hx=>by cases hx
 | a::as,H,x,nd,h,hx=>by
  rw [List.nodup_cons] at nd;have h':∀y∈as,upd H a (.lst []) y=none:=fun y hy=>by
   rw [aR (fun z=>nd.1 (by rw [<-z];exact hy))];exact h y (List.mem_cons_of_mem _ hy)
  rcases List.mem_cons.mp hx with rfl|hx
  ·exact qY as nd.2 h' _ _ aC
  ·exact zW as nd.2 h' hx
noncomputable def VG:Nat->TA
 | 0=>fun _ H Q=>Q [] H
 | n+1=>fun σ H Q=>∀p,H p=none->VG n σ (upd H p (.lst [])) fun xs H1=>Q (.ref p::xs) H1
theorem GF:∀(n:Nat) {σ:L2.St} {H:Hp} {Q:List V->Hp->Prop},(∀as:List Addr,as.length=n->as.Nodup->(∀a∈as,H a=none)->Q (as.map V.ref) (Z8 H as))->VG n σ H Q
 | 0,σ,H,Q,h=>h [] rfl List.nodup_nil fun _ z=>by cases z
 | n+1,σ,H,Q,h=>fun p hp=>GF n (σ:=σ) fun as hl nd hf=>by
  refine h (p::as) (by simp [hl]) (List.nodup_cons.mpr ⟨fun z=>?_,nd⟩) fun a ha=>?_
  ·have:=hf p z;rw [aC] at this;cases this
  ·rcases List.mem_cons.mp ha with rfl|ha
   ·exact hp
   ·have:=hf a ha;by_cases hap:a=p
    ·subst hap;exact hp
    ·rwa [aR hap] at this
theorem QR:∀(as:List Addr) {H:Hp},(∀a∈as,H a=some (.lst []))->InL H (as.map V.ref) (List.replicate as.length (.lst [])) as
 | [],H,_=>.nil
 | a::as,H,h=>.cons (h a (List.mem_cons_self ..)) .nil rfl (QR as fun x hx=>h x (List.mem_cons_of_mem _ hx))
variable {S:Nat->Bool}
theorem NS.new {c:Cel} {H H':Hp} {σ:L2.St} {ρ:List D} {i:Nat} {b:Addr} {as:List Addr} {d:D} (E:NS S c H σ ρ) (ho:S i=true) (hl:i<σ.length) (sm:bN H H') (nd:(b::as).Nodup) (hf:∀a∈b::as,H a=none) (hn:n6 (S (i+1000)) H' b as d):∃c',NS S c' H' (σ.set i (some (.ref b))) (ρ.set i d)/\KC c H c' H':=by
 have hlv:∀a,m_ c a->a∉b::as:=fun a ha z=>by
  obtain ⟨o,h1,_⟩:=E.live ha;rw [hf a z] at h1;cases h1
 have own:∀a,m_ (fun j=>if j=i then some (b,as) else c j) a->m_ c a\/a∈b::as:=fun a ⟨j,b',as',hc,ha⟩=>by
  by_cases hj:j=i
  ·simp only [hj,if_true,Option.some.injEq,Prod.mk.injEq] at hc;obtain ⟨rfl,rfl⟩:=hc;exact .inr ha
  ·simp only [hj,if_false] at hc;exact .inl ⟨j,b',as',hc,ha⟩
 have k:KC c H (fun j=>if j=i then some (b,as) else c j) H':=fun a o e n=>⟨sm a o e,fun z=>by
  rcases own a z with z|z
  ·exact n z
  ·rw [hf a z] at e;cases e⟩
 have hlr:i<ρ.length:=by rw [<-E.len];exact hl
 refine ⟨fun j=>if j=i then some (b,as) else c j,⟨by simp [E.len],fun j p hc=>?_,fun j b' as' hc=>?_,fun j1 j2 b1 as1 b2 as2 hne h1 h2 a ha=>?_,fun j hj=>?_,fun j b' as' hc=>?_,fun j hj hd=>?_⟩,k⟩
 ·by_cases hj:j=i
  ·rw [hj];exact ho
  ·simp only [hj,if_false] at hc;exact E.dom j p hc
 ·by_cases hj:j=i
  ·simp only [hj,if_true,Option.some.injEq,Prod.mk.injEq] at hc;obtain ⟨rfl,rfl⟩:=hc;exact nd
  ·simp only [hj,if_false] at hc;exact E.nd j b' as' hc
 ·by_cases e1:j1=i
  ·by_cases e2:j2=i
   ·exact absurd (e1.trans e2.symm) hne
   ·simp only [e1,if_true,Option.some.injEq,Prod.mk.injEq] at h1;simp only [e2,if_false] at h2;obtain ⟨rfl,rfl⟩:=h1;exact fun z=>hlv a ⟨j2,b2,as2,h2,z⟩ ha
  ·simp only [e1,if_false] at h1;by_cases e2:j2=i
   ·simp only [e2,if_true,Option.some.injEq,Prod.mk.injEq] at h2;obtain ⟨rfl,rfl⟩:=h2;exact hlv a ⟨j1,b1,as1,h1,ha⟩
   ·simp only [e2,if_false] at h2;exact E.dj j1 j2 b1 as1 b2 as2 hne h1 h2 a ha
 ·rw [aN] at hj ⊢;by_cases h:i=j/\i<ρ.length
  ·obtain ⟨rfl,_⟩:=h;exact ⟨.ref b,by rw [List.getElem?_set_self hl],fun z=>by rw [ho] at z;cases z⟩
  ·rw [if_neg h] at hj ⊢;have hij:i≠j:=fun z=>h ⟨z,hlr⟩
   obtain ⟨w,h1,h2⟩:=E.at_ j hj;exact ⟨w,by rw [List.getElem?_set_ne hij];exact h1,fun hs=>k.rep E (h2 hs)⟩
 ·by_cases hj:j=i
  ·subst hj;simp only [if_true,Option.some.injEq,Prod.mk.injEq] at hc;obtain ⟨rfl,rfl⟩:=hc;rw [aN,if_pos ⟨rfl,hlr⟩,List.getElem?_set_self hl];exact ⟨rfl,hn⟩
  ·simp only [hj,if_false] at hc;rw [aN,if_neg fun z=>hj z.1.symm,List.getElem?_set_ne (Ne.symm hj)];obtain ⟨h1,h2⟩:=E.nst j b' as' hc;exact ⟨h1,h2.same sm⟩
 ·by_cases hji:j=i
  ·exact ⟨(b,as),by simp [hji]⟩
  ·rw [aN,if_neg fun z=>hji z.1.symm] at hd;obtain ⟨p,hp⟩:=E.all j hj hd;exact ⟨p,by simp [hji,hp]⟩
section
variable {X:Cx} {a b c e:Expr} {es:List Expr} {pos pos':Pos} {fa fb fc fe:FE} {ra rb rc re:Bool} {ga gb gc:FT} {f g:FS} {st:Stmt} {n:Nat}
theorem aEj:PA X [] (VG 0):=gU
theorem Z9 {i:Nat} {x:Str} {p2:Pos} (ho:S i=true) (hN:X.N.Nodup) (hi:X.N[i]?=some x) (hx:Loc X.env.scope x) (ha:PA X es (VG n)) (hn:n<=1000) (hs:swapsWith (.List es p2) (some (.Name x pos')) pos.line X.env=pure false:=by rfl) (hf:X.fn x=true\/X.env.scope.names.lookup x=some .local:=by first|exact .inl rfl|exact .inr rfl|assumption) :
  QS X (.Assign [.Name x pos'] (.List es p2) pos) (tN S (Z7 i (aEi n))):=QS.mk fun pins s σ H D I ⟨c,ρ,fl,E,h,q⟩=>by
 cases h;have hl:i<σ.length:=by
  rw [I.len];exact (List.getElem?_eq_some_iff.mp hi).1
 refine lZ hN hi hx (tD ha) hs hf pins s σ H D I (GF n fun as hln nd hfr=>⟨by rw [List.length_map,hln,sizeLine_eq];lia,fun b hb=>?_⟩);have sm1:=qY as nd hfr;have hbn:b∉as:=fun z=>by rw [zW as nd hfr z] at hb;cases hb
 have sm2:bN (Z8 H as) (upd (Z8 H as) b (.lst (as.map V.ref))):=bN.upd hb;have hbH:H b=none:=sm1.free hb;obtain ⟨c',E',k⟩:=E.new (i:=i) (b:=b) (as:=as) (d:=aEi n) ho hl (sm1.trans sm2) (List.nodup_cons.mpr ⟨hbn,nd⟩) (fun a ha=>by
  rcases List.mem_cons.mp ha with rfl|ha
  ·exact hbH
  ·exact hfr a ha) (.lst aC (by
   have:=QR as (H:=upd (Z8 H as) b (.lst (as.map V.ref))) fun a ha=>sm2 _ _ (zW as nd hfr ha)
   rw [hln] at this;exact this))
 exact q c' _ _ k E'
noncomputable def TgN (S:Nat->Bool) (g:TG) (t:D->List D->Res (List D)):Prop:=∀(v:V) (d:D) (ρ ρ':List D) (σ:L2.St) (H:Hp) (c:Cel) (Q:L2.St->Hp->Prop),NS S c H σ ρ->Rep (fun a=>¬m_ c a) H v d->t d ρ=.ok ρ'->(∀σ',NS S c H σ' ρ'->Q σ' H)->g v σ H Q
theorem Z_ {i:Nat} (ho:S i=false):TgN S (rT i) (tg1 i):=fun v d ρ ρ' σ H c Q E r h q=>by
 cases h;exact q _ (E.set ho r)
theorem NS.sets {c:Cel} {H:Hp}:∀{is:List Nat} {vs:List V} {ds:List D} {σ:L2.St} {ρ:List D},(∀i∈is,S i=false)->NS S c H σ ρ->bB (fun a=>¬m_ c a) H vs ds->NS S c H (kW is vs σ) (M6 is ds ρ)
 | [],_,_,_,_,_,E,_=>by simp only [kW,M6];exact E
 | i::is,_,_,σ,ρ,h,E,.nil=>by simp only [kW,M6];exact E
 | i::is,_,_,σ,ρ,h,E,.cons r t=>NS.sets (is:=is) (fun j hj=>h j (List.mem_cons_of_mem _ hj)) (E.set (h i (List.mem_cons_self ..)) r) t
theorem qZ (K:PySem.W.Frag) {is:List Nat} (ho:∀i∈is,S i=false):TgN S (aDp K is.length (gIx is)) (tgN is):=fun v d ρ ρ' σ H c Q E r h q=>by
 cases d <;> simp only [tgN] at h <;> (try (cases h;done))
 split at h
 ·rename_i hl;cases h;have hl':=of_decide_eq_true hl;obtain ⟨a,xs,rfl,e,rr⟩:=r.dG;exact ⟨a,xs,rfl,.of e,by rw [rr.length];exact hl',zR _ _ _ (by rw [rr.length];exact hl') (q _ (E.sets ho rr))⟩
 ·cases h
theorem ItQ.kc {K:PySem.W.Frag} {J:It} {items:List D} {c c':Cel} {σ:L2.St} {H H':Hp} {ρ:List D} (h:ItQ K (fun a=>¬m_ c a) J H items) (k:KC c H c' H') (E:NS S c H σ ρ):ItQ K (fun a=>¬m_ c' a) J H' items:=by
 cases h with
 | lst a e r=>exact .lst a e (k.rep E r)
 | tup a e r=>exact .tup a e (k.rep E r)
 | rng lo n e r=>exact .rng lo n e r
 | chs x e r=>exact .chs x e r
 | enm a ds e r h=>exact .enm a ds e (k.rep E r) h
 | enf m a ds e r h=>exact .enf m a ds e (k.rep E r) h
 | zip a b ds es e r q n h=>exact .zip a b ds es e (k.rep E r) (k.rep E q) n h
 | scr a hK e r=>exact .scr a hK e (k.rep E r)
theorem xJ {K:PySem.W.Frag} {g:TG} {t:D->List D->Res (List D)} {fb:FS} {D':Ends} {J:It} {items:List D} {c:Cel} {σ:L2.St} {H1:Hp} {ρ:List D} {fl:Fl} (ht:TgN S g t) (E:NS S c H1 σ ρ) (hJ:ItQ K (fun a=>¬m_ c a) J H1 items) (hf:lY t fb items ρ=.ok fl) (q:kN S D' c H1 fl) :
  ∃W:Nat->Nat->L2.St->Hp->Prop,(∃m,W 0 m σ H1)/\∀i m σ H,W i m σ H->
   (J.stop i H/\D'.nx σ H)\/(J.go i H/\∃N:L2.St->Hp->Prop,(∀σ' H',N σ' H'->∃m',m'<m/\W (i+1) m' σ' H')/\∀x H',J.yld i H x H'->g x σ H' fun σ2 H2=>tN S fb {D' with nx:=N,ct:=N,bk:=D'.nx} σ2 H2):=by
  refine ⟨fun i m σ' H'=>m=items.length-i/\i<=items.length/\∃c' ρ',ItQ K (fun a=>¬m_ c' a) J H' items/\NS S c' H' σ' ρ'/\lY t fb (items.drop i) ρ'=.ok fl/\kN S D' c' H' fl,⟨items.length,rfl,Nat.zero_le _,c,ρ,hJ,E,hf,q⟩,?_⟩;rintro i m σ' H' ⟨rfl,hi,c',ρ',hJ',E',hf',q'⟩;rcases Nat.lt_or_ge i items.length with hlt|hge
  ·refine .inr ?_;have e:items[i]?=some items[i]:=List.getElem?_eq_getElem hlt;obtain ⟨g1,g2⟩:=hJ'.go e;rw [List.drop_eq_getElem_cons hlt] at hf';obtain ⟨ρ1,h1,hf2⟩:=aY hf';obtain ⟨r,h2,hf3⟩:=aY hf2;refine ⟨g1,fun σ2 H2=>∃c' ρ',ItQ K (fun a=>¬m_ c' a) J H2 items/\NS S c' H2 σ2 ρ'/\lY t fb (items.drop (i+1)) ρ'=.ok fl/\kN S D' c' H2 fl,fun σ2 H2 n2=>⟨items.length-(i+1),by lia,rfl,hlt,n2⟩,fun x H2 hy=>?_⟩;obtain ⟨sH,rx⟩:=g2 x H2 hy;have hJ2:=hJ'.kc (.same sH) E';have q2:=q'.step (.same sH);refine ht x items[i] ρ' ρ1 σ' H2 c' _ (E'.same sH) rx h1 fun σ2 E2=>⟨c',ρ1,r,E2,h2,?_⟩
   cases r with
   | nx ρ2=>exact fun c3 σ3 H3 k3 E3=>⟨c3,ρ2,hJ2.kc k3 E2,E3,hf3,q2.step k3⟩
   | ct ρ2=>exact fun c3 σ3 H3 k3 E3=>⟨c3,ρ2,hJ2.kc k3 E2,E3,hf3,q2.step k3⟩
   | bk ρ2=>cases hf3;exact fun c3 σ3 H3 k3 E3=>q2 c3 σ3 H3 k3 E3
   | rt d=>cases hf3;exact q2
  ·refine .inl ⟨hJ'.stop hge,?_⟩;rw [List.drop_eq_nil_of_le hge] at hf';cases hf';exact q' c' σ' H' (fun a o e n=>⟨e,n⟩) E'
theorem xK {tg iter:Expr} {body:List Stmt} {g:TG} {t:D->List D->Res (List D)} {it:FI} {fb:FS} (hp:PassesOwn (model X.prog X.w) X.A X.env X.xe) (hc:X.calm=true) (hi:PI X tg iter (gI X.K it)) (ht:TgN S g t) (hg:PG X tg g) (hb:QSs X body (tN S fb))
  (hs:∀x,foldedSetIterable iter X.env x=pure x:=by intro _;rfl):QS X (.For tg iter body [] pos) (tN S (wN it t fb)):=QS.mk <| PS.imp (pM hp hc hi hg hb.out hs) fun D' σ H ⟨c,ρ,fl,E,h,q⟩=>by
 obtain ⟨⟨items,k⟩,h1,h2⟩:=aY h;split at h2
 ·rename_i hk;refine ⟨ρ,items,k,E.er,h1,fun J H1 s1 _ hJ=>xJ ht (E.same s1) ((hJ hk).keep (fun _ _ e _=>e) fun a ha ho=>?_) h2 (q.step (.same s1))⟩;obtain ⟨o,e1,_⟩:=E.live ho;rw [show H a=none from ha] at e1;cases e1
 ·cases h2
theorem aA0 {tg:Expr} {body:List Stmt} {g:TG} {t:D->List D->Res (List D)} {i:Nat} {x:Str} {px:Pos} {fb:FS} (ho:S i=false) (hp:PassesOwn (model X.prog X.w) X.A X.env X.xe) (hc:X.calm=true) (hN:X.N[i]?=some x) (hv:Vis X.env.scope x) (ht:TgN S g t) (hg:PG X tg g) (hb:QSs X body (tN S fb))
  (hs:∀z,foldedSetIterable (.Name x px) X.env z=pure z:=by intro _;rfl) (hd:nDb x:=by decide) (hcd:nCd x:=by decide):QS X (.For tg (.Name x px) body [] pos) (tN S (IK i t fb)):=QS.mk <| PS.imp (pM hp hc (W8 hN hv hd hcd) hg hb.out hs) fun D' σ H ⟨c,ρ,fl,E,h,q⟩=>by
 obtain ⟨d,h1,h⟩:=aY h;obtain ⟨items,h2,h3⟩:=aY h;obtain ⟨v,hv,r,e⟩:=E.er.var h1;have hne:ρ.getD i .uD≠.uD:=fun z=>by
  rw [z] at e;subst e;exact Rep.uD r
 obtain ⟨w,hw,hr⟩:=E.at_ i hne;rw [hv] at hw;cases hw;have r2:=hr ho;rw [e] at r2;exact ⟨v,d,items,hv,r,h2,fun J hJ=>xJ ht E (hJ _ r2) h3 q⟩
end
theorem VH {N ps:List Str} {f:FS} {vs:List V} {H:Hp} {Q:VK} {E:XK} (hown:∀i,i<ps.length->S i=false) (h0:spD (fnS ps.length N.length f) ps.length vs H Q E):tN S f {nx:=fun _ H'=>Q .non H',rt:=Q} (start N vs) H:=by
 obtain ⟨ds,d,hl,r,h,q⟩:=h0;obtain ⟨fl,h1,h2⟩:=aY h;have hst:start N vs=vs.map some++List.replicate (N.length-ps.length) none:=by
  show vs.map some++List.replicate (N.length-vs.length) none=_;rw [r.length,hl]
 have no:∀a,¬m_ (fun _=>none) a:=fun a ⟨i,b,as,hc,_⟩=>by cases hc
 have old:=FW (own:=fun _=>false) hst hl r (fun _ _=>rfl) fun a ⟨i,hi,_⟩=>by cases hi
 have hlt:∀i,(ds++List.replicate (N.length-ps.length) D.uD).getD i .uD≠.uD->i<ps.length:=fun i hi=>Nat.lt_of_not_le fun hge=>hi (by
  rw [List.getD_eq_getElem?_getD,List.getElem?_append_right (by lia),List.getElem?_replicate];split <;> rfl)
 have E0:NS S (fun _=>none) H (start N vs) (ds++List.replicate (N.length-ps.length) .uD):=by
  refine ⟨old.len,fun i p hc=>(by cases hc),fun i b as hc=>(by cases hc),fun i j b as b' as' _ hc=>(by cases hc),fun i hi=>?_,fun i b as hc=>(by cases hc),fun i hi hd=>?_⟩
  ·obtain ⟨v,g1,g2⟩:=old.at_ i hi;exact ⟨v,g1,fun _=>(g2 rfl).mono fun a _=>no a⟩
  ·rw [hown i (hlt i hd)] at hi;cases hi
 refine ⟨_,_,fl,E0,h1,?_⟩;have sm:∀{c':Cel} {H':Hp},KC (fun _=>none) H c' H'->bN H H':=fun k a o e=>(k a o e (no a)).1
 cases fl with
 | nx ρ'=>cases h2;exact fun c' σ' H' k E'=>q .non H' (sm k) .non fun _=>.non
 | rt d'=>
  cases h2;refine fun v H' hk rp=>q v H' (fun a o e=>hk a o e (no a)) rp.all fun _=>rp.mono fun a ha=>?_
  rcases ha with ha|ha
  ·exact absurd ha (no a)
  ·exact ha
 | bk ρ'=>cases h2
 | ct ρ'=>cases h2
theorem XC {P:Program} {w:World} {K:PySem.W.Frag} {mg:Str->Option Value} {base:Heap} {x qual:Str} {st:Stmt} {fad:Addr} {fd:FuncData} {N ps:List Str} {k:Nat} {f:FS} (F:Fun K x qual st fad fd) (sc:bY N ps (aQ st)) (S:Nat->Bool) (hown:∀i,i<ps.length->S i=false) (hNl:ps.length<=N.length)
  (hbody:∀(cdv:Value) (A:Around) (outer:List Env) (s:Shared) (H:Hp) (E:XK),o9 k (A.deeper (envOfC qual (aQ st) s.heap.objs.size fad cdv))->QSs (R4 CX0 P w K mg base N qual (aQ st) fad cdv A outer s H E).nox (eX st) (tN S f)):HF P w K mg base CX0 (k+1) fad fd ps (spD (fnS ps.length N.length f) ps.length):=
 F.ok sc (fun vs H Q E h=>O6 h) fun cdv A outer s H vs Q E hr h=>⟨_,(hbody cdv A outer s H E hr).out,VH hown h⟩
theorem zX {P:Program} {w:World} {K:PySem.W.Frag} {mg:Str->Option Value} {base:Heap} {x:Str} {k:Nat} {st:Stmt} {fad:Addr} {fd:FuncData} {N ps:List Str} {fs:FS} (F:Fun K x x st fad fd) (hm:mg x=some (.ref fad)) (hb:Binds K fd ps []) (sc:bY N ps (aQ st)) (S:Nat->Bool) (hown:∀i,i<ps.length->S i=false) (hNl:ps.length<=N.length)
  (hbody:∀(cdv:Value) (A:Around) (outer:List Env) (s:Shared) (H:Hp) (E:XK),o9 k (A.deeper (envOfC x (aQ st) s.heap.objs.size fad cdv))->QSs (R4 CX0 P w K mg base N x (aQ st) fad cdv A outer s H E).nox (eX st) (tN S fs)):cY P w K mg base (k+1) x ps.length (fnS ps.length N.length fs):=
 ⟨fad,fd,ps,XC F sc S hown hNl hbody,hm,F.kp,hb⟩
end Mi
end
section
namespace Mi
open PySem L2 PySem.SeqAt PySem.Spec PyProof.Rows
noncomputable def vB:D->Bool
 | .lst _=>true
 | _=>false
noncomputable def aCn (i:Nat) (f:FE):FS:=fun ρ=>do
 let d <- f ρ
 match d with
 | .lst ds=>if D.aW ds then .ok (.nx (ρ.set i (.lst ds))) else .bad
 | _=>.bad
noncomputable def sMv (i j:Nat):FS:=fun ρ=>match ρ.getD i .uD,ρ.getD j .uD with
 | .lst xs,.lst ys=>if decide (xs.length<lim)&&xs.all vB&&D.aW ys then .ok (.nx ((ρ.set i (.lst (xs++[.lst ys]))).set j .uD)) else .bad
 | _,_=>.bad
variable [KFrag]
variable {S:Nat->Bool}
theorem InL.aA1 {H:Hp} {vs:List V} {ds:List D} {as:List Addr} {P:Addr->Prop} (h:InL H vs ds as) (hp:∀a∈as,P a):bB P H vs ds:=by
 induction h with
 | nil=>exact .nil
 | cons e r p t ih=>exact .cons (.lst e (hp _ (List.mem_cons_self ..)) (r.bF p)) (ih fun a ha=>hp a (List.mem_cons_of_mem _ ha))
theorem InK.aA1 {H:Hp} {vs:List (Key×V)} {ds:List (D×D)} {as:List Addr} {P:Addr->Prop} (h:InK H vs ds as) (hp:∀a∈as,P a):kO P H vs ds:=by
 induction h with
 | nil=>exact .nil
 | cons e r p t ih=>exact .cons (.lst e (hp _ (List.mem_cons_self ..)) (r.bF p)) (ih fun a ha=>hp a (List.mem_cons_of_mem _ ha))
theorem InA.aA1 {H:Hp} {vs:List V} {ds:List D} {as:List Addr} {P:Addr->Prop} (h:InA H as vs ds) (hp:∀a∈as,P a):bB P H vs ds:=by
 induction h with
 | nil=>exact .nil
 | cons m e r p t ih=>exact .cons (.lst e (hp _ m) (r.bF p)) ih
theorem n6.aA1 {qb:Bool} {H:Hp} {b:Addr} {as:List Addr} {d:D} {P:Addr->Prop} (h:n6 qb H b as d) (hp:∀a∈b::as,P a):Rep P H (.ref b) d:=by
 have hb:=hp b (List.mem_cons_self ..);have ha:∀a∈as,P a:=fun a h=>hp a (List.mem_cons_of_mem _ h)
 cases h with
 | lst e i=>exact .lst e hb (i.aA1 ha)
 | dct e i n=>exact .dK e hb (i.aA1 ha) n
 | pln z e m r p=>exact r.aCd p hb
 | any z e i l=>exact .lst e hb (i.aA1 ha)
theorem InL.snoc {H:Hp} {vs:List V} {ds:List D} {as:List Addr} {a:Addr} {ws:List V} {ys:List D} (h:InL H vs ds as) (e:H a=some (.lst ws)) (r:bB All H ws ys) (p:D.aW ys=true):InL H (vs++[.ref a]) (ds++[.lst ys]) (as++[a]):=by
 induction h with
 | nil=>exact .cons e r p .nil
 | cons e' r' p' t ih=>exact .cons e' r' p' ih
section
variable {X:Cx} {e:Expr} {pos pos':Pos} {fe:FE} {re:Bool}
theorem aCo {i:Nat} {x:Str} (ho:S i=true) (hN:X.N.Nodup) (hi:X.N[i]?=some x) (hx:Loc X.env.scope x) (he:PE X e (gE fe true)) (hs:swapsWith e (some (.Name x pos')) pos.line X.env=pure false:=by rfl) (hf:X.fn x=true\/X.env.scope.names.lookup x=some .local:=by first|exact .inl rfl|exact .inr rfl|assumption) :
  QS X (.Assign [.Name x pos'] e pos) (tN S (aCn i fe)):=QS.mk fun pins s σ H D I ⟨c,ρ,fl,E,h,q⟩=>by
 have hl:i<σ.length:=by
  rw [I.len];exact (List.getElem?_eq_some_iff.mp hi).1
 obtain ⟨d,h1,h2⟩:=aY h;refine lZ hN hi hx he hs hf pins s σ H D I ⟨ρ,d,E.er,h1,fun v H' sm r n=>?_⟩;split at h2
 ·rename_i ds;split at h2
  ·rename_i hp;cases h2;have n':=n rfl;cases n' with
   | lst ea pa ra=>
    obtain ⟨c',E',k⟩:=E.new (i:=i) (as:=[]) ho hl sm (by simp) (fun a ha=>by rw [List.mem_singleton.mp ha];exact pa) (.pln rfl ea rfl (.lst ea trivial ra.all) hp);exact q c' _ _ k E'
  ·cases h2
 ·cases h2
theorem QT {i:Nat} {x:Str} (ho:S i=true) (hN:X.N[i]?=some x) (hv:Vis X.env.scope x) (hd:nDb x:=by decide) (hcd:nCd x:=by decide):QS X (.Return (some (.Name x pos')) pos) (tN S (wM i)):=QS.mk <|
 PS.imp (BP (dH hN hv hd hcd)) fun D σ H ⟨c,ρ,fl,E,h,q⟩=>by
 obtain ⟨d,h1,h2⟩:=aY h;cases h2;obtain ⟨v,hσ,r,e⟩:=E.er.var h1;have hne:ρ.getD i .uD≠.uD:=fun z=>by rw [z] at e;subst e;exact Rep.uD r
 obtain ⟨⟨b,as⟩,hc⟩:=E.all i ho hne;obtain ⟨h3,h4⟩:=E.nst i b as hc;rw [e] at h4;exact ⟨_,h3,q _ H (fun a o e _=>e) (h4.aA1 fun a ha=>.inl ⟨i,b,as,hc,ha⟩)⟩
theorem aEk {i j:Nat} {x y:Str} {p1 p2 apos cpos:Pos} (hi:S i=true) (hj:S j=true) (hij:i≠j) (hN:X.N[i]?=some x) (hv:Vis X.env.scope x) (hNj:X.N[j]?=some y) (hvj:Vis X.env.scope y) (hd:nDb x:=by decide) (hcd:nCd x:=by decide) (hdy:(y==("__debug__" : Str))=false:=by decide) (hcdy:(y==("__classdict__" : Str))=false:=by decide)
  (hbase:attributeBase (.Name x p1) "append" X.env (eval (.Name x p1) X.env)=eval (.Name x p1) X.env:=by rfl)
  (hs1:starEach [.Name y p2] X.env=(false,eval (.Name y p2) X.env)::starEach [] X.env:=by rfl)
  (hfew:((backTo cpos (starEach [.Name y p2] X.env)).all (fun x=>!x.1)&&(backToKw cpos (keywordEach [] X.env)).all (fun x=>x.1.isSome)
   && decide (([.Name y p2]:List Expr).length+([]:List Keyword).length+(if ([]:List Keyword).isEmpty then 0 else 1)<30))=true:=by rfl)
  (hline:(apos.endLine==cpos.line)=true:=by rfl)
  (hs:swapsWith (.Call (.Attribute (.Name x p1) "append" apos) [.Name y p2] [] cpos) none pos.line X.env=pure false:=by rfl)
  (hq:S (i+1000)=false:=by rfl):QS X (.Expr (.Call (.Attribute (.Name x p1) "append" apos) [.Name y p2] [] cpos) pos) (tN S (sMv i j)):=QS.mk <|
 PS.imp (nP (HN PySem.F.plainAttrs_list PySem.F.slot_list_append PySem.F.type_list_append gW (dH hN hv hd hcd) (eV (dH hNj hvj hdy hcdy) gU hs1) hbase hfew hline hs1 rfl) hs) fun D' σ H ⟨c,ρ,fl,E,h,q⟩=>by
 unfold sMv at h;split at h
 ·rename_i xs ys hx hy;split at h
  ·rename_i hg;cases h;simp only [Bool.and_eq_true,decide_eq_true_eq] at hg;obtain ⟨⟨hg1,hg2⟩,hg3⟩:=hg;obtain ⟨⟨b,as⟩,hc⟩:=E.all i hi (by rw [hx];intro z;cases z);obtain ⟨⟨a,as'⟩,hc'⟩:=E.all j hj (by rw [hy];intro z;cases z);obtain ⟨hσ,hNi⟩:=E.nst i b as hc;obtain ⟨hσj,hNj0⟩:=E.nst j a as' hc';rw [hx,hq] at hNi;rw [hy] at hNj0;obtain ⟨vs,eb,il⟩:∃vs,H b=some (.lst vs)/\InL H vs xs as:=by
    cases hNi with
    | lst e i=>exact ⟨_,e,i⟩
    | any z=>cases z
    | pln z e m r p=>
     cases xs with
     | nil=>
      obtain ⟨vs,e',r'⟩:=tL r;cases r';subst z;exact ⟨[],e',.nil⟩
     | cons d ds=>
      rw [inner,D.aW,Bool.and_eq_true] at p;rw [List.all_cons,Bool.and_eq_true] at hg2;cases d <;> simp [vB] at hg2
      rw [D.pure] at p;cases p.1
   obtain ⟨ws,ea,ra⟩:∃ws,H a=some (.lst ws)/\bB All H ws ys:=by
    cases hNj0 with
    | lst e i=>exact ⟨_,e,i.reps⟩
    | pln z e m r p=>exact tL r
    | any z e i l=>exact ⟨_,e,i.reps⟩
   have hdj:=E.dj j i a as' b as (Ne.symm hij) hc' hc;have hab:a∉b::as:=hdj a (List.mem_cons_self ..);have hnab:a≠b:=fun z=>hab (by rw [z];exact List.mem_cons_self ..)
   have hnd:=E.nd i b as hc;rw [List.nodup_cons] at hnd;refine ⟨.ref b,hσ,.inl ⟨rfl,vs,.of eb⟩,.ref a,hσj,b,vs,.ref a,rfl,rfl,eb,by rw [il.reps.length];exact qF (decide_eq_true hg1),?_⟩;have lenr:∀n v,σ[n]?=some (some v)->n<ρ.length:=fun n v h=>by rw [<-E.len];exact (List.getElem?_eq_some_iff.mp h).1
   have li:=lenr i _ hσ;have lj:=lenr j _ hσj;have hob:m_ c b:=⟨i,b,as,hc,List.mem_cons_self ..⟩
   have own:∀z,m_ (fun k=>if k=i then some (b,as++[a]) else if k=j then none else c k) z->m_ c z:=fun z ⟨k,b',as2,hk,hz⟩=>by
    by_cases e1:k=i
    ·simp only [e1,if_true,Option.some.injEq,Prod.mk.injEq] at hk;obtain ⟨rfl,rfl⟩:=hk;rcases List.mem_cons.mp hz with hz|hz
     ·exact ⟨i,b,as,hc,by rw [hz];exact List.mem_cons_self ..⟩
     ·rcases List.mem_append.mp hz with hz|hz
      ·exact ⟨i,b,as,hc,List.mem_cons_of_mem _ hz⟩
      ·rw [List.mem_singleton.mp hz];exact ⟨j,a,as',hc',List.mem_cons_self ..⟩
    ·by_cases e2:k=j
     ·simp [e2,Ne.symm hij] at hk
     ·simp only [e1,e2,if_false] at hk;exact ⟨k,b',as2,hk,hz⟩
   have k:KC c H (fun k=>if k=i then some (b,as++[a]) else if k=j then none else c k) (upd H b (.lst (vs++[.ref a]))):=fun z o e n=>⟨by rw [aR (fun q=>n (by rw [q];exact hob))];exact e,fun w=>n (own z w)⟩
   have hInew:InL (upd H b (.lst (vs++[.ref a]))) (vs++[.ref a]) (xs++[.lst ys]) (as++[a]):=(il.upd hnd.1 eb rfl).snoc (by rw [aR hnab];exact ea) (ra.upd hg3 eb rfl) hg3;refine q (fun k=>if k=i then some (b,as++[a]) else if k=j then none else c k) σ _ k ⟨by simp [E.len],fun m p hm=>?_,fun m b' as2 hm=>?_,fun m1 m2 b1 as1 b2 as2 hne h1 h2 z hz=>?_,fun m hm=>?_,fun m b' as2 hm=>?_,fun m hm hdm=>?_⟩
   ·by_cases e1:m=i
    ·rw [e1];exact hi
    ·by_cases e2:m=j
     ·rw [e2];exact hj
     ·simp only [e1,e2,if_false] at hm;exact E.dom m p hm
   ·by_cases e1:m=i
    ·simp only [e1,if_true,Option.some.injEq,Prod.mk.injEq] at hm;obtain ⟨rfl,rfl⟩:=hm;rw [List.nodup_cons,List.mem_append,List.mem_singleton,List.nodup_append];refine ⟨fun z=>z.elim hnd.1 (fun z=>hnab z.symm),hnd.2,by simp,fun u hu w hw q=>?_⟩;rw [List.mem_singleton.mp hw] at q;exact hab (by rw [<-q];exact List.mem_cons_of_mem _ hu)
    ·by_cases e2:m=j
     ·simp [e2,Ne.symm hij] at hm
     ·simp only [e1,e2,if_false] at hm;exact E.nd m b' as2 hm
   ·have cells:∀m b' as2,(if m=i then some (b,as++[a]) else if m=j then none else c m)=some (b',as2)->z∈b'::as2->∃m0 b0 as0,c m0=some (b0,as0)/\z∈b0::as0/\(m0=m\/(m=i/\m0=j)):=fun m b' as2 hm hz=>by
     by_cases e1:m=i
     ·simp only [e1,if_true,Option.some.injEq,Prod.mk.injEq] at hm;obtain ⟨rfl,rfl⟩:=hm;rcases List.mem_cons.mp hz with hz|hz
      ·exact ⟨i,b,as,hc,by rw [hz];exact List.mem_cons_self ..,.inl e1.symm⟩
      ·rcases List.mem_append.mp hz with hz|hz
       ·exact ⟨i,b,as,hc,List.mem_cons_of_mem _ hz,.inl e1.symm⟩
       ·exact ⟨j,a,as',hc',by rw [List.mem_singleton.mp hz];exact List.mem_cons_self ..,.inr ⟨e1,rfl⟩⟩
     ·by_cases e2:m=j
      ·simp [e2,Ne.symm hij] at hm
      ·simp only [e1,e2,if_false] at hm;exact ⟨m,b',as2,hm,hz,.inl rfl⟩
    intro hz2;obtain ⟨n1,d1,es1,g1,g2,g3⟩:=cells m1 b1 as1 h1 hz;obtain ⟨n2,d2,es2,g4,g5,g6⟩:=cells m2 b2 as2 h2 hz2;have nn:n1≠n2:=fun q=>by
     subst q;rcases g3 with g3|⟨g3,g3'⟩ <;> rcases g6 with g6|⟨g6,g6'⟩
     ·exact hne (g3.symm.trans g6)
     ·have:m1=j:=g3.symm.trans g6';simp [this,Ne.symm hij] at h1
     ·have:m2=j:=g6.symm.trans g3';simp [this,Ne.symm hij] at h2
     ·exact hne (g3.trans g6.symm)
    exact E.dj n1 n2 d1 es1 d2 es2 nn g1 g4 z g2 g5
   ·rw [aN] at hm ⊢;by_cases e2:j=m/\j<(ρ.set i (.lst (xs++[.lst ys]))).length
    ·rw [if_pos e2] at hm;exact absurd rfl hm
    ·rw [if_neg e2] at hm ⊢;rw [aN] at hm ⊢;by_cases e1:i=m/\i<ρ.length
     ·obtain ⟨rfl,_⟩:=e1;exact ⟨_,hσ,fun z=>by rw [hi] at z;cases z⟩
     ·rw [if_neg e1] at hm ⊢;obtain ⟨w,g1,g2⟩:=E.at_ m hm;exact ⟨w,g1,fun hs=>k.rep E (g2 hs)⟩
   ·by_cases e1:m=i
    ·subst e1;simp only [if_true,Option.some.injEq,Prod.mk.injEq] at hm;obtain ⟨rfl,rfl⟩:=hm;rw [aN,if_neg (fun z=>hij z.1.symm),aN,if_pos ⟨rfl,li⟩];exact ⟨hσ,.lst aC hInew⟩
    ·by_cases e2:m=j
     ·simp [e2,Ne.symm hij] at hm
     ·simp only [e1,e2,if_false] at hm;rw [aN,if_neg (fun z=>e2 z.1.symm),aN,if_neg (fun z=>e1 z.1.symm)];obtain ⟨g1,g2⟩:=E.nst m b' as2 hm;exact ⟨g1,g2.upd (E.dj i m b as b' as2 (Ne.symm e1) hc hm b (List.mem_cons_self ..)) eb rfl⟩
   ·by_cases e1:m=i
    ·exact ⟨(b,as++[a]),by simp [e1]⟩
    ·by_cases e2:m=j
     ·subst e2;rw [aN,if_pos ⟨rfl,by rw [List.length_set];exact lj⟩] at hdm;exact absurd rfl hdm
     ·rw [aN,if_neg (fun z=>e2 z.1.symm),aN,if_neg (fun z=>e1 z.1.symm)] at hdm;obtain ⟨p,hp⟩:=E.all m hm hdm;exact ⟨p,by simp [e1,e2,hp]⟩
  ·cases h
 ·cases h
end
end Mi
end
section
namespace Wn
open PySem PySem.Spec
section
variable {prog:Program} {w:World} {A:Around} {E:Value->Shared->Prop} {s:Shared}
end
end Wn
namespace Wn
open PySem PySem.Spec
end Wn
namespace Mi
open PySem L2 PySem.SeqAt PySem.Spec PyProof.Rows
variable [KFrag]
section
variable {X:Cx} {a:Expr} {fa:FE} {ra:Bool} {p pos:Pos}
end
end Mi
end
section
namespace Mi
open PySem L2 PySem.SeqAt PySem.Spec PyProof.Rows
noncomputable def sortedK:List D->Res D
 | [.dct kvs]=>if kvs.all (fun p=>!isTup p.1)&&bL (iH kvs) then .ok (.lst (jB (iH kvs))) else .bad
 | ds=>gK ds
def VJ (k v:D):Res D:=if cT k&&v.pure then .ok (.dct [(k,v)]) else .bad
noncomputable def dgI (d k:D):Res (List D):=match d with
 | .dct ds=>if cT k then (match bU ds k with|some e=>mL e|none=>.bad) else .bad
 | _=>.bad
noncomputable def q_ (i:Nat) (fk:FE) (t:D->List D->Res (List D)) (body:FS):FS:=fun ρ=>do
 let d <- lX i ρ
 let k <- fk ρ
 let xs <- dgI d k
 lY t body xs ρ
variable [KFrag]
section
variable {X:Cx}
theorem JN {P:Program} {w:World} {H:Hp} {Q:Addr->Prop} {es:List DictEntry} {vs:List (Key×Value)} (hp:PySem.Pairs (b_ P w) es vs):∀{kvs:List (Key×V)} {ds:List (D×D)},KV kvs vs->kO Q H kvs ds->Vals (kvs.map fun p=>kV p.1) (es.map (·.key))/\bB All H (kvs.map fun p=>kV p.1) (iH ds):=by
 induction hp with
 | nil=>
  intro kvs ds r u;cases r;cases u;exact ⟨.nil,.nil⟩
 | cons h _ t ih=>
  intro kvs ds r u;cases r with
  | cons g r=>
   cases u with
   | @cons k _ _ _ _ _ u=>
    obtain ⟨h1,h2⟩:=ih r u;obtain ⟨g1,g2⟩:=g;refine ⟨.cons (aCk (by rw [show k=_ from g1];exact h)) h1,.cons ?_ h2⟩;cases k with
    | inl i=>exact .int i
    | inr x=>exact .str x
theorem Rep.aG4 {H:Hp} {a:Addr} {v:V} {d:D} {o ob:HO} (r:Rep All H v d) (hp:d.pure=true) (ha:H a=some ob) (hm:nU ob=true):Rep All (upd H a o) v d:=by
 have:=(bB.cons r .nil).upd (o:=o) (by rw [D.aW,hp];rfl) ha hm;cases this with
 | cons r _=>exact r
theorem JP (hc:X.calm=true) (hu:X.A.units+20<cLine):jA X (.builtin "sorted") (rs sortedK true):=by
 intro pins s σ H xs us Q I vr ⟨ds,d,r,e,k⟩;unfold sortedK at e;split at e
 ·rename_i kvs;split at e
  ·rename_i hl;rw [Bool.and_eq_true] at hl;cases e;have fin:∀p xs',H p=none->bB All H xs' (jB (iH kvs))->Q (.ref p) (upd H p (.lst xs')):=fun p xs' hp r'=>by
    have sp:bN H (upd H p (.lst xs')):=bN.upd hp;exact k _ _ sp (.lst aC trivial (r'.same sp)) fun _=>.lst aC hp ((r'.bF (qK hl.2)).same sp)
   obtain ⟨vv,uu,rfl,rfl,r,v⟩:=i_ r vr;cases r with
   | dK e _ rk _=>
    cases v;obtain ⟨hz,lo,vs,rel,o,es,ep,e1,e2,e3,_,hp,_⟩:=HR I.hok e;obtain ⟨r1,r2⟩:=JN hp rel rk;have hlen:es.size<=sizeLine:=by rw [<-Array.length_toList,<-List.length_map (f:=(·.key)),<-r1.length,List.length_map];exact hz
    exact lO I hu r1 (by rw [List.length_map,Array.length_toList];exact hlen) r2 hl.2 (fun Q' E' h=>QJ (I.ok.hd hc) lo ⟨o,e1,e2,e3⟩ hlen fun h' tk kp sz=>h h' tk kp sz) fin
   | dT e _ rt _=>
    cases rt with
    | cons r t=>
     have:=hl.1;rw [List.all_cons,Bool.and_eq_true] at this;cases this.1
    | nil=>
     cases v;obtain ⟨es,ep,zs,raw,lo,hz,rel,he⟩:=aCl I e;have h0:zs=[]:=by cases rel;rfl
     subst h0;have h1:es.toList=[]:=he;exact lO I hu .nil (Nat.zero_le _) .nil hl.2 (fun Q' E' h=>QJ (I.ok.hd hc) lo raw (by rw [<-Array.length_toList,h1];exact Nat.zero_le _) fun h' tk kp sz=>by rw [h1];exact h h' tk kp sz) fin
  ·cases e
 ·exact mV hu pins s σ H xs us Q I vr ⟨_,d,r,e,k⟩
theorem rA {d:D} (h:cT d=true):∃k:Key,d=kD k:=by
 cases d <;> first|exact ⟨.inl _,rfl⟩|exact ⟨.inr _,rfl⟩|cases h
theorem QV {P:Addr->Prop} {H:Hp} {v:V} {k:Key} (r:Rep P H v (kD k)):v=kV k:=by
 cases k with
 | inl i=>cases r;rfl
 | inr x=>cases r;rfl
theorem QW {pos:Pos} {k1 v1:Expr} {g1 h1:FE} {r1 r2:Bool} (hk1:PE X k1 (gE g1 r1)) (hv1:PE X v1 (gE h1 r2)):PE X (.Dict [some k1] [v1] pos) (gE (b2 VJ g1 h1) true):=
 PE.imp (LC (B_ hk1 hv1 K_) rfl rfl (by simp) (Nat.le_of_ble_eq_true rfl)) fun σ H Q ⟨ρ,d,E,h,q⟩=>by
 obtain ⟨a1,e1,hA⟩:=aY h;obtain ⟨a2,e2,hB⟩:=aY hA;clear h hA;unfold VJ at hB;split at hB
 ·rename_i hg;cases hB;rw [Bool.and_eq_true] at hg;obtain ⟨k,rfl⟩:=rA hg.1;intro p hp;have s0:bN H (upd H p (.dK [])):=bN.upd hp;refine ⟨ρ,_,E.same s0,e1,fun w1 H1 s1 q1 _=>?_⟩;obtain rfl:=QV q1;refine ⟨ρ,_,(E.same s0).same s1,e2,fun w2 H2 s2 q2 _=>?_⟩;have sm:bN (upd H p (.dK [])) H2:=s1.trans s2;refine ⟨sm _ _ aC,[(k,w2)],rfl,Nat.le_of_ble_eq_true rfl,?_⟩;have sf:bN H (upd H2 p (.dK (kZ [] [(k,w2)]))):=fun b o e=>by
   rw [aR (bZ e hp)];exact sm b o (s0 b o e)
  have rk:∀P:Addr->Prop,kO P (upd H2 p (.dK (kZ [] [(k,w2)]))) (kZ [] [(k,w2)]) [(kD k,a2)]:=fun P=>.cons ((q2.aG4 hg.2 (sm _ _ aC) rfl).bF hg.2) .nil
  exact q _ _ sf (.dK aC trivial (rk All) (by simp [kZ,putK])) fun _=>.dK aC hp (rk _) (by simp [kZ,putK])
 ·cases hB
theorem vC {P:Addr->Prop} {H:Hp} {k:Key}:∀{kvs:List (List Key×V)} {ds:List (D×D)},nO P H kvs ds->bU ds (kD k)=none
 | _,_,.nil=>rfl
 | _,_,.cons _ t=>by
  have:=vC (k:=k) t;cases k <;> (rw [bU];simpa [kD,eqD] using this)
theorem aCp {H:Hp} {v:V} {ds:List (D×D)} {k:Key} {e:D} (r:Rep All H v (.dct ds)) (hl:bU ds (kD k)=some e):∃a kvs w,v=.ref a/\H a=some (.dK kvs)/\lW kvs k=some w/\∀(P:Addr->Prop) (H':Hp),bN H H'->Rep P H' v (.dct ds)->Rep P H' w e:=by
 cases r with
 | @dK a kvs ds e1 _ rk _=>
  rcases JG (k:=k) rk with ⟨w,d,h1,h2,h3⟩|⟨_,h2⟩
  ·rw [hl] at h2;cases h2;refine ⟨a,kvs,w,rfl,e1,h1,fun P H' sm r'=>?_⟩;have e2:=sm _ _ e1;cases r' with
   | dK e1' _ rk' _=>
    rw [e2] at e1';cases e1';rcases JG (k:=k) rk' with ⟨w',d',g1,g2,g3⟩|⟨_,g2⟩
    ·rw [hl] at g2;cases g2;rw [h1] at g1;cases g1;exact g3
    ·rw [hl] at g2;cases g2
   | dT e1' _ _ _=>rw [e2] at e1';cases e1'
  ·rw [hl] at h2;cases h2
 | dT e1 _ rt _=>rw [vC rt] at hl;cases hl
noncomputable def gIK (K:PySem.W.Frag) (i:Nat) (fk:FE):TI:=fun σ H R=>∃ρ v d kd items,ER H σ ρ/\σ[i]?=some (some v)/\Rep All H v d/\fk ρ=.ok kd/\dgI d kd=.ok items/\∀J H1,bN H H1->(∀P:Addr->Prop,Rep P H1 v d->ItQ K P J H1 items)->R J H1
theorem aEm {tg k:Expr} {fk:FE} {rk:Bool} {i:Nat} {x:Str} {pos px:Pos} (hu:X.A.units+20<cLine) (hN:X.N[i]?=some x) (hv:Vis X.env.scope x) (hk:PE X k (gE fk rk)) (hp:pO k:=by exact fun _ _=>rfl) (hd:nDb x:=by decide) (hcd:nCd x:=by decide):PI X tg (.Subscript (.Name x px) k pos) (gIK X.K i fk):=by
 intro pins s σ H R I ⟨ρ,v,d,kd,items,E,hσ,r,hf,hi,q⟩;unfold dgI at hi;split at hi
 ·rename_i ds;split at hi
  ·rename_i hfk;obtain ⟨key,rfl⟩:=rA hfk;split at hi
   ·rename_i e hl;obtain ⟨a,kvs,w,rfl,ea,hw,all⟩:=aCp r hl;refine thn (YH (aF8 hu) (dH hN hv hd hcd) hk hp pins s σ H (fun z H1=>bN H H1/\z=w) I ⟨.ref a,hσ,ρ,_,E,hf,fun kv H1 sm1 rk1 _=>?_⟩) fun u s1 ⟨z,H1,I1,ru,sm,ez⟩=>?_
    ·obtain rfl:=QV rk1;exact .inr ⟨a,kvs,key,w,rfl,rfl,sm1 _ _ ea,hw,sm1,rfl⟩
    ·subst ez;exact uU I1 (all All H1 sm (r.same sm)) ru hi fun J hJ=>q J H1 sm fun P rp=>hJ P (all P H1 sm rp)
   ·cases hi
  ·cases hi
 ·cases hi
theorem GJ {own:Nat->Bool} {tg k:Expr} {body:List Stmt} {g:TG} {t:D->List D->Res (List D)} {i:Nat} {x:Str} {px pi pos:Pos} {fk:FE} {rk:Bool} {fb:FS} (hu:X.A.units+20<cLine) (ho:own i=false) (hp:PassesOwn (model X.prog X.w) X.A X.env X.xe) (hc:X.calm=true) (hN:X.N[i]?=some x) (hv:Vis X.env.scope x) (hk:PE X k (gE fk rk)) (ht:TgS own g t) (hg:PG X tg g) (hb:PSs X body (tS own fb))
  (hpk:pO k:=by exact fun _ _=>rfl) (hs:∀z,foldedSetIterable (.Subscript (.Name x px) k pi) X.env z=pure z:=by intro _;rfl) (hd:nDb x:=by decide) (hcd:nCd x:=by decide):PS X (.For tg (.Subscript (.Name x px) k pi) body [] pos) (tS own (q_ i fk t fb)):=PS.imp (pM hp hc (aEm hu hN hv hk hpk hd hcd) hg hb hs) fun D' σ H ⟨ρ,fl,E,h,q⟩=>by
 obtain ⟨d,h1,h⟩:=aY h;obtain ⟨kd,h2,h⟩:=aY h;obtain ⟨items,h3,h4⟩:=aY h;obtain ⟨v,hv,r,e⟩:=E.er.var h1;have hne:ρ.getD i .uD≠.uD:=fun z=>by
  rw [z] at e;subst e;exact Rep.uD r
 obtain ⟨w,hw,hr⟩:=E.at_ i hne;rw [hv] at hw;cases hw;have r2:=hr ho;rw [e] at r2;exact ⟨ρ,v,d,kd,items,E.er,hv,r,h2,h3,fun J H1 sm hJ=>u0 ht (E.same sm) (hJ _ (r2.same sm)) h4 (q.step (.same sm))⟩
end
end Mi
end
section
namespace Mi
open PySem L2 PySem.SeqAt PySem.Spec PyProof.Rows
noncomputable def isInt:D->Bool
 | .int _=>true
 | _=>false
noncomputable def aDg:D->Bool
 | .lst ys=>ys.all isInt
 | _=>false
noncomputable def xM:D->Bool
 | .lst ys=>decide (ys.length<=1000)
 | _=>false
noncomputable def zY (i:Nat) (fk:FE):FS:=fun ρ=>do
 let k <- fk ρ
 match ρ.getD i .uD with
 | .dct kvs=>if cT k&&(bU kvs k).isNone&&decide (kvs.length<lim)&&kvs.all (fun p=>vB p.2) then .ok (.nx (ρ.set i (.dct (kvs++[(k,.lst [])])))) else .bad
 | _=>.bad
noncomputable def putAll:List D->List (D×D)->List (D×D)
 | [],kvs=>kvs
 | y::ys,kvs=>putAll ys (putD kvs y (.bl true))
noncomputable def n_ (i j m:Nat):FS:=fun ρ=>match ρ.getD i .uD,ρ.getD j .uD with
 | .lst ys,.dct kvs=>if ys.all isInt&&kvs.all (fun p=>isInt p.1)&&decide (ys.length+kvs.length<lim)&&inner (.dct kvs) then .ok (.nx ((ρ.set m .uD).set j (.dct (putAll ys kvs)))) else .bad
 | _,_=>.bad
noncomputable def VL (i:Nat) (f:FE):FS:=fun ρ=>do
 let d <- f ρ
 match d with
 | .lst ds=>if ds.all aDg then .ok (.nx (ρ.set i (.lst ds))) else .bad
 | _=>.bad
noncomputable def xN (i j:Nat):FS:=fun ρ=>match ρ.getD i .uD with
 | .lst ds=>if decide (ds.length<=1000)&&ds.all xM then .ok (.nx ((ρ.set i .uD).set j .uD)) else .bad
 | _=>.bad
variable [KFrag]
variable {S:Nat->Bool}
section
variable {H H':Hp} {vs:List V} {ds:List D} {as bs:List Addr} {kvs:List (Key×V)} {es:List (D×D)} {qb:Bool}
theorem bB.oY (r:bB All H vs ds) (hp:D.aW ds=true) (k:∀a o,H a=some o->a∉bs->H' a=some o) (hm:∀a∈bs,∃o,H a=some o/\nU o=true):bB All H' vs ds:=
 (r.bF (P':=fun _=>False) hp).keep (fun a o e z=>k a o e fun ha=>by
  rcases z with z|z
  ·exact z
  ·obtain ⟨o',h1,h2⟩:=hm a ha;rw [e] at h1;cases h1;rw [z] at h2;cases h2) fun _ z=>z.elim
theorem InL.oY (h:InL H vs ds as) (k:∀a o,H a=some o->a∉bs->H' a=some o) (hm:∀a∈bs,∃o,H a=some o/\nU o=true) (dj:∀a∈as,a∉bs):InL H' vs ds as:=by
 induction h with
 | nil=>exact .nil
 | cons e r p t ih=>exact .cons (k _ _ e (dj _ (List.mem_cons_self ..))) (r.oY p k hm) p (ih fun a ha=>dj a (List.mem_cons_of_mem _ ha))
theorem InK.oY (h:InK H kvs es as) (k:∀a o,H a=some o->a∉bs->H' a=some o) (hm:∀a∈bs,∃o,H a=some o/\nU o=true) (dj:∀a∈as,a∉bs):InK H' kvs es as:=by
 induction h with
 | nil=>exact .nil
 | cons e r p t ih=>exact .cons (k _ _ e (dj _ (List.mem_cons_self ..))) (r.oY p k hm) p (ih fun a ha=>dj a (List.mem_cons_of_mem _ ha))
theorem InA.oY (h:InA H as vs ds) (k:∀a o,H a=some o->a∉bs->H' a=some o) (hm:∀a∈bs,∃o,H a=some o/\nU o=true) (dj:∀a∈as,a∉bs):InA H' as vs ds:=by
 induction h with
 | nil=>exact .nil
 | cons m e r p t ih=>exact .cons m (k _ _ e (dj _ m)) (r.oY p k hm) p ih
theorem n6.oY {b:Addr} {d:D} (h:n6 qb H b as d) (k:∀a o,H a=some o->a∉bs->H' a=some o) (hm:∀a∈bs,∃o,H a=some o/\nU o=true) (dj:∀a∈b::as,a∉bs):n6 qb H' b as d:=by
 have hb:=dj b (List.mem_cons_self ..);have ha:∀a∈as,a∉bs:=fun a h=>dj a (List.mem_cons_of_mem _ h)
 cases h with
 | lst e i=>exact .lst (k _ _ e hb) (i.oY k hm ha)
 | dct e i n=>exact .dct (k _ _ e hb) (i.oY k hm ha) n
 | pln z e m r p=>
  refine .pln z (k _ _ e hb) m ((r.aCd (P':=fun c=>c=b) p rfl).keep (fun c oc hc hp=>k c oc hc fun hx=>?_) fun _ _=>trivial) p;rcases hp with hp|hp
  ·exact hb (hp▸hx)
  ·obtain ⟨o',h1,h2⟩:=hm c hx;rw [hc] at h1;cases h1;rw [hp] at h2;cases h2
 | any z e i l=>exact .any z (k _ _ e hb) (i.oY k hm ha) fun a h=>let ⟨ws,g⟩:=l a h;⟨ws,k _ _ g (ha a h)⟩
end
theorem NS.grow {c:Cel} {H H':Hp} {σ:L2.St} {ρ:List D} {i:Nat} {b:Addr} {as as':List Addr} {d:D} (E:NS S c H σ ρ) (hc:c i=some (b,as)) (hs:∀a∈as',a∈as\/H a=none) (nd:(b::as').Nodup) (hk:∀a o,H a=some o->a∉b::as->H' a=some o) (hn:n6 (S (i+1000)) H' b as' d):∃c',NS S c' H' σ (ρ.set i d)/\KC c H c' H':=by
 obtain ⟨hσ,hN0⟩:=E.nst i b as hc;have own:∀a,m_ (fun j=>if j=i then some (b,as') else c j) a->m_ c a\/H a=none:=fun a ⟨j,b',as2,hj,ha⟩=>by
  by_cases e1:j=i
  ·simp only [e1,if_true,Option.some.injEq,Prod.mk.injEq] at hj;obtain ⟨rfl,rfl⟩:=hj;rcases List.mem_cons.mp ha with rfl|ha
   ·exact .inl ⟨i,a,as,hc,List.mem_cons_self ..⟩
   ·rcases hs a ha with h|h
    ·exact .inl ⟨i,b,as,hc,List.mem_cons_of_mem _ h⟩
    ·exact .inr h
  ·simp only [e1,if_false] at hj;exact .inl ⟨j,b',as2,hj,ha⟩
 have k:KC c H (fun j=>if j=i then some (b,as') else c j) H':=fun a o e n=>⟨hk a o e fun z=>n ⟨i,b,as,hc,z⟩,fun z=>by
  rcases own a z with z|z
  ·exact n z
  ·rw [z] at e;cases e⟩
 have hl:i<ρ.length:=by rw [<-E.len];exact (List.getElem?_eq_some_iff.mp hσ).1
 have apart:∀j b' as2,j≠i->c j=some (b',as2)->∀a∈b'::as2,a∉b::as':=fun j b' as2 hj hcj a ha z=>by
  rcases List.mem_cons.mp z with rfl|z
  ·exact E.dj j i b' as2 a as hj hcj hc a ha (List.mem_cons_self ..)
  ·rcases hs a z with h|h
   ·exact E.dj j i b' as2 b as hj hcj hc a ha (List.mem_cons_of_mem _ h)
   ·obtain ⟨o,g,_⟩:=E.live ⟨j,b',as2,hcj,ha⟩;rw [h] at g;cases g
 refine ⟨fun j=>if j=i then some (b,as') else c j,⟨by simp [E.len],fun j p hj=>?_,fun j b' as2 hj=>?_,fun j1 j2 b1 as1 b2 as2 hne h1 h2 a ha=>?_,fun j hj=>?_,fun j b' as2 hj=>?_,fun j hj hd=>?_⟩,k⟩
 ·by_cases e1:j=i
  ·rw [e1];exact E.dom i _ hc
  ·simp only [e1,if_false] at hj;exact E.dom j p hj
 ·by_cases e1:j=i
  ·simp only [e1,if_true,Option.some.injEq,Prod.mk.injEq] at hj;obtain ⟨rfl,rfl⟩:=hj;exact nd
  ·simp only [e1,if_false] at hj;exact E.nd j b' as2 hj
 ·by_cases e1:j1=i
  ·by_cases e2:j2=i
   ·exact absurd (e1.trans e2.symm) hne
   ·simp only [e1,if_true,Option.some.injEq,Prod.mk.injEq] at h1;simp only [e2,if_false] at h2;obtain ⟨rfl,rfl⟩:=h1;exact fun z=>apart j2 b2 as2 e2 h2 a z ha
  ·simp only [e1,if_false] at h1;by_cases e2:j2=i
   ·simp only [e2,if_true,Option.some.injEq,Prod.mk.injEq] at h2;obtain ⟨rfl,rfl⟩:=h2;exact apart j1 b1 as1 e1 h1 a ha
   ·simp only [e2,if_false] at h2;exact E.dj j1 j2 b1 as1 b2 as2 hne h1 h2 a ha
 ·rw [aN] at hj ⊢;by_cases h:i=j/\i<ρ.length
  ·obtain ⟨rfl,_⟩:=h;exact ⟨_,hσ,fun z=>by rw [E.dom i _ hc] at z;cases z⟩
  ·rw [if_neg h] at hj ⊢;obtain ⟨w,h1,h2⟩:=E.at_ j hj;exact ⟨w,h1,fun hs=>k.rep E (h2 hs)⟩
 ·by_cases e1:j=i
  ·subst e1;simp only [if_true,Option.some.injEq,Prod.mk.injEq] at hj;obtain ⟨rfl,rfl⟩:=hj;rw [aN,if_pos ⟨rfl,hl⟩];exact ⟨hσ,hn⟩
  ·simp only [e1,if_false] at hj;rw [aN,if_neg fun z=>e1 z.1.symm];obtain ⟨h1,h2⟩:=E.nst j b' as2 hj;exact ⟨h1,h2.oY (bs:=b::as) hk hN0.live fun a ha=>E.dj j i b' as2 b as e1 hj hc a ha⟩
 ·by_cases e1:j=i
  ·exact ⟨(b,as'),by simp [e1]⟩
  ·rw [aN,if_neg fun z=>e1 z.1.symm] at hd;obtain ⟨p,hp⟩:=E.all j hj hd;exact ⟨p,by simp [e1,hp]⟩
theorem NS.drop {c:Cel} {H H':Hp} {σ σ':L2.St} {ρ:List D} {i j:Nat} {b:Addr} {as:List Addr} (E:NS S c H σ ρ) (hc:c i=some (b,as)) (hj:S j=false) (hl:σ'.length=σ.length) (hσ':∀t,t≠j->σ'[t]?=σ[t]?) (hk:∀a o,H a=some o->a∉b::as->H' a=some o):∃c',NS S c' H' σ' ((ρ.set i .uD).set j .uD)/\KC c H c' H':=by
 obtain ⟨hσ,hN0⟩:=E.nst i b as hc;have hlr:i<ρ.length:=by rw [<-E.len];exact (List.getElem?_eq_some_iff.mp hσ).1
 have of:∀t p,(if t=i then none else c t)=some p->t≠i/\c t=some p:=fun t p h=>by
  by_cases e:t=i
  ·simp [e] at h
  ·simp only [e,if_false] at h;exact ⟨e,h⟩
 have k:KC c H (fun t=>if t=i then none else c t) H':=fun a o e n=>⟨hk a o e fun z=>n ⟨i,b,as,hc,z⟩,fun ⟨t,b',as',ht,ha⟩=>n ⟨t,b',as',(of t _ ht).2,ha⟩⟩
 have get:∀t,((ρ.set i .uD).set j .uD).getD t .uD≠.uD->t≠i/\t≠j/\((ρ.set i .uD).set j .uD).getD t .uD=ρ.getD t .uD:=fun t ht=>by
  have e1:t≠j:=fun z=>by
   subst z;apply ht;rw [aN];by_cases h:t<(ρ.set i .uD).length
   ·rw [if_pos ⟨rfl,h⟩]
   ·rw [if_neg (fun z=>h z.2),List.getD_eq_getElem?_getD,List.getElem?_eq_none (by lia)];rfl
  rw [aN,if_neg fun z=>e1 z.1.symm] at ht ⊢;have e2:t≠i:=fun z=>by
   subst z;exact ht (by rw [aN,if_pos ⟨rfl,hlr⟩])
  rw [aN,if_neg fun z=>e2 z.1.symm] at ht ⊢;exact ⟨e2,e1,rfl⟩
 refine ⟨fun t=>if t=i then none else c t,⟨by simp [hl,E.len],fun t p h=>E.dom t p (of t p h).2,fun t b' as' h=>E.nd t b' as' (of t _ h).2,fun t1 t2 b1 as1 b2 as2 hne h1 h2=>E.dj t1 t2 b1 as1 b2 as2 hne (of t1 _ h1).2 (of t2 _ h2).2,fun t ht=>?_,fun t b' as' h=>?_,fun t hS ht=>?_⟩,k⟩
 ·obtain ⟨e1,e2,e3⟩:=get t ht;rw [e3] at ht ⊢;obtain ⟨w,h1,h2⟩:=E.at_ t ht;exact ⟨w,by rw [hσ' t e2];exact h1,fun hs=>k.rep E (h2 hs)⟩
 ·obtain ⟨e1,h⟩:=of t _ h;have e2:t≠j:=fun z=>by subst z;rw [E.dom t _ h] at hj;cases hj
  obtain ⟨h1,h2⟩:=E.nst t b' as' h;refine ⟨by rw [hσ' t e2];exact h1,?_⟩;rw [aN,if_neg fun z=>e2 z.1.symm,aN,if_neg fun z=>e1 z.1.symm];exact h2.oY (bs:=b::as) hk hN0.live fun a ha=>E.dj t i b' as' b as e1 h hc a ha
 ·obtain ⟨e1,e2,e3⟩:=get t ht;rw [e3] at ht;obtain ⟨p,hp⟩:=E.all t hS ht;exact ⟨p,by simp [e1,hp]⟩
theorem NS.forget {c:Cel} {H:Hp} {σ:L2.St} {ρ:List D} {j:Nat} {v:Option V} (E:NS S c H σ ρ) (hj:S j=false):NS S c H (σ.set j v) (ρ.set j .uD):=by
 have get:∀t,(ρ.set j .uD).getD t .uD≠.uD->t≠j:=fun t ht z=>by
  subst z;apply ht;rw [aN];by_cases h:t<ρ.length
  ·rw [if_pos ⟨rfl,h⟩]
  ·rw [if_neg (fun z=>h z.2),List.getD_eq_getElem?_getD,List.getElem?_eq_none (by lia)];rfl
 refine ⟨by simp [E.len],E.dom,E.nd,E.dj,fun t ht=>?_,fun t b as h=>?_,fun t hS ht=>?_⟩
 ·have e:=get t ht;rw [aN,if_neg fun z=>e z.1.symm] at ht ⊢;rw [List.getElem?_set_ne (Ne.symm e)];exact E.at_ t ht
 ·have e:t≠j:=fun z=>by subst z;rw [E.dom t _ h] at hj;cases hj
  rw [aN,if_neg fun z=>e z.1.symm,List.getElem?_set_ne (Ne.symm e)];exact E.nst t b as h
 ·have e:=get t ht;rw [aN,if_neg fun z=>e z.1.symm] at ht;exact E.all t hS ht
section
variable {X:Cx} {e:Expr} {pos pos':Pos} {fe:FE} {re:Bool}
theorem QX {i:Nat} {x:Str} {p2:Pos} (ho:S i=true) (hN:X.N.Nodup) (hi:X.N[i]?=some x) (hx:Loc X.env.scope x) (hs:swapsWith (.Dict [] [] p2) (some (.Name x pos')) pos.line X.env=pure false:=by rfl) (hf:X.fn x=true\/X.env.scope.names.lookup x=some .local:=by first|exact .inl rfl|exact .inr rfl|assumption) :
  QS X (.Assign [.Name x pos'] (.Dict [] [] p2) pos) (tN S (Z7 i (.dct []))):=QS.mk fun pins s σ H D I ⟨c,ρ,fl,E,h,q⟩=>by
 cases h;have hl:i<σ.length:=by
  rw [I.len];exact (List.getElem?_eq_some_iff.mp hi).1
 refine lZ hN hi hx BZ hs hf pins s σ H D I fun b hb=>?_
 obtain ⟨c',E',k⟩:=E.new (i:=i) (b:=b) (as:=[]) (d:=.dct []) ho hl (bN.upd hb) (by simp) (fun a ha=>by rw [List.mem_singleton.mp ha];exact hb) (.dct aC .nil List.nodup_nil);exact q c' _ _ k E'
noncomputable def tDI (n:Int):TE:=fun _ H Q=>∀b,H b=none->∀p,H p=none->b≠p->Q (.ref b) (upd (upd (upd H b (.dK [])) p (.lst [])) b (.dK [(.inl n,.ref p)]))
theorem aEn {k1 v1:Expr} {p2:Pos} {n:Int} (hk1:PE X k1 (tC (.int n))) (hv1:PE X v1 (aD7 fun _ H Q=>Q [] H)):PE X (.Dict [some k1] [v1] p2) (tDI n):=
 PE.imp (LC (B_ hk1 hv1 K_) rfl rfl (by simp) (Nat.le_of_ble_eq_true rfl)) fun σ H Q h=>by
 intro b hb;refine ⟨Nat.zero_le _,fun p hp=>?_⟩;have hbp:b≠p:=fun z=>by subst z;rw [aC] at hp;cases hp
 have hpH:H p=none:=by rwa [aR (Ne.symm hbp)] at hp
 exact ⟨by rw [aR hbp,aC],[(.inl n,.ref p)],rfl,Nat.le_of_ble_eq_true rfl,h b hb p hpH hbp⟩
theorem aA2 {k1 v1:Expr} {i:Nat} {x:Str} {p2:Pos} {n:Int} (ho:S i=true) (hN:X.N.Nodup) (hi:X.N[i]?=some x) (hx:Loc X.env.scope x) (hk1:PE X k1 (tC (.int n))) (hv1:PE X v1 (aD7 fun _ H Q=>Q [] H)) (hs:swapsWith (.Dict [some k1] [v1] p2) (some (.Name x pos')) pos.line X.env=pure false:=by rfl) (hf:X.fn x=true\/X.env.scope.names.lookup x=some .local:=by first|exact .inl rfl|exact .inr rfl|assumption) :
  QS X (.Assign [.Name x pos'] (.Dict [some k1] [v1] p2) pos) (tN S (Z7 i (.dct [(.int n,.lst [])]))):=QS.mk fun pins s σ H D I ⟨c,ρ,fl,E,h,q⟩=>by
 cases h;have hl:i<σ.length:=by
  rw [I.len];exact (List.getElem?_eq_some_iff.mp hi).1
 refine lZ hN hi hx (aEn hk1 hv1) hs hf pins s σ H D I fun b hb p hpH hbp=>?_
 have sm:bN H (upd (upd (upd H b (.dK [])) p (.lst [])) b (.dK [(Sum.inl n,V.ref p)])):=fun a o e=>by
  rw [aR (bZ e hb),aR (bZ e hpH),aR (bZ e hb)];exact e
 obtain ⟨c',E',k⟩:=E.new (i:=i) (b:=b) (as:=[p]) (d:=.dct [(.int n,.lst [])]) ho hl sm (by simp [hbp]) (fun a ha=>by
  rcases List.mem_cons.mp ha with rfl|ha
  ·exact hb
  ·rw [List.mem_singleton.mp ha];exact hpH) (.dct aC (.cons (k:=.inl n) (by rw [aR (Ne.symm hbp),aC]) .nil rfl .nil) (by simp))
 exact q c' _ _ k E'
theorem tZ {kvs:List (Key×V)} {k:Key} {v:V} (h:lW kvs k=none):putK kvs k v=kvs++[(k,v)]:=by
 unfold putK;rw [if_neg];rw [Bool.not_eq_true,List.any_eq_false];intro p hp z;have hz:p.1=k:=of_decide_eq_true z;unfold lW at h;rw [Option.map_eq_none_iff,List.find?_eq_none] at h;exact h p hp (decide_eq_true hz)
theorem InK.snoc {H:Hp} {kvs:List (Key×V)} {es:List (D×D)} {as:List Addr} {k:Key} {a:Addr} {ws:List V} {ys:List D} (h:InK H kvs es as) (e:H a=some (.lst ws)) (r:bB All H ws ys) (p:D.aW ys=true):InK H (kvs++[(k,.ref a)]) (es++[(kD k,.lst ys)]) (as++[a]):=by
 induction h with
 | nil=>exact .cons e r p .nil
 | cons e' r' p' t ih=>exact .cons e' r' p' ih
theorem QZ {i:Nat} {x:Str} {k:Expr} {fk:FE} {rk:Bool} {p1 p4:Pos} (hu:X.A.units+20<cLine) (ho:S i=true) (hN:X.N[i]?=some x) (hvi:Vis X.env.scope x) (hk:PE X k (gE fk rk))
  (hs:swapsWith (.List [] p4) (some (.Subscript (.Name x p1) k pos')) pos.line X.env=pure false:=by rfl) (hd:nDb x:=by decide) (hcd:nCd x:=by decide) :
  QS X (.Assign [.Subscript (.Name x p1) k pos'] (.List [] p4) pos) (tN S (zY i fk)):=QS.mk fun pins s σ H D' I ⟨c,ρ,fl,E,h,q⟩=>by
 obtain ⟨kd,h1,h2⟩:=aY h;split at h2
 rotate_left
 ·cases h2
 rename_i kvs hx;split at h2
 rotate_left
 ·cases h2
 rename_i hg;cases h2;simp only [Bool.and_eq_true] at hg;obtain ⟨⟨⟨hg1,hg2⟩,hg3⟩,hg4⟩:=hg;obtain ⟨kz,rfl⟩:=rA hg1;obtain ⟨⟨b,as⟩,hc⟩:=E.all i ho (by rw [hx];intro z;cases z);obtain ⟨hσ,hN0⟩:=E.nst i b as hc;have hnd:=E.nd i b as hc;rw [hx] at hN0;obtain ⟨ks,eb,il,nk⟩:∃ks,H b=some (.dK ks)/\InK H ks kvs as/\(ks.map (·.1)).Nodup:=by
  cases hN0 with
  | dct e i n=>exact ⟨_,e,i,n⟩
  | pln z e m r p=>
   cases kvs with
   | cons d ds=>
    rw [inner,List.map_cons,D.aW,Bool.and_eq_true] at p;rw [List.all_cons,Bool.and_eq_true] at hg4;obtain ⟨d1,d2⟩:=d;cases d2 <;> simp [vB] at hg4
    rw [D.pure] at p;cases p.1
   | nil=>
    subst z;cases r with
    | dK e' _ rk n'=>cases rk;exact ⟨[],e',.nil,List.nodup_nil⟩
    | dT e' _ _ _=>rw [e] at e';cases e';cases m
 have hno:lW ks kz=none:=by
  rcases JG (k:=kz) il.reps with ⟨w,d,_,h2,_⟩|⟨h,_⟩
  ·rw [h2] at hg2;cases hg2
  ·exact h
 refine wpAny_Assign_Subscript (thn (tD gU pins s σ H (fun v H1=>∃p,v=.ref p/\H p=none/\H1=upd H p (.lst [])) I ⟨Nat.zero_le _,fun p hp=>⟨p,rfl,hp,rfl⟩⟩) fun rr s1 ⟨v,H1,I1,rv1,p,ev,hp,e1⟩=>
  thn (dH hN hvi hd hcd pins s1 σ H1 (fun w H2=>w=.ref b/\H2=H1) I1 ⟨_,hσ,rfl,rfl⟩) fun u s2 ⟨xx,H2,I2,rx,ex,eH⟩=>
  thn (hk pins s2 σ H2 (fun w H3=>bN H2 H3/\Rep All H3 w (kD kz)) I2 ⟨ρ,_,by rw [eH,e1];exact E.er.same (bN.upd hp),h1,fun v H1 s1 r1 _=>⟨s1,r1⟩⟩) fun iv s3 ⟨y,H3,I3,ry,sm3,rp3⟩=>?_) hs
 subst ex eH e1 ev;obtain rfl:u=Value.ref b:=rx;obtain rfl:=QV rp3;have sm:bN H H3:=(bN.upd hp).trans sm3;have ep3:H3 p=some (.lst []):=sm3 _ _ aC;have hpb:p≠b:=fun z=>by subst z;rw [eb] at hp;cases hp
 have hpas:p∉as:=fun z=>by obtain ⟨ws,g⟩:=il.live p z;rw [g] at hp;cases hp
 have hlen:=il.reps.length;refine pQ (by lia) I3 (TQ.k (sm _ _ eb) (by have:=qF hg3;lia)) ry rv1 fun s4 I5=>?_
 rw [tZ hno] at I5;rw [List.nodup_cons] at hnd;obtain ⟨c',E',k'⟩:=E.grow (i:=i) (as':=as++[p]) (H':=upd H3 b (.dK (ks++[(kz,.ref p)]))) (d:=.dct (kvs++[(kD kz,.lst [])])) hc (fun a ha=>by
  rcases List.mem_append.mp ha with h|h
  ·exact .inl h
  ·rw [List.mem_singleton.mp h];exact .inr hp) (by
  rw [List.nodup_cons,List.mem_append,List.mem_singleton,List.nodup_append];refine ⟨fun z=>z.elim hnd.1 (fun z=>hpb z.symm),hnd.2,by simp,fun u hu w hw q=>?_⟩;rw [List.mem_singleton.mp hw] at q;exact hpas (q▸hu)) (fun a o e n=>by
  rw [aR (fun z=>n (by rw [z];exact List.mem_cons_self ..))];exact sm _ _ e) (.dct aC (((il.same sm).upd hnd.1 (sm _ _ eb) rfl).snoc (by rw [aR hpb];exact ep3) .nil rfl) (by
   rw [List.map_append,List.nodup_append];refine ⟨nk,by simp,fun u hu w hw q=>?_⟩;rw [List.map_singleton,List.mem_singleton] at hw;obtain ⟨pr,hpr,rfl⟩:=List.mem_map.mp hu;unfold lW at hno;rw [Option.map_eq_none_iff,List.find?_eq_none] at hno;exact hno pr hpr (decide_eq_true (q.trans hw))))
 exact ⟨σ,_,I5,q c' _ _ k' E'⟩
end
end Mi
end
section
namespace Mi
open PySem L2 PySem.SeqAt PySem.Spec PyProof.Rows
variable [KFrag]
variable {S:Nat->Bool}
section
variable {X:Cx} {e:Expr} {pos pos':Pos} {fe:FE} {re:Bool}
noncomputable def aG5 (i:Nat) (fk fv:FE):TS:=fun D' σ H=>∃ρ kd d kvs a,ER H σ ρ/\fv ρ=.ok d/\fk ρ=.ok kd/\σ[i]?=some (some (.ref a))/\Rep All H (.ref a) (.dct kvs)/\D.aW (kvs.map (·.2))=true/\kvs.length<sizeLine/\rW kvs kd=true/\d.pure=true/\
 ∀H1 o,bN H H1->nU o=true->Rep All (upd H1 a o) (.ref a) (.dct (putD kvs kd d))->D'.nx σ (upd H1 a o)
theorem aA3 {i:Nat} {x:Str} {p1:Pos} {value k:Expr} {fv fk:FE} {rv rk:Bool} (hu:X.A.units+20<cLine) (hN:X.N[i]?=some x) (hvi:Vis X.env.scope x) (hk:PE X k (gE fk rk)) (hv:PE X value (gE fv rv))
  (hs:swapsWith value (some (.Subscript (.Name x p1) k pos')) pos.line X.env=pure false) (hd:nDb x) (hcd:nCd x) :
  PS X (.Assign [.Subscript (.Name x p1) k pos'] value pos) (aG5 i fk fv):=by
 intro pins s σ H D' I ⟨ρ,kd,d,kvs,a,E,h0,h1,hσ,r,hin,hg1,hg2,hg3,q⟩;refine wpAny_Assign_Subscript (thn (hv pins s σ H (fun v H1=>bN H H1/\Rep All H1 v d) I ⟨ρ,d,E,h0,fun v H1 s1 r1 _=>⟨s1,r1⟩⟩) fun rr s1 ⟨v,H1,I1,rv1,sm1,rp1⟩=>
  thn (dH hN hvi hd hcd pins s1 σ H1 (fun w H2=>w=.ref a/\H2=H1) I1 ⟨_,hσ,rfl,rfl⟩) fun u s2 ⟨xx,H2,I2,rx,ex,eH⟩=>
  thn (hk pins s2 σ H2 (fun w H3=>bN H2 H3/\Rep All H3 w kd) I2 ⟨ρ,kd,by rw [eH];exact E.same sm1,h1,fun v H1 s1 r1 _=>⟨s1,r1⟩⟩) fun iv s3 ⟨y,H3,I3,ry,sm3,rp3⟩=>?_) hs
 subst ex eH;obtain rfl:u=Value.ref a:=rx;have sm:=sm1.trans sm3;obtain ⟨H4,o4,I4,g,hmo,rp⟩:=aCg I3 (r.same sm) hin rp3 hg2 hg1 (rp1.same sm3) hg3;exact pQ (by lia) I4 g ry rv1 fun s4 I5=>⟨σ,_,I5,q _ _ sm hmo rp⟩
theorem xO {k d:D} (hk:cT k=true):∀kvs:List (D×D),bU (putD kvs k d) k=some d
 | []=>by
  obtain ⟨z,rfl⟩:=rA hk;rw [putD,bU,if_pos];rw [wV,decide_eq_true rfl]
 | (q,w)::r=>by
  rw [putD];split
  ·rename_i h;rw [bU,if_pos h]
  ·rename_i h;rw [bU,if_neg h];exact xO hk r
theorem aA4 {H:Hp} {a:Addr} {o:HO} {kvs:List (D×D)} {k d:D} {qb:Bool} (hk:cT k=true) (hm:nU o=true) (r:Rep All (upd H a o) (.ref a) (.dct (putD kvs k d))) (hd:d.pure=true) (hi:D.aW (kvs.map (·.2))=true):n6 qb (upd H a o) a [] (.dct (putD kvs k d)):=by
 refine .pln rfl aC ?_ r (j8 hd hi);cases r with
 | dK e _ _ _=>rw [aC] at e;cases e;rfl
 | dT e _ rt _=>
  obtain ⟨kz,rfl⟩:=rA hk;have:=vC (k:=kz) rt;rw [xO hk] at this;cases this
theorem VM {H:Hp} {b:Addr} {as:List Addr} {kvs:List (D×D)} {qb:Bool} (h:n6 qb H b as (.dct kvs)) (hi:D.aW (kvs.map (·.2))=true):as=[]:=by
 cases h with
 | dct e i n=>
  cases i with
  | nil=>rfl
  | cons e r p t=>
   rw [List.map_cons,D.aW,Bool.and_eq_true,D.pure] at hi;cases hi.1
 | pln z=>exact z
theorem putAll_snoc (y:D):∀(ys:List D) (kvs:List (D×D)),putAll (ys++[y]) kvs=putD (putAll ys kvs) y (.bl true)
 | [],_=>rfl
 | x::xs,kvs=>putAll_snoc y xs _
theorem xP {k d:D} (hk:isInt k=true):∀{kvs:List (D×D)},kvs.all (fun p=>isInt p.1)=true->(putD kvs k d).all (fun p=>isInt p.1)=true
 | [],_=>by simp [putD,hk]
 | (q,w)::r,h=>by
  rw [List.all_cons,Bool.and_eq_true] at h;rw [putD];split
  ·rw [List.all_cons,Bool.and_eq_true];exact h
  ·rw [List.all_cons,Bool.and_eq_true];exact ⟨h.1,xP hk h.2⟩
theorem GK {k d:D}:∀(kvs:List (D×D)),(putD kvs k d).length<=kvs.length+1
 | []=>by simp [putD]
 | (q,w)::r=>by
  rw [putD];split
  ·simp
  ·have:=GK (k:=k) (d:=d) r;simp only [List.length_cons];lia
theorem xQ:∀{ys:List D} {kvs:List (D×D)},ys.all isInt=true->kvs.all (fun p=>isInt p.1)=true->D.aW (kvs.map (·.2))=true->(putAll ys kvs).all (fun p=>isInt p.1)=true/\D.aW ((putAll ys kvs).map (·.2))=true/\(putAll ys kvs).length<=ys.length+kvs.length
 | [],kvs,_,h1,h2=>⟨h1,h2,by simp [putAll]⟩
 | y::ys,kvs,h,h1,h2=>by
  rw [List.all_cons,Bool.and_eq_true] at h;obtain ⟨g1,g2,g3⟩:=xQ (ys:=ys) h.2 (xP (d:=.bl true) h.1 h1) (j8 rfl h2);have:=GK (k:=y) (d:=.bl true) kvs;refine ⟨g1,g2,?_⟩;simp only [putAll,List.length_cons];lia
theorem JQ {d:D} (h:isInt d=true):cT d=true:=by cases d <;> first|rfl|cases h
theorem VN {kvs:List (D×D)} {k:D} (hk:isInt k=true) (h:kvs.all (fun p=>isInt p.1)=true):rW kvs k=true:=by
 unfold rW;rw [Bool.and_eq_true];have h0:keyOk k=true:=by cases k <;> first|rfl|cases hk
 refine ⟨h0,List.all_eq_true.mpr fun p hp=>?_⟩;have:=List.all_eq_true.mp h p hp;obtain ⟨p1,p2⟩:=p;cases p1 <;> first|(cases this;done)|skip
 cases k <;> first|(cases hk;done)|rfl
theorem GP {α:Type} (l:List (Option α)) (m:Nat):l.set m (l.getD m none)=l:=by
 refine List.ext_getElem? fun t=>?_
 rw [List.getElem?_set];split
 ·rename_i ht;subst ht;split
  ·rename_i hl;rw [List.getD_eq_getElem?_getD,List.getElem?_eq_getElem hl];rfl
  ·rename_i hl;rw [List.getElem?_eq_none (by lia)]
 ·rfl
theorem n6.eF {H:Hp} {b:Addr} {as:List Addr} {ys:List D} {qb:Bool} (h:n6 qb H b as (.lst ys)):∃vs,H b=some (.lst vs)/\bB All H vs ys:=tL h.rep
theorem Q0 {i j m:Nat} {y x z:Str} {p1 p2 p3 p4:Pos} {value:Expr} (hu:X.A.units+20<cLine) (hi:S i=true) (hj:S j=true) (hm:S m=false) (hij:i≠j) (hp:PassesOwn (model X.prog X.w) X.A X.env X.xe) (hc:X.calm=true) (hNd:X.N.Nodup)
  (hNi:X.N[i]?=some y) (hvi:Vis X.env.scope y) (hNj:X.N[j]?=some x) (hvj:Vis X.env.scope x) (hNm:X.N[m]?=some z) (hlm:Loc X.env.scope z) (hvm:Vis X.env.scope z) (hv:PE X value (gE (bC (.bl true)) true))
  (hf:X.fn z=true\/X.env.scope.names.lookup z=some .local:=by first|exact .inl rfl|exact .inr rfl|assumption)
  (hs:swapsWith value (some (.Subscript (.Name x p1) (.Name z p2) pos')) pos.line X.env=pure false:=by rfl) (hfs:∀u,foldedSetIterable (.Name y p3) X.env u=pure u:=by intro _;rfl)
  (hd:nDb x:=by decide) (hcd:nCd x:=by decide) (hdy:(y==("__debug__" : Str))=false:=by decide) (hcdy:(y==("__classdict__" : Str))=false:=by decide) (hdz:(z==("__debug__" : Str))=false:=by decide) (hcdz:(z==("__classdict__" : Str))=false:=by decide) {G8:Pos} :
  QS X (.For (.Name z p4) (.Name y p3) [.Assign [.Subscript (.Name x p1) (.Name z p2) pos'] value pos] [] G8) (tN S (n_ i j m)):=QS.mk fun pins s σ H D' I ⟨c,ρ,fl,E,h,q⟩=>by
 have lmσ:m<σ.length:=by
  rw [I.len];exact (List.getElem?_eq_some_iff.mp hNm).1
 refine pM hp hc (KQ (dH hNi hvi hdy hcdy)) (bI hNd hNm hlm hf) (tW (aA3 hu hNj hvj (aA hNm hvm hdz hcdz) hv hs hd hcd)) hfs pins s σ H D' I ?_;unfold n_ at h;split at h
 rotate_left
 ·cases h
 rename_i ys kvs hx hy;split at h
 rotate_left
 ·cases h
 rename_i hg;cases h;simp only [Bool.and_eq_true,decide_eq_true_eq] at hg;obtain ⟨⟨⟨g1,g2⟩,g3⟩,g4⟩:=hg;have g4:D.aW (kvs.map (·.2))=true:=g4;obtain ⟨⟨b,as⟩,hci⟩:=E.all i hi (by rw [hx];intro z;cases z);obtain ⟨⟨a,as'⟩,hcj⟩:=E.all j hj (by rw [hy];intro z;cases z);have hmi:m≠i:=fun z=>by subst z;rw [hi] at hm;cases hm
 have hmj:m≠j:=fun z=>by subst z;rw [hj] at hm;cases hm
 obtain ⟨hσ,hN0⟩:=E.nst i b as hci;obtain ⟨hσj,hN1⟩:=E.nst j a as' hcj;have lj:j<ρ.length:=by rw [<-E.len];exact (List.getElem?_eq_some_iff.mp hσj).1
 rw [hx] at hN0;rw [hy] at hN1;have ha':as'=[]:=VM hN1 g4;subst ha';obtain ⟨vs,eb,rv⟩:=hN0.eF;have key:∀{ρ':List D} {k:Nat},ρ'=(ρ.set m .uD).set j (.dct (putAll (ys.take k) kvs))->ρ'.getD i .uD=.lst ys/\ρ'.getD j .uD=.dct (putAll (ys.take k) kvs):=fun {ρ' k} er=>by
  subst er;refine ⟨?_,?_⟩
  ·rw [aN,if_neg fun z=>hij z.1.symm,aN,if_neg fun z=>hmi z.1];exact hx
  ·rw [aN,if_pos ⟨rfl,by rw [List.length_set];exact lj⟩]
 refine ⟨.ref b,hσ,b,rfl,⟨vs,.of eb⟩,fun k n σ' H'=>n=ys.length-k/\k<=ys.length/\KC c H c H'/\∃ρ',ρ'=(ρ.set m .uD).set j (.dct (putAll (ys.take k) kvs))/\NS S c H' σ' ρ',⟨_,rfl,Nat.zero_le _,fun a o e n=>⟨e,n⟩,_,rfl,?_⟩,?_⟩
 ·have e1:(ρ.set m .uD).set j (.dct (putAll (ys.take 0) kvs))=ρ.set m .uD:=by
   have e2:(ρ.set m .uD).getD j .uD=.dct kvs:=by rw [aN,if_neg fun z=>hmj z.1];exact hy
   refine List.ext_getElem? fun t=>?_
   rw [List.getElem?_set];split
   ·rename_i ht;subst ht;rw [if_pos (by rw [List.length_set];exact lj)];rw [List.getD_eq_getElem?_getD,List.getElem?_eq_getElem (by rw [List.length_set];exact lj)] at e2;rw [List.getElem?_eq_getElem (by rw [List.length_set];exact lj)];have e2:(ρ.set m .uD)[j]'(by rw [List.length_set];exact lj)=.dct kvs:=e2;rw [e2];rfl
   ·rfl
  rw [e1];have:=E.forget (v:=σ.getD m none) hm;have e3:σ.set m (σ.getD m none)=σ:=GP _ _;rw [e3] at this;exact this
 rintro k n σ' H' ⟨rfl,hk,kc,ρ',er,E'⟩;obtain ⟨er1,er2⟩:=key er;obtain ⟨hσ',hNi'⟩:=E'.nst i b as hci;obtain ⟨hσj',hNj'⟩:=E'.nst j a [] hcj;rw [er1] at hNi';rw [er2] at hNj';obtain ⟨vs',eb',rv'⟩:=hNi'.eF;rcases Nat.lt_or_ge k ys.length with hlt|hge
 ·refine .inr ⟨⟨vs',vs'[k]'(by rw [rv'.length];exact hlt),.of eb',by simp⟩,fun σ2 H2=>KC c H c H2/\∃ρ',ρ'=(ρ.set m .uD).set j (.dct (putAll (ys.take (k+1)) kvs))/\NS S c H2 σ2 ρ',fun σ2 H2 n2=>⟨ys.length-(k+1),by lia,rfl,hlt,n2⟩,fun v H2 hyl=>?_⟩;obtain ⟨eH,hyl⟩:=hyl;subst eH;have hv:=hyl vs' (.of eb');obtain ⟨w,hw,rw_⟩:=rv'.get (i:=k) (d:=ys[k]) (by simp [hlt]);rw [hw] at hv;have hv':w=v:=Option.some.inj hv;subst hv';have hint:isInt ys[k]=true:=List.all_eq_true.mp g1 _ (List.getElem_mem hlt);obtain ⟨iy,hiy⟩:∃iy,ys[k]=.int iy:=by
   cases hh:ys[k] <;> first|exact ⟨_,rfl⟩|(rw [hh] at hint;cases hint)
  rw [hiy] at rw_ hint;have gt:(ys.take k).all isInt=true:=List.all_eq_true.mpr fun d hd=>List.all_eq_true.mp g1 d (List.mem_of_mem_take hd)
  obtain ⟨p1,p2,p3⟩:=xQ gt g2 g4;have Em:NS S c H2 (σ'.set m (some w)) (ρ'.set m (.int iy)):=E'.set hm (rw_.bF rfl);have ek:putAll (ys.take (k+1)) kvs=putD (putAll (ys.take k) kvs) (.int iy) (.bl true):=by
   rw [<-hiy,<-putAll_snoc,List.take_succ_eq_append_getElem hlt]
  have hml:m<ρ'.length:=by
   rw [er,List.length_set,List.length_set,<-E.len];exact lmσ
  refine ⟨ρ'.set m (.int iy),.int iy,.bl true,putAll (ys.take k) kvs,a,Em.er,rfl,?_,by rw [List.getElem?_set_ne hmj];exact hσj',hNj'.rep,p2,?_,VN hint p1,rfl,fun H3 o sm hmo rp=>?_⟩
  ·show lX m _=_;unfold lX;rw [aN,if_pos ⟨rfl,hml⟩]
  ·have:(ys.take k).length<=ys.length:=by rw [List.length_take];lia
   exact qF (decide_eq_true (show (putAll (ys.take k) kvs).length<lim by lia))
  ·obtain ⟨oa,ha1,ha2⟩:=hNj'.live a (List.mem_cons_self ..);obtain ⟨E3,k3⟩:=(Em.same sm).app (o:=o) hcj (List.mem_cons_self ..) (sm _ _ ha1) ha2 (aA4 (JQ hint) hmo rp rfl p2);refine ⟨kc.trans ((KC.same sm).trans k3),_,rfl,?_⟩;have E4:=E3.forget (v:=(σ'.set m (some w)).getD m none) hm;have e3:(σ'.set m (some w)).set m ((σ'.set m (some w)).getD m none)=σ'.set m (some w):=GP _ _;rw [e3] at E4;have e4:((ρ'.set m (.int iy)).set j (.dct (putD (putAll (ys.take k) kvs) (.int iy) (.bl true)))).set m .uD=(ρ.set m .uD).set j (.dct (putAll (ys.take (k+1)) kvs)):=by
    rw [ek,er,List.set_comm _ _ hmj.symm,List.set_set];rw [List.set_comm _ _ hmj.symm,List.set_set,List.set_set]
   rw [e4] at E4;exact E4
 ·refine .inl ⟨⟨vs',.of eb',by rw [rv'.length];exact hge⟩,?_⟩;rw [List.take_of_length_le hge] at er;subst er;exact q c σ' H' kc E'
theorem XD {H:Hp} {P:Addr->Prop}:∀{vs:List V} {ds:List D},bB P H vs ds->ds.all aDg=true->∃as:List Addr,as.Nodup/\InA H as vs ds/\∀a∈as,P a/\V.ref a∈vs/\∃ws ys,H a=some (.lst ws)/\bB All H ws ys/\ys.all isInt=true
 | _,_,.nil,_=>⟨[],List.nodup_nil,.nil,fun a ha=>by cases ha⟩
 | _,_,.cons (vs:=vs) r t,h=>by
  rw [List.all_cons,Bool.and_eq_true] at h;obtain ⟨as,h1,h2,h3⟩:=XD t h.2;have mono:∀{as':List Addr} {ws:List V} {es:List D},(∀a∈as,a∈as')->InA H as ws es->InA H as' ws es:=fun hm i=>by
   induction i with
   | nil=>exact .nil
   | cons m e r p t ih=>exact .cons (hm _ m) e r p ih
  cases r with
  | @lst a ws ys e p rr=>
   have hi:ys.all isInt=true:=h.1;have hp:D.aW ys=true:=ints_pure hi;by_cases ha:a∈as
   ·exact ⟨as,h1,.cons ha e rr.all hp h2,fun x hx=>let ⟨q1,q2,q3⟩:=h3 x hx;⟨q1,List.mem_cons_of_mem _ q2,q3⟩⟩
   ·refine ⟨a::as,List.nodup_cons.mpr ⟨ha,h1⟩,.cons (List.mem_cons_self ..) e rr.all hp (mono (fun x hx=>List.mem_cons_of_mem _ hx) h2),fun x hx=>?_⟩;rcases List.mem_cons.mp hx with rfl|hx
    ·exact ⟨p,List.mem_cons_self ..,ws,ys,e,rr.all,hi⟩
    ·obtain ⟨q1,q2,q3⟩:=h3 x hx;exact ⟨q1,List.mem_cons_of_mem _ q2,q3⟩
  | _=>cases h.1
where
 ints_pure:∀{ys:List D},ys.all isInt=true->D.aW ys=true
  | [],_=>rfl
  | y::ys,h=>by
   rw [List.all_cons,Bool.and_eq_true] at h;rw [D.aW,ints_pure h.2,Bool.and_true];obtain ⟨h1,_⟩:=h;cases y <;> first|rfl|cases h1
theorem no_ref {H:Hp} {a:Addr}:∀{ws:List V} {ys:List D},bB All H ws ys->ys.all isInt=true->V.ref a∉ws
 | _,_,.nil,_=>by simp
 | _,_,.cons r t,h=>by
  rw [List.all_cons,Bool.and_eq_true] at h;intro z;rcases List.mem_cons.mp z with z|z
  ·subst z;have:=h.1;cases r <;> cases this
  ·exact no_ref t h.2 z
theorem aA5 {i:Nat} {x:Str} (ho:S i=true) (hq:S (i+1000)=true) (hN:X.N.Nodup) (hi:X.N[i]?=some x) (hx:Loc X.env.scope x) (he:PE X e (gE fe true)) (hs:swapsWith e (some (.Name x pos')) pos.line X.env=pure false:=by rfl) (hf:X.fn x=true\/X.env.scope.names.lookup x=some .local:=by first|exact .inl rfl|exact .inr rfl|assumption) :
  QS X (.Assign [.Name x pos'] e pos) (tN S (VL i fe)):=QS.mk fun pins s σ H D I ⟨c,ρ,fl,E,h,q⟩=>by
 have hl:i<σ.length:=by
  rw [I.len];exact (List.getElem?_eq_some_iff.mp hi).1
 obtain ⟨d,h1,h2⟩:=aY h;refine lZ hN hi hx he hs hf pins s σ H D I ⟨ρ,d,E.er,h1,fun v H' sm r n=>?_⟩;split at h2
 ·rename_i ds;split at h2
  ·rename_i hp;cases h2;have n':=n rfl;cases n' with
   | @lst b vs _ ea pa ra=>
    obtain ⟨as,nd,ia,al⟩:=XD ra hp;have hb:b∉as:=fun z=>by
     obtain ⟨_,z2,ws,ys,z3,z4,z5⟩:=al b z;rw [ea] at z3;cases z3;exact no_ref z4 z5 z2
    obtain ⟨c',E',k⟩:=E.new (i:=i) (as:=as) ho hl sm (List.nodup_cons.mpr ⟨hb,nd⟩) (fun a ha=>by
     rcases List.mem_cons.mp ha with rfl|ha
     ·exact pa
     ·exact (al a ha).1) (.any hq ea ia fun a ha=>let ⟨_,_,ws,_,h,_⟩:=al a ha;⟨ws,h⟩)
    exact q c' _ _ k E'
  ·cases h2
 ·cases h2
theorem InA.short {H:Hp} {as:List Addr} {vs:List V} {ds:List D} (h:InA H as vs ds) (hs:ds.all xM=true):∀v∈vs,∃a ws,v=.ref a/\a∈as/\H a=some (.lst ws)/\ws.length<=1000:=by
 induction h with
 | nil=>intro v hv;cases hv
 | cons m e r p t ih=>
  rw [List.all_cons,Bool.and_eq_true] at hs;intro v hv;rcases List.mem_cons.mp hv with rfl|hv
  ·exact ⟨_,_,rfl,m,e,by rw [r.length];exact of_decide_eq_true hs.1⟩
  ·exact ih hs.2 v hv
theorem InL.inA {H:Hp} {as as':List Addr} {vs:List V} {ds:List D} (h:InL H vs ds as) (hm:∀a∈as,a∈as'):InA H as' vs ds:=by
 induction h with
 | nil=>exact .nil
 | cons e r p t ih=>exact .cons (hm _ (List.mem_cons_self ..)) e r p (ih fun a ha=>hm a (List.mem_cons_of_mem _ ha))
theorem Q3 {i j:Nat} {x y:Str} {e1 e2:Expr} {v1 v2:V} {p1 p2 p3 p4 apos cpos apos' cpos' G8 posE posE':Pos} {rest:List Stmt} {g:FS} (hi:S i=true) (hj:S j=false) (hp:PassesOwn (model X.prog X.w) X.A X.env X.xe) (hc:X.calm=true) (hNd:X.N.Nodup)
  (hNi:X.N[i]?=some x) (hvi:Vis X.env.scope x) (hNj:X.N[j]?=some y) (hlj:Loc X.env.scope y) (hvj:Vis X.env.scope y) (h1:PE X e1 (tC v1)) (h2:PE X e2 (aD7 fun _ H Q=>Q [v2] H)) (hr:QSs X rest (tN S g))
  (hf:X.fn y=true\/X.env.scope.names.lookup y=some .local:=by first|exact .inl rfl|exact .inr rfl|assumption)
  (hd:nDb x:=by decide) (hcd:nCd x:=by decide) (hdy:(y==("__debug__" : Str))=false:=by decide) (hcdy:(y==("__classdict__" : Str))=false:=by decide)
  (hfs:∀u,foldedSetIterable (.Name x p1) X.env u=pure u:=by intro _;rfl)
  (hbase:attributeBase (.Name y p2) "append" X.env (eval (.Name y p2) X.env)=eval (.Name y p2) X.env:=by rfl)
  (hs1:starEach [e1] X.env=(false,eval e1 X.env)::starEach [] X.env:=by rfl)
  (hfew:((backTo cpos (starEach [e1] X.env)).all (fun x=>!x.1)&&(backToKw cpos (keywordEach [] X.env)).all (fun x=>x.1.isSome)
   && decide (([e1]:List Expr).length+([]:List Keyword).length+(if ([]:List Keyword).isEmpty then 0 else 1)<30))=true:=by rfl)
  (hline:(apos.endLine==cpos.line)=true:=by rfl)
  (hs:swapsWith (.Call (.Attribute (.Name y p2) "append" apos) [e1] [] cpos) none posE.line X.env=pure false:=by rfl)
  (hbase':attributeBase (.Name x p4) "append" X.env (eval (.Name x p4) X.env)=eval (.Name x p4) X.env:=by rfl)
  (hs1':starEach [e2] X.env=(false,eval e2 X.env)::starEach [] X.env:=by rfl)
  (hfew':((backTo cpos' (starEach [e2] X.env)).all (fun x=>!x.1)&&(backToKw cpos' (keywordEach [] X.env)).all (fun x=>x.1.isSome)
   && decide (([e2]:List Expr).length+([]:List Keyword).length+(if ([]:List Keyword).isEmpty then 0 else 1)<30))=true:=by rfl)
  (hline':(apos'.endLine==cpos'.line)=true:=by rfl)
  (hs':swapsWith (.Call (.Attribute (.Name x p4) "append" apos') [e2] [] cpos') none posE'.line X.env=pure false:=by rfl) :
  QSs X (.For (.Name y p3) (.Name x p1) [.Expr (.Call (.Attribute (.Name y p2) "append" apos) [e1] [] cpos) posE] [] G8::.Expr (.Call (.Attribute (.Name x p4) "append" apos') [e2] [] cpos') posE'::rest) (tN S (bO (xN i j) g)):=QSs.mk fun pins s σ H D' I ⟨c,ρ,fl,E,h,q⟩=>by
 have ljσ:j<σ.length:=by
  rw [I.len];exact (List.getElem?_eq_some_iff.mp hNj).1
 refine o8 (pM hp hc (KQ (dH hNi hvi hd hcd)) (bI hNd hNj hlj hf) (tW (nP (HN PySem.F.plainAttrs_list PySem.F.slot_list_append PySem.F.type_list_append gW (dH hNj hvj hdy hcdy) (eV h1 gU hs1) hbase hfew hline hs1 rfl) hs)) hfs)
  (o8 (nP (HN PySem.F.plainAttrs_list PySem.F.slot_list_append PySem.F.type_list_append gW (dH hNi hvi hd hcd) (eV h2 gU hs1') hbase' hfew' hline' hs1' rfl) hs') hr.out) pins s σ H D' I ?_
 obtain ⟨r0,h0,hg⟩:=aY h;unfold xN at h0;split at h0
 rotate_left
 ·cases h0
 rename_i ds hx;split at h0
 rotate_left
 ·cases h0
 rename_i hgd;cases h0;rw [Bool.and_eq_true] at hgd;have hl1:=of_decide_eq_true hgd.1;obtain ⟨⟨b,as⟩,hci⟩:=E.all i hi (by rw [hx];intro z;cases z);obtain ⟨hσ,hN0⟩:=E.nst i b as hci;have hnd:=E.nd i b as hci;rw [List.nodup_cons] at hnd;rw [hx] at hN0;obtain ⟨vs,eb,rv⟩:=hN0.eF;have hin:InA H as vs ds:=by
  cases hN0 with
  | lst e il=>
   rw [eb] at e;cases e;exact il.inA fun _ h=>h
  | pln z e m r p=>
   cases ds with
   | nil=>cases rv;exact .nil
   | cons d ds=>
    rw [inner,D.aW,Bool.and_eq_true] at p;rw [List.all_cons,Bool.and_eq_true] at hgd;cases d <;> simp [xM] at hgd
    rw [D.pure] at p;cases p.1
  | any z e il l=>
   rw [eb] at e;cases e;exact il
 have hsh:=hin.short hgd.2;have hij:i≠j:=fun z=>by subst z;rw [hi] at hj;cases hj
 refine ⟨.ref b,hσ,b,rfl,⟨vs,.of eb⟩,fun k n σ' H'=>n=vs.length-k/\k<=vs.length/\σ'.length=σ.length/\(∀t,t≠j->σ'[t]?=σ[t]?)/\(∀a o,H a=some o->a∉as->H' a=some o)/\(∀v∈vs,∃a ws,v=.ref a/\a∈as/\H' a=some (.lst ws)/\ws.length<=1000+k),⟨_,rfl,Nat.zero_le _,rfl,fun _ _=>rfl,fun _ _ e _=>e,fun v hv=>hsh v hv⟩,?_⟩;rintro k n σ' H' ⟨rfl,hk,hl,hσ',hk1,hk2⟩;have eb':=hk1 b _ eb hnd.1;rcases Nat.lt_or_ge k vs.length with hlt|hge
 ·refine .inr ⟨⟨vs,vs[k],.of eb',by simp⟩,fun σ2 H2=>σ2.length=σ.length/\(∀t,t≠j->σ2[t]?=σ[t]?)/\(∀a o,H a=some o->a∉as->H2 a=some o)/\(∀v∈vs,∃a ws,v=.ref a/\a∈as/\H2 a=some (.lst ws)/\ws.length<=1000+(k+1)),fun σ2 H2 n2=>⟨vs.length-(k+1),by lia,rfl,hlt,n2⟩,fun v H2 hyl=>?_⟩;obtain ⟨eH,hyl⟩:=hyl;subst eH;have hv:vs[k]?=some v:=hyl vs (.of eb');obtain ⟨a,ws,rfl,ha,ea,hlw⟩:=hk2 v (List.mem_of_getElem? hv);refine ⟨.ref a,by rw [List.getElem?_set_self (by rw [hl];exact ljσ)],.inl ⟨rfl,ws,.of ea⟩,a,ws,v1,rfl,rfl,ea,by rw [sizeLine_eq];have:=rv.length;lia,by rw [List.length_set];exact hl,fun t ht=>by rw [List.getElem?_set_ne (Ne.symm ht)];exact hσ' t ht,fun x o e n=>by rw [aR (fun z=>n (by rw [z];exact ha))];exact hk1 x o e n,fun v hv=>?_⟩;obtain ⟨a2,ws2,rfl,ha2,ea2,hlw2⟩:=hk2 v hv;by_cases hz:a2=a
  ·subst hz;exact ⟨a2,_,rfl,ha2,aC,by simp only [List.length_append,List.length_singleton];lia⟩
  ·exact ⟨a2,ws2,rfl,ha2,by rw [aR hz];exact ea2,by lia⟩
 ·refine .inl ⟨⟨vs,.of eb',hge⟩,?_⟩;refine ⟨.ref b,by rw [hσ' i hij];exact hσ,.inl ⟨rfl,vs,.of eb'⟩,by show 1<=sizeLine;rw [sizeLine_eq];lia,fun p hp=>?_⟩;have hpb:p≠b:=fun z=>by subst z;rw [eb'] at hp;cases hp
  refine ⟨b,vs,.ref p,rfl,rfl,by rw [aR (Ne.symm hpb)];exact eb',by rw [sizeLine_eq];have:=rv.length;lia,?_⟩;obtain ⟨c',E',k'⟩:=E.drop (i:=i) (j:=j) (H':=upd (upd H' p (.lst [v2])) b (.lst (vs++[.ref p]))) hci hj hl hσ' fun a o e n=>by
   rw [List.mem_cons,not_or] at n;have:=hk1 a o e n.2;rw [aR n.1,aR (fun z=>by rw [z] at this;rw [hp] at this;cases this)];exact this
  exact ⟨c',_,fl,E',hg,q.step k'⟩
end
end Mi
end
section
local macro_rules | `(tactic| trivial) => `(tactic| first | exact Or.inl rfl | exact Or.inr rfl | exact Or.inr (Or.inl rfl) | exact Or.inr (Or.inr rfl))
namespace Lk11
open PySem L2 Mi PySem.W
noncomputable def top (i:Nat):Stmt:=PySem.Challenge.pw_hookmill_k11_parts.main.body.getD i (.Pass ⟨0,0,0,0⟩)
abbrev jM:Stmt:=top 6
def xR:Nat->Bool:=fun i=>i==5
noncomputable def jN:FS:=bO (b8 false 2 (bC (.str "abcdefghijklmnopqrstuvwxyz")) true) (bO (b8 false 3 (b2 (aU .add) fP (b2 (aU .mod) cP uG)) true) (bO (b8 false 4 (b2 (aU .mod) (b2 (aU .fdiv) cP uG) fJ) true) (bO (b8 true 5 (bC (.dct [])) true) (bO (wN (mO (aF (b2 (aU .add) aDc (b2 (aU .mod) (b2 (aU .fdiv) cP (bC (.int 64))) aDc)) bG) lN) (tg1 6) (bO (b8 false 7 (bC (.str "")) true) (bO (wN (mO (aF fJ bG) lN) (tg1 8) (bO (b8 false 9 (b2 (aU .mul) (b2 (aU .mod) (b2 (aU .fdiv) cP MT) yI) (b2 (aU .add) rY yI)) true) (bO (sIf (bTB (b2 (bR .eq) rY nM)) (b8 false 9 fP true) (mQ)) (b8 false 7 (b2 (aU .add) rQ (b2 getD kJ (b2 (aU .mod) (b2 (aU .add) (b2 (aU .fdiv) (b2 (aU .fdiv) cP wK) (b2 (aU .add) (b2 (aU .mul) rY rY) fP)) (b2 (aU .mul) v5 rR)) M3))) true)))) (bO (T5 5 rQ (b2 (aU .mod) jH aAn)) (b8 false 1 (b2 (aU .fdiv) jH aAn) true))))) (wM 5)))))
def eG:List D->Res D:=fnS 2 10 jN
abbrev fW:Stmt:=top 8
def rB:Nat->Bool:=fun i=>i==2
noncomputable def fX:FS:=bO (b8 true 2 (WX bG) true) (bO (wN (mO (aF (aX fK (aF cP bG)) bG) lN) (tg1 3) (aBt 2 (b2 (aU .mod) (b2 (aU .add) (b2 (aU .fdiv) jH (b2 (aU .add) fJ fP)) (b2 (aU .mul) fJ fJ)) (b2 (aU .add) fJ fP)) (b2 getD cP fJ))) (wM 2))
def cC:List D->Res D:=fnS 2 4 fX
abbrev iM:Stmt:=top 9
def vD:Nat->Bool:=fun i=>i==4
noncomputable def iQ:FS:=bO (b8 false 3 (aX (fL 2 cC) (aF (aX GC (aF (b2 (aU .add) (aX fK (aF cP bG)) (b2 (aU .mul) yI jH)) bG)) (aF kJ bG))) true) (bO (b8 true 4 (WX bG) true) (bO (wN (mO (aF (aX fK (aF cP bG)) bG) lN) (tg1 5) (uI 4 (oJ (aF (oJ (aF dF (aF (b2 getD fJ gB) bG))) (aF (b2 getD cP gB) bG))))) (bO (wN (mO (aF jH bG) lN) (tg1 5) (bO (b8 false 6 (R9 fJ (p_ (b2 (aU .add) (aX fK (aF cP bG)) (b2 (aU .mul) yI gB))) (p_ (b2 (aU .add) (b2 (aU .add) (aX fK (aF cP bG)) (b2 (aU .mul) yI gB)) yI))) true) (uI 4 (oJ (aF (oJ (aF dF (aF (aX (dC .lt) (aF v5 bG)) bG))) (aF (oJ (aF dF (aF (aX (dC .gt) (aF v5 bG)) bG))) bG)))))) (wM 4))))
def cQ:List D->Res D:=fnS 3 7 iQ
abbrev iR:Stmt:=top 10
def vG:Nat->Bool:=fun i=>i==3
noncomputable def iT:FS:=bO (b8 true 3 (WX bG) true) (bO (sIf (bTB (b2 (bR (.ord .gt)) (b2 (aU .mod) kJ aDc) dF)) (bO (b8 false 0 (aX (fL 2 cC) (aF cP (aF (b2 (aU .fdiv) kJ aDc) bG))) true) (aDf (bTB (b2 (bR (.ord .gt)) (aX fK (aF cP bG)) fP)) (bO (uI 3 (oJ (aF (aX (dC .lt) (aF (b2 getD cP dF) (aF (b2 getD cP fP) bG))) (aF (aX (dC .gt) (aF (b2 getD cP dF) (aF (b2 getD cP fP) bG))) bG)))) (b8 false 0 (R9 cP (p_ yI) (YZ)) true)))) (mQ)) (pB (b2 (aU .add) fJ (aX (fL 3 cQ) (aF cP (aF jH (aF kJ bG))))) true))
def dR:List D->Res D:=fnS 3 4 iT
abbrev iU:Stmt:=top 7
def zZ:Nat->Bool:=fun i=>false
noncomputable def lU:FS:=bO (b8 false 2 (b2 getD cP (b2 (aU .mod) jH (aX fK (aF cP bG)))) false) (bO (b8 false 3 (gM 5 (dM cP false) CQ (bTB (b2 (bR .ne) gB kJ)) gB false) true) (bO (b8 false 4 (b2 getD fJ (b2 (aU .mod) (b2 (aU .fdiv) jH (aX fK (aF cP bG))) (aX fK (aF fJ bG)))) false) (pB (oJ (aF (aX (dC .lt) (aF kJ (aF nM bG))) (aF (aX (dC .gt) (aF kJ (aF nM bG))) bG))) false)))
def cO:List D->Res D:=fnS 2 5 lU
abbrev dD:Stmt:=top 11
def xT:Nat->Bool:=fun i=>i==4||i==6
noncomputable def jO:FS:=bO (b8 false 3 (aX T4 (aF cP bG)) true) (bO (b8 true 4 (WX bG) true) (bO (b8 false 5 (WX bG) true) (bO (b8 true 6 (WX bG) true) (bO (b8 false 7 dF true) (bO (b8 false 8 dF true) (bO (b8 false 9 dF true) (bO (IK 1 (tg1 10) (bO (b8 false 11 (b2 (aU .fdiv) gY uG) true) (bO (sAl 12 5) (bO (sIf (bTB (b2 (bR .eq) (b2 (aU .mod) gY uG) aDd)) (b8 false 12 (gM 13 (dM gB false) CQ (bTB (b2 (bR .eq) (b2 getD gZ fP) dF)) gZ false) true) (mQ)) (sIf (zG (bTB (b2 (bR (.ord .lt)) (b2 (aU .mod) gY uG) aAo)) (bTB (b2 (bR (.ord .lt)) (aX fK (aF nM bG)) YX))) (bO (b8 false 7 (b2 (aU .add) (b2 (aU .add) rQ fP) (b2 (aU .mod) (b2 (aU .fdiv) jJ (aX fK (aF fJ bG))) (b2 (aU .pow) M4 aE7))) true) (bO (uI 4 (oJ (aF rQ (aF (b2 getD fJ (b2 (aU .mod) jJ (aX fK (aF fJ bG)))) bG)))) (b8 false 5 (b2 (aU .add) gB (gM 13 (mO (aF (b2 (aU .add) (b2 getD cP (b2 getD fJ (b2 (aU .mod) jJ (aX fK (aF fJ bG))))) fP) bG) lN) CQ (uH) (oJ (aF rQ (aF gZ bG))) false)) true))) (sIf (zG (bTB (bCh (bR (.ord .le)) (bR (.ord .lt)) aAo (b2 (aU .mod) gY uG) aBo)) (bTB (b2 (bR (.ord .gt)) (aX fK (aF zF bG)) fP))) (bO (uI 6 (aX (fL 2 cO) (aF zF (aF jJ bG)))) (b8 false 5 (gM 13 (dM gB false) CQ (bTB (b2 (bR .notin) gZ (b2 getD v5 (b1 aBr fP)))) gZ false) true)) (sIf (bTB (b2 (bR .eq) (b2 (aU .mod) gY uG) aBo)) (b8 false 8 (b2 (aU .add) rY fP) true) (sIf (bTB (b2 (bR .eq) (b2 (aU .mod) gY uG) aAn)) (b8 false 9 (b2 (aU .add) rR (b2 (aU .mod) jJ (b2 (aU .pow) M4 (bC (.int 50))))) true) (mQ))))))))) (bO (b8 true 6 (b2 (aU .add) v5 (aX (fL 3 dR) (aF gB (aF rY (aF kJ bG))))) true) (pB (oJ (aF (aX CN (aF nM bG)) (aF (aX CN (aF (aX gK (aF v5 bG)) bG)) (aF rR bG)))) false)))))))))
def gD:List D->Res D:=fnS 3 13 jO
abbrev jP:Stmt:=top 2
def xU:Nat->Bool:=fun i=>i==1
noncomputable def jQ:FS:=bO (Z7 1 (.dct [])) (bO (wN (dM (b2 getD cP dF) false) (tgN [2,3]) (zY 1 kJ)) (bO (wN (dM (b2 getD cP fP) false) (tgN [4,5]) (sIf (bTB (b2 (bR .ne) (b2 getD nM dF) dF)) (bO (qW 1 (b2 getD nM dF) (b2 getD gB dF)) (qW 1 (b2 getD gB dF) (b2 getD nM dF))) (mQ))) (wM 1)))
def gF:List D->Res D:=fnS 1 6 jQ
abbrev dU:Stmt:=top 3
def nA:Nat->Bool:=fun i=>i==2||i==3
noncomputable def dW:FS:=bO (b8 true 2 (b2 VJ jH (bC (.bl true))) true) (bO (b8 true 3 (Z0 (aF jH bG)) true) (bO (aDf (bTr fJ) (bO (U_ 3 4) (q_ 0 nM (tg1 5) (sIf (bTB (b2 (bR .notin) gB kJ)) (bO (T5 2 gB (bC (.bl true))) (uI 3 gB)) (mQ))))) (pB (aX sortedK (aF kJ bG)) true)))
def bJ:List D->Res D:=fnS 2 6 dW
abbrev z6:Stmt:=top 1
def aA6:Nat->Bool:=fun i=>i==2||i==3||i==6
noncomputable def z7:FS:=bO (b8 false 1 (aX (fL 1 gF) (aF cP bG)) true) (bO (Z7 2 (.dct [])) (bO (Z7 3 (aEi 0)) (bO (wN (dM (b2 getD cP dF) false) (tgN [4,5]) (sIf (bTB (b2 (bR .notin) nM kJ)) (bO (aCn 6 (aX (fL 2 bJ) (aF jH (aF nM bG)))) (bO (n_ 6 2 7) (sMv 3 6))) (mQ))) (wM 3))))
def rC:List D->Res D:=fnS 1 8 z7
abbrev jR:Stmt:=top 12
def xV:Nat->Bool:=fun i=>false
noncomputable def xW:FS:=pB (aBq (b1 (M5 .int) cP) (aBp (b1 (M5 .bool) cP))) true
def eO:List D->Res D:=fnS 1 1 xW
abbrev iV:Stmt:=top 13
def vH:Nat->Bool:=fun i=>false
noncomputable def iW:FS:=bO (sIf (bOr (R7 (bTr (b1 (M5 .list) cP))) (bTB (b2 (bR .eq) (aX fK (aF cP bG)) dF))) (pB (bC (.bl false)) true) (mQ)) (bO (wN (mO (aF (aX fK (aF cP bG)) bG) lN) (tg1 1) (sIf (bOr (R7 (bTr (aX (fL 1 eO) (aF (b2 getD cP jH) bG)))) (zG (bTB (b2 (bR (.ord .gt)) jH dF)) (bTB (b2 (bR (.ord .le)) (b2 getD cP jH) (b2 getD cP (b2 (aU .sub) jH fP)))))) (pB (bC (.bl false)) true) (mQ))) (pB (bC (.bl true)) true))
def dX:List D->Res D:=fnS 1 2 iW
abbrev gP:Stmt:=top 14
def rZ:Nat->Bool:=fun i=>i==2||i==3
noncomputable def gQ:FS:=bO (b8 true 2 (Z0 (aF jH bG)) true) (bO (b8 true 3 (b2 VJ jH (bC (.bl true))) true) (bO (b8 false 4 dF true) (bO (aDf (bTB (b2 (bR (.ord .lt)) nM (aX fK (aF kJ bG)))) (bO (q_ 0 (b2 getD kJ nM) (tg1 5) (sIf (zG (bTB (b2 (bR (.ord .gt)) gB dF)) (bTB (b2 (bR .notin) gB fJ))) (bO (T5 3 gB (bC (.bl true))) (uI 2 gB)) (mQ))) (b8 false 4 (b2 (aU .add) nM fP) true))) (wM 2))))
def cZ:List D->Res D:=fnS 2 6 gQ
abbrev gG:Stmt:=top 15
def xX:Nat->Bool:=fun i=>i==2
noncomputable def jT:FS:=bO (Z7 2 (.dct [(.int 0,.lst [])])) (bO (wN (dM (b2 getD jH dF) false) (tgN [3,4]) (zY 2 fJ)) (bO (wN (dM (b2 getD jH fP) false) (tgN [5,6]) (bO (qW 2 (b2 getD gB dF) (b2 getD v5 dF)) (qW 2 (b2 getD v5 dF) (b2 getD gB dF)))) (bO (sIf (R7 (bTr (b1 (M5 .list) cP))) (pB (bC (.bl false)) true) (mQ)) (bO (b8 false 7 (WX bG) true) (bO (b8 false 8 dF true) (bO (IK 0 (tg1 9) (bO (sIf (bOr (R7 (bTr (aX (fL 1 dX) (aF rR bG)))) (bTB (b2 (bR (.ord .le)) (b2 getD rR dF) rY))) (pB (bC (.bl false)) true) (mQ)) (bO (sIf (bOr (bTB (b2 (bR .notin) (b2 getD rR dF) kJ)) (bTB (b2 (bR .ne) (aX gK (aF (aX (fL 2 cZ) (aF kJ (aF (b2 getD rR dF) bG))) bG)) rR))) (pB (bC (.bl false)) true) (mQ)) (bO (b8 false 8 (b2 getD rR dF) false) (b8 false 7 (b2 (aU .add) rQ rR) true))))) (pB (b2 (bR .eq) (aX gK (aF rQ bG)) (gM 10 (dM (b2 getD jH dF) false) (aBs 2) (uH) gY false)) true)))))))
def eQ:List D->Res D:=fnS 2 10 jT
abbrev gR:Stmt:=top 5
def sE:Nat->Bool:=fun i=>false
noncomputable def c7:FS:=bO (sIf (bTB (b2 (bR (.ord .lt)) jH (aX fK (aF cP bG)))) (pB (b2 getD cP jH) false) (mQ)) (pB dF true)
def b7:List D->Res D:=fnS 2 2 c7
abbrev vI:Stmt:=top 16
def o_law:Nat->Bool:=fun i=>i==3||i==1003
noncomputable def aA7:FS:=bO (b8 false 1 (aX (fL 2 eG) (aF (aX (fL 2 b7) (aF cP (aF dF bG))) (aF (aX (fL 2 b7) (aF cP (aF fP bG))) bG))) true) (bO (b8 false 2 (aX (fL 3 gD) (aF jH (aF (R9 cP (p_ yI) (p_ (bC (.int 66)))) (aF (aX (fL 2 b7) (aF cP (aF fP bG))) bG)))) true) (bO (VL 3 (aX (fL 1 rC) (aF kJ bG))) (bO (sIf (R7 (bTr (aX (fL 2 eQ) (aF fJ (aF kJ bG))))) (pB (bC (.bl false)) true) (mQ)) (bO (xN 3 4) (pB (aX (fL 2 eQ) (aF (aX (fL 1 rC) (aF kJ bG)) (aF kJ bG))) true)))))
def JR:List D->Res D:=fnS 1 5 aA7
noncomputable abbrev oO:List Str:=["cell", "sides", "letters", "size", "at", "stock", "k", "name", "j", "step"]
abbrev jU:List Str:=["some", "seed", "found", "k"]
noncomputable abbrev nC:List Str:=["loose", "bare", "seed", "spots", "ties", "k", "pair"]
abbrev nD:List Str:=["loose", "bare", "seed", "ties"]
abbrev iY:List Str:=["loose", "more", "one", "rest", "other"]
noncomputable abbrev cD:List Str:=["stock", "cells", "seed", "names", "pieces", "loose", "ties", "number", "bare", "rings", "cell", "more", "some"]
abbrev oR:List Str:=["net", "beside", "number", "name", "one", "other"]
noncomputable abbrev gH:List Str:=["beside", "start", "reached", "waiting", "current", "number"]
noncomputable abbrev Q4:List Str:=["net", "beside", "seen", "found", "number", "name", "part", "member"]
abbrev oU:List Str:=["found"]
abbrev nF:List Str:=["some", "k"]
abbrev lD:List Str:=["near", "first", "row", "seen", "at", "other"]
noncomputable abbrev eU:List Str:=["found", "net", "near", "number", "name", "one", "other", "all_told", "last", "part"]
abbrev lE:List Str:=["script", "k"]
abbrev aCq:List Str:=["script", "stock", "net", "found", "part"]
theorem vJ:bY oO ["cell", "sides"] (aQ jM):=by refine ⟨rfl,rfl,rfl,?_,rfl,?_,?_⟩ <;> decide +kernel
theorem oZ:bY jU ["some", "seed"] (aQ fW):=by refine ⟨rfl,rfl,rfl,?_,rfl,?_,?_⟩ <;> decide +kernel
theorem sG:bY nC ["loose", "bare", "seed"] (aQ iM):=by refine ⟨rfl,rfl,rfl,?_,rfl,?_,?_⟩ <;> decide +kernel
theorem sI:bY nD ["loose", "bare", "seed"] (aQ iR):=by refine ⟨rfl,rfl,rfl,?_,rfl,?_,?_⟩ <;> decide +kernel
theorem xY:bY iY ["loose", "more"] (aQ iU):=by refine ⟨rfl,rfl,rfl,?_,rfl,?_,?_⟩ <;> decide +kernel
theorem vK:bY cD ["stock", "cells", "seed"] (aQ dD):=by refine ⟨rfl,rfl,rfl,?_,rfl,?_,?_⟩ <;> decide +kernel
theorem vL:bY oR ["net"] (aQ jP):=by refine ⟨rfl,rfl,rfl,?_,rfl,?_,?_⟩ <;> decide +kernel
theorem lV:bY gH ["beside", "start"] (aQ dU):=by refine ⟨rfl,rfl,rfl,?_,rfl,?_,?_⟩ <;> decide +kernel
theorem VP:bY Q4 ["net"] (aQ z6):=by refine ⟨rfl,rfl,rfl,?_,rfl,?_,?_⟩ <;> decide +kernel
theorem vM:bY oU ["found"] (aQ jR):=by refine ⟨rfl,rfl,rfl,?_,rfl,?_,?_⟩ <;> decide +kernel
theorem sJ:bY nF ["some"] (aQ iV):=by refine ⟨rfl,rfl,rfl,?_,rfl,?_,?_⟩ <;> decide +kernel
theorem rD:bY lD ["near", "first"] (aQ gP):=by refine ⟨rfl,rfl,rfl,?_,rfl,?_,?_⟩ <;> decide +kernel
theorem vN:bY eU ["found", "net"] (aQ gG):=by refine ⟨rfl,rfl,rfl,?_,rfl,?_,?_⟩ <;> decide +kernel
theorem rE:bY lE ["script", "k"] (aQ gR):=by refine ⟨rfl,rfl,rfl,?_,rfl,?_,?_⟩ <;> decide +kernel
theorem aCr:bY aCq ["script"] (aQ vI):=by refine ⟨rfl,rfl,rfl,?_,rfl,?_,?_⟩ <;> decide +kernel
section
variable [KFrag] {P:Program} {w:World} {K:Frag} {mg:Str->Option Value} {base:Heap} {fad C:Addr} {fd:FuncData} (hK:KFrag.K=K) (B:Bt mg) 
include hK B
theorem sO  (F:Fun K "_law_stock" "_law_stock" jM fad fd) (hm:mg "_law_stock" = some (.ref fad)):cY P w K mg base 1 "_law_stock" 2 eG:=by
 have sc:=vJ;refine jK (ps:=["cell", "sides"]) (N:=oO) (k:=0) F hm (F.binds fun _ _ _ _ _ _ us hl=>match us,hl with|[_,_],_=>rfl) sc xR (by decide) (by decide) fun cdv A outer s H E hr=>?_
 have hu:=zT hr;exact aJ (bM (i:=2) (o:=false) rfl sc.nd rfl (by trivial) (W3)) (aJ (bM (i:=3) (o:=false) rfl sc.nd rfl (by trivial) (bH cN (aG) (bH dO (aA (i:=0)) (aG)))) (aJ (bM (i:=4) (o:=false) rfl sc.nd rfl (by trivial) (bH dO (bH fQ (aA (i:=0)) (aG)) (aA (i:=3)))) (aJ (bM (i:=5) (o:=true) rfl sc.nd rfl (by trivial) (UL)) (aJ (tM PassesOwn.never rfl (lQ (by rfl) B.range (aB (bH cN (aG) (bH dO (bH fQ (aA (i:=0)) (aG)) (aG))) (aO))) (iJ (i:=6) rfl) (bI (i:=6) sc.nd rfl (by trivial)) (aJ (bM (i:=7) (o:=false) rfl sc.nd rfl (by trivial) (W3)) (aJ (tM PassesOwn.never rfl (lQ (by rfl) B.range (aB (aA (i:=3)) (aO))) (iJ (i:=8) rfl) (bI (i:=8) sc.nd rfl (by trivial)) (aJ (bM (i:=9) (o:=false) rfl sc.nd rfl (by trivial) (bH qG (bH dO (bH fQ (aA (i:=0)) (aG)) (aG)) (bH cN (aA (i:=8)) (aG)))) (aJ (oX (cL (zM hu) (aA (i:=8)) (aA (i:=4)) (cW _)) (a_ (bM (i:=9) (o:=false) rfl sc.nd rfl (by trivial) (aG))) (iI)) (a_ (bM (i:=7) (o:=false) rfl sc.nd rfl (by trivial) (bH cN (aA (i:=7)) (cH (cJ hK hu) (aA (i:=2)) (bH dO (bH cN (bH fQ (bH fQ (aA (i:=0)) (aG)) (bH cN (bH qG (aA (i:=8)) (aA (i:=8))) (aG))) (bH qG (aA (i:=6)) (aA (i:=9)))) (aG)) (fun _ _=>rfl)))))))) (aJ (PK (i:=5) hu rfl rfl (by trivial) (aA (i:=7)) (bH dO (aA (i:=1)) (aG))) (a_ (bM (i:=1) (o:=false) rfl sc.nd rfl (by trivial) (bH fQ (aA (i:=1)) (aG)))))))) (a_ (uW (i:=5) rfl rfl (by trivial)))))))
theorem oA  (F:Fun K "_law_shuffled" "_law_shuffled" fW fad fd) (hm:mg "_law_shuffled" = some (.ref fad)):cY P w K mg base 1 "_law_shuffled" 2 cC:=by
 have sc:=oZ;refine jK (ps:=["some", "seed"]) (N:=jU) (k:=0) F hm (F.binds fun _ _ _ _ _ _ us hl=>match us,hl with|[_,_],_=>rfl) sc rB (by decide) (by decide) fun cdv A outer s H E hr=>?_
 have hu:=zT hr;exact aJ (bM (i:=2) (o:=true) rfl sc.nd rfl (by trivial) (qD (aO))) (aJ (tM PassesOwn.never rfl (lQ (by rfl) B.range (aB (bA (dY hK) (by rfl) B.len dZ (aB (aA (i:=0)) (aO))) (aO))) (iJ (i:=3) rfl) (bI (i:=3) sc.nd rfl (by trivial)) (a_ (aCf (i:=2) rfl rfl (by trivial) (bH dO (bH cN (bH fQ (aA (i:=1)) (bH cN (aA (i:=3)) (aG))) (bH qG (aA (i:=3)) (aA (i:=3)))) (bH cN (aA (i:=3)) (aG))) (cH (cJ hK hu) (aA (i:=0)) (aA (i:=3)) (fun _ _=>rfl))))) (a_ (uW (i:=2) rfl rfl (by trivial))))
theorem rF (c__law_shuffled:cY P w K mg base 1 "_law_shuffled" 2 cC) (F:Fun K "_law_rimmed" "_law_rimmed" iM fad fd) (hm:mg "_law_rimmed" = some (.ref fad)):cY P w K mg base 2 "_law_rimmed" 3 cQ:=by
 have sc:=sG;refine jK (ps:=["loose", "bare", "seed"]) (N:=nC) (k:=1) F hm (F.binds fun _ _ _ _ _ _ us hl=>match us,hl with|[_,_,_],_=>rfl) sc vD (by decide) (by decide) fun cdv A outer s H E hr=>?_
 have hu:=zT hr;exact aJ (bM (i:=3) (o:=false) rfl sc.nd rfl (by trivial) (bV c__law_shuffled hr (by decide) (by rfl) (aB (U9 (by rfl) (by rfl) B.list (by rfl) B.range (aB (bH cN (bA (dY hK) (by rfl) B.len dZ (aB (aA (i:=0)) (aO))) (bH qG (aG) (aA (i:=1)))) (aO))) (aB (aA (i:=2)) (aO))))) (aJ (bM (i:=4) (o:=true) rfl sc.nd rfl (by trivial) (qD (aO))) (aJ (tM PassesOwn.never rfl (lQ (by rfl) B.range (aB (bA (dY hK) (by rfl) B.len dZ (aB (aA (i:=0)) (aO))) (aO))) (iJ (i:=5) rfl) (bI (i:=5) sc.nd rfl (by trivial)) (a_ (qO (i:=4) rfl rfl (by trivial) (lA (aB (lA (aB (aG) (aB (cH (cJ hK hu) (aA (i:=3)) (aA (i:=5)) (fun _ _=>rfl)) (aO)))) (aB (cH (cJ hK hu) (aA (i:=0)) (aA (i:=5)) (fun _ _=>rfl)) (aO))))))) (aJ (tM PassesOwn.never rfl (lQ (by rfl) B.range (aB (aA (i:=1)) (aO))) (iJ (i:=5) rfl) (bI (i:=5) sc.nd rfl (by trivial)) (aJ (bM (i:=6) (o:=false) rfl sc.nd rfl (by trivial) (ZG hK (aA (i:=3)) (qI (bH cN (bA (dY hK) (by rfl) B.len dZ (aB (aA (i:=0)) (aO))) (bH qG (aG) (aA (i:=5))))) (qI (bH cN (bH cN (bA (dY hK) (by rfl) B.len dZ (aB (aA (i:=0)) (aO))) (bH qG (aG) (aA (i:=5)))) (aG))))) (a_ (qO (i:=4) rfl rfl (by trivial) (lA (aB (lA (aB (aG) (aB (bA (O4 hu (by rfl)) (by rfl) B.min PL (aB (aA (i:=6)) (aO))) (aO)))) (aB (lA (aB (aG) (aB (bA (O5 hu (by rfl)) (by rfl) B.max PN (aB (aA (i:=6)) (aO))) (aO)))) (aO)))))))) (a_ (uW (i:=4) rfl rfl (by trivial))))))
theorem rG (c__law_shuffled:cY P w K mg base 1 "_law_shuffled" 2 cC) (c__law_rimmed:cY P w K mg base 2 "_law_rimmed" 3 cQ) (F:Fun K "_law_closed" "_law_closed" iR fad fd) (hm:mg "_law_closed" = some (.ref fad)):cY P w K mg base 3 "_law_closed" 3 dR:=by
 have sc:=sI;refine jK (ps:=["loose", "bare", "seed"]) (N:=nD) (k:=2) F hm (F.binds fun _ _ _ _ _ _ us hl=>match us,hl with|[_,_,_],_=>rfl) sc vG (by decide) (by decide) fun cdv A outer s H E hr=>?_
 have hu:=zT hr;exact aJ (bM (i:=3) (o:=true) rfl sc.nd rfl (by trivial) (qD (aO))) (aJ (oX (cL (N_ hu) (bH dO (aA (i:=2)) (aG)) (aG) (cW _)) (aJ (bM (i:=0) (o:=false) rfl sc.nd rfl (by trivial) (bV c__law_shuffled hr (by decide) (by rfl) (aB (aA (i:=0)) (aB (bH fQ (aA (i:=2)) (aG)) (aO))))) (a_ (QG PassesOwn.never (cL (N_ hu) (bA (dY hK) (by rfl) B.len dZ (aB (aA (i:=0)) (aO))) (aG) (cW _)) (aJ (qO (i:=3) rfl rfl (by trivial) (lA (aB (bA (O4 hu (by rfl)) (by rfl) B.min PL (aB (cH (cJ hK hu) (aA (i:=0)) (aG) (fun _ _=>rfl)) (aB (cH (cJ hK hu) (aA (i:=0)) (aG) (fun _ _=>rfl)) (aO)))) (aB (bA (O5 hu (by rfl)) (by rfl) B.max PN (aB (cH (cJ hK hu) (aA (i:=0)) (aG) (fun _ _=>rfl)) (aB (cH (cJ hK hu) (aA (i:=0)) (aG) (fun _ _=>rfl)) (aO)))) (aO))))) (a_ (bM (i:=0) (o:=false) rfl sc.nd rfl (by trivial) (ZG hK (aA (i:=0)) (qI (aG)) (ZF)))))))) (iI)) (a_ (lB (bH cN (aA (i:=3)) (bV c__law_rimmed hr (by decide) (by rfl) (aB (aA (i:=0)) (aB (aA (i:=1)) (aB (aA (i:=2)) (aO)))))))))
theorem vO  (F:Fun K "_law_tied" "_law_tied" iU fad fd) (hm:mg "_law_tied" = some (.ref fad)):cY P w K mg base 1 "_law_tied" 2 cO:=by
 have sc:=xY;refine jK (ps:=["loose", "more"]) (N:=iY) (k:=0) F hm (F.binds fun _ _ _ _ _ _ us hl=>match us,hl with|[_,_],_=>rfl) sc zZ (by decide) (by decide) fun cdv A outer s H E hr=>?_
 have hu:=zT hr;exact aJ (bM (i:=2) (o:=false) rfl sc.nd rfl (by trivial) (cH (cJ hK hu) (aA (i:=0)) (bH dO (aA (i:=1)) (bA (dY hK) (by rfl) B.len dZ (aB (aA (i:=0)) (aO)))) (fun _ _=>rfl))) (aJ (nZ (ownN:=(["end"]:List Str)) (show gC iY (aQ iU) _ (["end"]:List Str) from by refine ⟨rfl,?_,?_,?_,?_,?_,?_⟩ <;> decide +kernel) (n:=5) (m:=1) rfl rfl rfl (mW (aA (i:=0))) (uV 5) (fun _=>bI (i:=5) (show ((List.map (mR (["end"]:List Str)) iY++(["end"]:List Str)):List Str).Nodup from by decide +kernel) rfl (by trivial)) (fun _=>cL (Y9 hu) (aA (i:=5)) (aA (i:=2)) (cW _)) (fun _=>aA (i:=5)) (fun _=>rfl) (iy:=3) (o:=false) rfl sc.nd rfl (by trivial) (Or.inl rfl) (by with_unfolding_all rfl)) (aJ (bM (i:=4) (o:=false) rfl sc.nd rfl (by trivial) (cH (cJ hK hu) (aA (i:=3)) (bH dO (bH fQ (aA (i:=1)) (bA (dY hK) (by rfl) B.len dZ (aB (aA (i:=0)) (aO)))) (bA (dY hK) (by rfl) B.len dZ (aB (aA (i:=3)) (aO)))) (fun _ _=>rfl))) (a_ (lB (lA (aB (bA (O4 hu (by rfl)) (by rfl) B.min PL (aB (aA (i:=2)) (aB (aA (i:=4)) (aO)))) (aB (bA (O5 hu (by rfl)) (by rfl) B.max PN (aB (aA (i:=2)) (aB (aA (i:=4)) (aO)))) (aO))))))))
theorem sS (c__law_tied:cY P w K mg base 1 "_law_tied" 2 cO) (c__law_closed:cY P w K mg base 3 "_law_closed" 3 dR) (F:Fun K "_law_grown" "_law_grown" dD fad fd) (hm:mg "_law_grown" = some (.ref fad)):cY P w K mg base 4 "_law_grown" 3 gD:=by
 have sc:=vK;refine jK (ps:=["stock", "cells", "seed"]) (N:=cD) (k:=3) F hm (F.binds fun _ _ _ _ _ _ us hl=>match us,hl with|[_,_,_],_=>rfl) sc xT (by decide) (by decide) fun cdv A outer s H E hr=>?_
 have hu:=zT hr
 exact aJ (bM (i:=3) (o:=false) rfl sc.nd rfl (by trivial) (qJ (ZJ (by rfl)) (by rfl) B.list u5 (aB (aA (i:=0)) (aO)))) (aJ (bM (i:=4) (o:=true) rfl sc.nd rfl (by trivial) (qD (aO))) (aJ (bM (i:=5) (o:=false) rfl sc.nd rfl (by trivial) (qD (aO))) (aJ (bM (i:=6) (o:=true) rfl sc.nd rfl (by trivial) (qD (aO))) (aJ (bM (i:=7) (o:=false) rfl sc.nd rfl (by trivial) (aG)) (aJ (bM (i:=8) (o:=false) rfl sc.nd rfl (by trivial) (aG)) (aJ (bM (i:=9) (o:=false) rfl sc.nd rfl (by trivial) (aG)) (aJ (ZS (i:=1) rfl PassesOwn.never rfl rfl (by trivial) (iJ (i:=10) rfl) (bI (i:=10) sc.nd rfl (by trivial)) (aJ (bM (i:=11) (o:=false) rfl sc.nd rfl (by trivial) (bH fQ (aA (i:=10)) (aG))) (aJ (aEc (i:=12) (j:=5) rfl rfl sc.nd rfl (by trivial) rfl (by trivial)) (aJ (oX (cL (zM hu) (bH dO (aA (i:=10)) (aG)) (aG) (cW _)) (a_ (nZ (ownN:=(["end"]:List Str)) (show gC cD (aQ dD) _ (["end"]:List Str) from by refine ⟨rfl,?_,?_,?_,?_,?_,?_⟩ <;> decide +kernel) (n:=13) (m:=1) rfl rfl rfl (mW (aA (i:=5))) (uV 13) (fun _=>bI (i:=13) (show ((List.map (mR (["end"]:List Str)) cD++(["end"]:List Str)):List Str).Nodup from by decide +kernel) rfl (by trivial)) (fun _=>cL (zM hu) (cH (cJ hK hu) (aA (i:=13)) (aG) (fun _ _=>rfl)) (aG) (cW _)) (fun _=>aA (i:=13)) (fun _=>rfl) (iy:=12) (o:=false) rfl sc.nd rfl (by trivial) (Or.inl rfl) (by with_unfolding_all rfl))) (iI)) (a_ (oX (PW.pt (DP (cL (N8 hu) (bH dO (aA (i:=10)) (aG)) (aG) (cW _)) (uO (cL (N8 hu) (bA (dY hK) (by rfl) B.len dZ (aB (aA (i:=4)) (aO))) (aG) (cW _))))) (aJ (bM (i:=7) (o:=false) rfl sc.nd rfl (by trivial) (bH cN (bH cN (aA (i:=7)) (aG)) (bH dO (bH fQ (aA (i:=11)) (bA (dY hK) (by rfl) B.len dZ (aB (aA (i:=3)) (aO)))) (bH W4 (aG) (aG))))) (aJ (qO (i:=4) rfl rfl (by trivial) (lA (aB (aA (i:=7)) (aB (cH (cJ hK hu) (aA (i:=3)) (bH dO (aA (i:=11)) (bA (dY hK) (by rfl) B.len dZ (aB (aA (i:=3)) (aO)))) (fun _ _=>rfl)) (aO))))) (a_ (bM (i:=5) (o:=false) rfl sc.nd rfl (by trivial) (bH cN (aA (i:=5)) (FZ (ownN:=(["hook"]:List Str)) (show gC cD (aQ dD) _ (["hook"]:List Str) from by refine ⟨rfl,?_,?_,?_,?_,?_,?_⟩ <;> decide +kernel) (n:=13) (m:=1) rfl rfl rfl (lQ (by rfl) B.range (aB (bH cN (cH (cJ hK hu) (aA (i:=0)) (cH (cJ hK hu) (aA (i:=3)) (bH dO (aA (i:=11)) (bA (dY hK) (by rfl) B.len dZ (aB (aA (i:=3)) (aO)))) (fun _ _=>rfl)) (fun _ _=>rfl)) (aG)) (aO))) (uV 13) (fun _=>bI (i:=13) (show ((List.map (mR (["hook"]:List Str)) cD++(["hook"]:List Str)):List Str).Nodup from by decide +kernel) rfl (by trivial)) (fun _=>lA (aB (aA (i:=7)) (aB (aA (i:=13)) (aO)))) (fun _=>rfl))))))) (a_ (oX (PW.pt (DP (UV (Y_ hu) (N8 hu) (aG) (bH dO (aA (i:=10)) (aG)) (aG)) (uO (cL (N_ hu) (bA (dY hK) (by rfl) B.len dZ (aB (aA (i:=12)) (aO))) (aG) (cW _))))) (aJ (qO (i:=6) rfl rfl (by trivial) (bV c__law_tied hr (by decide) (by rfl) (aB (aA (i:=12)) (aB (aA (i:=11)) (aO))))) (a_ (nZ (ownN:=(["end"]:List Str)) (show gC cD (aQ dD) _ (["end"]:List Str) from by refine ⟨rfl,?_,?_,?_,?_,?_,?_⟩ <;> decide +kernel) (n:=13) (m:=1) rfl rfl rfl (mW (aA (i:=5))) (uV 13) (fun _=>bI (i:=13) (show ((List.map (mR (["end"]:List Str)) cD++(["end"]:List Str)):List Str).Nodup from by decide +kernel) rfl (by trivial)) (fun _=>cL (mU hu) (aA (i:=13)) (cH (cJ hK hu) (aA (i:=6)) (aE9 aC8 (aG)) (fun _ _=>rfl)) (by with_unfolding_all rfl)) (fun _=>aA (i:=13)) (fun _=>rfl) (iy:=5) (o:=false) rfl sc.nd rfl (by trivial) (Or.inl rfl) (by with_unfolding_all rfl)))) (a_ (oX (cL (zM hu) (bH dO (aA (i:=10)) (aG)) (aG) (cW _)) (a_ (bM (i:=8) (o:=false) rfl sc.nd rfl (by trivial) (bH cN (aA (i:=8)) (aG)))) (a_ (oX (cL (zM hu) (bH dO (aA (i:=10)) (aG)) (aG) (cW _)) (a_ (bM (i:=9) (o:=false) rfl sc.nd rfl (by trivial) (bH cN (aA (i:=9)) (bH dO (aA (i:=11)) (bH W4 (aG) (aG)))))) (iI))))))))))))) (aJ (bM (i:=6) (o:=true) rfl sc.nd rfl (by trivial) (bH cN (aA (i:=6)) (bV c__law_closed hr (by decide) (by rfl) (aB (aA (i:=5)) (aB (aA (i:=8)) (aB (aA (i:=2)) (aO))))))) (a_ (lB (lA (aB (qJ D_ (by rfl) B.tuple F_ (aB (aA (i:=4)) (aO))) (aB (qJ D_ (by rfl) B.tuple F_ (aB (bA (mV hu) (by rfl) B.sorted mY (aB (aA (i:=6)) (aO))) (aO))) (aB (aA (i:=9)) (aO)))))))))))))))
theorem sV  (F:Fun K "neighbours" "neighbours" jP fad fd) (hm:mg "neighbours" = some (.ref fad)):cY P w K mg base 1 "neighbours" 1 gF:=by
 have sc:=vL;refine zX (ps:=["net"]) (N:=oR) (k:=0) F hm (F.binds fun _ _ _ _ _ _ us hl=>match us,hl with|[_],_=>rfl) sc xU (by decide) (by decide) fun cdv A outer s H E hr=>?_
 have hu:=zT hr;exact bD (QX (i:=1) rfl sc.nd rfl (by trivial)) (bD (xK PassesOwn.never rfl (mW (cH (cJ hK hu) (aA (i:=0)) (aG) (fun _ _=>rfl))) (qZ _ (is:=[2,3]) (by decide)) (sY rfl (dB (bI (i:=2) sc.nd rfl (by trivial)) (dB (bI (i:=3) sc.nd rfl (by trivial)) (nQ)))) (cV (QZ (i:=1) hu rfl rfl (by trivial) (aA (i:=2))))) (bD (xK PassesOwn.never rfl (mW (cH (cJ hK hu) (aA (i:=0)) (aG) (fun _ _=>rfl))) (qZ _ (is:=[4,5]) (by decide)) (sY rfl (dB (bI (i:=4) sc.nd rfl (by trivial)) (dB (bI (i:=5) sc.nd rfl (by trivial)) (nQ)))) (cV (JM (cL (Y9 hu) (cH (cJ hK hu) (aA (i:=4)) (aG) (fun _ _=>rfl)) (aG) (cW _)) (bD (vA (i:=1) hu rfl rfl (by trivial) (cH (cJ hK hu) (aA (i:=4)) (aG) (fun _ _=>rfl)) (cH (cJ hK hu) (aA (i:=5)) (aG) (fun _ _=>rfl))) (cV (vA (i:=1) hu rfl rfl (by trivial) (cH (cJ hK hu) (aA (i:=5)) (aG) (fun _ _=>rfl)) (cH (cJ hK hu) (aA (i:=4)) (aG) (fun _ _=>rfl))))) (n8)))) (cV (QT (i:=1) rfl rfl (by trivial)))))
theorem kY  (F:Fun K "hanging_together" "hanging_together" dU fad fd) (hm:mg "hanging_together" = some (.ref fad)):cY P w K mg base 1 "hanging_together" 2 bJ:=by
 have sc:=lV;refine jK (ps:=["beside", "start"]) (N:=gH) (k:=0) F hm (F.binds fun _ _ _ _ _ _ us hl=>match us,hl with|[_,_],_=>rfl) sc nA (by decide) (by decide) fun cdv A outer s H E hr=>?_
 have hu:=zT hr;exact aJ (bM (i:=2) (o:=true) rfl sc.nd rfl (by trivial) (QW (aA (i:=1)) (oW))) (aJ (bM (i:=3) (o:=true) rfl sc.nd rfl (by trivial) (QF (aB (aA (i:=1)) (aO)))) (aJ (QG PassesOwn.never (tH (aA (i:=3))) (aJ (Z1 (i:=3) (j:=4) rfl rfl (by trivial) sc.nd rfl (by trivial) rfl) (a_ (GJ (i:=0) hu rfl PassesOwn.never rfl rfl (by trivial) (aA (i:=4)) (iJ (i:=5) rfl) (bI (i:=5) sc.nd rfl (by trivial)) (a_ (oX (cL (mU hu) (aA (i:=5)) (aA (i:=2)) (by with_unfolding_all rfl)) (aJ (PK (i:=2) hu rfl rfl (by trivial) (aA (i:=5)) (oW)) (a_ (qO (i:=3) rfl rfl (by trivial) (aA (i:=5))))) (iI))))))) (a_ (lB (bA (JP (by rfl) hu) (by rfl) B.sorted mY (aB (aA (i:=2)) (aO)))))))
theorem Q5 (c_neighbours:cY P w K mg base 1 "neighbours" 1 gF) (c_hanging_together:cY P w K mg base 1 "hanging_together" 2 bJ) (F:Fun K "parts" "parts" z6 fad fd) (hm:mg "parts" = some (.ref fad)):cY P w K mg base 2 "parts" 1 rC:=by
 have sc:=VP;refine zX (ps:=["net"]) (N:=Q4) (k:=1) F hm (F.binds fun _ _ _ _ _ _ us hl=>match us,hl with|[_],_=>rfl) sc aA6 (by decide) (by decide) fun cdv A outer s H E hr=>?_
 have hu:=zT hr;exact bD (qX (i:=1) rfl sc.nd rfl (by trivial) (bV c_neighbours hr (by decide) (by rfl) (aB (aA (i:=0)) (aO)))) (bD (QX (i:=2) rfl sc.nd rfl (by trivial)) (bD (Z9 (i:=3) (n:=0) rfl sc.nd rfl (by trivial) (aEj) (by decide)) (bD (xK PassesOwn.never rfl (mW (cH (cJ hK hu) (aA (i:=0)) (aG) (fun _ _=>rfl))) (qZ _ (is:=[4,5]) (by decide)) (sY rfl (dB (bI (i:=4) sc.nd rfl (by trivial)) (dB (bI (i:=5) sc.nd rfl (by trivial)) (nQ)))) (cV (JM (cL (mU hu) (aA (i:=4)) (aA (i:=2)) (by with_unfolding_all rfl)) (bD (aCo (i:=6) rfl sc.nd rfl (by trivial) (bV c_hanging_together hr (by decide) (by rfl) (aB (aA (i:=1)) (aB (aA (i:=4)) (aO))))) (bD (Q0 (i:=6) (j:=2) (m:=7) hu rfl rfl rfl (by decide) PassesOwn.never rfl sc.nd rfl (by trivial) rfl (by trivial) rfl (by trivial) (by trivial) oW) (cV (aEk (i:=3) (j:=6) rfl rfl (by decide) rfl (by trivial) rfl (by trivial))))) (n8)))) (cV (QT (i:=3) rfl rfl (by trivial))))))
theorem sW  (F:Fun K "_law_whole" "_law_whole" jR fad fd) (hm:mg "_law_whole" = some (.ref fad)):cY P w K mg base 1 "_law_whole" 1 eO:=by
 have sc:=vM;refine jK (ps:=["found"]) (N:=oU) (k:=0) F hm (F.binds fun _ _ _ _ _ _ us hl=>match us,hl with|[_],_=>rfl) sc xV (by decide) (by decide) fun cdv A outer s H E hr=>?_
 have hu:=zT hr;exact a_ (lB (aC4 (EY .int (aA (i:=0)) (by rfl) B.isi fG (by rfl) B.int aCh) (aC1 (aC3 (EY .bool (aA (i:=0)) (by rfl) B.isi fG (by rfl) B.bool ZW)))))
theorem rH (c__law_whole:cY P w K mg base 1 "_law_whole" 1 eO) (F:Fun K "_law_rising" "_law_rising" iV fad fd) (hm:mg "_law_rising" = some (.ref fad)):cY P w K mg base 2 "_law_rising" 1 dX:=by
 have sc:=sJ;refine jK (ps:=["some"]) (N:=nF) (k:=1) F hm (F.binds fun _ _ _ _ _ _ us hl=>match us,hl with|[_],_=>rfl) sc vH (by decide) (by decide) fun cdv A outer s H E hr=>?_
 have hu:=zT hr;exact aJ (oX (PW.pt (UT (wU (tH (EY .list (aA (i:=0)) (by rfl) B.isi fG (by rfl) B.list u5))) (DN (cL (zM hu) (bA (dY hK) (by rfl) B.len dZ (aB (aA (i:=0)) (aO))) (aG) (cW _))))) (a_ (lB (oW))) (iI)) (aJ (tM PassesOwn.never rfl (lQ (by rfl) B.range (aB (bA (dY hK) (by rfl) B.len dZ (aB (aA (i:=0)) (aO))) (aO))) (iJ (i:=1) rfl) (bI (i:=1) sc.nd rfl (by trivial)) (a_ (oX (PW.pt (UT (wU (tH (bV c__law_whole hr (by decide) (by rfl) (aB (cH (cJ hK hu) (aA (i:=0)) (aA (i:=1)) (fun _ _=>rfl)) (aO))))) (DN (PW.pt (DP (cL (N_ hu) (aA (i:=1)) (aG) (cW _)) (uO (cL (Y_ hu) (cH (cJ hK hu) (aA (i:=0)) (aA (i:=1)) (fun _ _=>rfl)) (cH (cJ hK hu) (aA (i:=0)) (bH aC7 (aA (i:=1)) (aG)) (fun _ _=>rfl)) (cW _)))))))) (a_ (lB (oW))) (iI)))) (a_ (lB (oW))))
theorem o6  (F:Fun K "_law_reached" "_law_reached" gP fad fd) (hm:mg "_law_reached" = some (.ref fad)):cY P w K mg base 1 "_law_reached" 2 cZ:=by
 have sc:=rD;refine jK (ps:=["near", "first"]) (N:=lD) (k:=0) F hm (F.binds fun _ _ _ _ _ _ us hl=>match us,hl with|[_,_],_=>rfl) sc rZ (by decide) (by decide) fun cdv A outer s H E hr=>?_
 have hu:=zT hr;exact aJ (bM (i:=2) (o:=true) rfl sc.nd rfl (by trivial) (QF (aB (aA (i:=1)) (aO)))) (aJ (bM (i:=3) (o:=true) rfl sc.nd rfl (by trivial) (QW (aA (i:=1)) (oW))) (aJ (bM (i:=4) (o:=false) rfl sc.nd rfl (by trivial) (aG)) (aJ (QG PassesOwn.never (cL (N8 hu) (aA (i:=4)) (bA (dY hK) (by rfl) B.len dZ (aB (aA (i:=2)) (aO))) (cW _)) (aJ (GJ (i:=0) hu rfl PassesOwn.never rfl rfl (by trivial) (cH (cJ hK hu) (aA (i:=2)) (aA (i:=4)) (fun _ _=>rfl)) (iJ (i:=5) rfl) (bI (i:=5) sc.nd rfl (by trivial)) (a_ (oX (PW.pt (DP (cL (N_ hu) (aA (i:=5)) (aG) (cW _)) (uO (cL (mU hu) (aA (i:=5)) (aA (i:=3)) (by with_unfolding_all rfl))))) (aJ (PK (i:=3) hu rfl rfl (by trivial) (aA (i:=5)) (oW)) (a_ (qO (i:=2) rfl rfl (by trivial) (aA (i:=5))))) (iI)))) (a_ (bM (i:=4) (o:=false) rfl sc.nd rfl (by trivial) (bH cN (aA (i:=4)) (aG)))))) (a_ (uW (i:=2) rfl rfl (by trivial))))))
theorem sX (c__law_rising:cY P w K mg base 2 "_law_rising" 1 dX) (c__law_reached:cY P w K mg base 1 "_law_reached" 2 cZ) (F:Fun K "_law_parts" "_law_parts" gG fad fd) (hm:mg "_law_parts" = some (.ref fad)):cY P w K mg base 3 "_law_parts" 2 eQ:=by
 have sc:=vN;refine zX (ps:=["found", "net"]) (N:=eU) (k:=2) F hm (F.binds fun _ _ _ _ _ _ us hl=>match us,hl with|[_,_],_=>rfl) sc xX (by decide) (by decide) fun cdv A outer s H E hr=>?_
 have hu:=zT hr
 exact bD (aA2 (i:=2) (n:=0) rfl sc.nd rfl (by trivial) BL (tD gU)) (bD (xK PassesOwn.never rfl (mW (cH (cJ hK hu) (aA (i:=1)) (aG) (fun _ _=>rfl))) (qZ _ (is:=[3,4]) (by decide)) (sY rfl (dB (bI (i:=3) sc.nd rfl (by trivial)) (dB (bI (i:=4) sc.nd rfl (by trivial)) (nQ)))) (cV (QZ (i:=2) hu rfl rfl (by trivial) (aA (i:=3))))) (bD (xK PassesOwn.never rfl (mW (cH (cJ hK hu) (aA (i:=1)) (aG) (fun _ _=>rfl))) (qZ _ (is:=[5,6]) (by decide)) (sY rfl (dB (bI (i:=5) sc.nd rfl (by trivial)) (dB (bI (i:=6) sc.nd rfl (by trivial)) (nQ)))) (bD (vA (i:=2) hu rfl rfl (by trivial) (cH (cJ hK hu) (aA (i:=5)) (aG) (fun _ _=>rfl)) (cH (cJ hK hu) (aA (i:=6)) (aG) (fun _ _=>rfl))) (cV (vA (i:=2) hu rfl rfl (by trivial) (cH (cJ hK hu) (aA (i:=6)) (aG) (fun _ _=>rfl)) (cH (cJ hK hu) (aA (i:=5)) (aG) (fun _ _=>rfl)))))) (bD (JM (wU (tH (EY .list (aA (i:=0)) (by rfl) B.isi fG (by rfl) B.list u5))) (cV (tO (oW))) (n8)) (bD (qX (i:=7) rfl sc.nd rfl (by trivial) (qD (aO))) (bD (qX (i:=8) rfl sc.nd rfl (by trivial) (aG)) (bD (aA0 (i:=0) rfl PassesOwn.never rfl rfl (by trivial) (Z_ (i:=9) rfl) (bI (i:=9) sc.nd rfl (by trivial)) (bD (JM (PW.pt (UT (wU (tH (bV c__law_rising hr (by decide) (by rfl) (aB (aA (i:=9)) (aO))))) (DN (cL (Y_ hu) (cH (cJ hK hu) (aA (i:=9)) (aG) (fun _ _=>rfl)) (aA (i:=8)) (cW _))))) (cV (tO (oW))) (n8)) (bD (JM (PW.pt (UT (cL (mU hu) (cH (cJ hK hu) (aA (i:=9)) (aG) (fun _ _=>rfl)) (aA (i:=2)) (by with_unfolding_all rfl)) (DN (cL (Y9 hu) (bA (mV hu) (by rfl) B.sorted mY (aB (bV c__law_reached hr (by decide) (by rfl) (aB (aA (i:=2)) (aB (cH (cJ hK hu) (aA (i:=9)) (aG) (fun _ _=>rfl)) (aO)))) (aO))) (aA (i:=9)) (cW _))))) (cV (tO (oW))) (n8)) (bD (qX (i:=8) rfl sc.nd rfl (by trivial) (cH (cJ hK hu) (aA (i:=9)) (aG) (fun _ _=>rfl))) (cV (qX (i:=7) rfl sc.nd rfl (by trivial) (bH cN (aA (i:=7)) (aA (i:=9))))))))) (cV (tO (aC0 (zM hu) (bA (mV hu) (by rfl) B.sorted mY (aB (aA (i:=7)) (aO))) (FZ (ownN:=(["number", "name"]:List Str)) (show gC eU (aQ gG) _ (["number", "name"]:List Str) from by refine ⟨rfl,?_,?_,?_,?_,?_,?_⟩ <;> decide +kernel) (n:=10) (m:=2) rfl rfl rfl (mW (cH (cJ hK hu) (aA (i:=1)) (aG) (fun _ _=>rfl))) (ZL _ 10 2) (fun _=>sY rfl (dB (bI (i:=10) (show ((List.map (mR (["number", "name"]:List Str)) eU++(["number", "name"]:List Str)):List Str).Nodup from by decide +kernel) rfl (by trivial)) (dB (bI (i:=11) (show ((List.map (mR (["number", "name"]:List Str)) eU++(["number", "name"]:List Str)):List Str).Nodup from by decide +kernel) rfl (by trivial)) (nQ)))) (fun _=>aA (i:=10)) (fun _=>rfl)) (cW _))))))))))
theorem o7  (F:Fun K "_law_cell_at" "_law_cell_at" gR fad fd) (hm:mg "_law_cell_at" = some (.ref fad)):cY P w K mg base 1 "_law_cell_at" 2 b7:=by
 have sc:=rE;refine jK (ps:=["script", "k"]) (N:=lE) (k:=0) F hm (F.binds fun _ _ _ _ _ _ us hl=>match us,hl with|[_,_],_=>rfl) sc sE (by decide) (by decide) fun cdv A outer s H E hr=>?_
 have hu:=zT hr;exact aJ (oX (cL (N8 hu) (aA (i:=1)) (bA (dY hK) (by rfl) B.len dZ (aB (aA (i:=0)) (aO))) (cW _)) (a_ (lB (cH (cJ hK hu) (aA (i:=0)) (aA (i:=1)) (fun _ _=>rfl)))) (iI)) (a_ (lB (aG)))
theorem aCs (c__law_cell_at:cY P w K mg base 1 "_law_cell_at" 2 b7) (c__law_stock:cY P w K mg base 1 "_law_stock" 2 eG) (c__law_grown:cY P w K mg base 4 "_law_grown" 3 gD) (c_parts:cY P w K mg base 2 "parts" 1 rC) (c__law_parts:cY P w K mg base 3 "_law_parts" 2 eQ) (F:Fun K "law" "law" vI fad fd):HF P w K mg base CX0 5 fad fd ["script"] (spD JR 1):=by
 have sc:=aCr;refine XC (ps:=["script"]) (N:=aCq) (k:=4) F sc o_law (by decide) (by decide) fun cdv A outer s H E hr=>?_
 have hu:=zT hr;exact bD (qX (i:=1) rfl sc.nd rfl (by trivial) (bV c__law_stock hr (by decide) (by rfl) (aB (bV c__law_cell_at hr (by decide) (by rfl) (aB (aA (i:=0)) (aB (aG) (aO)))) (aB (bV c__law_cell_at hr (by decide) (by rfl) (aB (aA (i:=0)) (aB (aG) (aO)))) (aO))))) (bD (qX (i:=2) rfl sc.nd rfl (by trivial) (bV c__law_grown hr (by decide) (by rfl) (aB (aA (i:=1)) (aB (ZG hK (aA (i:=0)) (qI (aG)) (qI (aG))) (aB (bV c__law_cell_at hr (by decide) (by rfl) (aB (aA (i:=0)) (aB (aG) (aO)))) (aO)))))) (bD (aA5 (i:=3) rfl rfl sc.nd rfl (by trivial) (bV c_parts hr (by decide) (by rfl) (aB (aA (i:=2)) (aO)))) (bD (JM (wU (tH (bV c__law_parts hr (by decide) (by rfl) (aB (aA (i:=3)) (aB (aA (i:=2)) (aO)))))) (cV (tO (oW))) (n8)) (Q3 (i:=3) (j:=4) rfl rfl PassesOwn.never rfl sc.nd rfl (by trivial) rfl (by trivial) (by trivial) BL (tD (eV BL gU)) (cV (tO (bV c__law_parts hr (by decide) (by rfl) (aB (bV c_parts hr (by decide) (by rfl) (aB (aA (i:=2)) (aO))) (aB (aA (i:=2)) (aO))))))))))
end
noncomputable def AtN (K:Frag) (n:Str) (st:Stmt):Prop:=∃(f:Addr) (fd:FuncData),nsIn K mainGlobals n=some (some (.ref f))/\Fun K n n st f fd
theorem aEo {K:Frag} {n:Str} {st:Stmt} {f:Addr} {oc kV dc pm cd ct:Value} {od an:Option Addr} {sl:Array (Option Value)} (a:nsIn K mainGlobals n=some (some (.ref f))) (l:K.lookup f=some ⟨oc,od,.func (fnOf n n (lG st) (eX st) (aQ st) .none kV dc pm an cd ct),sl⟩) (c:codeIn K cd n=true) (k:keepIn K (.ref f)=true):AtN K n st:=⟨f,_,a,WR (st:=st) l c k⟩
theorem aCt {l:OpenLaw} {w:World} {K:Frag} {h:Heap} {mg:Str->Option Value} {fa:Addr} (X:K.In h) (G:h.Ns mainGlobals mg) (hfa:mg "law" = some (.ref fa)) (a0:AtN K "_law_stock" jM) (a1:AtN K "_law_shuffled" fW) (a2:AtN K "_law_rimmed" iM) (a3:AtN K "_law_closed" iR) (a4:AtN K "_law_tied" iU) (a5:AtN K "_law_grown" dD) (a6:AtN K "neighbours" jP) (a7:AtN K "hanging_together" dU) (a8:AtN K "parts" z6) (a9:AtN K "_law_whole" jR) (a10:AtN K "_law_rising" iV) (a11:AtN K "_law_reached" gP) (a12:AtN K "_law_parts" gG) (a13:AtN K "_law_cell_at" gR)
  {f14:Addr} {oc14 kV14 dc14 pm14 cd14 ct14:Value} {od14 an14:Option Addr} {sl14:Array (Option Value)} (a14:nsIn K mainGlobals "law" = some (some (.ref f14))) (l14:K.lookup f14=some ⟨oc14,od14,.func (fnOf "law" "law" (lG vI) (eX vI) (aQ vI) .none kV14 dc14 pm14 an14 cd14 ct14),sl14⟩) (c14:codeIn K cd14 "law" = true) (k14:keepIn K (.ref f14)=true) (z_len:nsIn K mainGlobals "len" = some none) (z_min:nsIn K mainGlobals "min" = some none) (z_max:nsIn K mainGlobals "max" = some none) (z_list:nsIn K mainGlobals "list" = some none) (z_tuple:nsIn K mainGlobals "tuple" = some none) (z_sorted:nsIn K mainGlobals "sorted" = some none) (z_range:nsIn K mainGlobals "range" = some none) (z_isinstance:nsIn K mainGlobals "isinstance" = some none) (z_int:nsIn K mainGlobals "int" = some none) (z_bool:nsIn K mainGlobals "bool" = some none) (z_str:nsIn K mainGlobals "str" = some none) (z_dict:nsIn K mainGlobals "dict" = some none) (z_all:nsIn K mainGlobals "all" = some none) (z_enumerate:nsIn K mainGlobals "enumerate" = some none) (z_sum:nsIn K mainGlobals "sum" = some none) (z_zip:nsIn K mainGlobals "zip" = some none) (z_abs:nsIn K mainGlobals "abs" = some none) (z_reversed:nsIn K mainGlobals "reversed" = some none) :
  ∃fd:FuncData,(∀(s:Shared) (v:Value),BindsTo s fd ⟨[v],[]⟩ [("script",v)])/\∀base:Heap,K.In base->base.Ns mainGlobals mg->HF l.prog w K mg base CX0 5 fa fd ["script"] (@spD ⟨K⟩ JR 1):=by
 have e:=hfa.symm.trans (mg_of X G a14);cases e
 letI:KFrag:=⟨K⟩
 have Y:=fun {n:Str} {v:Value}=>mg_of (n:=n) (v:=v) X G
 have Z:=fun {n:Str}=>mg_none_of (n:=n) X G
 obtain ⟨f0,_,a0,F0⟩:=a0;obtain ⟨f1,_,a1,F1⟩:=a1;obtain ⟨f2,_,a2,F2⟩:=a2;obtain ⟨f3,_,a3,F3⟩:=a3;obtain ⟨f4,_,a4,F4⟩:=a4;obtain ⟨f5,_,a5,F5⟩:=a5;obtain ⟨f6,_,a6,F6⟩:=a6;obtain ⟨f7,_,a7,F7⟩:=a7;obtain ⟨f8,_,a8,F8⟩:=a8;obtain ⟨f9,_,a9,F9⟩:=a9;obtain ⟨f10,_,a10,F10⟩:=a10;obtain ⟨f11,_,a11,F11⟩:=a11;obtain ⟨f12,_,a12,F12⟩:=a12;obtain ⟨f13,_,a13,F13⟩:=a13;have B:Bt mg:=⟨Z z_len,Z z_min,Z z_max,Z z_list,Z z_tuple,Z z_sorted,Z z_range,Z z_isinstance,Z z_int,Z z_bool,Z z_str,Z z_dict,Z z_all,Z z_enumerate,Z z_sum,Z z_zip,Z z_abs,Z z_reversed⟩
 refine ⟨fnOf "law" "law" (lG vI) (eX vI) (aQ vI) .none kV14 dc14 pm14 an14 cd14 ct14,fun s v=>.of_eq rfl,fun base _ _=>?_⟩;have h__law_stock:=sO (P:=l.prog) (w:=w) (base:=base) rfl B  F0 (Y a0);have h__law_shuffled:=oA (P:=l.prog) (w:=w) (base:=base) rfl B  F1 (Y a1);have h__law_rimmed:=rF (P:=l.prog) (w:=w) (base:=base) rfl B h__law_shuffled F2 (Y a2);have h__law_closed:=rG (P:=l.prog) (w:=w) (base:=base) rfl B h__law_shuffled h__law_rimmed F3 (Y a3);have h__law_tied:=vO (P:=l.prog) (w:=w) (base:=base) rfl B  F4 (Y a4);have h__law_grown:=sS (P:=l.prog) (w:=w) (base:=base) rfl B h__law_tied h__law_closed F5 (Y a5);have h_neighbours:=sV (P:=l.prog) (w:=w) (base:=base) rfl B  F6 (Y a6);have h_hanging_together:=kY (P:=l.prog) (w:=w) (base:=base) rfl B  F7 (Y a7);have h_parts:=Q5 (P:=l.prog) (w:=w) (base:=base) rfl B h_neighbours h_hanging_together F8 (Y a8);have h__law_whole:=sW (P:=l.prog) (w:=w) (base:=base) rfl B  F9 (Y a9);have h__law_rising:=rH (P:=l.prog) (w:=w) (base:=base) rfl B h__law_whole F10 (Y a10);have h__law_reached:=o6 (P:=l.prog) (w:=w) (base:=base) rfl B  F11 (Y a11);have h__law_parts:=sX (P:=l.prog) (w:=w) (base:=base) rfl B h__law_rising h__law_reached F12 (Y a12);have h__law_cell_at:=o7 (P:=l.prog) (w:=w) (base:=base) rfl B  F13 (Y a13);exact aCs rfl B h__law_cell_at h__law_stock h__law_grown h_parts h__law_parts (WR (st:=vI) l14 c14 k14)
theorem walk {l:OpenLaw} {q:Program} {loose:List Str} {XP:(Str->Option Value)->Heap->Prop} {YP:World->Heap->Prop} {d:DefRec} {K:Params->Frag} (main:∀ns:List Int,ns.length<=63->JR [.scr (ns.map D.int)]=.ok (.bl true)) (hn:l.most=some 63) (hdf:d.params.defaults=[])
  (hY:∀(w:World) (h:Heap),YP w h->(K w.params).In h)
  (F:∀(w:World) (mg:Str->Option Value) (fa:Addr) (h:Heap),(K w.params).In h->h.Ns mainGlobals mg->mg d.name=some (.ref fa)->
   ∃fd:FuncData,(∀(s:Shared) (u:Value),BindsTo s fd ⟨[u],[]⟩ [("script",u)])/\∀base:Heap,(K w.params).In base->base.Ns mainGlobals mg->HF l.prog w (K w.params) mg base CX0 5 fa fd ["script"] (@spD ⟨K w.params⟩ JR 1)) :
  WalkO q loose XP YP l.row.toRowW d [] (fun f vs=>PySem.call f vs):=
 L2.YL (n:=63) (k:=5) (x := "script") (CX:=fun _=>CX0) (sp:=fun w=>@spD ⟨K w.params⟩ JR 1) hn (by decide) hdf ⟨rfl,by decide,by decide⟩ hY F (fun w H a ns hl hO hS=>PP main hl hO hS) fun _ _ _ _ _ z=>z
end Lk11
end
section
namespace Lk11
open PySem L2 Mi
abbrev Pt:=Int×Int
def enP (p:Pt):D:=.tup [.int p.1,.int p.2]
abbrev Tie:=Pt×Pt
def cF (t:Tie):D:=.tup [enP t.1,enP t.2]
theorem Q6 (p q:Pt):eqD (enP p) (enP q)=decide (p=q):=by
 obtain ⟨a,b⟩:=p;obtain ⟨c,d⟩:=q;by_cases h1:a=c <;> by_cases h2:b=d <;> simp [enP,eqD,pA,h1,h2]
def ltP (p q:Pt):Prop:=p.1<q.1\/p.1=q.1/\p.2<q.2
instance (p q:Pt):Decidable (ltP p q):=by unfold ltP;infer_instance
theorem GQ (p q:Pt):cM .lt (enP p) (enP q)=some (decide (ltP p q)):=by
 obtain ⟨a,b⟩:=p;obtain ⟨c,d⟩:=q;by_cases h1:a=c <;> by_cases h2:b=d <;> simp [enP,cM,cG,eqD,h1,h2,e_.int,e_.nat,ltP]
theorem XF (p q:Pt):cM .gt (enP p) (enP q)=some (decide (ltP q p)):=by
 obtain ⟨a,b⟩:=p;obtain ⟨c,d⟩:=q;by_cases h1:a=c
 ·by_cases h2:b=d <;> simp [enP,cM,cG,eqD,h1,h2,e_.int,e_.nat,ltP]
 ·simp [enP,cM,cG,eqD,h1,e_.int];simp only [ltP];lia
theorem aA8 (p q:Pt):bR .ne (enP p) (enP q)=.ok (.bl (!decide (p=q))):=by
 rw [<-Q6];rfl
def ends (T:List Tie):List Pt:=T.flatMap fun t=>[t.1,t.2]
abbrev Pc:=Int×Str
def pcD (c:Pc):D:=.tup [.int c.1,.str c.2]
theorem z2:decide ((2:Nat)<=lim)=true:=rfl
theorem j_ {α:Type} [BEq α] [LawfulBEq α]:∀(l1 l2:List α),l1.Nodup->(∀x∈l1,x∈l2)->l1.length<=l2.length
 | [],_,_,_=>Nat.zero_le _
 | x::l,l2,hn,h=>by
  rw [List.nodup_cons] at hn;have hx:=h x (List.mem_cons_self ..);have:=j_ l (l2.erase x) hn.2 fun y hy=>by
   refine (List.mem_erase_of_ne ?_).mpr (h y (List.mem_cons_of_mem _ hy));rintro rfl;exact hn.1 hy
  rw [List.length_erase_of_mem hx] at this;have:0<l2.length:=List.length_pos_of_mem hx;simp only [List.length_cons];lia
noncomputable def fD (Q:List Pc) (T:List Tie) (r:Int):D:=.tup [.tup (Q.map pcD),.tup (T.map cF),.int r]
theorem pH (Q:List Pc):(D.tup (Q.map pcD)).pure=true:=by
 show D.aW (Q.map pcD)=true;induction Q with
 | nil=>rfl
 | cons q Q ih=>rw [List.map_cons,D.aW,ih];rfl
theorem nG (T:List Tie):(D.tup (T.map cF)).pure=true:=by
 show D.aW (T.map cF)=true;induction T with
 | nil=>rfl
 | cons q Q ih=>rw [List.map_cons,D.aW,ih];rfl
theorem rJ (l:List Pt):D.aW (l.map enP)=true:=by
 induction l with
 | nil=>rfl
 | cons q Q ih=>rw [List.map_cons,D.aW,ih];rfl
end Lk11
end
section
namespace Lk11
open PySem L2 Mi
noncomputable def aA9:FS:=(bO (b8 false 9 (b2 (aU .mul) (b2 (aU .mod) (b2 (aU .fdiv) cP MT) yI) (b2 (aU .add) rY yI)) true) (bO (sIf (bTB (b2 (bR .eq) rY nM)) (b8 false 9 fP true) (mQ)) (b8 false 7 (b2 (aU .add) rQ (b2 getD kJ (b2 (aU .mod) (b2 (aU .add) (b2 (aU .fdiv) (b2 (aU .fdiv) cP wK) (b2 (aU .add) (b2 (aU .mul) rY rY) fP)) (b2 (aU .mul) v5 rR)) M3))) true)))
noncomputable def aEp:FS:=(bO (b8 false 7 (bC (.str "")) true) (bO (wN (mO (aF fJ bG) lN) (tg1 8) (bO (b8 false 9 (b2 (aU .mul) (b2 (aU .mod) (b2 (aU .fdiv) cP MT) yI) (b2 (aU .add) rY yI)) true) (bO (sIf (bTB (b2 (bR .eq) rY nM)) (b8 false 9 fP true) (mQ)) (b8 false 7 (b2 (aU .add) rQ (b2 getD kJ (b2 (aU .mod) (b2 (aU .add) (b2 (aU .fdiv) (b2 (aU .fdiv) cP wK) (b2 (aU .add) (b2 (aU .mul) rY rY) fP)) (b2 (aU .mul) v5 rR)) M3))) true)))) (bO (T5 5 rQ (b2 (aU .mod) jH aAn)) (b8 false 1 (b2 (aU .fdiv) jH aAn) true))))
def abc:Str := "abcdefghijklmnopqrstuvwxyz"
theorem letter (i:Int) (h0:0<=i) (h1:i<26):∃c:Str,getD (.str abc) (.int i)=.ok (.str c)/\c.length=1:=by
 have hl:decide (abc.length<=lim)=true:=by decide +kernel
 have h26:abc.cps.toList.length=26:=by decide +kernel
 have hix:ixD abc.cps.toList.length i=some i.toNat:=by
  unfold ixD;rw [if_pos h0,h26,if_pos (by lia)]
 have hlt:i.toNat<abc.cps.toList.length:=by rw [h26];lia
 refine ⟨⟨#[abc.cps.toList[i.toNat]]⟩,?_,rfl⟩;show (if decide (abc.length<=lim) then Res.ofOpt (((ixD abc.cps.toList.length i).bind fun j=>abc.cps.toList[j]?).map fun c=>D.str ⟨#[c]⟩) else .bad)=_;rw [hl,if_pos rfl,hix];simp only [Option.bind_some];rw [List.getElem?_eq_getElem hlt];rfl
theorem tQ {c0 c1 sz at_ k:Int} {dk:D} {ab:Str} (hab:∀i:Int,0<=i->i<26->∃c:Str,getD (.str ab) (.int i)=.ok (.str c)/\c.length=1) (hk0:0<=k) (hk1:k<=10):∀(js:List Nat) (nm:Str) (x y:D),(∀j∈js,j<10)->nm.length+js.length<=1000->∃nm' x' y',nm'.length<=nm.length+js.length/\
  lY (tg1 8) aA9 (js.map fun (j:Nat)=>D.int (0+(j:Int))) [.int c0,.int c1,.str ab,.int sz,.int at_,dk,.int k,.str nm,x,y]=.ok (.nx [.int c0,.int c1,.str ab,.int sz,.int at_,dk,.int k,.str nm',x',y'])
 | [],nm,x,y,_,_=>⟨nm,x,y,by simp,rfl⟩
 | j::js,nm,x,y,hj,hl=>by
  have hj':=hj j (List.mem_cons_self ..);rw [List.length_cons] at hl;generalize hjj:(0+(j:Int))=jj;have b0:0<=jj:=by lia
  have b1:jj<10:=by lia
  have hsq:jj*jj<100:=by
   have:jj*jj<=9*9:=Int.mul_le_mul (by lia) (by lia) b0 (by lia);lia
  have hsq0:0<=jj*jj:=Int.mul_nonneg b0 b0;have f1:=fU c0 192 (by decide) (by decide);have f2:=fV (c0 / 192) 2 (by decide);have f3:=fC jj 2;have f4:=QD (c0 / 192 % 2) (jj+2) (j9 _ (by lia) (by lia));have f5:bR .eq (.int jj) (.int at_)=.ok (.bl (jj==at_)):=rfl;have f6:=fU c0 384 (by decide) (by decide);have f7:=QD jj jj (j9 _ (by lia) (by lia));have f8:=fC (jj*jj) 1;have f9:=fU (c0 / 384) (jj*jj+1) (by lia) (by lia);have pi:∀i:Int,(D.int i).pure=true:=fun _=>rfl
  have ps:∀i:Str,(D.str i).pure=true:=fun _=>rfl
  rw [List.map_cons,lY,hjj];have rest:∀st:Int,∃(cc:Str) (nm':Str) (x' y':D),nm'.length<=nm.length+(js.length+1)/\(b8 false 7 (b2 (aU .add) rQ (b2 getD kJ (b2 (aU .mod) (b2 (aU .add) (b2 (aU .fdiv) (b2 (aU .fdiv) cP wK) (b2 (aU .add) (b2 (aU .mul) rY rY) fP)) (b2 (aU .mul) v5 rR)) M3))) true) [.int c0,.int c1,.str ab,.int sz,.int at_,dk,.int k,.str nm,.int jj,.int st]=.ok (.nx [.int c0,.int c1,.str ab,.int sz,.int at_,dk,.int k,.str (nm++cc),.int jj,.int st])/\
    lY (tg1 8) aA9 (js.map fun (j:Nat)=>D.int (0+(j:Int))) [.int c0,.int c1,.str ab,.int sz,.int at_,dk,.int k,.str (nm++cc),.int jj,.int st]=.ok (.nx [.int c0,.int c1,.str ab,.int sz,.int at_,dk,.int k,.str nm',x',y']):=by
   intro st;have g1:=zV k st (j9 _ (by lia) (by lia));have g2:=fC (c0 / 384 / (jj*jj+1)) (k*st);have g3:=fV (c0 / 384 / (jj*jj+1)+k*st) 26 (by decide);obtain ⟨cc,g4,g5⟩:=hab ((c0 / 384 / (jj*jj+1)+k*st) % 26) (by lia) (by lia);have g6:=y_ nm cc (by rw [g5,bQ];lia);obtain ⟨nm',x',y',h1,h2⟩:=tQ (c0:=c0) (c1:=c1) (sz:=sz) (at_:=at_) (dk:=dk) hab hk0 hk1 js (nm++cc) (.int jj) (.int st) (fun j hj2=>hj j (List.mem_cons_of_mem _ hj2)) (by rw [str_len,g5];lia);refine ⟨cc,nm',x',y',by rw [str_len,g5] at h1;lia,?_,h2⟩;exact bT (aH rfl (aH rfl (aH (aH (aH (aH rfl rfl f6) (aH (aH rfl rfl f7) rfl f8) f9) (aH rfl rfl g1) g2) rfl g3) g4) g6)
  have step:∃st:Int,aA9 [.int c0,.int c1,.str ab,.int sz,.int at_,dk,.int k,.str nm,.int jj,y]=(b8 false 7 (b2 (aU .add) rQ (b2 getD kJ (b2 (aU .mod) (b2 (aU .add) (b2 (aU .fdiv) (b2 (aU .fdiv) cP wK) (b2 (aU .add) (b2 (aU .mul) rY rY) fP)) (b2 (aU .mul) v5 rR)) M3))) true) [.int c0,.int c1,.str ab,.int sz,.int at_,dk,.int k,.str nm,.int jj,.int st]:=by
   cases he:(jj==at_) with
   | true=>
    refine ⟨1,?_⟩;exact aK (bT (aH (aH (aH rfl rfl f1) rfl f2) (aH rfl rfl f3) f4)) (aK (U7 (cA (aH rfl rfl (f5.trans (by rw [he])))) rfl) rfl)
   | false=>
    refine ⟨c0 / 192 % 2*(jj+2),?_⟩;exact aK (bT (aH (aH (aH rfl rfl f1) rfl f2) (aH rfl rfl f3) f4)) (aK (U7 (cA (aH rfl rfl (f5.trans (by rw [he])))) rfl) rfl)
  obtain ⟨st,step⟩:=step;obtain ⟨cc,nm',x',y',h1,s7,h2⟩:=rest st;refine ⟨nm',x',y',h1,?_⟩;have tgx:tg1 8 (.int jj) [.int c0,.int c1,.str ab,.int sz,.int at_,dk,.int k,.str nm,x,y]=.ok [.int c0,.int c1,.str ab,.int sz,.int at_,dk,.int k,.str nm,.int jj,y]:=rfl;rw [tgx,Res.aM,step,s7,Res.aM];exact h2
end Lk11
end
section
namespace Lk11
open PySem L2 Mi
noncomputable def eZ (kvs:List (D×D)):Prop:=∀p∈kvs,∃(s:Str) (v:Int),p=(.str s,.int v)/\0<=v/\v<=6
theorem xZ {s:Str} {v:Int} (h0:0<=v) (h1:v<=6):∀{kvs:List (D×D)},eZ kvs->eZ (putD kvs (.str s) (.int v))/\(putD kvs (.str s) (.int v)).length<=kvs.length+1/\putD kvs (.str s) (.int v)≠[]
 | [],h=>⟨fun p hp=>⟨s,v,by simpa [putD] using hp,h0,h1⟩,by simp [putD],by simp [putD]⟩
 | (k,w)::r,h=>by
  obtain ⟨i1,i2,i3⟩:=xZ (s:=s) h0 h1 (kvs:=r) fun p hp=>h p (List.mem_cons_of_mem _ hp)
  rw [putD];split
  ·obtain ⟨s',v',e,_⟩:=h _ (List.mem_cons_self ..);cases e;refine ⟨fun p hp=>?_,by simp,by simp⟩;rcases List.mem_cons.mp hp with rfl|hp
   ·exact ⟨s',v,rfl,h0,h1⟩
   ·exact h p (List.mem_cons_of_mem _ hp)
  ·refine ⟨fun p hp=>?_,by simp only [List.length_cons];lia,by simp⟩;rcases List.mem_cons.mp hp with rfl|hp
   ·exact h _ (List.mem_cons_self ..)
   ·exact i1 p hp
theorem Q7 {kvs:List (D×D)} (h:eZ kvs) (s:Str):rW kvs (.str s)=true:=by
 unfold rW;rw [show keyOk (.str s)=true from rfl,Bool.true_and,List.all_eq_true];intro p hp;obtain ⟨s',v',rfl,_⟩:=h p hp;rfl
theorem range_all (n:Nat):∀j∈List.range n,j<n:=fun j hj=>List.mem_range.mp hj
theorem tR {c0 sz at_:Int} {ab:Str} (hab:∀i:Int,0<=i->i<26->∃c:Str,getD (.str ab) (.int i)=.ok (.str c)/\c.length=1) (hs0:0<=sz) (hs1:sz<=9):∀(ks:List Nat) (c1:Int) (kvs:List (D×D)) (x6 x7 x8 x9:D),(∀k∈ks,k<10)->eZ kvs->kvs.length+ks.length<=1000->
  ∃c1' kvs' y6 y7 y8 y9,eZ kvs'/\(ks≠[]\/kvs≠[]->kvs'≠[])/\kvs'.length<=kvs.length+ks.length/\
  lY (tg1 6) aEp (ks.map fun (j:Nat)=>D.int (0+(j:Int))) [.int c0,.int c1,.str ab,.int sz,.int at_,.dct kvs,x6,x7,x8,x9]=.ok (.nx [.int c0,c1',.str ab,.int sz,.int at_,.dct kvs',y6,y7,y8,y9])
 | [],c1,kvs,x6,x7,x8,x9,_,hk,_=>⟨.int c1,kvs,x6,x7,x8,x9,hk,fun h=>h.elim (fun z=>absurd rfl z) id,by simp,rfl⟩
 | k::ks,c1,kvs,x6,x7,x8,x9,hks,hk,hl=>by
  have hk':=hks k (List.mem_cons_self ..);rw [List.length_cons] at hl;generalize hkk:(0+(k:Int))=kk;obtain ⟨nm,u8,u9,_,hin⟩:=tQ (c0:=c0) (c1:=c1) (sz:=sz) (at_:=at_) (k:=kk) (dk:=.dct kvs) hab (by lia) (by lia) (List.range sz.toNat) "" x8 x9 (fun j hj=>by have:=range_all _ j hj;lia) (by
   rw [List.length_range];have:("" : Str).length=0:=rfl;lia)
  obtain ⟨i1,i2,i3⟩:=xZ (s:=nm) (v:=c1 % 7) (by lia) (by lia) hk;obtain ⟨c1',kvs',y6,y7,y8,y9,j1,j2,j3,j4⟩:=tR hab hs0 hs1 ks (c1 / 7) (putD kvs (.str nm) (.int (c1 % 7))) (.int kk) (.str nm) u8 u9 (fun j hj=>hks j (List.mem_cons_of_mem _ hj)) i1 (by lia);refine ⟨c1',kvs',y6,y7,y8,y9,j1,fun _=>j2 (.inr i3),by simp only [List.length_cons];lia,?_⟩;rw [List.map_cons,hkk];have m7:=fV c1 7 (by decide);have d7:=fU c1 7 (by decide) (by decide);refine h_ (ρ1:=[.int c0,.int c1,.str ab,.int sz,.int at_,.dct kvs,.int kk,x7,x8,x9]) rfl ?_ j4;refine aK (ρ':=[.int c0,.int c1,.str ab,.int sz,.int at_,.dct kvs,.int kk,.str "",x8,x9]) (bT rfl) ?_;refine aK (ρ':=[.int c0,.int c1,.str ab,.int sz,.int at_,.dct kvs,.int kk,.str nm,u8,u9]) (qP (qQ (n:=sz) (aD rfl rfl) hs0 (by lia)) hin) ?_;refine aK (ρ':=[.int c0,.int c1,.str ab,.int sz,.int at_,.dct (putD kvs (.str nm) (.int (c1 % 7))),.int kk,.str nm,u8,u9]) (QC (kvs:=kvs) (aH rfl rfl m7) rfl rfl (by rw [bQ];lia) (Q7 hk nm) rfl) ?_;exact bT (aH rfl rfl d7)
theorem VR (c0 c1:Int):∃kvs,eZ kvs/\kvs≠[]/\kvs.length<=5/\eG [.int c0,.int c1]=.ok (.dct kvs):=by
 have m8:=fV c0 8 (by decide);have a1:=fC 1 (c0 % 8);have f8:=fU c0 8 (by decide) (by decide);have ms:=fV (c0 / 8) (1+c0 % 8) (by lia);have f64:=fU c0 64 (by decide) (by decide);have m3:=fV (c0 / 64) 3 (by decide);have a3:=fC 3 (c0 / 64 % 3);obtain ⟨c1',kvs',y6,y7,y8,y9,j1,j2,j3,j4⟩:=tR (c0:=c0) (sz:=1+c0 % 8) (at_:=c0 / 8 % (1+c0 % 8)) (ab:=abc) letter (by lia) (by lia) (List.range (3+c0 / 64 % 3).toNat) c1 [] .uD .uD .uD .uD (fun j hj=>by have:=range_all _ j hj;lia) (fun p hp=>by cases hp) (by rw [List.length_range];simp;lia);refine ⟨kvs',j1,j2 (.inl fun z=>?_),by rw [List.length_range] at j3;simp at j3;lia,?_⟩
 ·have:=congrArg List.length z;rw [List.length_range] at this;simp at this;lia
 ·have e:jN [.int c0,.int c1,.uD,.uD,.uD,.uD,.uD,.uD,.uD,.uD]=.ok (.rt (.dct kvs')):=by
   refine aK (ρ':=[.int c0,.int c1,.str abc,.uD,.uD,.uD,.uD,.uD,.uD,.uD]) (bT rfl) ?_;refine aK (ρ':=[.int c0,.int c1,.str abc,.int (1+c0 % 8),.uD,.uD,.uD,.uD,.uD,.uD]) (bT (aH rfl (aH rfl rfl m8) a1)) ?_;refine aK (ρ':=[.int c0,.int c1,.str abc,.int (1+c0 % 8),.int (c0 / 8 % (1+c0 % 8)),.uD,.uD,.uD,.uD,.uD]) (bT (aH (aH rfl rfl f8) rfl ms)) ?_;refine aK (ρ':=[.int c0,.int c1,.str abc,.int (1+c0 % 8),.int (c0 / 8 % (1+c0 % 8)),.dct [],.uD,.uD,.uD,.uD]) (eY rfl rfl) ?_;refine aK (qP (qQ (n:=3+c0 / 64 % 3) (aD (aH rfl (aH (aH rfl rfl f64) rfl m3) a3) rfl) (by lia) (by lia)) j4) ?_;rfl
  show (do let r <- jN _;zE r)=_;rw [show ([D.int c0,D.int c1]++List.replicate (10-2) D.uD)=[.int c0,.int c1,.uD,.uD,.uD,.uD,.uD,.uD,.uD,.uD] from rfl,e];rfl
end Lk11
end
section
namespace Lk11
open PySem L2 Mi
theorem Q8 (L:List Pt) (i:Int) (h0:0<=i) (h1:i<L.length):∃p∈L,getD (.lst (L.map enP)) (.int i)=.ok (enP p):=by
 obtain ⟨h,e⟩:=jL (L.map enP) i h0 (by simpa using h1);rw [List.length_map] at h;refine ⟨L[i.toNat],List.getElem_mem _,?_⟩;rw [e];simp
theorem V0 (o:e_) (a b:Pt) (r:Pt->Pt->Prop) [∀x y,Decidable (r x y)] (h:∀x y,cM o (enP x) (enP y)=some (decide (r x y))):dC o [enP a,enP b]=.ok (enP (if r b a then b else a)):=by
 show lM o [enP a,enP b]=_;have hall:([enP a,enP b].all fun x=>x.bK aP&&[enP a,enP b].all fun y=>(cM o x y).isSome)=true:=by
  simp only [List.all_cons,List.all_nil,h,Option.isSome_some,Bool.and_true];rfl
 rw [lM,if_pos hall];simp only [List.foldl_cons,List.foldl_nil,h,Option.getD_some];by_cases hr:r b a
 ·simp [hr]
 ·simp [hr]
theorem V1 {α:Type} [DecidableEq α] {L:List α} (hn:L.Nodup) {a:α} (ha:a∈L):(L.filter fun x=>!decide (x=a)).length+1=L.length:=by
 induction L with
 | nil=>cases ha
 | cons x L ih=>
  rw [List.nodup_cons] at hn;rw [List.filter_cons];by_cases h:x=a
  ·subst h;have:(L.filter fun y=>!decide (y=x))=L:=List.filter_eq_self.mpr fun y hy=>by
    have:y≠x:=fun z=>hn.1 (z▸hy)
    simp [this]
   simp [this]
  ·rw [if_pos (by simp [h])];rcases List.mem_cons.mp ha with rfl|ha
   ·exact absurd rfl h
   ·have:=ih hn.2 ha;simp only [List.length_cons];lia
theorem aAa (L:List Pt) (more:Int) (hn:L.Nodup) (h2:2<=L.length) (hl:L.length<=100000):∃a b,a∈L/\b∈L/\ltP a b/\cO [.lst (L.map enP),.int more]=.ok (cF (a,b)):=by
 have hpos:(0:Int)<(L.length:Int):=by lia
 have g0:=fV more L.length hpos;obtain ⟨one,h1,e1⟩:=Q8 L (more % L.length) (Int.emod_nonneg _ (by lia)) (Int.emod_lt_of_pos _ hpos);have hf:=V1 hn h1
 let R:=L.filter fun x=>!decide (x=one)
 have hR:R.length+1=L.length:=hf;have hRp:(0:Int)<(R.length:Int):=by lia
 have g1:=fU more L.length hpos (by lia);have g2:=fV (more / L.length) R.length hRp;obtain ⟨other,h3,e3⟩:=Q8 R (more / L.length % R.length) (Int.emod_nonneg _ (by lia)) (Int.emod_lt_of_pos _ hRp);have h4:other∈L/\other≠one:=by
  have:=List.mem_filter.mp h3;exact ⟨this.1,by simpa using this.2⟩
 have lL:fK [.lst (L.map enP)]=.ok (.int L.length):=by rw [mZ,List.length_map]
 have lR:fK [.lst (R.map enP)]=.ok (.int R.length):=by rw [mZ,List.length_map]
 have mn:=V0 .lt one other ltP GQ;have mx:=V0 .gt one other (fun x y=>ltP y x) XF;have tri:ltP one other\/ltP other one:=by
  have:one≠other:=fun z=>h4.2 z.symm
  simp only [ltP];by_cases hh:one.1=other.1
  ·have:one.2≠other.2:=fun z=>this (Prod.ext hh z)
   lia
  ·lia
 have R5:ltP other one->¬ltP one other:=by
  simp only [ltP];lia
 have body:lU [.lst (L.map enP),.int more,.uD,.uD,.uD]=.ok (.rt (.tup [enP (if ltP other one then other else one),enP (if ltP one other then other else one)])):=by
  refine aK (ρ':=[.lst (L.map enP),.int more,enP one,.uD,.uD]) (zU (aH rfl (aH rfl (aV (aD rfl rfl) lL) g0) e1) rfl) ?_;refine aK (ρ':=[.lst (L.map enP),.int more,enP one,.lst (R.map enP),.uD]) (bT (qT (m5 rfl rfl) (by rw [List.length_map,bQ];lia) ?_)) ?_
  ·rw [iB _ enP (fun x=>!decide (x=one)) enP]
   ·rfl
   ·intro acc p;exact m9 (ρ:=[.lst (L.map enP),.int more,enP one,.uD,.uD]) rfl (cA (aH rfl rfl (aA8 p one))) fun _=>⟨rfl,rfl⟩
  refine aK (ρ':=[.lst (L.map enP),.int more,enP one,.lst (R.map enP),enP other]) (zU (aH rfl (aH (aH rfl (aV (aD rfl rfl) lL) g1) (aV (aD rfl rfl) lR) g2) e3) rfl) ?_;exact oN (lC (aD (aV (aD rfl (aD rfl rfl)) mn) (aD (aV (aD rfl (aD rfl rfl)) mx) rfl)) (by rw [bQ];simp)) rfl
 have ev:cO [.lst (L.map enP),.int more]=.ok (.tup [enP (if ltP other one then other else one),enP (if ltP one other then other else one)]):=by
  show (do let r <- lU _;zE r)=_;rw [show ([D.lst (L.map enP),D.int more]++List.replicate (5-2) D.uD)=[.lst (L.map enP),.int more,.uD,.uD,.uD] from rfl,body];rfl
 rcases tri with h|h
 ·have n:¬ltP other one:=fun z=>R5 z h
  rw [if_neg n,if_pos h] at ev;exact ⟨one,other,h1,h4.1,h,ev⟩
 ·rw [if_pos h,if_neg (R5 h)] at ev;exact ⟨other,one,h4.1,h1,h,ev⟩
end Lk11
end
section
namespace Lk11
open PySem L2 Mi
noncomputable def rb1:FS:=(aBt 2 (b2 (aU .mod) (b2 (aU .add) (b2 (aU .fdiv) jH (b2 (aU .add) fJ fP)) (b2 (aU .mul) fJ fJ)) (b2 (aU .add) fJ fP)) (b2 getD cP fJ))
noncomputable def rb2:FS:=(uI 4 (oJ (aF (oJ (aF dF (aF (b2 getD fJ gB) bG))) (aF (b2 getD cP gB) bG))))
noncomputable def rb3:FS:=(bO (b8 false 6 (R9 fJ (p_ (b2 (aU .add) (aX fK (aF cP bG)) (b2 (aU .mul) yI gB))) (p_ (b2 (aU .add) (b2 (aU .add) (aX fK (aF cP bG)) (b2 (aU .mul) yI gB)) yI))) true) (uI 4 (oJ (aF (oJ (aF dF (aF (aX (dC .lt) (aF v5 bG)) bG))) (aF (oJ (aF dF (aF (aX (dC .gt) (aF v5 bG)) bG))) bG)))))
theorem x_ {xs:List D} {seed:Int} (hp:∀x∈xs,x.pure=true) (hl:xs.length<=10000):∀(n k:Nat) (F:List D) (x3:D),k+n=xs.length->F.Perm (xs.take k)->∃(F':List D) (y3:D),F'.Perm xs/\
  lY (tg1 3) rb1 ((List.range' k n).map fun (j:Nat)=>D.int (0+(j:Int))) [.lst xs,.int seed,.lst F,x3]=.ok (.nx [.lst xs,.int seed,.lst F',y3])
 | 0,k,F,x3,h1,h2=>⟨F,x3,by rw [List.take_of_length_le (by lia)] at h2;exact h2,rfl⟩
 | n+1,k,F,x3,h1,h2=>by
  rw [List.range'_succ,List.map_cons];generalize hkk:(0+(k:Int))=kk;have hkl:k<xs.length:=by lia
  have hkk':kk=(k:Int):=by lia
  have hsq:kk*kk<=10000*10000:=Int.mul_le_mul (by lia) (by lia) (by lia) (by lia);have hsq0:0<=kk*kk:=Int.mul_nonneg (by lia) (by lia);have g1:=fC kk 1;have g2:=fU seed (kk+1) (by lia) (by lia);have g3:=QD kk kk (j9 _ (by lia) (by lia));have g4:=fC (seed / (kk+1)) (kk*kk);have g5:=fV (seed / (kk+1)+kk*kk) (kk+1) (by lia);generalize hj:(seed / (kk+1)+kk*kk) % (kk+1)=j at g5;have j0:0<=j:=by rw [<-hj];exact Int.emod_nonneg _ (by lia)
  have j1:j<kk+1:=by rw [<-hj];exact Int.emod_lt_of_pos _ (by lia)
  have hF:F.length=k:=by rw [h2.length_eq,List.length_take];lia
  have hg:getD (.lst xs) (.int kk)=.ok xs[k]:=by
   obtain ⟨h,e⟩:=jL xs kk (by lia) (by lia);rw [e]
   congr 2
   lia
  have hperm:(F.take j.toNat++xs[k]::F.drop j.toNat).Perm (xs.take (k+1)):=by
   refine List.perm_middle.trans ?_;rw [List.take_append_drop,List.take_succ_eq_append_getElem hkl];exact (List.Perm.cons _ h2).trans (List.perm_append_singleton _ _).symm
  obtain ⟨F',y3,i1,i2⟩:=x_ hp hl n (k+1) (F.take j.toNat++xs[k]::F.drop j.toNat) (.int kk) (by lia) hperm;refine ⟨F',y3,i1,?_⟩;refine h_ (ρ1:=[.lst xs,.int seed,.lst F,.int kk]) rfl (aCi (xs:=F) (aH (aH (aH rfl (aH rfl rfl g1) g2) (aH rfl rfl g3) g4) (aH rfl rfl g1) g5) (aH rfl rfl hg) rfl (by rw [bQ];lia) (hp _ (List.getElem_mem _)) j0 (by lia)) ?_;rw [<-i2];rfl
theorem Q9 {xs:List D} (seed:Int) (hp:∀x∈xs,x.pure=true) (hl:xs.length<=10000):∃ys:List D,ys.Perm xs/\fL 2 cC [.lst xs,.int seed]=.ok (.lst ys):=by
 obtain ⟨ys,y3,h1,h2⟩:=x_ (seed:=seed) hp hl xs.length 0 [] .uD (by lia) (by simp);refine ⟨ys,h1,(d9 rfl).trans ?_⟩;have e:fX [.lst xs,.int seed,.uD,.uD]=.ok (.rt (.lst ys)):=by
  refine aK (ρ':=[.lst xs,.int seed,.lst [],.uD]) (eY rfl rfl) ?_;refine aK (ρ':=[.lst xs,.int seed,.lst ys,y3]) (qP (qQ (n:=xs.length) (aD (aV (aD rfl rfl) (mZ xs)) rfl) (by lia) (by lia)) ?_) ?_
  ·rw [<-h2,show ((xs.length:Int)).toNat=xs.length by lia,List.range_eq_range'];rfl
  rfl
 show (do let r <- fX _;zE r)=_;rw [show ([D.lst xs,D.int seed]++List.replicate (4-2) D.uD)=[.lst xs,.int seed,.uD,.uD] from rfl,e];rfl
theorem GR {α:Type} (f:α->D) (g:D->α) (h:∀a,g (f a)=a) {ys:List D} {L:List α} (p:ys.Perm (L.map f)):∃L':List α,L'.Perm L/\ys=L'.map f:=by
 refine ⟨ys.map g,?_,?_⟩
 ·refine (p.map g).trans ?_;rw [List.map_map];refine List.Perm.of_eq ?_
  conv=>rhs;rw [<-List.map_id L]
  exact List.map_congr_left fun a _=>h a
 ·rw [List.map_map]
  conv=>lhs;rw [<-List.map_id ys]
  refine List.map_congr_left fun y hy=>?_
  obtain ⟨a,_,rfl⟩:=List.mem_map.mp (p.mem_iff.mp hy);show f a=f (g (f a));rw [h]
noncomputable def unI:D->Int
 | .int i=>i
 | _=>0
end Lk11
end
section
namespace Lk11
open PySem L2 Mi
def rim (s:Int):Pt:=(0,s)
theorem rK (T:List Tie) (t:Tie):ends (T++[t])=ends T++[t.1,t.2]:=by simp [ends]
theorem aCu {bare seed:Int} {a6:D} {L:List Pt} {S:List Int} (hL:∀p∈L,0<p.1):∀(n k:Nat) (T:List Tie) (x4:D),L.length=k+n->k+n<=S.length->T.length+n<=10000->∃(T':List Tie) (y4:D),(ends T').Perm (ends T++(L.drop k++((S.drop k).take n).map rim))/\(∀t∈T',t∈T\/ltP t.1 t.2)/\T'.length=T.length+n/\
  lY (tg1 5) rb2 ((List.range' k n).map fun (j:Nat)=>D.int (0+(j:Int))) [.lst (L.map enP),.int bare,.int seed,.lst (S.map D.int),.lst (T.map cF),x4,a6]=.ok (.nx [.lst (L.map enP),.int bare,.int seed,.lst (S.map D.int),.lst (T'.map cF),y4,a6])
 | 0,k,T,x4,h1,_,_=>⟨T,x4,by rw [List.drop_of_length_le (by lia)];simp,fun t ht=>.inl ht,rfl,rfl⟩
 | n+1,k,T,x4,h1,h2,h3=>by
  have hk1:k<L.length:=by lia
  have hk2:k<S.length:=by lia
  have e1:getD (.lst (S.map D.int)) (.int (0+(k:Int)))=.ok (.int S[k]):=by
   obtain ⟨h,e⟩:=jL (S.map D.int) (0+(k:Int)) (by lia) (by rw [List.length_map];lia);rw [e];simp
  have e2:getD (.lst (L.map enP)) (.int (0+(k:Int)))=.ok (enP L[k]):=by
   obtain ⟨h,e⟩:=jL (L.map enP) (0+(k:Int)) (by lia) (by rw [List.length_map];lia);rw [e];simp
  have hpos:=hL L[k] (List.getElem_mem _);obtain ⟨T',y4,i1,i2,i3,i4⟩:=aCu (bare:=bare) (seed:=seed) (a6:=a6) (S:=S) hL n (k+1) (T++[(rim S[k],L[k])]) (.int (0+(k:Int))) (by lia) (by lia) (by simp;lia);refine ⟨T',y4,?_,fun t ht=>?_,by rw [i3];simp;lia,?_⟩
  ·refine i1.trans ?_;rw [rK,List.append_assoc];refine List.Perm.append_left _ ?_;rw [List.drop_eq_getElem_cons hk1,List.drop_eq_getElem_cons hk2,List.take_succ_cons,List.map_cons];show (rim S[k]::L[k]::(L.drop (k+1)++((S.drop (k+1)).take n).map rim)).Perm (L[k]::(L.drop (k+1)++rim S[k]::((S.drop (k+1)).take n).map rim));exact (List.Perm.swap ..).trans (List.Perm.cons _ List.perm_middle.symm)
  ·rcases i2 t ht with h|h
   ·rcases List.mem_append.mp h with h|h
    ·exact .inl h
    ·have:t=(rim S[k],L[k]):=by simpa using h
     subst this;exact .inr (.inl hpos)
   ·exact .inr h
  ·rw [List.range'_succ,List.map_cons];refine h_ (ρ1:=[.lst (L.map enP),.int bare,.int seed,.lst (S.map D.int),.lst (T.map cF),.int (0+(k:Int)),a6]) rfl (qR (xs:=T.map cF) (lC (aD (lC (aD rfl (aD (aH rfl rfl e1) rfl)) (by rw [bQ];simp)) (aD (aH rfl rfl e2) rfl)) (by rw [bQ];simp)) rfl (by rw [List.length_map,bQ];lia) rfl) ?_;rw [<-i4,List.map_append];rfl
theorem aEq {a:FE} {l h:List D->Res (Option Int)} {ρ:List D} {x:D} {i j:Option Int} {d:D} (h1:a ρ=.ok x) (h2:l ρ=.ok i) (h3:h ρ=.ok j) (h4:R8 x i j=.ok d):R9 a l h ρ=.ok d:=by
 unfold R9;rw [h1,Res.aM,h2,Res.aM,h3,Res.aM,h4]
theorem Q_ {a:FE} {ρ:List D} {i:Int} (h1:a ρ=.ok (.int i)):p_ a ρ=.ok (some i):=by
 unfold p_;rw [h1,Res.aM];rfl
theorem aCv (o:e_) (a b:Int) (r:Int->Int->Prop) [∀x y,Decidable (r x y)] (h:∀x y,cM o (.int x) (.int y)=some (decide (r x y))):dC o [.lst [.int a,.int b]]=.ok (.int (if r b a then b else a)):=by
 show lM o [.int a,.int b]=_;have hall:([D.int a,D.int b].all fun x=>x.bK aP&&[D.int a,D.int b].all fun y=>(cM o x y).isSome)=true:=by
  simp only [List.all_cons,List.all_nil,h,Option.isSome_some,Bool.and_true];rfl
 rw [lM,if_pos hall];simp only [List.foldl_cons,List.foldl_nil,h,Option.getD_some];by_cases hr:r b a
 ·simp [hr]
 ·simp [hr]
theorem aCw {bare seed:Int} {L:List Pt} {S:List Int} (hS:S.Nodup) (hb:S.length<=10000):∀(n k:Nat) (T:List Tie) (x4 x6:D),L.length+2*(k+n)=S.length->T.length+n<=10000->∃(T':List Tie) (y4 y6:D),(ends T').Perm (ends T++(S.drop (L.length+2*k)).map rim)/\(∀t∈T',t∈T\/ltP t.1 t.2)/\T'.length=T.length+n/\
  lY (tg1 5) rb3 ((List.range' k n).map fun (j:Nat)=>D.int (0+(j:Int))) [.lst (L.map enP),.int bare,.int seed,.lst (S.map D.int),.lst (T.map cF),x4,x6]=.ok (.nx [.lst (L.map enP),.int bare,.int seed,.lst (S.map D.int),.lst (T'.map cF),y4,y6])
 | 0,k,T,x4,x6,h1,_=>⟨T,x4,x6,by rw [List.drop_of_length_le (by lia)];simp,fun t ht=>.inl ht,rfl,rfl⟩
 | n+1,k,T,x4,x6,h1,h3=>by
  have hi:L.length+2*k<S.length:=by lia
  have hi2:L.length+2*k+1<S.length:=by lia
  have hd:S.drop (L.length+2*k)=S[L.length+2*k]::S[L.length+2*k+1]::S.drop (L.length+2*(k+1)):=by
   rw [List.drop_eq_getElem_cons hi,List.drop_eq_getElem_cons hi2];rfl
  generalize ha:S[L.length+2*k]=a at hd;generalize hb':S[L.length+2*k+1]=b at hd;have hab:a≠b:=by
   have:=(List.drop_sublist (L.length+2*k) S).nodup hS;rw [hd,List.nodup_cons] at this;intro z;subst z;exact this.1 (List.mem_cons_self ..)
  have lL:fK [.lst (L.map enP)]=.ok (.int L.length):=by rw [mZ,List.length_map]
  generalize hkk:(0+(k:Int))=kk;have m2:=zV 2 kk (j9 _ (by lia) (by lia));have a1:=fC L.length (2*kk);have a2:=fC (L.length+2*kk) 2;have sl:R8 (.lst (S.map D.int)) (some (L.length+2*kk)) (some (L.length+2*kk+2))=.ok (.lst [.int a,.int b]):=by
   simp only [R8,fM,if_true]
   congr 2
   have e1:CK (S.map D.int).length 0 (some ((L.length:Int)+2*kk))=L.length+2*k:=by
    simp only [CK,List.length_map];rw [if_neg (by lia)];lia
   have e2:CK (S.map D.int).length (S.map D.int).length (some ((L.length:Int)+2*kk+2))=L.length+2*k+2:=by
    simp only [CK,List.length_map];rw [if_neg (by lia)];lia
   unfold cutD;rw [e1,e2,<-List.map_drop,hd,show L.length+2*k+2-(L.length+2*k)=2 by lia];rfl
  have mn:=aCv .lt a b (fun x y=>x<y) fun x y=>rfl
  have mx:=aCv .gt a b (fun x y=>y<x) fun x y=>rfl
  have main:∃u v:Int,(u=a/\v=b\/u=b/\v=a)/\u<v/\dC .lt [.lst [.int a,.int b]]=.ok (.int u)/\dC .gt [.lst [.int a,.int b]]=.ok (.int v):=by
   by_cases hlt:b<a
   ·rw [if_pos hlt] at mn;rw [if_neg (by lia)] at mx;exact ⟨b,a,.inr ⟨rfl,rfl⟩,hlt,mn,mx⟩
   ·rw [if_neg hlt] at mn;rw [if_pos (by lia)] at mx;exact ⟨a,b,.inl ⟨rfl,rfl⟩,by lia,mn,mx⟩
  obtain ⟨u,v,huv,hlt,mn,mx⟩:=main;obtain ⟨T',y4,y6,i1,i2,i3,i4⟩:=aCw (bare:=bare) (seed:=seed) (L:=L) hS hb n (k+1) (T++[(rim u,rim v)]) (.int kk) (.lst [.int a,.int b]) (by lia) (by simp;lia);refine ⟨T',y4,y6,?_,fun t ht=>?_,by rw [i3];simp;lia,?_⟩
  ·refine i1.trans ?_;rw [rK,List.append_assoc];refine List.Perm.append_left _ ?_;rw [hd];rcases huv with ⟨rfl,rfl⟩|⟨rfl,rfl⟩
   ·exact List.Perm.refl _
   ·exact List.Perm.swap ..
  ·rcases i2 t ht with h|h
   ·rcases List.mem_append.mp h with h|h
    ·exact .inl h
    ·have:t=(rim u,rim v):=by simpa using h
     subst this;exact .inr (.inr ⟨rfl,hlt⟩)
   ·exact .inr h
  ·rw [List.range'_succ,List.map_cons,hkk];refine h_ (ρ1:=[.lst (L.map enP),.int bare,.int seed,.lst (S.map D.int),.lst (T.map cF),.int kk,x6]) rfl (aK (ρ':=[.lst (L.map enP),.int bare,.int seed,.lst (S.map D.int),.lst (T.map cF),.int kk,.lst [.int a,.int b]]) (bT (aEq rfl (Q_ (aH (aV (aD rfl rfl) lL) (aH rfl rfl m2) a1)) (Q_ (aH (aH (aV (aD rfl rfl) lL) (aH rfl rfl m2) a1) rfl a2)) sl)) (qR (xs:=T.map cF) (lC (aD (lC (aD rfl (aD (aV (aD rfl rfl) mn) rfl)) (by rw [bQ];simp)) (aD (lC (aD rfl (aD (aV (aD rfl rfl) mx) rfl)) (by rw [bQ];simp)) rfl)) (by rw [bQ];simp)) rfl (by rw [List.length_map,bQ];lia) rfl)) ?_;rw [<-i4,List.map_append];rfl
theorem RB (L:List Pt) (bare:Nat) (seed:Int) (hL:∀p∈L,0<p.1) (hl:L.length+2*bare<=5000):∃(R:List Tie) (S:List Int),S.Nodup/\(∀s∈S,0<=s/\s<S.length)/\(ends R).Perm (L++S.map rim)/\(∀t∈R,ltP t.1 t.2)/\R.length=L.length+bare/\cQ [.lst (L.map enP),.int bare,.int seed]=.ok (.lst (R.map cF)):=by
 have lL:fK [.lst (L.map enP)]=.ok (.int L.length):=by rw [mZ,List.length_map]
 have m2:=zV 2 (bare:Int) (j9 _ (by lia) (by lia));have a1:=fC L.length (2*(bare:Int));have hr:GC [.int (L.length+2*(bare:Int))]=.ok (.lst (((List.range (L.length+2*bare)).map fun (k:Nat)=>(k:Int)).map D.int)):=by
  show (if decide (-1000000<=(L.length:Int)+2*(bare:Int))&&decide ((L.length:Int)+2*(bare:Int)<=1000000) then Res.ok (D.lst ((List.range ((L.length:Int)+2*(bare:Int)).toNat).map fun (k:Nat)=>D.int k)) else .bad)=_;rw [if_pos (by rw [decide_eq_true (by lia),decide_eq_true (by lia)];rfl),show ((L.length:Int)+2*(bare:Int)).toNat=L.length+2*bare by lia,List.map_map];rfl
 obtain ⟨ys,p0,s4⟩:=Q9 (xs:=((List.range (L.length+2*bare)).map fun (k:Nat)=>(k:Int)).map D.int) seed (fun x hx=>by
  obtain ⟨a,_,rfl⟩:=List.mem_map.mp hx;rfl) (by simp;lia)
 obtain ⟨S,pS,rfl⟩:=GR D.int unI (fun _=>rfl) p0;have s1:S.length=L.length+2*bare:=by rw [pS.length_eq];simp
 have s2:∀s∈S,0<=s/\s<S.length:=fun s hs=>by
  obtain ⟨k,hk,rfl⟩:=List.mem_map.mp (pS.mem_iff.mp hs);have:=List.mem_range.mp hk;lia
 have s3:S.Nodup:=pS.nodup_iff.mpr (List.Pairwise.map _ (fun a b hab z=>hab (by lia)) List.nodup_range);obtain ⟨T1,z4,t1,t2,t3,t4⟩:=aCu (bare:=bare) (seed:=seed) (a6:=.uD) (L:=L) (S:=S) hL L.length 0 [] .uD (by lia) (by lia) (by simp;lia);obtain ⟨T2,w4,w6,u1,u2,u3,u4⟩:=aCw (bare:=bare) (seed:=seed) (L:=L) (S:=S) s3 (by lia) bare 0 T1 z4 .uD (by lia) (by rw [t3];simp;lia);refine ⟨T2,S,s3,s2,?_,fun t ht=>?_,by rw [u3,t3];simp,?_⟩
 ·refine u1.trans ?_;have t1':(ends T1).Perm (L++(S.take L.length).map rim):=by simpa [ends] using t1
  refine (t1'.append_right _).trans ?_;rw [List.append_assoc,<-List.map_append];simp only [Nat.mul_zero,Nat.add_zero];rw [List.take_append_drop]
 ·rcases u2 t ht with h|h
  ·rcases t2 t h with h|h
   ·cases h
   ·exact h
  ·exact h
 ·have e:iQ [.lst (L.map enP),.int bare,.int seed,.uD,.uD,.uD,.uD]=.ok (.rt (.lst (T2.map cF))):=by
   refine aK (ρ':=[.lst (L.map enP),.int bare,.int seed,.lst (S.map D.int),.uD,.uD,.uD]) (bT (i:=3) (aV (xs:=[.lst (((List.range (L.length+2*bare)).map fun (k:Nat)=>(k:Int)).map D.int),.int seed]) (aD (aV (xs:=[.int (L.length+2*(bare:Int))]) (aD (aH (aV (aD rfl rfl) lL) (aH rfl rfl m2) a1) rfl) hr) (aD rfl rfl)) s4)) ?_;refine aK (ρ':=[.lst (L.map enP),.int bare,.int seed,.lst (S.map D.int),.lst [],.uD,.uD]) (eY rfl rfl) ?_;refine aK (ρ':=[.lst (L.map enP),.int bare,.int seed,.lst (S.map D.int),.lst (T1.map cF),z4,.uD]) (qP (qQ (n:=L.length) (aD (aV (aD rfl rfl) lL) rfl) (by lia) (by lia)) ?_) ?_
   ·rw [<-t4,show ((L.length:Int)).toNat=L.length by lia,List.range_eq_range'];rfl
   refine aK (ρ':=[.lst (L.map enP),.int bare,.int seed,.lst (S.map D.int),.lst (T2.map cF),w4,w6]) (qP (qQ (n:=bare) (aD rfl rfl) (by lia) (by lia)) ?_) ?_
   ·rw [<-u4,show ((bare:Int)).toNat=bare by lia,List.range_eq_range'];rfl
   rfl
  show (do let r <- iQ _;zE r)=_;rw [show ([D.lst (L.map enP),D.int bare,D.int seed]++List.replicate (7-3) D.uD)=[.lst (L.map enP),.int bare,.int seed,.uD,.uD,.uD,.uD] from rfl,e];rfl
end Lk11
end
section
namespace Lk11
open PySem L2 Mi
noncomputable def gbr:FS:=(sIf (zG (bTB (b2 (bR (.ord .lt)) (b2 (aU .mod) gY uG) aAo)) (bTB (b2 (bR (.ord .lt)) (aX fK (aF nM bG)) YX))) (bO (b8 false 7 (b2 (aU .add) (b2 (aU .add) rQ fP) (b2 (aU .mod) (b2 (aU .fdiv) jJ (aX fK (aF fJ bG))) (b2 (aU .pow) M4 aE7))) true) (bO (uI 4 (oJ (aF rQ (aF (b2 getD fJ (b2 (aU .mod) jJ (aX fK (aF fJ bG)))) bG)))) (b8 false 5 (b2 (aU .add) gB (gM 13 (mO (aF (b2 (aU .add) (b2 getD cP (b2 getD fJ (b2 (aU .mod) jJ (aX fK (aF fJ bG))))) fP) bG) lN) CQ (uH) (oJ (aF rQ (aF gZ bG))) false)) true))) (sIf (zG (bTB (bCh (bR (.ord .le)) (bR (.ord .lt)) aAo (b2 (aU .mod) gY uG) aBo)) (bTB (b2 (bR (.ord .gt)) (aX fK (aF zF bG)) fP))) (bO (uI 6 (aX (fL 2 cO) (aF zF (aF jJ bG)))) (b8 false 5 (gM 13 (dM gB false) CQ (bTB (b2 (bR .notin) gZ (b2 getD v5 (b1 aBr fP)))) gZ false) true)) (sIf (bTB (b2 (bR .eq) (b2 (aU .mod) gY uG) aBo)) (b8 false 8 (b2 (aU .add) rY fP) true) (sIf (bTB (b2 (bR .eq) (b2 (aU .mod) gY uG) aAn)) (b8 false 9 (b2 (aU .add) rR (b2 (aU .mod) jJ (b2 (aU .pow) M4 (bC (.int 50))))) true) (mQ)))))
noncomputable def RC:FS:=(bO (b8 false 11 (b2 (aU .fdiv) gY uG) true) (bO (sAl 12 5) (bO (sIf (bTB (b2 (bR .eq) (b2 (aU .mod) gY uG) aDd)) (b8 false 12 (gM 13 (dM gB false) CQ (bTB (b2 (bR .eq) (b2 getD gZ fP) dF)) gZ false) true) (mQ)) gbr)))
structure Gr (Q:List Pc) (L:List Pt) (T:List Tie) (num:Int):Prop where
 nd:(ends T++L).Nodup
 qn:(Q.map (·.1)).Nodup
 qb:∀pc∈Q,0<pc.1/\pc.1<=num
 n0:0<=num
 chf:∀pc∈Q,(pc.1,(0:Int))∈ends T++L
 num:∀e∈ends T++L,e.1∈Q.map (·.1)
 lt:∀t∈T,ltP t.1 t.2
 ll:L.length<=7*Q.length
 ql:Q.length<=40
 qs:Q.Pairwise fun a b=>a.1<b.1
theorem Gr.perm {Q:List Pc} {L L':List Pt} {T T':List Tie} {num:Int} (g:Gr Q L T num) (p:(ends T'++L').Perm (ends T++L)) (hlt:∀t∈T',ltP t.1 t.2) (hl:L'.length<=L.length):Gr Q L' T' num:=
 ⟨p.nodup_iff.mpr g.nd,g.qn,g.qb,g.n0,fun pc h=>p.mem_iff.mpr (g.chf pc h),fun e h=>g.num e (p.mem_iff.mp h),hlt,Nat.le_trans hl g.ll,g.ql,g.qs⟩
theorem Gr.ln {Q:List Pc} {L:List Pt} {T:List Tie} {num:Int} (g:Gr Q L T num):L.Nodup:=(List.nodup_append.mp g.nd).2.1
theorem Gr.tie {Q:List Pc} {L:List Pt} {T:List Tie} {num:Int} (g:Gr Q L T num) {a b:Pt} (ha:a∈L) (hb:b∈L) (h:ltP a b):Gr Q (L.filter fun x=>!(decide (a=x)||decide (b=x))) (T++[(a,b)]) num:=by
 have hab:a≠b:=fun z=>by subst z;simp only [ltP] at h;lia
 have split:∀{L:List Pt},L.Nodup->a∈L->b∈L->(a::b::L.filter fun x=>!(decide (a=x)||decide (b=x))).Perm L:=by
  intro L hn ha hb;refine (List.perm_iff_count).mpr fun x=>?_
  rw [List.count_cons,List.count_cons];have hc:∀{M:List Pt} (y:Pt),M.Nodup->List.count y M=if y∈M then 1 else 0:=fun {M} y hm=>List.Nodup.count hm
  rw [hc x hn,hc x (List.filter_sublist.nodup hn)];simp only [List.mem_filter,Bool.not_eq_true',Bool.or_eq_false_iff,decide_eq_false_iff_not,beq_iff_eq];by_cases h1:a=x
  ·subst h1;have:¬b=a:=fun z=>hab z.symm
   simp [ha,this]
  ·by_cases h2:b=x
   ·subst h2;simp [hb,h1]
   ·simp [h1,h2]
 refine g.perm ?_ (fun t ht=>?_) (List.length_filter_le ..)
 ·rw [rK,List.append_assoc];exact List.Perm.append_left _ (split g.ln ha hb)
 ·rcases List.mem_append.mp ht with ht|ht
  ·exact g.lt t ht
  ·have:t=(a,b):=by simpa using ht
   subst this;exact h
theorem Gr.piece {Q:List Pc} {L:List Pt} {T:List Tie} {num:Int} (g:Gr Q L T num) {n:Int} {s:Str} {v:Nat} (hn:num<n) (hv:v<=6) (hq:Q.length<40):Gr (Q++[(n,s)]) (L++(List.range (v+1)).map fun (h:Nat)=>((n,(h:Int)):Pt)) T n:=by
 have old:∀e∈ends T++L,e.1<=num:=fun e he=>by
  obtain ⟨pc,h1,h2⟩:=List.mem_map.mp (g.num e he);have:=g.qb pc h1;lia
 have newm:∀e∈(List.range (v+1)).map (fun (h:Nat)=>((n,(h:Int)):Pt)),e.1=n:=fun e he=>by
  obtain ⟨h,_,rfl⟩:=List.mem_map.mp he;rfl
 refine ⟨?_,?_,fun pc h=>?_,by have:=g.n0;lia,fun pc h=>?_,fun e he=>?_,g.lt,?_,by simp;lia,List.pairwise_append.mpr ⟨g.qs,by simp,fun a ha b hb=>by have:=g.qb a ha;rw [show b=(n,s) from by simpa using hb];show a.1<n;lia⟩⟩
 ·rw [<-List.append_assoc];refine List.nodup_append.mpr ⟨g.nd,?_,fun a ha b hb z=>?_⟩
  ·refine List.Pairwise.map _ ?_ List.nodup_range;intro a b hab z;have:(a:Int)=b:=congrArg Prod.snd z;lia
  ·subst z;have:=old a ha;rw [newm a hb] at this;lia
 ·rw [List.map_append];refine List.nodup_append.mpr ⟨g.qn,by simp,fun a ha b hb z=>?_⟩;subst z;obtain ⟨pc,h1,h2⟩:=List.mem_map.mp ha;have:=g.qb pc h1;have:a=n:=by simpa using hb
  lia
 ·rcases List.mem_append.mp h with h|h
  ·have:=g.qb pc h;lia
  ·have:pc=(n,s):=by simpa using h
   subst this;have:=g.n0;show 0<n/\n<=n;lia
 ·rw [<-List.append_assoc];rcases List.mem_append.mp h with h|h
  ·exact List.mem_append_left _ (g.chf pc h)
  ·have:pc=(n,s):=by simpa using h
   subst this;exact List.mem_append_right _ (List.mem_map.mpr ⟨0,by simp,rfl⟩)
 ·rw [<-List.append_assoc] at he;rw [List.map_append];rcases List.mem_append.mp he with he|he
  ·exact List.mem_append_left _ (g.num e he)
  ·rw [newm e he];exact List.mem_append_right _ (by simp)
 ·have:=g.ll;simp;lia
end Lk11
end
section
namespace Lk11
open PySem L2 Mi
section
variable {kvs:List (D×D)} {cells:D} {seed:Int} {NS:List Str}
@[reducible] noncomputable def St (kvs:List (D×D)) (cells:D) (seed:Int) (NS:List Str) (Q:List Pc) (L:List Pt) (T:List Tie) (num bare rings:Int) (c m sm:D):List D:=
 [.dct kvs,cells,.int seed,.lst (NS.map D.str),.lst (Q.map pcD),.lst (L.map enP),.lst (T.map cF),.int num,.int bare,.int rings,c,m,sm]
theorem aCx {Q:List Pc} {L:List Pt} {T:List Tie} {num bare rings c:Int} {m sm:D} (hl:L.length<=10000):∃SM:List Pt,SM.Sublist L/\∀r,gbr (St kvs cells seed NS Q L T num bare rings (.int c) (.int (c / 8)) (.lst (SM.map enP)))=r->RC (St kvs cells seed NS Q L T num bare rings (.int c) m sm)=r:=by
 have f8:=fU c 8 (by decide) (by decide);have m8:=fV c 8 (by decide);have ce:bR .eq (.int (c % 8)) (.int 5)=.ok (.bl (c % 8==5)):=rfl;have s1:b8 false 11 (b2 (aU .fdiv) gY uG) true (St kvs cells seed NS Q L T num bare rings (.int c) m sm)=.ok (.nx (St kvs cells seed NS Q L T num bare rings (.int c) (.int (c / 8)) sm)):=bT (aH rfl rfl f8);have s2:sAl 12 5 (St kvs cells seed NS Q L T num bare rings (.int c) (.int (c / 8)) sm)=.ok (.nx (St kvs cells seed NS Q L T num bare rings (.int c) (.int (c / 8)) (.lst (L.map enP)))):=aEg rfl;have tc:bTB (b2 (bR .eq) (b2 (aU .mod) gY uG) aDd) (St kvs cells seed NS Q L T num bare rings (.int c) (.int (c / 8)) (.lst (L.map enP)))=.ok (c % 8==5):=cA (aH (aH rfl rfl m8) rfl ce);unfold RC;cases h:(c % 8==5) with
 | true=>
  rw [h] at tc;refine ⟨L.filter fun x=>x.2==0,List.filter_sublist,fun r hr=>?_⟩;have cf:gM 13 (dM gB false) CQ (bTB (b2 (bR .eq) (b2 getD gZ fP) dF)) gZ false (St kvs cells seed NS Q L T num bare rings (.int c) (.int (c / 8)) (.lst (L.map enP)))=.ok (.lst ((L.filter fun x=>x.2==0).map enP)):=by
   refine qT (m5 rfl rfl) (by rw [List.length_map,bQ];lia) ?_;rw [iB _ enP (fun x=>x.2==0) enP]
   ·rfl
   ·intro acc p;have e1:b2 getD gZ fP (St kvs cells seed NS Q L T num bare rings (.int c) (.int (c / 8)) (.lst (L.map enP))++[enP p])=.ok (.int p.2):=aH (x:=enP p) (y:=.int 1) rfl rfl rfl;have e2:bR .eq (.int p.2) (.int 0)=.ok (.bl (p.2==0)):=rfl;exact m9 (ρ:=St kvs cells seed NS Q L T num bare rings (.int c) (.int (c / 8)) (.lst (L.map enP))) rfl (cA (aH e1 rfl e2)) fun _=>⟨rfl,rfl⟩
  have s3:sIf (bTB (b2 (bR .eq) (b2 (aU .mod) gY uG) aDd)) (b8 false 12 (gM 13 (dM gB false) CQ (bTB (b2 (bR .eq) (b2 getD gZ fP) dF)) gZ false) true) mQ (St kvs cells seed NS Q L T num bare rings (.int c) (.int (c / 8)) (.lst (L.map enP)))=.ok (.nx (St kvs cells seed NS Q L T num bare rings (.int c) (.int (c / 8)) (.lst ((L.filter fun x=>x.2==0).map enP)))):=PX tc (bT cf);exact aK s1 (aK s2 (aK s3 hr))
 | false=>
  rw [h] at tc;refine ⟨L,List.Sublist.refl _,fun r hr=>?_⟩;exact aK s1 (aK s2 (aK (pG tc rfl) hr))
theorem iD (NS:List Str) (i:Int) (h0:0<=i) (h1:i<NS.length):∃s∈NS,getD (.lst (NS.map D.str)) (.int i)=.ok (.str s):=by
 obtain ⟨h,e⟩:=jL (NS.map D.str) i h0 (by simpa using h1);rw [List.length_map] at h;refine ⟨NS[i.toNat],List.getElem_mem _,?_⟩;rw [e];simp
theorem yC {s:Str}:∀{kvs:List (D×D)},eZ kvs->D.str s∈iH kvs->∃v:Nat,v<=6/\bU kvs (.str s)=some (.int v)
 | [],_,hm=>by cases hm
 | p::r,h,hm=>by
  obtain ⟨s',v,rfl,h0,h1⟩:=h _ (List.mem_cons_self ..);rw [bU];by_cases e:eqD (.str s') (.str s)=true
  ·rw [if_pos e];exact ⟨v.toNat,by lia,by congr 2;lia⟩
  ·rw [if_neg e];refine yC (fun p hp=>h p (List.mem_cons_of_mem _ hp)) ?_;rcases List.mem_cons.mp (show D.str s∈D.str s'::iH r from hm) with z|z
   ·cases z;exact absurd (by simp [eqD]) e
   ·exact z
theorem aG6 (Q:List Pc):fK [.lst (Q.map pcD)]=.ok (.int Q.length):=by rw [mZ,List.length_map]
theorem aEr (Q:List Str):fK [.lst (Q.map D.str)]=.ok (.int Q.length):=by rw [mZ,List.length_map]
theorem aG7 (Q:List Pt):fK [.lst (Q.map enP)]=.ok (.int Q.length):=by rw [mZ,List.length_map]
end
end Lk11
end
section
namespace Lk11
open PySem L2 Mi
section
variable {kvs:List (D×D)} {cells:D} {seed:Int} {NS:List Str}
theorem aAb (hst:eZ kvs) (hNS:iH kvs=NS.map D.str) (hne:NS≠[]) (hNl:NS.length<=1000) {Q:List Pc} {L:List Pt} {T:List Tie} {num rings c:Int} {bare:Nat} {m sm:D} (g:Gr Q L T num) (hT:T.length<=1000) (hb:bare<=1000) :
  ∃(Q':List Pc) (L':List Pt) (T':List Tie) (num' rings':Int) (bare':Nat) (m' sm':D),Gr Q' L' T' num'/\T'.length<=T.length+1/\bare'<=bare+1/\RC (St kvs cells seed NS Q L T num bare rings (.int c) m sm)=.ok (.nx (St kvs cells seed NS Q' L' T' num' bare' rings' (.int c) m' sm')):=by
 have hll:=g.ll;have hql:=g.ql;obtain ⟨SM,hSM,pre⟩:=aCx (kvs:=kvs) (cells:=cells) (seed:=seed) (NS:=NS) (Q:=Q) (L:=L) (T:=T) (num:=num) (bare:=bare) (rings:=rings) (c:=c) (m:=m) (sm:=sm) (by lia);have m8:=fV c 8 (by decide);have c4:bR (.ord .lt) (.int (c % 8)) (.int 4)=.ok (.bl (decide (c % 8<4))):=rfl;have c60:bR (.ord .lt) (.int Q.length) (.int 40)=.ok (.bl (decide ((Q.length:Int)<40))):=rfl;have c46:bR (.ord .le) (.int 4) (.int (c % 8))=.ok (.bl (decide (4<=c % 8))):=rfl;have c66:bR (.ord .lt) (.int (c % 8)) (.int 6)=.ok (.bl (decide (c % 8<6))):=rfl;have c1:bR (.ord .gt) (.int SM.length) (.int 1)=.ok (.bl (decide ((1:Int)<SM.length))):=rfl;have e6:bR .eq (.int (c % 8)) (.int 6)=.ok (.bl (c % 8==6)):=rfl;have e7:bR .eq (.int (c % 8)) (.int 7)=.ok (.bl (c % 8==7)):=rfl;have hNp:(0:Int)<(NS.length:Int):=by
  cases NS with
  | nil=>exact absurd rfl hne
  | cons _ _=>simp
 -- the first test
 have t1:∀b,b=(decide (c % 8<4)&&decide ((Q.length:Int)<40))->zG (bTB (b2 (bR (.ord .lt)) (b2 (aU .mod) gY uG) aAo)) (bTB (b2 (bR (.ord .lt)) (aX fK (aF nM bG)) YX)) (St kvs cells seed NS Q L T num bare rings (.int c) (.int (c / 8)) (.lst (SM.map enP)))=.ok b:=by
  rintro b rfl;cases h1:decide (c % 8<4) with
  | true=>rw [h1] at c4;exact P0 (cA (aH (aH rfl rfl m8) rfl c4)) (cA (aH (aV (aD rfl rfl) (aG6 Q)) rfl c60))
  | false=>rw [h1] at c4;exact P_ (cA (aH (aH rfl rfl m8) rfl c4))
 have t2:∀b,b=(decide (4<=c % 8)&&decide (c % 8<6)&&decide ((1:Int)<SM.length))->zG (bTB (bCh (bR (.ord .le)) (bR (.ord .lt)) aAo (b2 (aU .mod) gY uG) aBo)) (bTB (b2 (bR (.ord .gt)) (aX fK (aF zF bG)) fP)) (St kvs cells seed NS Q L T num bare rings (.int c) (.int (c / 8)) (.lst (SM.map enP)))=.ok b:=by
  rintro b rfl;cases h1:decide (4<=c % 8) with
  | false=>rw [h1] at c46;exact P_ (cA (aG1 rfl (aH rfl rfl m8) c46))
  | true=>
   rw [h1] at c46;cases h2:decide (c % 8<6) with
   | false=>rw [h2] at c66;exact P_ (cA (aF7 rfl (aH rfl rfl m8) c46 rfl c66))
   | true=>rw [h2] at c66;exact P0 (cA (aF7 rfl (aH rfl rfl m8) c46 rfl c66)) (cA (aH (aV (aD rfl rfl) (aG7 SM)) rfl c1))
 have fin:∀{r:Res Fl},gbr (St kvs cells seed NS Q L T num bare rings (.int c) (.int (c / 8)) (.lst (SM.map enP)))=r->RC (St kvs cells seed NS Q L T num bare rings (.int c) m sm)=r:=fun {r} h=>pre r h
 cases hA:(decide (c % 8<4)&&decide ((Q.length:Int)<40)) with
 | true=>
  rw [Bool.and_eq_true,decide_eq_true_eq,decide_eq_true_eq] at hA;have T1:=t1 true (by rw [decide_eq_true hA.1,decide_eq_true hA.2];rfl);have gm:=fV (c / 8) NS.length hNp;obtain ⟨s,hs,es⟩:=iD NS (c / 8 % NS.length) (Int.emod_nonneg _ (by lia)) (Int.emod_lt_of_pos _ hNp);obtain ⟨v,hv,ev⟩:=yC (s:=s) hst (by rw [hNS];exact List.mem_map.mpr ⟨s,hs,rfl⟩);have gs:getD (.dct kvs) (.str s)=.ok (.int v):=by
   show (if keyOk (.str s) then Res.ofOpt (bU kvs (.str s)) else .bad)=_;rw [ev];rfl
  have f1:=fU (c / 8) NS.length hNp (by lia);obtain ⟨pw,hp,f2⟩:∃pw:Int,0<pw/\aU .pow (.int 10) (.int 9)=.ok (.int pw):=⟨10 ^ 9,by decide,W_ 9 (by decide)⟩
  have f3:=fV (c / 8 / NS.length) pw hp;have f4:=fC num 1;have f5:=fC (num+1) (c / 8 / NS.length % pw);have h9:0<=c / 8 / NS.length % pw:=Int.emod_nonneg _ (by lia);generalize hn:num+1+c / 8 / NS.length % pw=n at f5;have G:=g.piece (n:=n) (s:=s) (v:=v) (by lia) hv (by lia);refine ⟨_,_,T,n,rings,bare,.int (c / 8),.lst (SM.map enP),G,by lia,by lia,fin ?_⟩;have s1:b8 false 7 (b2 (aU .add) (b2 (aU .add) rQ fP) (b2 (aU .mod) (b2 (aU .fdiv) jJ (aX fK (aF fJ bG))) (b2 (aU .pow) M4 aE7))) true (St kvs cells seed NS Q L T num bare rings (.int c) (.int (c / 8)) (.lst (SM.map enP)))=.ok (.nx (St kvs cells seed NS Q L T n bare rings (.int c) (.int (c / 8)) (.lst (SM.map enP)))):=
   bT (aH (aH rfl rfl f4) (aH (aH rfl (aV (aD rfl rfl) (aEr NS)) f1) (aH rfl rfl f2) f3) f5)
  have s2:uI 4 (oJ (aF rQ (aF (b2 getD fJ (b2 (aU .mod) jJ (aX fK (aF fJ bG)))) bG))) (St kvs cells seed NS Q L T n bare rings (.int c) (.int (c / 8)) (.lst (SM.map enP)))=.ok (.nx (St kvs cells seed NS (Q++[(n,s)]) L T n bare rings (.int c) (.int (c / 8)) (.lst (SM.map enP)))):=by
   have d0:oJ (aF rQ (aF (b2 getD fJ (b2 (aU .mod) jJ (aX fK (aF fJ bG)))) bG)) (St kvs cells seed NS Q L T n bare rings (.int c) (.int (c / 8)) (.lst (SM.map enP)))=.ok (.tup [.int n,.str s]):=lC (aD rfl (aD (aH rfl (aH rfl (aV (aD rfl rfl) (aEr NS)) gm) es) rfl)) (by rw [bQ];simp);refine (qR (i:=4) (ρ:=St kvs cells seed NS Q L T n bare rings (.int c) (.int (c / 8)) (.lst (SM.map enP))) (xs:=Q.map pcD) (d:=.tup [.int n,.str s]) d0 rfl (by rw [List.length_map,bQ];lia) rfl).trans ?_;show _=Res.ok (Fl.nx [.dct kvs,cells,.int seed,.lst (NS.map D.str),.lst ((Q++[(n,s)]).map pcD),.lst (L.map enP),.lst (T.map cF),.int n,.int bare,.int rings,.int c,.int (c / 8),.lst (SM.map enP)]);rw [List.map_append];rfl
  have cf:gM 13 (mO (aF (b2 (aU .add) (b2 getD cP (b2 getD fJ (b2 (aU .mod) jJ (aX fK (aF fJ bG))))) fP) bG) lN) CQ (uH) (oJ (aF rQ (aF gZ bG))) false (St kvs cells seed NS (Q++[(n,s)]) L T n bare rings (.int c) (.int (c / 8)) (.lst (SM.map enP)))=.ok (.lst (((List.range (v+1)).map fun (h:Nat)=>((n,(h:Int)):Pt)).map enP)):=by
   refine qT (qQ (n:=(v:Int)+1) (aD (aH (aH rfl (aH rfl (aH rfl (aV (aD rfl rfl) (aEr NS)) gm) es) gs) rfl (fC v 1)) rfl) (by lia) (by lia)) (by rw [List.length_map,List.length_range,bQ];lia) ?_;rw [iB _ (fun (k:Nat)=>D.int (0+(k:Int))) (fun _=>true) (fun (k:Nat)=>enP (n,(k:Int)))]
   ·rw [show ((v:Int)+1).toNat=v+1 by lia];rw [List.filter_eq_self.mpr (fun _ _=>rfl),List.map_map,List.nil_append];rfl
   ·intro acc k;refine m9 (ρ:=St kvs cells seed NS (Q++[(n,s)]) L T n bare rings (.int c) (.int (c / 8)) (.lst (SM.map enP))) (b:=true) rfl rfl fun _=>⟨?_,rfl⟩
    have d1:oJ (aF rQ (aF gZ bG)) (St kvs cells seed NS (Q++[(n,s)]) L T n bare rings (.int c) (.int (c / 8)) (.lst (SM.map enP))++[D.int (0+(k:Int))])=.ok (.tup [.int n,.int (0+(k:Int))]):=lC (aD rfl (aD rfl rfl)) (by rw [bQ];simp);refine d1.trans ?_;rw [Int.zero_add];rfl
  have s3:b8 false 5 (b2 (aU .add) gB (gM 13 (mO (aF (b2 (aU .add) (b2 getD cP (b2 getD fJ (b2 (aU .mod) jJ (aX fK (aF fJ bG))))) fP) bG) lN) CQ (uH) (oJ (aF rQ (aF gZ bG))) false)) true (St kvs cells seed NS (Q++[(n,s)]) L T n bare rings (.int c) (.int (c / 8)) (.lst (SM.map enP)))=.ok (.nx (St kvs cells seed NS (Q++[(n,s)]) (L++(List.range (v+1)).map fun (h:Nat)=>((n,(h:Int)):Pt)) T n bare rings (.int c) (.int (c / 8)) (.lst (SM.map enP)))):=by
   refine (bT (aH rfl cf (u_ (L.map enP) _ (by simp only [List.length_map,List.length_range,bQ];lia) (rJ _) (rJ _)))).trans ?_;rw [<-List.map_append];rfl
  exact PX T1 (aK s1 (aK s2 s3))
 | false=>
  have T1:=t1 false hA.symm;cases hB:(decide (4<=c % 8)&&decide (c % 8<6)&&decide ((1:Int)<SM.length)) with
  | true=>
   have T2:=t2 true hB.symm;rw [Bool.and_eq_true,decide_eq_true_eq] at hB;obtain ⟨a,b,ha,hb',hlt,et⟩:=aAa SM (c / 8) (hSM.nodup g.ln) (by lia) (by have:=hSM.length_le;lia);have G:=g.tie (hSM.mem ha) (hSM.mem hb') hlt;refine ⟨Q,_,T++[(a,b)],num,rings,bare,.int (c / 8),.lst (SM.map enP),G,by simp,by lia,fin (pG T1 (PX T2 ?_))⟩;have s1:uI 6 (aX (fL 2 cO) (aF zF (aF jJ bG))) (St kvs cells seed NS Q L T num bare rings (.int c) (.int (c / 8)) (.lst (SM.map enP)))=.ok (.nx (St kvs cells seed NS Q L (T++[(a,b)]) num bare rings (.int c) (.int (c / 8)) (.lst (SM.map enP)))):=by
    have d0:aX (fL 2 cO) (aF zF (aF jJ bG)) (St kvs cells seed NS Q L T num bare rings (.int c) (.int (c / 8)) (.lst (SM.map enP)))=.ok (cF (a,b)):=aV (aD rfl (aD rfl rfl)) ((d9 rfl).trans et);refine (qR (i:=6) (ρ:=St kvs cells seed NS Q L T num bare rings (.int c) (.int (c / 8)) (.lst (SM.map enP))) (xs:=T.map cF) (d:=cF (a,b)) d0 rfl (by rw [List.length_map,bQ];lia) rfl).trans ?_;show _=Res.ok (Fl.nx [.dct kvs,cells,.int seed,.lst (NS.map D.str),.lst (Q.map pcD),.lst (L.map enP),.lst ((T++[(a,b)]).map cF),.int num,.int bare,.int rings,.int c,.int (c / 8),.lst (SM.map enP)]);rw [List.map_append];rfl
   have gl:getD (.lst ((T++[(a,b)]).map cF)) (.int (-1))=.ok (cF (a,b)):=by
    show Res.ofOpt ((ixD ((T++[(a,b)]).map cF).length (-1)).bind fun j=>((T++[(a,b)]).map cF)[j]?)=_;have:ixD ((T++[(a,b)]).map cF).length (-1)=some T.length:=by
     unfold ixD;rw [if_neg (by decide),if_pos (by simp only [List.length_map,List.length_append,List.length_cons,List.length_nil];lia)]
     congr 1
     simp only [List.length_map,List.length_append,List.length_cons,List.length_nil];lia
    rw [this];simp
   have cf:gM 13 (dM gB false) CQ (bTB (b2 (bR .notin) gZ (b2 getD v5 (b1 aBr fP)))) gZ false (St kvs cells seed NS Q L (T++[(a,b)]) num bare rings (.int c) (.int (c / 8)) (.lst (SM.map enP)))=.ok (.lst ((L.filter fun x=>!(decide (a=x)||decide (b=x))).map enP)):=by
    refine qT (m5 rfl rfl) (by rw [List.length_map,bQ];lia) ?_;rw [iB _ enP (fun x=>!(decide (a=x)||decide (b=x))) enP]
    ·rfl
    ·intro acc p;have cn:bR .notin (enP p) (cF (a,b))=.ok (.bl (!(decide (a=p)||decide (b=p)))):=by
      show (if (enP p).bK aP&&D.eE aP [enP a,enP b] then Res.ok (D.bl (!([enP a,enP b].any fun y=>eqD y (enP p)))) else .bad)=_;rw [if_pos (show (D.bK aP (enP p)&&D.eE aP [enP a,enP b])=true from rfl)];simp only [List.any_cons,List.any_nil,Q6,Bool.or_false]
     exact m9 (ρ:=St kvs cells seed NS Q L (T++[(a,b)]) num bare rings (.int c) (.int (c / 8)) (.lst (SM.map enP))) rfl (cA (aH (x:=enP p) rfl (aH rfl (y:=.int (-1)) rfl gl) cn)) fun _=>⟨rfl,rfl⟩
   exact aK s1 (bT cf)
  | false=>
   have T2:=t2 false hB.symm;cases h6:(c % 8==6) with
   | true=>
    rw [h6] at e6;refine ⟨Q,L,T,num,rings,bare+1,.int (c / 8),.lst (SM.map enP),g,by lia,by lia,fin (pG T1 (pG T2 (PX (cA (aH (aH rfl rfl m8) rfl e6)) ?_)))⟩;exact bT (aH rfl rfl (fC bare 1))
   | false=>
    rw [h6] at e6;cases h7:(c % 8==7) with
    | true=>
     rw [h7] at e7;have f2:aU .pow (.int 10) (.int 50)=.ok (.int (10 ^ 50)):=W_ 50 (by decide);have f3:=fV (c / 8) (10 ^ 50) (by decide);refine ⟨Q,L,T,num,rings+c / 8 % 10 ^ 50,bare,.int (c / 8),.lst (SM.map enP),g,by lia,by lia,fin (pG T1 (pG T2 (pG (cA (aH (aH rfl rfl m8) rfl e6)) (PX (cA (aH (aH rfl rfl m8) rfl e7)) ?_))))⟩;exact bT (aH rfl (aH rfl (aH rfl rfl f2) f3) (fC rings _))
    | false=>
     rw [h7] at e7;exact ⟨Q,L,T,num,rings,bare,.int (c / 8),.lst (SM.map enP),g,by lia,by lia,fin (pG T1 (pG T2 (pG (cA (aH (aH rfl rfl m8) rfl e6)) (pG (cA (aH (aH rfl rfl m8) rfl e7)) rfl))))⟩
end
end Lk11
end
section
namespace Lk11
open PySem L2 Mi
section
variable {kvs:List (D×D)} {cells:D} {seed:Int} {NS:List Str}
theorem yD (hst:eZ kvs) (hNS:iH kvs=NS.map D.str) (hne:NS≠[]) (hNl:NS.length<=1000):∀(cs:List Int) {Q:List Pc} {L:List Pt} {T:List Tie} {num rings:Int} {bare:Nat} {x m sm:D},Gr Q L T num->T.length+cs.length<=1000->bare+cs.length<=1000->
  ∃(Q':List Pc) (L':List Pt) (T':List Tie) (num' rings':Int) (bare':Nat) (x' m' sm':D),Gr Q' L' T' num'/\T'.length<=T.length+cs.length/\bare'<=bare+cs.length/\lY (tg1 10) RC (cs.map D.int) (St kvs cells seed NS Q L T num bare rings x m sm)=.ok (.nx (St kvs cells seed NS Q' L' T' num' bare' rings' x' m' sm'))
 | [],Q,L,T,num,rings,bare,x,m,sm,g,_,_=>⟨Q,L,T,num,rings,bare,x,m,sm,g,by simp,by simp,rfl⟩
 | c::cs,Q,L,T,num,rings,bare,x,m,sm,g,h1,h2=>by
  rw [List.length_cons] at h1 h2;obtain ⟨Q1,L1,T1,n1,r1,b1,m1,s1,g1,i1,i2,e1⟩:=aAb (cells:=cells) (seed:=seed) (rings:=rings) (c:=c) (m:=m) (sm:=sm) hst hNS hne hNl g (bare:=bare) (by lia) (by lia);obtain ⟨Q2,L2,T2,n2,r2,b2,x2,m2,s2,g2,j1,j2,e2⟩:=yD hst hNS hne hNl cs (rings:=r1) (bare:=b1) (x:=.int c) (m:=m1) (sm:=s1) g1 (by lia) (by lia);refine ⟨Q2,L2,T2,n2,r2,b2,x2,m2,s2,g2,by simp only [List.length_cons];lia,by simp only [List.length_cons];lia,?_⟩;exact h_ (ρ1:=St kvs cells seed NS Q L T num bare rings (.int c) m sm) rfl e1 e2
end
theorem gr0:Gr [] [] [] 0:=⟨by simp [ends],by simp,by simp,by lia,by simp,by simp [ends],by simp,by simp,by simp,by simp⟩
end Lk11
end
section
namespace Lk11
open PySem L2 Mi
noncomputable def V2:D->Tie
 | .tup [.tup [.int a,.int b],.tup [.int c,.int d]]=>((a,b),(c,d))
 | _=>((0,0),(0,0))
theorem RD (t:Tie):V2 (cF t)=t:=rfl
def vP (U:List Tie):List Tie:=(jB (U.map cF)).map V2
theorem tU (U:List Tie):(vP U).Perm U:=by
 have h:=(d8 (U.map cF)).map V2;rw [List.map_map] at h;have e:U.map (V2 ∘ cF)=U:=by
  conv=>rhs;rw [<-List.map_id U]
  exact List.map_congr_left fun t _=>RD t
 rw [e] at h;exact h
theorem aAc (U:List Tie):(vP U).map cF=jB (U.map cF):=by
 unfold vP;rw [List.map_map]
 conv=>rhs;rw [<-List.map_id (jB (U.map cF))]
 refine List.map_congr_left fun d hd=>?_
 obtain ⟨t,_,rfl⟩:=List.mem_map.mp ((d8 (U.map cF)).mem_iff.mp hd);rfl
theorem aAd (s t:Tie):∃k,cM .lt (cF s) (cF t)=some k:=by
 have e:cM .lt (cF s) (cF t)=(if eqD (enP s.1) (enP t.1) then (if eqD (enP s.2) (enP t.2) then some (e_.lt.nat 0 0) else cM .lt (enP s.2) (enP t.2)) else cM .lt (enP s.1) (enP t.1)):=rfl;rw [e,GQ,GQ];split
 ·split
  ·exact ⟨_,rfl⟩
  ·exact ⟨_,rfl⟩
 ·exact ⟨_,rfl⟩
theorem rM (U:List Tie):bL (U.map cF)=true:=by
 unfold bL;refine List.all_eq_true.mpr fun d hd=>?_
 obtain ⟨t,ht,rfl⟩:=List.mem_map.mp hd;have hk:dJ ((U.map cF).headD .non)=5:=by
  cases U with
  | nil=>cases ht
  | cons u U=>rfl
 have h5:dJ (cF t)=5:=rfl;have hp:(cF t).plain=true:=rfl;have hq:(cF t).bK aP=true:=rfl;rw [hk,h5,hp,hq];refine List.all_eq_true.mpr fun b hb=>?_
 obtain ⟨u,_,rfl⟩:=List.mem_map.mp hb;obtain ⟨k,e⟩:=aAd t u;rw [e];rfl
theorem V3 (U:List Tie):gK [.lst (U.map cF)]=.ok (.lst ((vP U).map cF)):=by
 show (if bL (U.map cF) then Res.ok (D.lst (jB (U.map cF))) else .bad)=_;rw [rM,if_pos rfl,aAc]
theorem iC (T:List Tie):D.aW (T.map cF)=true:=nG T
theorem V4 (Q:List Pc) (V:List Tie) (r:Int):(fD Q V r).pure=true:=by
 show ((D.tup (Q.map pcD)).pure&&((D.tup (V.map cF)).pure&&(true&&true)))=true;rw [pH,nG];rfl
theorem rN:∀{kvs:List (D×D)},eZ kvs->∃NS:List Str,iH kvs=NS.map D.str
 | [],_=>⟨[],rfl⟩
 | p::kvs,h=>by
  obtain ⟨s,v,e,_⟩:=h p (List.mem_cons_self ..);obtain ⟨NS,ih⟩:=rN (kvs:=kvs) fun q hq=>h q (List.mem_cons_of_mem _ hq)
  refine ⟨s::NS,?_⟩;subst e;show D.str s::iH kvs=_;rw [ih];rfl
theorem JS {kvs:List (D×D)} (h:eZ kvs):T4 [.dct kvs]=.ok (.lst (iH kvs)):=by
 have e:kvs.all (fun p=>!isTup p.1)=true:=List.all_eq_true.mpr fun p hp=>by
  obtain ⟨s,v,rfl,_⟩:=h p hp;rfl
 show (if kvs.all (fun p=>!isTup p.1) then Res.ok (D.lst (iH kvs)) else .bad)=_;rw [e,if_pos rfl]
def cellAt (ns:List Int) (k:Nat):Int:=ns.getD k 0
theorem cell_eq (ns:List Int) (k:Nat):fL 2 b7 [.scr (ns.map D.int),.int k]=.ok (.int (cellAt ns k)):=by
 refine (d9 rfl).trans ?_;have hl:fK [.scr (ns.map D.int)]=.ok (.int ns.length):=by
  show Res.ok (D.int ((ns.map D.int).length:Int))=_;rw [List.length_map]
 have hc:bR (.ord .lt) (.int k) (.int ns.length)=.ok (.bl (decide ((k:Int)<ns.length))):=rfl;show (do let r <- c7 [.scr (ns.map D.int),.int k];zE r)=_;by_cases h:k<ns.length
 ·have hg:getD (.scr (ns.map D.int)) (.int k)=.ok (.int (cellAt ns k)):=by
   show Res.ofOpt ((ixD (ns.map D.int).length k).bind fun j=>(ns.map D.int)[j]?)=_;have:ixD (ns.map D.int).length k=some k:=by
    unfold ixD;rw [if_pos (by lia),if_pos (by rw [List.length_map];lia)];rfl
   rw [this];show Res.ofOpt ((ns.map D.int)[k]?)=_;rw [List.getElem?_map,List.getElem?_eq_getElem h];show Res.ok (D.int ns[k])=_;rw [cellAt,List.getD_eq_getElem?_getD,List.getElem?_eq_getElem h];rfl
  have e:c7 [.scr (ns.map D.int),.int k]=.ok (.rt (.int (cellAt ns k))):=by
   have ht:(bTB (b2 (bR (.ord .lt)) jH (aX fK (aF cP bG)))) [.scr (ns.map D.int),.int k]=.ok true:=by
    refine cA (aH rfl (aV (aD rfl rfl) hl) (hc.trans ?_));rw [decide_eq_true (by lia)]
   unfold c7 bO;rw [PX (r:=.ok (.rt (.int (cellAt ns k)))) ht (oN (aH rfl rfl hg) rfl)];rfl
  rw [e];rfl
 ·have e:c7 [.scr (ns.map D.int),.int k]=.ok (.rt (.int (cellAt ns k))):=by
   refine aK (pG (r:=.ok (.nx [.scr (ns.map D.int),.int k])) (cA (aH rfl (aV (aD rfl rfl) hl) (hc.trans ?_))) rfl) (oN (d:=.int (cellAt ns k)) ?_ rfl)
   ·rw [decide_eq_false (by lia)]
   ·rw [cellAt,List.getD_eq_getElem?_getD,List.getElem?_eq_none (by lia)];rfl
  rw [e];rfl
noncomputable def OkT (N:List Int) (t:Tie):Prop:=(t.1.1=0/\(t.2.1=0\/t.2.1∈N))\/(t.1.1∈N/\t.2.1∈N)
structure Wf (Q:List Pc) (V:List Tie):Prop where
 qs:(Q.map (·.1)).Pairwise (·<·)
 qp:∀n∈Q.map (·.1),0<n
 ql:(Q.map (·.1)).length<=40
 ok:∀t∈V,OkT (Q.map (·.1)) t
 vl:V.length<=1000
theorem vQ {c:FT} {body:FS} {n:Nat} {ρ ρ':List D} {r:Res Fl} (h1:c ρ=.ok true) (h2:body ρ=.ok (.nx ρ')) (h3:GD c body n ρ'=r):GD c body (n+1) ρ=r:=by
 rw [GD,h1,Res.aM,if_pos rfl,h2];exact h3
theorem oE {c:FT} {body:FS} {n:Nat} {ρ:List D} (h1:c ρ=.ok false):GD c body (n+1) ρ=.ok (.nx ρ):=by
 rw [GD,h1];rfl
def aCy:FT:=(bTB (b2 (bR (.ord .gt)) (aX fK (aF cP bG)) fP))
noncomputable def aEs:FS:=(bO (uI 3 (oJ (aF (aX (dC .lt) (aF (b2 getD cP dF) (aF (b2 getD cP fP) bG))) (aF (aX (dC .gt) (aF (b2 getD cP dF) (aF (b2 getD cP fP) bG))) bG)))) (b8 false 0 (R9 cP (p_ yI) (YZ)) true))
theorem XH {a:FE} {l h:List D->Res (Option Int)} {ρ:List D} {x:D} {i j:Option Int} {d:D} (h1:a ρ=.ok x) (h2:l ρ=.ok i) (h3:h ρ=.ok j) (h4:R8 x i j=.ok d):R9 a l h ρ=.ok d:=by
 unfold R9;rw [h1,Res.aM,h2,Res.aM,h3,Res.aM,h4]
theorem vR (L:List Pt) (b s:D) (T:List Tie) (k:Bool) (h:k=decide (1<L.length)):aCy [.lst (L.map enP),b,s,.lst (T.map cF)]=.ok k:=by
 have lL:fK [.lst (L.map enP)]=.ok (.int L.length):=by rw [mZ,List.length_map]
 have hc:bR (.ord .gt) (.int L.length) (.int 1)=.ok (.bl (decide ((1:Int)<L.length))):=rfl;refine cA (aH (aV (aD rfl rfl) lL) rfl (hc.trans ?_));rw [h]
 congr 2
 exact decide_eq_decide.mpr (by lia)
theorem rO {b s:D}:∀(L:List Pt) (T:List Tie),T.length+L.length<=10000->∃(L':List Pt) (T':List Tie),(∀p∈L',p∈L)/\(∀t∈T',t∈T\/(t.1∈L/\t.2∈L))/\L'.length+T'.length<=L.length+T.length/\
  ∀fuel,L.length<fuel->GD aCy aEs fuel [.lst (L.map enP),b,s,.lst (T.map cF)]=.ok (.nx [.lst (L'.map enP),b,s,.lst (T'.map cF)])
 | [],T,_=>⟨[],T,fun _ h=>h,fun t h=>.inl h,Nat.le_refl _,fun fuel hf=>by
   obtain ⟨f,rfl⟩:∃f,fuel=f+1:=⟨fuel-1,by lia⟩
   exact oE (vR [] b s T false rfl)⟩
 | [a],T,_=>⟨[a],T,fun _ h=>h,fun t h=>.inl h,Nat.le_refl _,fun fuel hf=>by
   obtain ⟨f,rfl⟩:∃f,fuel=f+1:=⟨fuel-1,by lia⟩
   exact oE (vR [a] b s T false rfl)⟩
 | a::c::L,T,hl=>by
  have mn:=V0 .lt a c ltP GQ;have mx:=V0 .gt a c (fun x y=>ltP y x) XF;obtain ⟨u,v,hu,hv,mn,mx⟩:∃u v:Pt,u∈a::c::L/\v∈a::c::L/\dC .lt [enP a,enP c]=.ok (enP u)/\dC .gt [enP a,enP c]=.ok (enP v):=by
   refine ⟨_,_,?_,?_,mn,mx⟩
   ·split <;> simp
   ·split <;> simp
  simp only [List.length_cons] at hl;obtain ⟨L',T',i1,i2,i3,i4⟩:=rO (b:=b) (s:=s) L (T++[(u,v)]) (by simp;lia);refine ⟨L',T',fun p hp=>List.mem_cons_of_mem _ (List.mem_cons_of_mem _ (i1 p hp)),fun t ht=>?_,by simp only [List.length_append,List.length_cons,List.length_nil] at i3 ⊢;lia,fun fuel hf=>?_⟩
  ·rcases i2 t ht with h|⟨h1,h2⟩
   ·rcases List.mem_append.mp h with h|h
    ·exact .inl h
    ·have:t=(u,v):=by simpa using h
     subst this;exact .inr ⟨hu,hv⟩
   ·exact .inr ⟨List.mem_cons_of_mem _ (List.mem_cons_of_mem _ h1),List.mem_cons_of_mem _ (List.mem_cons_of_mem _ h2)⟩
  ·simp only [List.length_cons] at hf;obtain ⟨f,rfl⟩:∃f,fuel=f+1:=⟨fuel-1,by lia⟩
   have e0:getD (.lst ((a::c::L).map enP)) (.int 0)=.ok (enP a):=by
    obtain ⟨h,e⟩:=jL ((a::c::L).map enP) 0 (by lia) (by simp only [List.length_map,List.length_cons];lia);rw [e];rfl
   have e1:getD (.lst ((a::c::L).map enP)) (.int 1)=.ok (enP c):=by
    obtain ⟨h,e⟩:=jL ((a::c::L).map enP) 1 (by lia) (by simp only [List.length_map,List.length_cons];lia);rw [e];rfl
   have sl:R8 (.lst ((a::c::L).map enP)) (some 2) none=.ok (.lst (L.map enP)):=by
    simp only [R8,rJ,if_true]
    congr 2
    have e1:CK ((a::c::L).map enP).length 0 (some 2)=2:=by
     simp only [CK,List.length_map,List.length_cons];rw [if_neg (by lia)];lia
    have e2:CK ((a::c::L).map enP).length ((a::c::L).map enP).length none=L.length+2:=by
     simp only [CK,List.length_map,List.length_cons]
    unfold cutD;rw [e1,e2,show L.length+2-2=(L.map enP).length by simp];exact List.take_length ..
   refine vQ (vR (a::c::L) b s T true (by simp)) (ρ':=[.lst (L.map enP),b,s,.lst ((T++[(u,v)]).map cF)]) ?_ (i4 f (by lia));refine aK (ρ':=[.lst ((a::c::L).map enP),b,s,.lst ((T++[(u,v)]).map cF)]) ?_ (bT (i:=0) (XH rfl rfl rfl sl));refine (qR (i:=3) (ρ:=[.lst ((a::c::L).map enP),b,s,.lst (T.map cF)]) (xs:=T.map cF) (lC (xs:=[enP u,enP v]) (aD (aV (xs:=[enP a,enP c]) (aD (aH rfl rfl e0) (aD (aH rfl rfl e1) rfl)) mn) (aD (aV (xs:=[enP a,enP c]) (aD (aH rfl rfl e0) (aD (aH rfl rfl e1) rfl)) mx) rfl)) (by rw [bQ];simp)) rfl (by rw [List.length_map,bQ];lia) rfl).trans ?_;rw [List.map_append];rfl
theorem aCz {N:List Int} {L:List Pt} (bare:Nat) (seed:Int) (hL:∀p∈L,0<p.1) (hN:∀p∈L,p.1∈N) (hl:L.length+2*bare<=5000):∃R:List Tie,(∀t∈R,OkT N t)/\R.length=L.length+bare/\fL 3 cQ [.lst (L.map enP),.int bare,.int seed]=.ok (.lst (R.map cF)):=by
 obtain ⟨R,S,r1,rb,r2,r3,r4,r5⟩:=RB L bare seed hL hl;refine ⟨R,fun t ht=>?_,r4,(d9 rfl).trans r5⟩;have me:t.1∈ends R/\t.2∈ends R:=by
  simp only [ends,List.mem_flatMap];exact ⟨⟨t,ht,by simp⟩,⟨t,ht,by simp⟩⟩
 have cas:∀e∈ends R,e.1=0\/(0<e.1/\e.1∈N):=fun e he=>by
  rcases List.mem_append.mp (r2.mem_iff.mp he) with h|h
  ·exact .inr ⟨hL e h,hN e h⟩
  ·obtain ⟨s,_,rfl⟩:=List.mem_map.mp h;exact .inl rfl
 have hlt:=r3 t ht;rcases cas _ me.1 with h1|⟨h1,h1'⟩ <;> rcases cas _ me.2 with h2|⟨h2,h2'⟩
 ·exact .inl ⟨h1,.inl h2⟩
 ·exact .inl ⟨h1,.inr h2'⟩
 ·simp only [ltP] at hlt;lia
 ·exact .inr ⟨h1',h2'⟩
noncomputable def unE:D->Pt
 | .tup [.int a,.int b]=>(a,b)
 | _=>(0,0)
theorem RG {N:List Int} (L:List Pt) (bare:Nat) (seed:Int) (hL:∀p∈L,0<p.1) (hN:∀p∈L,p.1∈N) (hl:L.length+2*bare<=900):∃R:List Tie,(∀t∈R,OkT N t)/\R.length<=L.length+bare/\dR [.lst (L.map enP),.int bare,.int seed]=.ok (.lst (R.map cF)):=by
 have m3:=fV seed 3 (by decide);have d3:=fU seed 3 (by decide) (by decide);have hc:bR (.ord .gt) (.int (seed % 3)) (.int 0)=.ok (.bl (decide (0<seed % 3))):=rfl;have rest:∀(L':List Pt) (T:List Tie),(∀p∈L',p∈L)->(∀t∈T,OkT N t)->L'.length+T.length<=L.length->∃R:List Tie,(∀t∈R,OkT N t)/\R.length<=L.length+bare/\(pB (b2 (aU .add) fJ (aX (fL 3 cQ) (aF cP (aF jH (aF kJ bG))))) true) [.lst (L'.map enP),.int bare,.int seed,.lst (T.map cF)]=.ok (.rt (.lst (R.map cF))):=fun L' T h1 h2 h3=>by
  obtain ⟨R,r1,r2,r3⟩:=aCz (L:=L') bare seed (fun p hp=>hL p (h1 p hp)) (fun p hp=>hN p (h1 p hp)) (by lia);refine ⟨T++R,fun t ht=>?_,by rw [List.length_append];lia,?_⟩
  ·rcases List.mem_append.mp ht with h|h
   ·exact h2 t h
   ·exact r1 t h
  ·refine oN (aH rfl (aV (aD rfl (aD rfl (aD rfl rfl))) r3) ?_) rfl;rw [List.map_append];exact u_ _ _ (by rw [List.length_map,List.length_map,bQ];lia) (iC _) (iC _)
 have fin:∃R:List Tie,(∀t∈R,OkT N t)/\R.length<=L.length+bare/\iT [.lst (L.map enP),.int bare,.int seed,.uD]=.ok (.rt (.lst (R.map cF))):=by
  by_cases h:0<seed % 3
  ·obtain ⟨ys,p0,s4⟩:=Q9 (xs:=L.map enP) (seed / 3) (fun x hx=>by
    obtain ⟨a,_,rfl⟩:=List.mem_map.mp hx;rfl) (by simp;lia)
   obtain ⟨L1,pL,rfl⟩:=GR enP unE (fun _=>rfl) p0;obtain ⟨L',T',i1,i2,i3,i4⟩:=rO (b:=.int bare) (s:=.int seed) L1 [] (by rw [pL.length_eq];simp;lia);obtain ⟨R,r1,r2,r3⟩:=rest L' T' (fun p hp=>pL.mem_iff.mp (i1 p hp)) (fun t ht=>by
    rcases i2 t ht with h|⟨h1,h2⟩
    ·cases h
    ·exact .inr ⟨hN _ (pL.mem_iff.mp h1),hN _ (pL.mem_iff.mp h2)⟩) (by rw [<-pL.length_eq];simpa using i3)
   refine ⟨R,r1,r2,?_⟩;refine aK (ρ':=[.lst (L.map enP),.int bare,.int seed,.lst []]) (eY rfl rfl) ?_;refine aK (ρ':=[.lst (L'.map enP),.int bare,.int seed,.lst (T'.map cF)]) (PX (cA (aH (aH rfl rfl m3) rfl (hc.trans (by rw [decide_eq_true h])))) ?_) r3;refine aK (ρ':=[.lst (L1.map enP),.int bare,.int seed,.lst []]) (bT (i:=0) (aV (xs:=[.lst (L.map enP),.int (seed / 3)]) (aD rfl (aD (aH rfl rfl d3) rfl)) s4)) ?_;exact i4 1000 (by rw [pL.length_eq];lia)
  ·obtain ⟨R,r1,r2,r3⟩:=rest L [] (fun p hp=>hp) (fun t ht=>by cases ht) (by simp);refine ⟨R,r1,r2,?_⟩;refine aK (ρ':=[.lst (L.map enP),.int bare,.int seed,.lst []]) (eY rfl rfl) ?_;exact aK (ρ':=[.lst (L.map enP),.int bare,.int seed,.lst []]) (pG (cA (aH (aH rfl rfl m3) rfl (hc.trans (by rw [decide_eq_false h])))) rfl) r3
 obtain ⟨R,r1,r2,e⟩:=fin;refine ⟨R,r1,r2,?_⟩;show (do let r <- iT _;zE r)=_;rw [show ([D.lst (L.map enP),D.int bare,D.int seed]++List.replicate (4-3) D.uD)=[.lst (L.map enP),.int bare,.int seed,.uD] from rfl,e];rfl
theorem V5 {kvs:List (D×D)} (hst:eZ kvs) (hne:kvs≠[]) (hl:kvs.length<=5) (cs:List Int) (hc:cs.length<=200) (seed:Int):∃(Q:List Pc) (V:List Tie) (r:Int),Wf Q V/\fL 3 gD [.dct kvs,.lst (cs.map D.int),.int seed]=.ok (fD Q V r):=by
 obtain ⟨NS,hNS⟩:=rN hst;have lNS:NS.length=kvs.length:=by
  have:=congrArg List.length hNS;simpa [iH] using this.symm
 have nNS:NS≠[]:=fun z=>hne (by rw [z] at lNS;exact List.length_eq_zero_iff.mp lNS.symm)
 obtain ⟨Q,L,T,num,rings,bare,x,m,sm,g,i1,i2,e1⟩:=yD (cells:=.lst (cs.map D.int)) (seed:=seed) hst hNS nNS (by lia) cs (rings:=0) (bare:=0) (x:=.uD) (m:=.uD) (sm:=.uD) gr0 (by simp;lia) (by lia);have lL:L.length<=280:=by have:=g.ll;have:=g.ql;lia
 have posE:∀p∈ends T++L,0<p.1:=fun p hp=>by
  obtain ⟨pc,h1,h2⟩:=List.mem_map.mp (g.num p hp);have:=(g.qb pc h1).1;lia
 simp only [List.length_nil] at i1;obtain ⟨R,r2,r4,r5⟩:=RG (N:=Q.map (·.1)) L bare seed (fun p hp=>posE p (List.mem_append_right _ hp)) (fun p hp=>g.num p (List.mem_append_right _ hp)) (by lia);have lTR:(T++R).length<=1000:=by rw [List.length_append];lia
 have hadd:aU .add (.lst (T.map cF)) (.lst (R.map cF))=.ok (.lst ((T++R).map cF)):=by
  rw [List.map_append];refine u_ _ _ ?_ (iC T) (iC R);rw [List.length_map,List.length_map,bQ];rw [List.length_append] at lTR;lia
 have hrim:fL 3 dR [.lst (L.map enP),.int bare,.int seed]=.ok (.lst (R.map cF)):=(d9 rfl).trans r5;have hli:=JS hst;rw [hNS] at hli;have hin:inner (.lst ((T++R).map cF))=true:=iC _;have mem_ends:∀{U:List Tie} {t:Tie},t∈U->t.1∈ends U/\t.2∈ends U:=fun {U t} h=>by
  simp only [ends,List.mem_flatMap];exact ⟨⟨t,h,by simp⟩,⟨t,h,by simp⟩⟩
 refine ⟨Q,vP (T++R),rings,⟨List.pairwise_map.mpr g.qs,fun n h=>?_,by rw [List.length_map];exact g.ql,fun t ht=>?_,by rw [(tU _).length_eq];exact lTR⟩,(d9 rfl).trans ?_⟩
 ·obtain ⟨pc,h1,rfl⟩:=List.mem_map.mp h;exact (g.qb pc h1).1
 ·rcases List.mem_append.mp ((tU _).mem_iff.mp ht) with h|h
  ·obtain ⟨h1,h2⟩:=mem_ends h;exact .inr ⟨g.num _ (List.mem_append_left _ h1),g.num _ (List.mem_append_left _ h2)⟩
  ·exact r2 t h
 have fin:jO [.dct kvs,.lst (cs.map D.int),.int seed,.uD,.uD,.uD,.uD,.uD,.uD,.uD,.uD,.uD,.uD]=.ok (.rt (fD Q (vP (T++R)) rings)):=by
  refine aK (ρ':=[.dct kvs,.lst (cs.map D.int),.int seed,.lst (NS.map D.str),.uD,.uD,.uD,.uD,.uD,.uD,.uD,.uD,.uD]) (bT (aV (aD rfl rfl) hli)) ?_;refine aK (ρ':=[.dct kvs,.lst (cs.map D.int),.int seed,.lst (NS.map D.str),.lst [],.uD,.uD,.uD,.uD,.uD,.uD,.uD,.uD]) (eY rfl rfl) ?_;refine aK (ρ':=[.dct kvs,.lst (cs.map D.int),.int seed,.lst (NS.map D.str),.lst [],.lst [],.uD,.uD,.uD,.uD,.uD,.uD,.uD]) (bT rfl) ?_;refine aK (ρ':=[.dct kvs,.lst (cs.map D.int),.int seed,.lst (NS.map D.str),.lst [],.lst [],.lst [],.uD,.uD,.uD,.uD,.uD,.uD]) (eY rfl rfl) ?_;refine aK (ρ':=[.dct kvs,.lst (cs.map D.int),.int seed,.lst (NS.map D.str),.lst [],.lst [],.lst [],.int 0,.uD,.uD,.uD,.uD,.uD]) (bT rfl) ?_;refine aK (ρ':=[.dct kvs,.lst (cs.map D.int),.int seed,.lst (NS.map D.str),.lst [],.lst [],.lst [],.int 0,.int 0,.uD,.uD,.uD,.uD]) (bT rfl) ?_;refine aK (ρ':=[.dct kvs,.lst (cs.map D.int),.int seed,.lst (NS.map D.str),.lst [],.lst [],.lst [],.int 0,.int 0,.int 0,.uD,.uD,.uD]) (bT rfl) ?_;refine aK (QB (d:=.lst (cs.map D.int)) (xs:=cs.map D.int) rfl rfl e1) ?_;refine aK (ρ':=[.dct kvs,.lst (cs.map D.int),.int seed,.lst (NS.map D.str),.lst (Q.map pcD),.lst (L.map enP),.lst ((T++R).map cF),.int num,.int bare,.int rings,x,m,sm])
   (eY (i:=6) (aH (x:=.lst (T.map cF)) (y:=.lst (R.map cF)) rfl (aV (xs:=[.lst (L.map enP),.int bare,.int seed]) (aD rfl (aD rfl (aD rfl rfl))) hrim) hadd) hin) ?_
  refine oN (d:=fD Q (vP (T++R)) rings) (lC (xs:=[.tup (Q.map pcD),.tup ((vP (T++R)).map cF),.int rings]) (aD (aV (xs:=[.lst (Q.map pcD)]) (aD rfl rfl) rfl) (aD (aV (xs:=[.lst ((vP (T++R)).map cF)]) (aD (aV (xs:=[.lst ((T++R).map cF)]) (aD rfl rfl) (V3 _)) rfl) rfl) (aD rfl rfl))) ?_) ?_
  ·rw [bQ];show 3<=1000000;lia
  ·rw [V4];rfl
 show (do let r <- jO _;zE r)=_;rw [show ([D.dct kvs,D.lst (cs.map D.int),D.int seed]++List.replicate (13-3) D.uD)=[.dct kvs,.lst (cs.map D.int),.int seed,.uD,.uD,.uD,.uD,.uD,.uD,.uD,.uD,.uD,.uD] from rfl,fin];rfl
end Lk11
end
section
namespace Lk11
open PySem L2 Mi
noncomputable def news:List Int->List Int->List Int
 | _,[]=>[]
 | R,y::ys=>if y∈R then news R ys else y::news (R++[y]) ys
theorem news_mem:∀{ys R:List Int} {z:Int},z∈news R ys->z∈ys
 | [],R,z,h=>h
 | y::ys,R,z,h=>by
  rw [news] at h;split at h
  ·exact List.mem_cons_of_mem _ (news_mem h)
  ·rcases List.mem_cons.mp h with rfl|h
   ·exact List.mem_cons_self ..
   ·exact List.mem_cons_of_mem _ (news_mem h)
theorem vU:∀{ys R:List Int},R.Nodup->(R++news R ys).Nodup
 | [],R,h=>by rw [news,List.append_nil];exact h
 | y::ys,R,h=>by
  rw [news];split
  ·exact vU h
  ·rename_i hy;have:(R++[y]).Nodup:=by
    rw [List.nodup_append];exact ⟨h,by simp,fun a ha b hb z=>hy (by rw [<-List.mem_singleton.mp hb,<-z];exact ha)⟩
   have:=vU (ys:=ys) this;rwa [List.append_assoc] at this
theorem pI:∀{ys R:List Int} {z:Int},z∈ys->z∈R++news R ys
 | y::ys,R,z,h=>by
  rw [news];rcases List.mem_cons.mp h with rfl|h
  ·split
   ·exact List.mem_append_left _ (by assumption)
   ·simp
  ·split
   ·exact pI h
   ·have:=pI (R:=R++[y]) h;rwa [List.append_assoc] at this
inductive Rc (f:Int->List Int) (s:Int):Int->Prop
 | refl:Rc f s s
 | step {x y:Int}:Rc f s x->y∈f x->Rc f s y
theorem Rc.trans {f:Int->List Int} {a b c:Int} (h:Rc f a b) (g:Rc f b c):Rc f a c:=by
 induction g with
 | refl=>exact h
 | step _ hy ih=>exact ih.step hy
theorem Rc.mem {f:Int->List Int} {s:Int} {M:List Int} (hs:s∈M) (hc:∀x∈M,∀y∈f x,y∈M) {x:Int} (h:Rc f s x):x∈M:=by
 induction h with
 | refl=>exact hs
 | step _ hy ih=>exact hc _ ih _ hy
theorem Rc.to {f g:Int->List Int} {s:Int} {M:List Int} (hs:s∈M) (hc:∀x∈M,∀y∈f x,y∈M) (hfg:∀x∈M,∀y∈f x,y∈g x) {x:Int} (h:Rc f s x):Rc g s x:=by
 induction h with
 | refl=>exact .refl
 | step hx hy ih=>exact ih.step (hfg _ (hx.mem hs hc) _ hy)
theorem Rc.symm {f:Int->List Int} (hsy:∀x y,y∈f x->x∈f y) {s x:Int} (h:Rc f s x):Rc f x s:=by
 induction h with
 | refl=>exact .refl
 | step _ hy ih=>exact (Rc.refl.step (hsy _ _ hy)).trans ih
structure Dv (f:Int->List Int) (s:Int) (R W:List Int):Prop where
 nd:R.Nodup
 sR:s∈R
 wR:∀w∈W,w∈R
 rc:∀r∈R,Rc f s r
 cl:∀r∈R,r∈W\/∀y∈f r,y∈R
theorem dv0 (f:Int->List Int) (s:Int):Dv f s [s] [s]:=⟨by simp,by simp,fun w h=>h,fun r h=>by rw [List.mem_singleton.mp h];exact .refl,fun r h=>.inl h⟩
theorem Dv.step {f:Int->List Int} {s c:Int} {R W:List Int} (h:Dv f s R (W++[c])):Dv f s (R++news R (f c)) (W++news R (f c)):=by
 have hc:c∈R:=h.wR c (by simp);refine ⟨vU h.nd,List.mem_append_left _ h.sR,fun w hw=>?_,fun r hr=>?_,fun r hr=>?_⟩
 ·rcases List.mem_append.mp hw with hw|hw
  ·exact List.mem_append_left _ (h.wR w (List.mem_append_left _ hw))
  ·exact List.mem_append_right _ hw
 ·rcases List.mem_append.mp hr with hr|hr
  ·exact h.rc r hr
  ·exact (h.rc c hc).step (news_mem hr)
 ·rcases List.mem_append.mp hr with hr|hr
  ·rcases h.cl r hr with g|g
   ·rcases List.mem_append.mp g with g|g
    ·exact .inl (List.mem_append_left _ g)
    ·rw [List.mem_singleton.mp g];exact .inr fun y hy=>pI hy
   ·exact .inr fun y hy=>List.mem_append_left _ (g y hy)
  ·exact .inl (List.mem_append_right _ hr)
theorem Dv.fin {f:Int->List Int} {s:Int} {R:List Int} (h:Dv f s R []) {x:Int}:x∈R↔Rc f s x:=
 ⟨h.rc x,fun g=>g.mem h.sR fun r hr=>(h.cl r hr).resolve_left (by simp)⟩
theorem Dv.len {f:Int->List Int} {s:Int} {R W M:List Int} (h:Dv f s R W) (hs:s∈M) (hc:∀x∈M,∀y∈f x,y∈M):R.length<=M.length:=j_ _ _ h.nd fun x hx=>(h.rc x hx).mem hs hc
structure Bv (f:Int->List Int) (s:Int) (R:List Int) (n:Nat):Prop where
 nd:R.Nodup
 sR:s∈R
 rc:∀r∈R,Rc f s r
 cl:∀r∈R.take n,∀y∈f r,y∈R
theorem bv0 (f:Int->List Int) (s:Int):Bv f s [s] 0:=⟨by simp,by simp,fun r h=>by rw [List.mem_singleton.mp h];exact .refl,fun r h=>by cases h⟩
theorem Bv.step {f:Int->List Int} {s:Int} {R:List Int} {n:Nat} (h:Bv f s R n) (hn:n<R.length):Bv f s (R++news R (f R[n])) (n+1):=by
 have hc:R[n]∈R:=List.getElem_mem hn;refine ⟨vU h.nd,List.mem_append_left _ h.sR,fun r hr=>?_,fun r hr=>?_⟩
 ·rcases List.mem_append.mp hr with hr|hr
  ·exact h.rc r hr
  ·exact (h.rc _ hc).step (news_mem hr)
 ·rw [List.take_append_of_le_length (by lia),List.take_succ_eq_append_getElem hn] at hr;rcases List.mem_append.mp hr with hr|hr
  ·exact fun y hy=>List.mem_append_left _ (h.cl r hr y hy)
  ·rw [List.mem_singleton.mp hr];exact fun y hy=>pI hy
theorem Bv.fin {f:Int->List Int} {s:Int} {R:List Int} {n:Nat} (h:Bv f s R n) (hn:R.length<=n) {x:Int}:x∈R↔Rc f s x:=by
 have hcl:=h.cl;rw [List.take_of_length_le hn] at hcl;exact ⟨h.rc x,fun g=>g.mem h.sR hcl⟩
theorem Bv.len {f:Int->List Int} {s:Int} {R M:List Int} {n:Nat} (h:Bv f s R n) (hs:s∈M) (hc:∀x∈M,∀y∈f x,y∈M):R.length<=M.length:=j_ _ _ h.nd fun x hx=>(h.rc x hx).mem hs hc
def sortI (l:List Int):List Int:=(jB (l.map D.int)).map unI
theorem sortI_perm (l:List Int):(sortI l).Perm l:=by
 have h:=(d8 (l.map D.int)).map unI;rw [List.map_map] at h;have e:l.map (unI ∘ D.int)=l:=by
  conv=>rhs;rw [<-List.map_id l]
  exact List.map_congr_left fun t _=>rfl
 rw [e] at h;exact h
theorem z8 (l:List Int):(sortI l).map D.int=jB (l.map D.int):=by
 unfold sortI;rw [List.map_map]
 conv=>rhs;rw [<-List.map_id (jB (l.map D.int))]
 refine List.map_congr_left fun d hd=>?_
 obtain ⟨t,_,rfl⟩:=List.mem_map.mp ((d8 (l.map D.int)).mem_iff.mp hd);rfl
theorem aAe (a b:Int):leE (.int a) (.int b)=true↔a<=b:=by
 have e:(enc (.int b)<enc (.int a))↔b<a:=by
  show ([0,b]:List Int)<[0,a]↔b<a;rw [List.cons_lt_cons_iff,List.cons_lt_cons_iff];simp
 unfold leE;rw [Bool.not_eq_true',decide_eq_false_iff_not,e];lia
theorem V6 (l:List Int):(sortI l).Pairwise (·<=·):=by
 have h:=oK (l.map D.int);rw [<-z8,List.pairwise_map] at h;exact h.imp fun {a b} h=>(aAe a b).mp h
theorem GX {l:List Int} (h:l.Nodup):(sortI l).Pairwise (·<·):=by
 have h1:=V6 l;have h2:(sortI l).Pairwise (·≠·):=(sortI_perm l).nodup_iff.mpr h;exact (h1.and h2).imp fun {a b} ⟨h1,h2⟩=>by lia
theorem GZ:∀{l m:List Int},l.Pairwise (·<·)->m.Pairwise (·<·)->(∀x,x∈l↔x∈m)->l=m
 | [],[],_,_,_=>rfl
 | [],b::m,_,_,h=>by have:=(h b).mpr (List.mem_cons_self ..);cases this
 | a::l,[],_,_,h=>by have:=(h a).mp (List.mem_cons_self ..);cases this
 | a::l,b::m,h1,h2,h=>by
  rw [List.pairwise_cons] at h1 h2;have e:a=b:=by
   rcases List.mem_cons.mp ((h a).mp (List.mem_cons_self ..)) with g|g
   ·exact g
   ·rcases List.mem_cons.mp ((h b).mpr (List.mem_cons_self ..)) with g'|g'
    ·exact g'.symm
    ·have:=h2.1 a g;have:=h1.1 b g';lia
  subst e;rw [GZ h1.2 h2.2 fun x=>⟨fun hx=>by
   rcases List.mem_cons.mp ((h x).mp (List.mem_cons_of_mem _ hx)) with g|g
   ·have:=h1.1 x hx;lia
   ·exact g,fun hx=>by
   rcases List.mem_cons.mp ((h x).mpr (List.mem_cons_of_mem _ hx)) with g|g
   ·have:=h2.1 x hx;lia
   ·exact g⟩]
theorem G3 {l m:List Int} (hl:l.Nodup) (hm:m.Pairwise (·<·)) (h:∀x,x∈l↔x∈m):sortI l=m:=GZ (GX hl) hm fun x=>(sortI_perm l).mem_iff.trans (h x)
structure Ps (f:Int->List Int) (N1:List Int) (F:List (List Int)):Prop where
 nd:F.flatten.Nodup
 cv:∀n∈N1,n∈F.flatten
 cl:∀x∈F.flatten,∀y,Rc f x y->y∈F.flatten
 ea:∀p∈F,∃n q,p=n::q/\n∈N1/\p.Pairwise (·<·)/\∀x,x∈p↔Rc f n x
 hd:F.Pairwise fun p q=>p.headD 0<q.headD 0
theorem ps0 (f:Int->List Int):Ps f [] []:=⟨by simp,by simp,by simp,by simp,by simp⟩
theorem Ps.skip {f:Int->List Int} {N1:List Int} {F:List (List Int)} {n:Int} (h:Ps f N1 F) (hn:n∈F.flatten):Ps f (N1++[n]) F:=
 ⟨h.nd,fun m hm=>by
  rcases List.mem_append.mp hm with g|g
  ·exact h.cv m g
  ·rw [List.mem_singleton.mp g];exact hn,h.cl,fun p hp=>let ⟨m,q,h1,h2,h3⟩:=h.ea p hp;⟨m,q,h1,List.mem_append_left _ h2,h3⟩,h.hd⟩
theorem Ps.more {f:Int->List Int} (hsy:∀x y,y∈f x->x∈f y) {N1 N2:List Int} {F:List (List Int)} {n:Int} {R:List Int} (h:Ps f N1 F) (hs:(N1++n::N2).Pairwise (·<·)) (hc:∀x∈N1++n::N2,∀y∈f x,y∈N1++n::N2) (hn:n∉F.flatten) (hR:R.Nodup) (hm:∀x,x∈R↔Rc f n x):Ps f (N1++[n]) (F++[sortI R])/\(∀x∈sortI R,x∉F.flatten):=by
 have mem:∀x,x∈sortI R↔Rc f n x:=fun x=>(sortI_perm R).mem_iff.trans (hm x)
 have new:∀x∈sortI R,x∉F.flatten:=fun x hx hF=>hn (h.cl x hF n (((mem x).mp hx).symm hsy))
 have big:∀x∈sortI R,n<=x:=fun x hx=>by
  have h1:=((mem x).mp hx).mem (M:=N1++n::N2) (by simp) hc;rcases List.mem_append.mp h1 with h1|h1
  ·exact absurd (h.cv x h1) (new x hx)
  ·rcases List.mem_cons.mp h1 with h1|h1
   ·lia
   ·have:=(List.pairwise_append.mp hs).2.1;rw [List.pairwise_cons] at this;have:=this.1 x h1;lia
 have hnR:n∈sortI R:=(mem n).mpr .refl;have hlt:=GX hR;obtain ⟨q,hq⟩:∃q,sortI R=n::q:=by
  cases e:sortI R with
  | nil=>rw [e] at hnR;cases hnR
  | cons a q=>
   rw [e] at hnR hlt;have:=big a (by rw [e];exact List.mem_cons_self ..);rw [List.pairwise_cons] at hlt;rcases List.mem_cons.mp hnR with g|g
   ·exact ⟨q,by rw [g]⟩
   ·have:=hlt.1 n g;lia
 refine ⟨⟨?_,fun m hm=>?_,fun x hx y hy=>?_,fun p hp=>?_,?_⟩,new⟩
 ·rw [List.flatten_append,List.flatten_singleton,List.nodup_append];exact ⟨h.nd,(sortI_perm R).nodup_iff.mpr hR,fun a ha b hb z=>new b hb (z▸ha)⟩
 ·rw [List.flatten_append,List.flatten_singleton];rcases List.mem_append.mp hm with g|g
  ·exact List.mem_append_left _ (h.cv m g)
  ·rw [List.mem_singleton.mp g];exact List.mem_append_right _ hnR
 ·rw [List.flatten_append,List.flatten_singleton] at hx ⊢;rcases List.mem_append.mp hx with g|g
  ·exact List.mem_append_left _ (h.cl x g y hy)
  ·exact List.mem_append_right _ ((mem y).mpr (((mem x).mp g).trans hy))
 ·rcases List.mem_append.mp hp with g|g
  ·obtain ⟨m,q,h1,h2,h3⟩:=h.ea p g;exact ⟨m,q,h1,List.mem_append_left _ h2,h3⟩
  ·rw [List.mem_singleton.mp g];exact ⟨n,q,hq,by simp,hlt,mem⟩
 ·rw [List.pairwise_append];refine ⟨h.hd,by simp,fun p hp r hr=>?_⟩;rw [List.mem_singleton.mp hr,hq];obtain ⟨m,q',h1,h2,_⟩:=h.ea p hp;rw [h1];exact (List.pairwise_append.mp hs).2.2 m h2 n (by simp)
end Lk11
end
section
namespace Lk11
open PySem L2 Mi
theorem cR {α:Type} {t:D->List D->Res (List D)} {body:FS} {d:α->D} {I:List α->List D->Prop} (xs:List α) (step:∀ys a zs ρ,xs=ys++a::zs->I ys ρ->∃ρ1 ρ2,t (d a) ρ=.ok ρ1/\body ρ1=.ok (.nx ρ2)/\I (ys++[a]) ρ2) {ρ:List D} (h0:I [] ρ):∃ρ',lY t body (xs.map d) ρ=.ok (.nx ρ')/\I xs ρ':=by
 have key:∀zs ys ρ,xs=ys++zs->I ys ρ->∃ρ',lY t body (zs.map d) ρ=.ok (.nx ρ')/\I xs ρ':=by
  intro zs;induction zs with
  | nil=>
   intro ys ρ e h;rw [List.append_nil] at e;subst e;exact ⟨ρ,rfl,h⟩
  | cons a zs ih=>
   intro ys ρ e h;obtain ⟨ρ1,ρ2,h1,h2,h3⟩:=step ys a zs ρ e h;obtain ⟨ρ',g1,g2⟩:=ih (ys++[a]) ρ2 (by rw [e,List.append_assoc];rfl) h3;exact ⟨ρ',h_ h1 h2 g1,g2⟩
 exact key xs [] ρ rfl h0
theorem jV (a b:Int):eqD (.int a) (.int b)=decide (a=b):=by
 show (a==b)=_;by_cases h:a=b
 ·subst h;simp
 ·rw [decide_eq_false h];simpa using h
noncomputable def dA (M:List Int) (f:Int->List Int):List (D×D):=M.map fun n=>(.int n,.lst ((f n).map D.int))
theorem vV {f:Int->List Int} {x:Int}:∀{M:List Int},x∈M->bU (dA M f) (.int x)=some (.lst ((f x).map D.int))
 | m::M,h=>by
  show (if eqD (.int m) (.int x) then _ else _)=_;rw [jV];by_cases e:m=x
  ·subst e;simp
  ·rw [decide_eq_false e,if_neg (by simp)];exact vV ((List.mem_cons.mp h).resolve_left (Ne.symm e))
theorem RJ {f:Int->List Int} {x:Int}:∀{M:List Int},x∉M->bU (dA M f) (.int x)=none
 | [],_=>rfl
 | m::M,h=>by
  rw [List.mem_cons,not_or] at h;show (if eqD (.int m) (.int x) then _ else _)=_;rw [jV,decide_eq_false (Ne.symm h.1),if_neg (by simp)];exact RJ h.2
theorem XJ {f g:Int->List Int} {x:Int} {y:List Int} (hx:g x=y) (hg:∀n,n≠x->g n=f n):∀{M:List Int},M.Nodup->x∈M->putD (dA M f) (.int x) (.lst (y.map D.int))=dA M g
 | m::M,nd,h=>by
  rw [List.nodup_cons] at nd;show (if eqD (.int m) (.int x) then _ else _)=_;rw [jV];by_cases e:m=x
  ·subst e;rw [decide_eq_true rfl,if_pos rfl];show _=(D.int m,D.lst ((g m).map D.int))::dA M g;rw [hx]
   congr 1
   refine List.map_congr_left fun n hn=>?_
   rw [hg n fun z=>nd.1 (z▸hn)]
  ·rw [decide_eq_false e,if_neg (by simp)];show _=(D.int m,D.lst ((g m).map D.int))::dA M g;rw [hg m e]
   congr 1
   exact XJ hx hg nd.2 ((List.mem_cons.mp h).resolve_left (Ne.symm e))
noncomputable def yJ (f:Int->List Int) (x y:Int):Int->List Int:=fun n=>if n=x then f n++[y] else f n
theorem vW {M:List Int} {f:Int->List Int} {x y:Int} (nd:M.Nodup) (hx:x∈M) (hl:(f x).length<100000):QK (.dct (dA M f)) (.int x) (.int y)=.ok (.dct (dA M (yJ f x y))):=by
 have e:=vV (f:=f) hx;have hl':decide (((f x).map D.int).length<lim)=true:=decide_eq_true (by rw [List.length_map,bQ];lia);simp only [QK,cT,e,hl',D.pure,Bool.and_self,if_true];have:=XJ (f:=f) (g:=yJ f x y) (x:=x) (y:=f x++[y]) (by simp [yJ]) (fun n hn=>by simp [yJ,hn]) nd hx;rw [List.map_append] at this;rw [<-this];rfl
theorem vX {i:Nat} {fk fe:FE} {ρ:List D} {d k e r:D} (h1:lX i ρ=.ok d) (h2:fk ρ=.ok k) (h3:fe ρ=.ok e) (h4:QK d k e=.ok r):qW i fk fe ρ=.ok (.nx (ρ.set i r)):=by
 unfold qW;rw [h1,Res.aM,h2,Res.aM,h3,Res.aM,h4];rfl
theorem RK {i:Nat} {fk:FE} {ρ:List D} {M:List Int} {x:Int} (h1:fk ρ=.ok (.int x)) (h2:ρ.getD i .uD=.dct (dA M fun _=>[])) (hx:x∉M) (hl:M.length<100000):zY i fk ρ=.ok (.nx (ρ.set i (.dct (dA (M++[x]) fun _=>[])))):=by
 unfold zY;rw [h1,Res.aM,h2];have hc:(cT (.int x)&&(bU (dA M fun _=>[]) (.int x)).isNone&&decide ((dA M fun _=>[]).length<lim)&&(dA M fun _=>[]).all (fun p=>vB p.2))=true:=by
  rw [RJ hx,decide_eq_true (by rw [dA,List.length_map,bQ];lia)];have:(dA M fun _=>[]).all (fun p=>vB p.2)=true:=by
   refine List.all_eq_true.mpr fun p hp=>?_
   obtain ⟨n,_,rfl⟩:=List.mem_map.mp hp;rfl
  rw [this];rfl
 show (if (cT (.int x)&&(bU (dA M fun _=>[]) (.int x)).isNone&&decide ((dA M fun _=>[]).length<lim)&&(dA M fun _=>[]).all (fun p=>vB p.2))=true then Res.ok (Fl.nx (ρ.set i (.dct ((dA M fun _=>[])++[(.int x,.lst [])])))) else .bad)=_;rw [if_pos hc]
 congr 4
 simp [dA]
noncomputable def stB (f:Int->List Int) (t:Tie):Int->List Int:=if t.1.1=0 then f else yJ (yJ f t.1.1 t.2.1) t.2.1 t.1.1
noncomputable def stN (f:Int->List Int) (t:Tie):Int->List Int:=yJ (yJ f t.1.1 t.2.1) t.2.1 t.1.1
def oF (V:List Tie):Int->List Int:=V.foldl stB fun _=>[]
def v6 (V:List Tie):Int->List Int:=V.foldl stN fun _=>[]
theorem G4 {f:Int->List Int} {x y n z:Int}:z∈yJ f x y n↔z∈f n\/(n=x/\z=y):=by
 unfold yJ;split
 ·rename_i h;simp [h]
 ·rename_i h;simp [h]
noncomputable def z9 (t:Tie) (x y:Int):Prop:=(t.1.1=x/\t.2.1=y)\/(t.2.1=x/\t.1.1=y)
theorem RL {f:Int->List Int} {t:Tie} {x y:Int}:y∈stN f t x↔y∈f x\/z9 t x y:=by
 unfold stN z9;rw [G4,G4];constructor
 ·rintro ((h|⟨h1,h2⟩)|⟨h1,h2⟩)
  ·exact .inl h
  ·exact .inr (.inl ⟨h1.symm,h2.symm⟩)
  ·exact .inr (.inr ⟨h1.symm,h2.symm⟩)
 ·rintro (h|⟨h1,h2⟩|⟨h1,h2⟩)
  ·exact .inl (.inl h)
  ·exact .inl (.inr ⟨h1.symm,h2.symm⟩)
  ·exact .inr ⟨h1.symm,h2.symm⟩
theorem aAf {f:Int->List Int} {t:Tie} {x y:Int}:y∈stB f t x↔y∈f x\/(t.1.1≠0/\z9 t x y):=by
 unfold stB;split
 ·rename_i h;simp [h]
 ·rename_i h;have:=RL (f:=f) (t:=t) (x:=x) (y:=y);unfold stN at this;rw [this];simp [h]
theorem XM {x y:Int}:∀(V:List Tie) (f:Int->List Int),y∈V.foldl stN f x↔y∈f x\/∃t∈V,z9 t x y
 | [],f=>by simp
 | t::V,f=>by
  rw [List.foldl_cons,XM V,RL];simp only [List.mem_cons,exists_eq_or_imp,or_assoc]
theorem XN {x y:Int}:∀(V:List Tie) (f:Int->List Int),y∈V.foldl stB f x↔y∈f x\/∃t∈V,t.1.1≠0/\z9 t x y
 | [],f=>by simp
 | t::V,f=>by
  rw [List.foldl_cons,XN V,aAf];simp only [List.mem_cons,exists_eq_or_imp,or_assoc]
theorem V7 {V:List Tie} {x y:Int}:y∈v6 V x↔∃t∈V,z9 t x y:=by simp [v6,XM]
theorem nH {V:List Tie} {x y:Int}:y∈oF V x↔∃t∈V,t.1.1≠0/\z9 t x y:=by simp [oF,XN]
theorem kE (f:Int->List Int) (x y n:Int):(yJ f x y n).length<=(f n).length+1:=by
 unfold yJ;split <;> simp
theorem RM:∀(V:List Tie) (f:Int->List Int) (x:Int),(V.foldl stN f x).length<=(f x).length+2*V.length
 | [],f,x=>by simp
 | t::V,f,x=>by
  have h1:=RM V (stN f t) x;have h2:=kE (yJ f t.1.1 t.2.1) t.2.1 t.1.1 x;have h3:=kE f t.1.1 t.2.1 x;rw [List.foldl_cons,List.length_cons];unfold stN at h1 ⊢;lia
theorem RN:∀(V:List Tie) (f:Int->List Int) (x:Int),(V.foldl stB f x).length<=(f x).length+2*V.length
 | [],f,x=>by simp
 | t::V,f,x=>by
  have h1:=RN V (stB f t) x;have h2:=kE (yJ f t.1.1 t.2.1) t.2.1 t.1.1 x;have h3:=kE f t.1.1 t.2.1 x;have h4:(stB f t x).length<=(f x).length+2:=by
   unfold stB;split
   ·lia
   ·lia
  rw [List.foldl_cons,List.length_cons];lia
section
variable {Q:List Pc} {V:List Tie}
theorem fY (w:Wf Q V):∀x∈Q.map (·.1),∀y∈oF V x,y∈Q.map (·.1):=fun x _ y hy=>by
 obtain ⟨t,ht,h0,hj⟩:=nH.mp hy;rcases w.ok t ht with ⟨h1,_⟩|⟨h1,h2⟩
 ·exact absurd h1 h0
 ·rcases hj with ⟨_,h⟩|⟨_,h⟩
  ·exact h▸h2
  ·exact h▸h1
theorem RP (V:List Tie):∀x y,y∈oF V x->x∈oF V y:=fun x y hy=>by
 obtain ⟨t,ht,h0,hj⟩:=nH.mp hy;exact nH.mpr ⟨t,ht,h0,hj.symm.imp (fun ⟨a,b⟩=>⟨b,a⟩) fun ⟨a,b⟩=>⟨b,a⟩⟩
theorem vY (w:Wf Q V) {x:Int} (hx:x∈Q.map (·.1)) {y:Int}:y∈(v6 V x).filter (fun z=>decide (0<z))↔y∈oF V x:=by
 rw [List.mem_filter,decide_eq_true_eq,V7,nH];constructor
 ·rintro ⟨⟨t,ht,hj⟩,hy⟩;refine ⟨t,ht,fun h0=>?_,hj⟩;have:=w.qp x hx;rcases hj with ⟨h1,_⟩|⟨_,h1⟩ <;> lia
 ·rintro ⟨t,ht,h0,hj⟩;exact ⟨⟨t,ht,hj⟩,w.qp y (fY w x hx y (nH.mpr ⟨t,ht,h0,hj⟩))⟩
end
end Lk11
end
section
namespace Lk11
open PySem L2 Mi
theorem rP {a:FE} {t:D->List D->Res (List D)} {body:FS} {ρ:List D} {xs:List D} {r:Res Fl} (h1:a ρ=.ok (.tup xs)) (hp:D.aW xs=true) (h2:lY t body xs ρ=r):wN (dM a false) t body ρ=r:=by
 refine qP ?_ h2;have:=m5 (fr:=false) h1 (show mL (.tup xs)=.ok xs from rfl);rw [this,Bool.false_or,D.pure,hp]
theorem Wf.nd {Q:List Pc} {V:List Tie} (w:Wf Q V):(Q.map (·.1)).Nodup:=w.qs.imp fun {a b} h=>by lia
noncomputable def aEt:FS:=(sIf (bTB (b2 (bR .ne) (b2 getD nM dF) dF)) (bO (qW 1 (b2 getD nM dF) (b2 getD gB dF)) (qW 1 (b2 getD gB dF) (b2 getD nM dF))) (mQ))
theorem RQ {Q ys zs:List Pc} {V:List Tie} {a:Pc} (w:Wf Q V) (e:Q=ys++a::zs):a.1∉ys.map (·.1):=fun z=>by
 have h:=w.qs;rw [e,List.map_append,List.map_cons,List.pairwise_append] at h;have:=h.2.2 a.1 z a.1 (List.mem_cons_self ..);lia
theorem vZ {Q:List Pc} {V:List Tie} {r:Int} (w:Wf Q V):fL 1 gF [fD Q V r]=.ok (.dct (dA (Q.map (·.1)) (oF V))):=by
 refine (d9 rfl).trans ?_;have ql:=w.ql;obtain ⟨ρ1,e1,x2,x3,rfl⟩:=cR (t:=tgN [2,3]) (body:=zY 1 kJ) (d:=pcD) (I:=fun ys ρ=>∃a b,ρ=[fD Q V r,.dct (dA (ys.map (·.1)) fun _=>[]),a,b,.uD,.uD]) Q (fun ys a zs ρ e ⟨x,y,h⟩=>by
  subst h;refine ⟨_,_,rfl,RK (i:=1) (M:=ys.map (·.1)) (x:=a.1) rfl rfl (RQ w e) (by rw [e] at ql;simp at ql ⊢;lia),.int a.1,.str a.2,?_⟩;rw [List.map_append];rfl) (ρ:=[fD Q V r,.dct [],.uD,.uD,.uD,.uD]) ⟨.uD,.uD,rfl⟩
 obtain ⟨ρ2,e2,x2,x3,x4,x5,rfl⟩:=cR (t:=tgN [4,5]) (body:=aEt) (d:=cF) (I:=fun ys ρ=>∃a b c d,ρ=[fD Q V r,.dct (dA (Q.map (·.1)) (oF ys)),a,b,c,d]) V (fun ys t zs ρ e ⟨x,y,z,u,h⟩=>by
  subst h;have ht:t∈V:=by rw [e];simp
  have hl:ys.length<=1000:=by have:=w.vl;rw [e] at this;simp at this;lia
  have hb:∀n,(oF ys n).length<=2000:=fun n=>by have:=RN ys (fun _=>[]) n;unfold oF;simp at this;lia
  have ha:oF (ys++[t])=stB (oF ys) t:=by unfold oF;rw [List.foldl_append];rfl
  refine ⟨[fD Q V r,.dct (dA (Q.map (·.1)) (oF ys)),x,y,enP t.1,enP t.2],[fD Q V r,.dct (dA (Q.map (·.1)) (oF (ys++[t]))),x,y,enP t.1,enP t.2],rfl,?_,x,y,_,_,rfl⟩;have hc:bR .ne (.int t.1.1) (.int 0)=.ok (.bl (!decide (t.1.1=0))):=by
   rw [<-jV];rfl
  by_cases h0:t.1.1=0
  ·refine pG (cA (aH (x:=.int t.1.1) rfl rfl (hc.trans (by rw [decide_eq_true h0];rfl)))) ?_;rw [ha,stB,if_pos h0];rfl
  ·have hm:t.1.1∈Q.map (·.1)/\t.2.1∈Q.map (·.1):=(w.ok t ht).resolve_left fun z=>h0 z.1
   refine PX (cA (aH (x:=.int t.1.1) rfl rfl (hc.trans (by rw [decide_eq_false h0];rfl)))) ?_;have a1:=vW (f:=oF ys) (y:=t.2.1) w.nd hm.1 (by have:=hb t.1.1;lia);have a2:=vW (f:=yJ (oF ys) t.1.1 t.2.1) (y:=t.1.1) w.nd hm.2 (by have:=hb t.2.1;have:=kE (oF ys) t.1.1 t.2.1 t.2.1;lia);refine aK (vX (i:=1) rfl (k:=.int t.1.1) rfl (e:=.int t.2.1) rfl a1) ?_;refine (vX (i:=1) rfl (k:=.int t.2.1) rfl (e:=.int t.1.1) rfl a2).trans ?_;rw [ha,stB,if_neg h0];rfl) (ρ:=[fD Q V r,.dct (dA (Q.map (·.1)) fun _=>[]),x2,x3,.uD,.uD]) ⟨_,_,_,_,rfl⟩
 have e:jQ [fD Q V r,.uD,.uD,.uD,.uD,.uD]=.ok (.rt (.dct (dA (Q.map (·.1)) (oF V)))):=by
  refine aK (ρ':=[fD Q V r,.dct [],.uD,.uD,.uD,.uD]) rfl ?_;refine aK (rP (xs:=Q.map pcD) rfl (pH Q) e1) ?_;refine aK (rP (xs:=V.map cF) rfl (nG V) e2) ?_;rfl
 show (do let r <- jQ _;zE r)=_;rw [show ([fD Q V r]++List.replicate (6-1) D.uD)=[fD Q V r,.uD,.uD,.uD,.uD,.uD] from rfl,e];rfl
def kT (R:List Int):List (D×D):=R.map fun r=>(.int r,.bl true)
theorem RT {x:Int}:∀{R:List Int},(bU (kT R) (.int x)).isSome=decide (x∈R)
 | []=>by simp [kT,bU]
 | r::R=>by
  show (if eqD (.int r) (.int x) then some (D.bl true) else bU (kT R) (.int x)).isSome=_;rw [jV];by_cases e:r=x
  ·subst e;simp
  ·rw [decide_eq_false e,if_neg (by simp)];refine RT.trans (decide_eq_decide.mpr ?_);simp [Ne.symm e]
theorem G5 {x:Int}:∀{R:List Int},x∉R->putD (kT R) (.int x) (.bl true)=kT (R++[x])
 | [],_=>rfl
 | r::R,h=>by
  rw [List.mem_cons,not_or] at h;show (if eqD (.int r) (.int x) then _ else _)=_;rw [jV,decide_eq_false (Ne.symm h.1),if_neg (by simp)];show (D.int r,D.bl true)::putD (kT R) (.int x) (.bl true)=_;rw [G5 h.2];rfl
theorem RV (R:List Int) (x:Int):rW (kT R) (.int x)=true:=by
 unfold rW;rw [Bool.and_eq_true];refine ⟨rfl,List.all_eq_true.mpr fun p hp=>?_⟩;obtain ⟨r,_,rfl⟩:=List.mem_map.mp hp;rfl
theorem V8 (R:List Int):D.aW ((kT R).map (·.2))=true:=by
 induction R with
 | nil=>rfl
 | cons r R ih=>exact ih
theorem kI (R:List Int) (x:Int):bR .notin (.int x) (.dct (kT R))=.ok (.bl (!decide (x∈R))):=by
 show (if rW (kT R) (.int x) then Res.ok (D.bl (!(bU (kT R) (.int x)).isSome)) else .bad)=_;rw [RV,if_pos rfl,RT]
theorem jW (U:List Int):bL (U.map D.int)=true:=by
 unfold bL;refine List.all_eq_true.mpr fun d hd=>?_
 obtain ⟨t,ht,rfl⟩:=List.mem_map.mp hd;have hk:dJ ((U.map D.int).headD .non)=1:=by
  cases U with
  | nil=>cases ht
  | cons u U=>rfl
 rw [hk];have:((U.map D.int).all fun b=>(cM .lt (.int t) b).isSome)=true:=by
  refine List.all_eq_true.mpr fun b hb=>?_
  obtain ⟨u,_,rfl⟩:=List.mem_map.mp hb;rfl
 rw [this];rfl
theorem aAg (R:List Int):iH (kT R)=R.map D.int:=by
 unfold iH kT;rw [List.map_map];rfl
theorem RW (R:List Int):sortedK [.dct (kT R)]=.ok (.lst ((sortI R).map D.int)):=by
 have h1:(kT R).all (fun p=>!isTup p.1)=true:=by
  refine List.all_eq_true.mpr fun p hp=>?_
  obtain ⟨r,_,rfl⟩:=List.mem_map.mp hp;rfl
 show (if (kT R).all (fun p=>!isTup p.1)&&bL (iH (kT R)) then Res.ok (D.lst (jB (iH (kT R)))) else .bad)=_;rw [h1,aAg,jW,z8];rfl
theorem sorted_ints (R:List Int):gK [.lst (R.map D.int)]=.ok (.lst ((sortI R).map D.int)):=by
 show (if bL (R.map D.int) then Res.ok (D.lst (jB (R.map D.int))) else .bad)=_;rw [jW,if_pos rfl,z8]
theorem nJ (a:Int):∀(ys R:List Int),news R (ys++[a])=news R ys++(if a∈R++news R ys then [] else [a])
 | [],R=>by simp [news]
 | y::ys,R=>by
  rw [List.cons_append,news,news];split
  ·exact nJ a ys R
  ·rw [nJ a ys (R++[y])];simp
theorem pJ:∀(ys R:List Int),(news R ys).length<=ys.length
 | [],R=>by simp [news]
 | y::ys,R=>by
  rw [news];split
  ·have:=pJ ys R;simp only [List.length_cons];lia
  ·have:=pJ ys (R++[y]);simp only [List.length_cons];lia
noncomputable def hbody:FS:=(sIf (bTB (b2 (bR .notin) gB kJ)) (bO (T5 2 gB (bC (.bl true))) (uI 3 gB)) (mQ))
def hloop:FS:=(bO (U_ 3 4) (q_ 0 nM (tg1 5) hbody))
theorem XQ {M:List Int} {f:Int->List Int} {c:Int} (h:c∈M):dgI (.dct (dA M f)) (.int c)=.ok ((f c).map D.int):=by
 have e:=vV (f:=f) h;simp only [dgI,cT,e,if_true];rfl
theorem G6 {i:Nat} {fk:FE} {t:D->List D->Res (List D)} {body:FS} {ρ:List D} {d k:D} {xs:List D} {r:Res Fl} (h1:lX i ρ=.ok d) (h2:fk ρ=.ok k) (h3:dgI d k=.ok xs) (h4:lY t body xs ρ=r):q_ i fk t body ρ=r:=by
 unfold q_;rw [h1,Res.aM,h2,Res.aM,h3,Res.aM,h4]
section
variable {M:List Int} {f:Int->List Int} {s:Int}
noncomputable def hst (M:List Int) (f:Int->List Int) (s:Int) (R W:List Int) (x y:D):List D:=[.dct (dA M f),.int s,.dct (kT R),.lst (W.map D.int),x,y]
theorem JT {R W:List Int} {c:Int} {y:D} (hR:R.length<=1000) (hW:W.length<=1000) (hf:(f c).length<=5000):∃y',lY (tg1 5) hbody ((f c).map D.int) (hst M f s R W (.int c) y)=.ok (.nx (hst M f s (R++news R (f c)) (W++news R (f c)) (.int c) y')):=by
 obtain ⟨ρ,e,y',rfl⟩:=cR (t:=tg1 5) (body:=hbody) (d:=D.int) (I:=fun ys ρ=>∃y',ρ=hst M f s (R++news R ys) (W++news R ys) (.int c) y') (f c) (fun ys a zs ρ e ⟨y',h⟩=>by
  subst h;have hl:ys.length<=5000:=by rw [e] at hf;simp at hf;lia
  have hn:=pJ ys R;refine ⟨hst M f s (R++news R ys) (W++news R ys) (.int c) (.int a),hst M f s (R++news R (ys++[a])) (W++news R (ys++[a])) (.int c) (.int a),rfl,?_,_,rfl⟩;rw [nJ];by_cases ha:a∈R++news R ys
  ·rw [if_pos ha,List.append_nil];exact pG (cA (aH rfl rfl ((kI _ a).trans (by rw [decide_eq_true ha];rfl)))) rfl
  ·rw [if_neg ha,<-List.append_assoc,<-List.append_assoc];refine PX (cA (aH rfl rfl ((kI _ a).trans (by rw [decide_eq_false ha];rfl)))) ?_;refine aK (QC (i:=2) (kvs:=kT (R++news R ys)) (k:=.int a) (d:=.bl true) rfl rfl rfl (by rw [kT,List.length_map,List.length_append,bQ];lia) (RV _ a) rfl) ?_;refine (qR (i:=3) (xs:=(W++news R ys).map D.int) (d:=.int a) rfl rfl (by rw [List.length_map,List.length_append,bQ];lia) rfl).trans ?_;rw [G5 ha];unfold hst;rw [List.map_append (l₁:=W++news R ys)];rfl) (ρ:=hst M f s R W (.int c) y) ⟨y,by simp [news]⟩
 exact ⟨y',e⟩
theorem RX (hs:s∈M) (hc:∀x∈M,∀y∈f x,y∈M) (hM:M.length<=100) (hf:∀x,(f x).length<=5000):∀(m:Nat),m<=500->∀(R W:List Int) (x y:D),Dv f s R W->M.length+W.length<=m+R.length->∃R' x' y',Dv f s R' []/\∀fuel,m<fuel->GD (bTr fJ) hloop fuel (hst M f s R W x y)=.ok (.nx (hst M f s R' [] x' y')):=by
 intro m;induction m with
 | zero=>
  intro _ R W x y dv hm;have:=dv.len hs hc;have hW:W=[]:=List.eq_nil_of_length_eq_zero (by lia);subst hW;refine ⟨R,x,y,dv,fun fuel hfu=>?_⟩;obtain ⟨k,rfl⟩:∃k,fuel=k+1:=⟨fuel-1,by lia⟩
  exact oE rfl
 | succ m ih=>
  intro hm5 R W x y dv hm;rcases List.eq_nil_or_concat W with rfl|⟨W0,c,rfl⟩
  ·refine ⟨R,x,y,dv,fun fuel hfu=>?_⟩;obtain ⟨k,rfl⟩:∃k,fuel=k+1:=⟨fuel-1,by lia⟩
   exact oE rfl
  ·rw [List.concat_eq_append] at dv hm ⊢;have hR:=dv.len hs hc;have hWR:(W0++[c]).length<=m+1+R.length:=by lia
   have hcM:c∈M:=(dv.rc c (dv.wR c (by simp))).mem hs hc;simp only [List.length_append,List.length_singleton] at hm hWR;obtain ⟨y1,e1⟩:=JT (M:=M) (f:=f) (s:=s) (R:=R) (W:=W0) (c:=c) (y:=y) (by lia) (by lia) (hf c);obtain ⟨R',x',y',d1,d2⟩:=ih (by lia) (R++news R (f c)) (W0++news R (f c)) (.int c) y1 dv.step (by simp only [List.length_append];lia);refine ⟨R',x',y',d1,fun fuel hfu=>?_⟩;obtain ⟨k,rfl⟩:∃k,fuel=k+1:=⟨fuel-1,by lia⟩
   have ht:(bTr fJ) (hst M f s R (W0++[c]) x y)=.ok true:=by
    show aF5 (.lst ((W0++[c]).map D.int))=_;show Res.ok (!((W0++[c]).map D.int).isEmpty)=_;simp
   refine vQ ht (ρ':=hst M f s (R++news R (f c)) (W0++news R (f c)) (.int c) y1) ?_ (d2 k (by lia));refine aK (ρ':=hst M f s R W0 (.int c) y) ?_ (G6 (i:=0) (k:=.int c) rfl rfl (XQ hcM) e1);have hp:((W0++[c]).map D.int)[((W0++[c]).map D.int).length-1]?=some (.int c):=by simp
   show (match ((W0++[c]).map D.int)[((W0++[c]).map D.int).length-1]? with|some z=>Res.ok (Fl.nx (((hst M f s R (W0++[c]) x y).set 3 (.lst ((W0++[c]).map D.int).dropLast)).set 4 z))|none=>.bad)=_;rw [hp];simp [hst]
theorem JV (hs:s∈M) (hc:∀x∈M,∀y∈f x,y∈M) (hM:M.length<=100) (hf:∀x,(f x).length<=5000):∃R:List Int,R.Nodup/\(∀x,x∈R↔Rc f s x)/\fL 2 bJ [.dct (dA M f),.int s]=.ok (.lst ((sortI R).map D.int)):=by
 obtain ⟨R,x,y,dv,e⟩:=RX hs hc hM hf M.length (by lia) [s] [s] .uD .uD (dv0 f s) (by simp);refine ⟨R,dv.nd,fun x=>dv.fin,(d9 rfl).trans ?_⟩;have fin:dW [.dct (dA M f),.int s,.uD,.uD,.uD,.uD]=.ok (.rt (.lst ((sortI R).map D.int))):=by
  refine aK (ρ':=[.dct (dA M f),.int s,.dct (kT [s]),.uD,.uD,.uD]) (eY (i:=2) (aH rfl rfl rfl) rfl) ?_;refine aK (ρ':=hst M f s [s] [s] .uD .uD) (eY (i:=3) rfl rfl) ?_;refine aK (e 1000 (by lia)) ?_;exact oN (aV (xs:=[.dct (kT R)]) (aD rfl rfl) (RW R)) rfl
 show (do let r <- dW _;zE r)=_;rw [show ([D.dct (dA M f),D.int s]++List.replicate (6-2) D.uD)=[.dct (dA M f),.int s,.uD,.uD,.uD,.uD] from rfl,fin];rfl
end
end Lk11
end
section
namespace Lk11
open PySem L2 Mi
def pD (p:List Int):D:=.lst (p.map D.int)
theorem yE:∀{p K:List Int},p.Nodup->(∀x∈p,x∉K)->putAll (p.map D.int) (kT K)=kT (K++p)
 | [],K,_,_=>by simp [putAll]
 | x::p,K,nd,h=>by
  rw [List.nodup_cons] at nd;show putAll (p.map D.int) (putD (kT K) (.int x) (.bl true))=_;rw [G5 (h x (List.mem_cons_self ..)),yE nd.2 fun y hy z=>?_,List.append_assoc]
  ·rfl
  ·rcases List.mem_append.mp z with z|z
   ·exact h y (List.mem_cons_of_mem _ hy) z
   ·rw [List.mem_singleton.mp z] at hy;exact nd.1 hy
theorem all_ints (p:List Int):(p.map D.int).all isInt=true:=List.all_eq_true.mpr fun d hd=>by
 obtain ⟨x,_,rfl⟩:=List.mem_map.mp hd;rfl
theorem Ps.sub {f:Int->List Int} {N1 N:List Int} {F:List (List Int)} (h:Ps f N1 F) (hN:∀n∈N1,n∈N) (hc:∀x∈N,∀y∈f x,y∈N):∀x∈F.flatten,x∈N:=fun x hx=>by
 obtain ⟨p,hp,hxp⟩:=List.mem_flatten.mp hx;obtain ⟨n,q,_,h2,_,h4⟩:=h.ea p hp;exact ((h4 x).mp hxp).mem (hN n h2) hc
theorem Ps.len {f:Int->List Int} {N1 N:List Int} {F:List (List Int)} (h:Ps f N1 F) (hN:∀n∈N1,n∈N) (hc:∀x∈N,∀y∈f x,y∈N):F.flatten.length<=N.length:=j_ _ _ h.nd (h.sub hN hc)
theorem Ps.part {f:Int->List Int} {N1 N:List Int} {F:List (List Int)} (h:Ps f N1 F) (hN:∀n∈N1,n∈N) (hc:∀x∈N,∀y∈f x,y∈N) {p:List Int} (hp:p∈F):p.length<=N.length:=by
 obtain ⟨n,q,_,h2,h3,h4⟩:=h.ea p hp;exact j_ _ _ (h3.imp fun {a b} h=>by lia) fun x hx=>((h4 x).mp hx).mem (hN n h2) hc
theorem aD0 {i:Nat} {f:FE} {ρ:List D} {p:List Int} (h:f ρ=.ok (pD p)):aCn i f ρ=.ok (.nx (ρ.set i (pD p))):=by
 unfold aCn;rw [h,Res.aM];show (if D.aW (p.map D.int) then Res.ok (Fl.nx (ρ.set i (.lst (p.map D.int)))) else .bad)=_;rw [fM,if_pos rfl];rfl
theorem JW {i j m:Nat} {ρ:List D} {p K:List Int} (h1:ρ.getD i .uD=pD p) (h2:ρ.getD j .uD=.dct (kT K)) (nd:p.Nodup) (hd:∀x∈p,x∉K) (hl:p.length+K.length<=100000):n_ i j m ρ=.ok (.nx ((ρ.set m .uD).set j (.dct (kT (K++p))))):=by
 unfold n_;rw [h1,h2];have g:((p.map D.int).all isInt&&(kT K).all (fun p=>isInt p.1)&&decide ((p.map D.int).length+(kT K).length<lim)&&inner (.dct (kT K)))=true:=by
  rw [all_ints,decide_eq_true (by rw [List.length_map,kT,List.length_map,bQ];lia),show inner (.dct (kT K))=D.aW ((kT K).map (·.2)) from rfl,V8];have:(kT K).all (fun p=>isInt p.1)=true:=List.all_eq_true.mpr fun p hp=>by
   obtain ⟨r,_,rfl⟩:=List.mem_map.mp hp;rfl
  rw [this];rfl
 show (if ((p.map D.int).all isInt&&(kT K).all (fun p=>isInt p.1)&&decide ((p.map D.int).length+(kT K).length<lim)&&inner (.dct (kT K)))=true then Res.ok (Fl.nx ((ρ.set m .uD).set j (.dct (putAll (p.map D.int) (kT K))))) else .bad)=_;rw [if_pos g,yE nd hd]
theorem aEu {i j:Nat} {ρ:List D} {F:List (List Int)} {p:List Int} (h1:ρ.getD i .uD=.lst (F.map pD)) (h2:ρ.getD j .uD=pD p) (hl:F.length<100000):sMv i j ρ=.ok (.nx ((ρ.set i (.lst ((F++[p]).map pD))).set j .uD)):=by
 unfold sMv;rw [h1,h2];have hi:(F.map pD).all vB=true:=List.all_eq_true.mpr fun d hd=>by
  obtain ⟨x,_,rfl⟩:=List.mem_map.mp hd;rfl
 show (if decide ((F.map pD).length<lim)&&(F.map pD).all vB&&D.aW (p.map D.int) then Res.ok (Fl.nx ((ρ.set i (.lst (F.map pD++[.lst (p.map D.int)]))).set j .uD)) else .bad)=_;rw [hi,fM,decide_eq_true (by rw [List.length_map,bQ];lia),List.map_append];rfl
def RZ (Q:List Pc) (V:List Tie):D:=.dct (dA (Q.map (·.1)) (oF V))
noncomputable def aEv:FS:=(sIf (bTB (b2 (bR .notin) nM kJ)) (bO (aCn 6 (aX (fL 2 bJ) (aF jH (aF nM bG)))) (bO (n_ 6 2 7) (sMv 3 6))) (mQ))
theorem V9 {Q:List Pc} {V:List Tie} {r:Int} (w:Wf Q V):∃F:List (List Int),Ps (oF V) (Q.map (·.1)) F/\F.length<=40/\fL 1 rC [fD Q V r]=.ok (.lst (F.map pD)):=by
 have ql:=w.ql;have hcl:=fY w;have hb:∀n,(oF V n).length<=5000:=fun n=>by have:=RN V (fun _=>[]) n;have:=w.vl;unfold oF;simp at *;lia
 obtain ⟨ρ1,e1,F,x4,x5,x6,x7,ps,hl,rfl⟩:=cR (t:=tgN [4,5]) (body:=aEv) (d:=pcD) (I:=fun ys ρ=>∃F x4 x5 x6 x7,Ps (oF V) (ys.map (·.1)) F/\F.length<=ys.length/\ρ=[fD Q V r,RZ Q V,.dct (kT F.flatten),.lst (F.map pD),x4,x5,x6,x7]) Q (fun ys a zs ρ e ⟨F,x4,x5,x6,x7,ps,hl,h⟩=>by
  subst h;have eN:Q.map (·.1)=ys.map (·.1)++a.1::zs.map (·.1):=by rw [e,List.map_append];rfl
  have hsub:∀n∈ys.map (·.1),n∈Q.map (·.1):=fun n hn=>by rw [eN];exact List.mem_append_left _ hn
  have haN:a.1∈Q.map (·.1):=by rw [eN];simp
  have hyl:ys.length<=40:=by rw [eN] at ql;simp at ql;lia
  have hK:=ps.len hsub hcl;rw [List.map_append,List.length_append];refine ⟨[fD Q V r,RZ Q V,.dct (kT F.flatten),.lst (F.map pD),.int a.1,.str a.2,x6,x7],?_⟩;by_cases hn:a.1∈F.flatten
  ·refine ⟨_,rfl,pG (cA (aH (x:=.int a.1) rfl rfl ((kI _ a.1).trans (by rw [decide_eq_true hn];rfl)))) rfl,F,_,_,_,_,ps.skip hn,by lia,rfl⟩
  ·obtain ⟨R,r1,r2,r3⟩:=JV (M:=Q.map (·.1)) (f:=oF V) haN hcl (by lia) hb;obtain ⟨ps2,hnew⟩:=ps.more (RP V) (by rw [<-eN];exact w.qs) (by rw [<-eN];exact hcl) hn r1 r2;have hnd:(sortI R).Nodup:=(sortI_perm R).nodup_iff.mpr r1;have hlR:(sortI R).length<=40:=Nat.le_trans (j_ _ _ hnd fun x hx=>((r2 x).mp ((sortI_perm R).mem_iff.mp hx)).mem haN hcl) ql;refine ⟨[fD Q V r,RZ Q V,.dct (kT (F.flatten++sortI R)),.lst ((F++[sortI R]).map pD),.int a.1,.str a.2,.uD,.uD],rfl,PX (cA (aH (x:=.int a.1) rfl rfl ((kI _ a.1).trans (by rw [decide_eq_false hn];rfl)))) ?_,F++[sortI R],.int a.1,.str a.2,.uD,.uD,ps2,by simp;lia,?_⟩
   ·have r3':fL 2 bJ [RZ Q V,.int a.1]=.ok (pD (sortI R)):=r3;have c1:aX (fL 2 bJ) (aF jH (aF nM bG)) [fD Q V r,RZ Q V,.dct (kT F.flatten),.lst (F.map pD),.int a.1,.str a.2,x6,x7]=.ok (pD (sortI R)):=aV (aD rfl (aD rfl rfl)) r3';refine aK (ρ':=[fD Q V r,RZ Q V,.dct (kT F.flatten),.lst (F.map pD),.int a.1,.str a.2,pD (sortI R),x7]) (aD0 (i:=6) c1) ?_;refine aK (ρ':=[fD Q V r,RZ Q V,.dct (kT (F.flatten++sortI R)),.lst (F.map pD),.int a.1,.str a.2,pD (sortI R),.uD]) (JW (i:=6) (j:=2) (m:=7) (p:=sortI R) (K:=F.flatten) rfl rfl hnd hnew (by lia)) ?_;exact aEu (i:=3) (j:=6) (F:=F) (p:=sortI R) rfl rfl (by lia)
   ·rw [List.flatten_append,List.flatten_singleton]) (ρ:=[fD Q V r,RZ Q V,.dct [],.lst [],.uD,.uD,.uD,.uD]) ⟨[],_,_,_,_,ps0 _,Nat.le_refl _,rfl⟩
 refine ⟨F,ps,by rw [List.length_map] at ql;lia,(d9 rfl).trans ?_⟩;have fin:z7 [fD Q V r,.uD,.uD,.uD,.uD,.uD,.uD,.uD]=.ok (.rt (.lst (F.map pD))):=by
  refine aK (ρ':=[fD Q V r,RZ Q V,.uD,.uD,.uD,.uD,.uD,.uD]) (bT (i:=1) (aV (xs:=[fD Q V r]) (aD rfl rfl) (vZ w))) ?_;refine aK (ρ':=[fD Q V r,RZ Q V,.dct [],.uD,.uD,.uD,.uD,.uD]) rfl ?_;refine aK (ρ':=[fD Q V r,RZ Q V,.dct [],.lst [],.uD,.uD,.uD,.uD]) rfl ?_;refine aK (rP (xs:=Q.map pcD) rfl (pH Q) e1) ?_;rfl
 show (do let r <- z7 _;zE r)=_;rw [show ([fD Q V r]++List.replicate (8-1) D.uD)=[fD Q V r,.uD,.uD,.uD,.uD,.uD,.uD,.uD] from rfl,fin];rfl
end Lk11
end
section
namespace Lk11
open PySem L2 Mi
theorem aDh {a b:FT} {ρ:List D} {r:Res Bool} (h1:a ρ=.ok false) (h2:b ρ=r):bOr a b ρ=r:=by
 unfold bOr;rw [h1,Res.aM];exact h2
theorem V_ (p:List Int) (k:Nat) (hk:k<p.length) (i:Int) (hi:i=k):getD (pD p) (.int i)=.ok (.int p[k]):=by
 obtain ⟨h,e⟩:=jL (p.map D.int) i (by lia) (by rw [List.length_map];lia);show getD (.lst (p.map D.int)) _=_;rw [e];have:i.toNat=k:=by lia
 simp [this]
theorem aAh (p:List Int):fK [pD p]=.ok (.int p.length):=by
 show Res.ok (D.int ((p.map D.int).length:Int))=_;rw [List.length_map]
noncomputable def aD1:FS:=(sIf (bOr (R7 (bTr (aX (fL 1 eO) (aF (b2 getD cP jH) bG)))) (zG (bTB (b2 (bR (.ord .gt)) jH dF)) (bTB (b2 (bR (.ord .le)) (b2 getD cP jH) (b2 getD cP (b2 (aU .sub) jH fP)))))) (pB (bC (.bl false)) true) (mQ))
theorem aD2 (i:Int):fL 1 eO [.int i]=.ok (.bl true):=rfl
theorem G7 {a:FT} {ρ:List D} {b:Bool} (h:a ρ=.ok b):R7 a ρ=.ok (!b):=by
 unfold R7;rw [h,Res.aM];rfl
theorem WD {a:FE} {ρ:List D} {b:Bool} (h:a ρ=.ok (.bl b)):bTr a ρ=.ok b:=by
 unfold bTr;rw [h,Res.aM];rfl
theorem R0 {p:List Int} (hp:p.Pairwise (·<·)) (h0:0<p.length) (hl:p.length<=1000):fL 1 dX [pD p]=.ok (.bl true):=by
 refine (d9 rfl).trans ?_;obtain ⟨ρ,e1,x,rfl⟩:=cR (t:=tg1 1) (body:=aD1) (d:=fun (k:Nat)=>D.int (0+(k:Int))) (I:=fun _ ρ=>∃x,ρ=[pD p,x]) (List.range p.length) (fun ys k zs ρ e ⟨x,h⟩=>by
  subst h;have hk:k<p.length:=List.mem_range.mp (by rw [e];simp);refine ⟨[pD p,.int (0+(k:Int))],[pD p,.int (0+(k:Int))],rfl,?_,_,rfl⟩;have g1:=V_ p k hk (0+(k:Int)) (by lia);have hc:bR (.ord .gt) (.int (0+(k:Int))) (.int 0)=.ok (.bl (decide (0<(0+(k:Int))))):=rfl;refine pG (aDh (G7 (b:=true) (WD (aV (aD (aH rfl rfl g1) rfl) (aD2 _)))) ?_) rfl;by_cases hz:k=0
  ·exact P_ (cA (aH rfl rfl (hc.trans (by rw [decide_eq_false (by lia)]))))
  ·have g2:=V_ p (k-1) (by lia) (0+(k:Int)-1) (by lia);have hlt:p[k-1]<p[k]:=List.pairwise_iff_getElem.mp hp (k-1) k (by lia) hk (by lia);have hd:bR (.ord .le) (.int p[k]) (.int p[k-1])=.ok (.bl (decide (p[k]<=p[k-1]))):=rfl;refine P0 (cA (aH rfl rfl (hc.trans (by rw [decide_eq_true (by lia)])))) ?_;exact cA (aH (aH rfl rfl g1) (aH rfl (aH rfl rfl (aCj _ _)) g2) (hd.trans (by rw [decide_eq_false (by lia)])))) (ρ:=[pD p,.uD]) ⟨_,rfl⟩
 have hc:bR .eq (.int (p.length:Int)) (.int 0)=.ok (.bl (decide ((p.length:Int)=0))):=by rw [<-jV];rfl
 have fin:iW [pD p,.uD]=.ok (.rt (.bl true)):=by
  refine aK (ρ':=[pD p,.uD]) (pG (aDh rfl (cA (aH (aV (aD rfl rfl) (aAh p)) rfl (hc.trans (by rw [decide_eq_false (by lia)]))))) rfl) ?_;refine aK (ρ':=[pD p,x]) (qP (qQ (n:=p.length) (aD (aV (aD rfl rfl) (aAh p)) rfl) (by lia) (by lia)) ?_) rfl;rw [<-e1,show ((p.length:Int)).toNat=p.length by lia];rfl
 show (do let r <- iW _;zE r)=_;rw [show ([pD p]++List.replicate (2-1) D.uD)=[pD p,.uD] from rfl,fin];rfl
noncomputable def G8 (f:Int->List Int):Int->List Int:=fun x=>(f x).filter fun z=>decide (0<z)
noncomputable def aAi:FS:=(sIf (zG (bTB (b2 (bR (.ord .gt)) gB dF)) (bTB (b2 (bR .notin) gB fJ))) (bO (T5 3 gB (bC (.bl true))) (uI 2 gB)) (mQ))
noncomputable def aEw:FS:=(bO (q_ 0 (b2 getD kJ nM) (tg1 5) aAi) (b8 false 4 (b2 (aU .add) nM fP) true))
def aD3:FT:=(bTB (b2 (bR (.ord .lt)) nM (aX fK (aF kJ bG))))
noncomputable def rst (M:List Int) (f:Int->List Int) (s:Int) (R:List Int) (n:Nat) (y:D):List D:=[.dct (dA M f),.int s,.lst (R.map D.int),.dct (kT R),.int n,y]
section
variable {M N:List Int} {f:Int->List Int} {s:Int}
theorem z_ {R:List Int} {n:Nat} {c:Int} {y:D} (hR:R.length<=1000) (hf:(f c).length<=5000):∃y',lY (tg1 5) aAi ((f c).map D.int) (rst M f s R n y)=.ok (.nx (rst M f s (R++news R (G8 f c)) n y')):=by
 obtain ⟨ρ,e,y',rfl⟩:=cR (t:=tg1 5) (body:=aAi) (d:=D.int) (I:=fun ys ρ=>∃y',ρ=rst M f s (R++news R (ys.filter fun z=>decide (0<z))) n y') (f c) (fun ys a zs ρ e ⟨y',h⟩=>by
  subst h;have hl:ys.length<=5000:=by rw [e] at hf;simp at hf;lia
  have hn:=pJ (ys.filter fun z=>decide (0<z)) R;have hn':(ys.filter fun z=>decide (0<z)).length<=ys.length:=List.length_filter_le ..;generalize hY:(ys.filter fun z=>decide (0<z))=Y at hn hn';have hg:bR (.ord .gt) (.int a) (.int 0)=.ok (.bl (decide (0<a))):=rfl;refine ⟨rst M f s (R++news R Y) n (.int a),rst M f s (R++news R ((ys++[a]).filter fun z=>decide (0<z))) n (.int a),rfl,?_,_,rfl⟩;rw [List.filter_append,hY];by_cases hp:0<a
  ·have e2:[a].filter (fun z=>decide (0<z))=[a]:=by simp [hp]
   rw [e2,nJ];have c1:(bTB (b2 (bR (.ord .gt)) gB dF)) (rst M f s (R++news R Y) n (.int a))=.ok true:=cA (aH rfl rfl (hg.trans (by rw [decide_eq_true hp])));by_cases ha:a∈R++news R Y
   ·rw [if_pos ha,List.append_nil];exact pG (P0 c1 (cA (aH rfl rfl ((kI _ a).trans (by rw [decide_eq_true ha];rfl))))) rfl
   ·rw [if_neg ha,<-List.append_assoc];refine PX (P0 c1 (cA (aH rfl rfl ((kI _ a).trans (by rw [decide_eq_false ha];rfl))))) ?_;refine aK (QC (i:=3) (kvs:=kT (R++news R Y)) (k:=.int a) (d:=.bl true) rfl rfl rfl (by rw [kT,List.length_map,List.length_append,bQ];lia) (RV _ a) rfl) ?_;refine (qR (i:=2) (xs:=(R++news R Y).map D.int) (d:=.int a) rfl rfl (by rw [List.length_map,List.length_append,bQ];lia) rfl).trans ?_;rw [G5 ha];unfold rst;rw [List.map_append (l₁:=R++news R Y)];rfl
  ·have e2:[a].filter (fun z=>decide (0<z))=[]:=by simp [hp]
   rw [e2,List.append_nil];exact pG (P_ (cA (aH rfl rfl (hg.trans (by rw [decide_eq_false hp]))))) rfl) (ρ:=rst M f s R n y) ⟨y,by simp [news]⟩
 exact ⟨y',e⟩
theorem v4 (R:List Int) (n:Nat) (y:D) (b:Bool) (h:b=decide (n<R.length)):aD3 (rst M f s R n y)=.ok b:=by
 have hc:bR (.ord .lt) (.int n) (.int R.length)=.ok (.bl (decide ((n:Int)<R.length))):=rfl;refine cA (aH rfl (aV (xs:=[pD R]) (aD rfl rfl) (aAh R)) (hc.trans ?_));rw [h]
 congr 2
 exact decide_eq_decide.mpr (by lia)
theorem JX (hs:s∈N) (hNM:∀x∈N,x∈M) (hc:∀x∈N,∀y∈G8 f x,y∈N) (hN:N.length<=100) (hf:∀x,(f x).length<=5000):∀(m:Nat) (R:List Int) (n:Nat) (y:D),Bv (G8 f) s R n->N.length<=m+n->∃R' n' y',Bv (G8 f) s R' n'/\R'.length<=n'/\∀fuel,m<fuel->GD aD3 aEw fuel (rst M f s R n y)=.ok (.nx (rst M f s R' n' y')):=by
 intro m;induction m with
 | zero=>
  intro R n y bv hm;have:=bv.len hs hc;refine ⟨R,n,y,bv,by lia,fun fuel hfu=>?_⟩;obtain ⟨k,rfl⟩:∃k,fuel=k+1:=⟨fuel-1,by lia⟩
  exact oE (v4 R n y false (decide_eq_false (by lia)).symm)
 | succ m ih=>
  intro R n y bv hm;have hR:=bv.len hs hc;by_cases hn:n<R.length
  ·obtain ⟨y1,e1⟩:=z_ (M:=M) (f:=f) (s:=s) (R:=R) (n:=n) (c:=R[n]) (y:=y) (by lia) (hf _);obtain ⟨R',n',y',d1,d2,d3⟩:=ih (R++news R (G8 f R[n])) (n+1) y1 (bv.step hn) (by lia);refine ⟨R',n',y',d1,d2,fun fuel hfu=>?_⟩;obtain ⟨k,rfl⟩:∃k,fuel=k+1:=⟨fuel-1,by lia⟩
   have hcM:R[n]∈M:=hNM _ ((bv.rc _ (List.getElem_mem hn)).mem hs hc);refine vQ (v4 R n y true (decide_eq_true hn).symm) (ρ':=rst M f s (R++news R (G8 f R[n])) (n+1) y1) ?_ (d3 k (by lia));refine aK (ρ':=rst M f s (R++news R (G8 f R[n])) n y1) (G6 (i:=0) (d:=.dct (dA M f)) (k:=.int R[n]) rfl (aH (x:=pD R) (y:=.int n) rfl rfl (V_ R n hn n rfl)) (XQ hcM) e1) ?_;exact bT (i:=4) (aH rfl rfl (fC _ _))
  ·refine ⟨R,n,y,bv,by lia,fun fuel hfu=>?_⟩;obtain ⟨k,rfl⟩:∃k,fuel=k+1:=⟨fuel-1,by lia⟩
   exact oE (v4 R n y false (decide_eq_false hn).symm)
theorem JZ (hs:s∈N) (hNM:∀x∈N,x∈M) (hc:∀x∈N,∀y∈G8 f x,y∈N) (hN:N.length<=100) (hf:∀x,(f x).length<=5000):∃R:List Int,R.Nodup/\(∀x,x∈R↔Rc (G8 f) s x)/\fL 2 cZ [.dct (dA M f),.int s]=.ok (pD R):=by
 obtain ⟨R,n,y,bv,hn,e⟩:=JX (M:=M) hs hNM hc hN hf N.length [s] 0 .uD (bv0 _ s) (by lia);refine ⟨R,bv.nd,fun x=>bv.fin hn,(d9 rfl).trans ?_⟩;have fin:gQ [.dct (dA M f),.int s,.uD,.uD,.uD,.uD]=.ok (.rt (pD R)):=by
  refine aK (ρ':=[.dct (dA M f),.int s,.lst [.int s],.uD,.uD,.uD]) (eY (i:=2) rfl rfl) ?_;refine aK (ρ':=[.dct (dA M f),.int s,.lst [.int s],.dct (kT [s]),.uD,.uD]) (eY (i:=3) (aH rfl rfl rfl) rfl) ?_;refine aK (ρ':=rst M f s [s] 0 .uD) (bT (i:=4) rfl) ?_;refine aK (e 1000 (by lia)) ?_;rfl
 show (do let r <- gQ _;zE r)=_;rw [show ([D.dct (dA M f),D.int s]++List.replicate (6-2) D.uD)=[.dct (dA M f),.int s,.uD,.uD,.uD,.uD] from rfl,fin];rfl
end
end Lk11
end
section
namespace Lk11
open PySem L2 Mi
theorem yF:∀p:List Int,pA (p.map D.int) (p.map D.int)=true
 | []=>rfl
 | x::p=>by
  rw [List.map_cons,pA,yF p,jV,decide_eq_true rfl];rfl
theorem tV (n:Nat):∀p:List Int,D.eE n (p.map D.int)=true
 | []=>by cases n <;> rfl
 | x::p=>by
  rw [List.map_cons,D.eE,tV n p];cases n <;> rfl
theorem XR (p:List Int):(pD p).bK aP=true:=by
 show D.bK (11+1) (.lst (p.map D.int))=true;rw [D.bK,tV]
theorem aF9 (p:List Int):eqD (pD p) (pD p)=true:=by
 unfold pD;rw [eqD,yF]
theorem WF (p:List Int):bR .eq (pD p) (pD p)=.ok (.bl true):=by
 show (if (pD p).bK aP&&(pD p).bK aP then Res.ok (D.bl (eqD (pD p) (pD p))) else .bad)=_;rw [XR,aF9];rfl
theorem WK (p:List Int):bR .ne (pD p) (pD p)=.ok (.bl false):=by
 show (if (pD p).bK aP&&(pD p).bK aP then Res.ok (D.bl (!eqD (pD p) (pD p))) else .bad)=_;rw [XR,aF9];rfl
theorem WL {M:List Int} {f:Int->List Int} {x:Int} (h:x∈M):bR .notin (.int x) (.dct (dA M f))=.ok (.bl false):=by
 have hf:rW (dA M f) (.int x)=true:=by
  unfold rW;rw [Bool.and_eq_true];refine ⟨rfl,List.all_eq_true.mpr fun p hp=>?_⟩;obtain ⟨r,_,rfl⟩:=List.mem_map.mp hp;rfl
 show (if rW (dA M f) (.int x) then Res.ok (D.bl (!(bU (dA M f) (.int x)).isSome)) else .bad)=_;rw [hf,if_pos rfl,vV h];rfl
theorem aEx (a b:List Int) (h:a.length+b.length<=100000):aU .add (pD a) (pD b)=.ok (pD (a++b)):=by
 unfold pD;rw [List.map_append];exact u_ _ _ (by rw [List.length_map,List.length_map,bQ];lia) (fM a) (fM b)
def aEy (Q:List Pc) (V:List Tie):D:=.dct (dA (0::Q.map (·.1)) (v6 V))
noncomputable def aD4:FS:=(bO (sIf (bOr (R7 (bTr (aX (fL 1 dX) (aF rR bG)))) (bTB (b2 (bR (.ord .le)) (b2 getD rR dF) rY))) (pB (bC (.bl false)) true) (mQ)) (bO (sIf (bOr (bTB (b2 (bR .notin) (b2 getD rR dF) kJ)) (bTB (b2 (bR .ne) (aX gK (aF (aX (fL 2 cZ) (aF kJ (aF (b2 getD rR dF) bG))) bG)) rR))) (pB (bC (.bl false)) true) (mQ)) (bO (b8 false 8 (b2 getD rR dF) false) (b8 false 7 (b2 (aU .add) rQ rR) true))))
noncomputable def lst (F:List (List Int)) (Q:List Pc) (V:List Tie) (r:Int) (x3 x4 x5 x6:D) (al:List Int) (la:Int) (x9:D):List D:=[.lst (F.map pD),fD Q V r,aEy Q V,x3,x4,x5,x6,pD al,.int la,x9]
theorem R1 {Q:List Pc} {V:List Tie} {r:Int} {F:List (List Int)} {x3 x4 x5 x6:D} {al:List Int} {la:Int} {p:List Int} (w:Wf Q V) (ps:Ps (oF V) (Q.map (·.1)) F) (hp:p∈F) (hla:la<p.headD 0) (hal:al.length<=1000) :
  aD4 (lst F Q V r x3 x4 x5 x6 al la (pD p))=.ok (.nx (lst F Q V r x3 x4 x5 x6 (al++p) (p.headD 0) (pD p))):=by
 have ql:=w.ql;have hcl:=fY w;have hpl:=ps.part (fun _ h=>h) hcl hp;obtain ⟨n,q,e,hn,hlt,hmem⟩:=ps.ea p hp;have hh:p.headD 0=n:=by rw [e];rfl
 have g0:getD (pD p) (.int 0)=.ok (.int n):=by
  have:=V_ p 0 (by rw [e];simp) 0 rfl;rw [this];simp [e]
 have hcN:∀x∈Q.map (·.1),∀y∈G8 (v6 V) x,y∈Q.map (·.1):=fun x hx y hy=>hcl x hx y ((vY w hx).mp hy)
 obtain ⟨R,r1,r2,r3⟩:=JZ (M:=0::Q.map (·.1)) (N:=Q.map (·.1)) (f:=v6 V) (s:=n) hn (fun x hx=>List.mem_cons_of_mem _ hx) hcN (by lia) (fun x=>by have:=RM V (fun _=>[]) x;have:=w.vl;unfold v6;simp at *;lia);have hsR:sortI R=p:=G3 r1 hlt fun x=>(r2 x).trans (Iff.trans ⟨fun h=>h.to hn hcN fun x hx y hy=>(vY w hx).mp hy,fun h=>h.to hn hcl fun x hx y hy=>(vY w hx).mpr hy⟩ (hmem x).symm)
 have hr:=R0 hlt (by rw [e];simp) (by lia);have hs:=sorted_ints R;rw [hsR] at hs;have hc:bR (.ord .le) (.int n) (.int la)=.ok (.bl (decide (n<=la))):=rfl;rw [hh] at hla ⊢;refine aK (ρ':=lst F Q V r x3 x4 x5 x6 al la (pD p)) (pG (aDh (G7 (b:=true) (WD (aV (xs:=[pD p]) (aD rfl rfl) hr))) (cA (aH (aH (x:=pD p) rfl rfl g0) rfl (hc.trans (by rw [decide_eq_false (by lia)]))))) rfl) ?_;refine aK (ρ':=lst F Q V r x3 x4 x5 x6 al la (pD p)) (pG (aDh (cA (aH (aH (x:=pD p) rfl rfl g0) (y:=aEy Q V) rfl (WL (List.mem_cons_of_mem _ hn)))) (cA (aH (x:=pD p) (y:=pD p) (aV (xs:=[pD R]) (aD (aV (xs:=[aEy Q V,.int n]) (aD rfl (aD (aH (x:=pD p) rfl rfl g0) rfl)) r3) rfl) hs) rfl (WK p)))) rfl) ?_;refine aK (ρ':=lst F Q V r x3 x4 x5 x6 al n (pD p)) (zU (i:=8) (aH (x:=pD p) rfl rfl g0) rfl) ?_;exact bT (i:=7) (aH (x:=pD al) (y:=pD p) rfl rfl (aEx al p (by lia)))
end Lk11
end
section
namespace Lk11
open PySem L2 Mi
noncomputable def aEz:FS:=(bO (qW 2 (b2 getD gB dF) (b2 getD v5 dF)) (qW 2 (b2 getD v5 dF) (b2 getD gB dF)))
theorem aAj {Q:List Pc} {V:List Tie} (w:Wf Q V) {t:Tie} (ht:t∈V):t.1.1∈(0::Q.map (·.1))/\t.2.1∈(0::Q.map (·.1)):=by
 rcases w.ok t ht with ⟨h1,h2|h2⟩|⟨h1,h2⟩
 ·exact ⟨by rw [h1];exact List.mem_cons_self ..,by rw [h2];exact List.mem_cons_self ..⟩
 ·exact ⟨by rw [h1];exact List.mem_cons_self ..,List.mem_cons_of_mem _ h2⟩
 ·exact ⟨List.mem_cons_of_mem _ h1,List.mem_cons_of_mem _ h2⟩
theorem yG {Q:List Pc} {V:List Tie} {r:Int} {F:List (List Int)} (w:Wf Q V) (ps:Ps (oF V) (Q.map (·.1)) F) (hF:F.length<=40):fL 2 eQ [.lst (F.map pD),fD Q V r]=.ok (.bl true):=by
 refine (d9 rfl).trans ?_;have ql:=w.ql;have hcl:=fY w;have nd0:(0::Q.map (·.1)).Nodup:=List.nodup_cons.mpr ⟨fun z=>by have:=w.qp 0 z;lia,w.nd⟩;obtain ⟨ρ1,e1,x3,x4,rfl⟩:=cR (t:=tgN [3,4]) (body:=zY 2 fJ) (d:=pcD) (I:=fun ys ρ=>∃a b,ρ=[.lst (F.map pD),fD Q V r,.dct (dA (0::ys.map (·.1)) fun _=>[]),a,b,.uD,.uD,.uD,.uD,.uD]) Q (fun ys a zs ρ e ⟨x,y,h⟩=>by
  subst h;have hp:a.1≠0:=fun z=>by have:=w.qp a.1 (by rw [e];simp);lia
  refine ⟨_,_,rfl,RK (i:=2) (M:=0::ys.map (·.1)) (x:=a.1) rfl rfl (fun z=>by
   rcases List.mem_cons.mp z with z|z
   ·exact hp z
   ·exact RQ w e z) (by rw [e] at ql;simp at ql ⊢;lia),.int a.1,.str a.2,?_⟩
  rw [List.map_append];rfl) (ρ:=[.lst (F.map pD),fD Q V r,.dct [(.int 0,.lst [])],.uD,.uD,.uD,.uD,.uD,.uD,.uD]) ⟨.uD,.uD,rfl⟩
 obtain ⟨ρ2,e2,x5,x6,rfl⟩:=cR (t:=tgN [5,6]) (body:=aEz) (d:=cF) (I:=fun ys ρ=>∃c d,ρ=[.lst (F.map pD),fD Q V r,.dct (dA (0::Q.map (·.1)) (v6 ys)),x3,x4,c,d,.uD,.uD,.uD]) V (fun ys t zs ρ e ⟨z,u,h⟩=>by
  subst h;have ht:t∈V:=by rw [e];simp
  have hl:ys.length<=1000:=by have:=w.vl;rw [e] at this;simp at this;lia
  have hb:∀n,(v6 ys n).length<=2000:=fun n=>by have:=RM ys (fun _=>[]) n;unfold v6;simp at this;lia
  have ha:v6 (ys++[t])=stN (v6 ys) t:=by unfold v6;rw [List.foldl_append];rfl
  have hm:=aAj w ht;refine ⟨[.lst (F.map pD),fD Q V r,.dct (dA (0::Q.map (·.1)) (v6 ys)),x3,x4,enP t.1,enP t.2,.uD,.uD,.uD],[.lst (F.map pD),fD Q V r,.dct (dA (0::Q.map (·.1)) (v6 (ys++[t]))),x3,x4,enP t.1,enP t.2,.uD,.uD,.uD],rfl,?_,_,_,rfl⟩;have a1:=vW (f:=v6 ys) (y:=t.2.1) nd0 hm.1 (by have:=hb t.1.1;lia);have a2:=vW (f:=yJ (v6 ys) t.1.1 t.2.1) (y:=t.1.1) nd0 hm.2 (by have:=hb t.2.1;have:=kE (v6 ys) t.1.1 t.2.1 t.2.1;lia);refine aK (vX (i:=2) rfl (k:=.int t.1.1) rfl (e:=.int t.2.1) rfl a1) ?_;refine (vX (i:=2) rfl (k:=.int t.2.1) rfl (e:=.int t.1.1) rfl a2).trans ?_;rw [ha];rfl) (ρ:=[.lst (F.map pD),fD Q V r,.dct (dA (0::Q.map (·.1)) fun _=>[]),x3,x4,.uD,.uD,.uD,.uD,.uD]) ⟨_,_,rfl⟩
 obtain ⟨ρ3,e3,la,x9,hla,rfl⟩:=cR (t:=tg1 9) (body:=aD4) (d:=pD) (I:=fun ys ρ=>∃la x9,(ys=[]/\la=0\/∃b∈ys,la=b.headD 0)/\ρ=lst F Q V r x3 x4 x5 x6 ys.flatten la x9) F (fun ys p zs ρ e ⟨la,x9,hla,h⟩=>by
  subst h;have hp:p∈F:=by rw [e];simp
  have hlen:ys.flatten.length<=1000:=by
   have:=ps.len (fun _ h=>h) hcl;rw [e,List.flatten_append,List.length_append] at this;lia
  obtain ⟨n,q,en,hn,_,_⟩:=ps.ea p hp;have hlt:la<p.headD 0:=by
   rcases hla with ⟨_,h⟩|⟨b,hb,h⟩
   ·rw [h,en];exact w.qp n hn
   ·have:=ps.hd;rw [e,List.pairwise_append] at this;rw [h];exact this.2.2 b hb p (List.mem_cons_self ..)
  refine ⟨lst F Q V r x3 x4 x5 x6 ys.flatten la (pD p),_,rfl,R1 w ps hp hlt hlen,p.headD 0,pD p,.inr ⟨p,by simp,rfl⟩,?_⟩;rw [List.flatten_append,List.flatten_singleton]) (ρ:=lst F Q V r x3 x4 x5 x6 [] 0 .uD) ⟨0,.uD,.inl ⟨rfl,rfl⟩,rfl⟩
 have hs:sortI F.flatten=Q.map (·.1):=G3 ps.nd w.qs fun x=>⟨ps.sub (fun _ h=>h) hcl x,ps.cv x⟩
 have hso:gK [pD F.flatten]=.ok (pD (Q.map (·.1))):=by rw [<-hs];exact sorted_ints _
 have hcp:(gM 10 (dM (b2 getD jH dF) false) (aBs 2) (uH) gY false) (lst F Q V r x3 x4 x5 x6 F.flatten la x9)=.ok (pD (Q.map (·.1))):=by
  refine qT (xs:=Q.map pcD) (m5 (d:=.tup (Q.map pcD)) rfl rfl) (by rw [List.length_map,bQ];rw [List.length_map] at ql;lia) ?_;have:=iB (H_ 10 (aBs 2) uH gY false (lst F Q V r x3 x4 x5 x6 F.flatten la x9)) pcD (fun _=>true) (fun a=>.int a.1) (fun acc a=>rfl) Q [];rw [this,List.filter_eq_self.mpr (fun _ _=>rfl),List.nil_append,List.map_map];rfl
 have fin:jT [.lst (F.map pD),fD Q V r,.uD,.uD,.uD,.uD,.uD,.uD,.uD,.uD]=.ok (.rt (.bl true)):=by
  refine aK (ρ':=[.lst (F.map pD),fD Q V r,.dct [(.int 0,.lst [])],.uD,.uD,.uD,.uD,.uD,.uD,.uD]) rfl ?_;refine aK (rP (xs:=Q.map pcD) rfl (pH Q) e1) ?_;refine aK (rP (xs:=V.map cF) rfl (nG V) e2) ?_;refine aK (pG (G7 (b:=true) (WD rfl)) rfl) ?_;refine aK (bT (i:=7) (d:=.lst []) rfl) ?_;refine aK (ρ':=lst F Q V r x3 x4 x5 x6 [] 0 .uD) (bT (i:=8) (d:=.int 0) rfl) ?_;refine aK (QB (d:=.lst (F.map pD)) (xs:=F.map pD) rfl rfl e3) ?_;exact oN (aH (aV (xs:=[pD F.flatten]) (aD rfl rfl) hso) hcp (WF _)) rfl
 show (do let r <- jT _;zE r)=_;rw [show ([D.lst (F.map pD),fD Q V r]++List.replicate (10-2) D.uD)=[.lst (F.map pD),fD Q V r,.uD,.uD,.uD,.uD,.uD,.uD,.uD,.uD] from rfl,fin];rfl
theorem aAk {i:Nat} {f:FE} {ρ:List D} {F:List (List Int)} (h:f ρ=.ok (.lst (F.map pD))):VL i f ρ=.ok (.nx (ρ.set i (.lst (F.map pD)))):=by
 have hl:(F.map pD).all aDg=true:=List.all_eq_true.mpr fun d hd=>by
  obtain ⟨p,_,rfl⟩:=List.mem_map.mp hd;exact all_ints p
 unfold VL;rw [h,Res.aM];show (if (F.map pD).all aDg then Res.ok (Fl.nx (ρ.set i (.lst (F.map pD)))) else .bad)=_;rw [hl,if_pos rfl]
theorem WM {i j:Nat} {ρ:List D} {F:List (List Int)} (h:ρ.getD i .uD=.lst (F.map pD)) (h1:F.length<=1000) (h2:∀p∈F,p.length<=1000):xN i j ρ=.ok (.nx ((ρ.set i .uD).set j .uD)):=by
 have hl:(F.map pD).all xM=true:=List.all_eq_true.mpr fun d hd=>by
  obtain ⟨p,hp,rfl⟩:=List.mem_map.mp hd;exact decide_eq_true (by rw [List.length_map];exact h2 p hp)
 unfold xN;rw [h];show (if decide ((F.map pD).length<=1000)&&(F.map pD).all xM then Res.ok (Fl.nx ((ρ.set i .uD).set j .uD)) else .bad)=_;rw [hl,decide_eq_true (by rw [List.length_map];exact h1)];rfl
theorem aAl {i:Nat} {ρ:List D} {d:D} (h:ρ.getD i .uD=d) (hd:d≠.uD):lX i ρ=.ok d:=by
 unfold lX;rw [h];cases d <;> first|rfl|exact absurd rfl hd
theorem main:∀ns:List Int,ns.length<=63->JR [.scr (ns.map D.int)]=.ok (.bl true):=by
 intro ns hn;have c0:=cell_eq ns 0;have c1:=cell_eq ns 1;obtain ⟨kvs,k1,k2,k3,k4⟩:=VR (cellAt ns 0) (cellAt ns 1);have k4':fL 2 eG [.int (cellAt ns 0),.int (cellAt ns 1)]=.ok (.dct kvs):=(d9 rfl).trans k4;have hs:R8 (.scr (ns.map D.int)) (some 2) (some 66)=.ok (.lst ((cutD ns (some 2) (some 66)).map D.int)):=by
  show (if D.aW (ns.map D.int) then Res.ok (D.lst (cutD (ns.map D.int) (some 2) (some 66))) else .bad)=_;rw [fM,if_pos rfl,ZX]
 have hcl:=ZZ ns (some 2) (some 66);generalize cutD ns (some 2) (some 66)=cs at hs hcl;obtain ⟨Q,V,r,w,hg⟩:=V5 k1 k2 k3 cs (by lia) (cellAt ns 1);obtain ⟨F,ps,hF,hp⟩:=V9 (r:=r) w;have hq:=yG (r:=r) w ps hF;have ql:=w.ql;have cc:∀(k:Nat) (ρ:List D),ρ.getD 0 .uD=.scr (ns.map D.int)->aX (fL 2 b7) (aF cP (aF (bC (.int k)) bG)) ρ=.ok (.int (cellAt ns k)):=fun k ρ hρ=>aV (aD (aAl hρ (by intro z;cases z)) (aD rfl rfl)) (cell_eq ns k)
 have fin:aA7 [.scr (ns.map D.int),.uD,.uD,.uD,.uD]=.ok (.rt (.bl true)):=by
  refine aK (ρ':=[.scr (ns.map D.int),.dct kvs,.uD,.uD,.uD]) (bT (i:=1) (aV (aD (cc 0 _ rfl) (aD (cc 1 _ rfl) rfl)) k4')) ?_;refine aK (ρ':=[.scr (ns.map D.int),.dct kvs,fD Q V r,.uD,.uD]) (bT (i:=2) (aV (xs:=[.dct kvs,.lst (cs.map D.int),.int (cellAt ns 1)]) (aD rfl (aD (XH rfl rfl rfl hs) (aD (cc 1 _ rfl) rfl))) hg)) ?_;refine aK (ρ':=[.scr (ns.map D.int),.dct kvs,fD Q V r,.lst (F.map pD),.uD]) (aAk (i:=3) (aV (xs:=[fD Q V r]) (aD rfl rfl) hp)) ?_;refine aK (ρ':=[.scr (ns.map D.int),.dct kvs,fD Q V r,.lst (F.map pD),.uD]) (pG (G7 (b:=true) (WD (aV (xs:=[.lst (F.map pD),fD Q V r]) (aD rfl (aD rfl rfl)) hq))) rfl) ?_;refine aK (ρ':=[.scr (ns.map D.int),.dct kvs,fD Q V r,.uD,.uD]) (WM (i:=3) (j:=4) (F:=F) rfl (by lia) fun p hp=>by have:=ps.part (fun _ h=>h) (fY w) hp;lia) ?_;exact oN (aV (xs:=[.lst (F.map pD),fD Q V r]) (aD (aV (xs:=[fD Q V r]) (aD rfl rfl) hp) (aD rfl rfl)) hq) rfl
 show (do let r <- aA7 _;zE r)=_;rw [show ([D.scr (ns.map D.int)]++List.replicate (5-1) D.uD)=[.scr (ns.map D.int),.uD,.uD,.uD,.uD] from rfl,fin];rfl
end Lk11
end
section
open PySem PySem.W PyProof.Rows
def PySem.W.Fast.tw11338904934456841143 : Unit:=()
def PySem.W.Fast.tw14330343818183451762 : Unit:=()
def PySem.W.Fast.tw8331359085945979154 : Unit:=()
def PySem.W.Fast.tw3292797796109102803 : Unit:=()
def PySem.W.Fast.tw13426682234533953398 : Unit:=()
def PySem.W.Fast.tw11565314870848087968 : Unit:=()
def PySem.W.Fast.tw4683542852757591207 : Unit:=()
def PySem.W.Fast.tw12870804906215181408 : Unit:=()
def PySem.W.Fast.tw12111148155862471003 : Unit:=()
def PySem.W.Fast.tw15313767374224630631 : Unit:=()
def PySem.W.Fast.tw12404201817459268320 : Unit:=()
def PySem.W.Fast.tw2252450617782148111 : Unit:=()
def PySem.W.Fast.tw15829069527372169008 : Unit:=()
def PySem.W.Fast.tw13246289343139171893 : Unit:=()
def PySem.W.Fast.tw1101894956488845955 : Unit:=()
def PySem.W.Fast.tw464486455716586790 : Unit:=()
def PySem.W.Fast.tw12963126258084894209 : Unit:=()
def PySem.W.Fast.tw17369805113131094587 : Unit:=()
def PySem.W.Fast.tw7737360275645699313 : Unit:=()
def PySem.W.Fast.tw4907446718240136170 : Unit:=()
set_option maxRecDepth 100000 in
set_option maxHeartbeats 0 in
theorem PySem.Challenge.cw_hookmill_k11_parts_holds : PySem.Challenge.rw_hookmill_k11_parts.Holds := by
 w_on;o_law;k_head;(case hw=>w_witness2)
 k_fill
 refine Lk11.walk (l:=PySem.Challenge.rw_hookmill_k11_parts) Lk11.main rfl rfl (fun w h Y=>PySem.W.kIn_of Y) ?F
 case F=>
  intro w mg fa h KX G hmg
  refine' Lk11.aCt KX G hmg ?a0 ?a1 ?a2 ?a3 ?a4 ?a5 ?a6 ?a7 ?a8 ?a9 ?a10 ?a11 ?a12 ?a13 ?a14 ?l14 ?c14 ?k14 ?z_len ?z_min ?z_max ?z_list ?z_tuple ?z_sorted ?z_range ?z_isinstance ?z_int ?z_bool ?z_str ?z_dict ?z_all ?z_enumerate ?z_sum ?z_zip ?z_abs ?z_reversed
  (case a0|a1|a2|a3|a4|a5|a6|a7|a8|a9|a10|a11|a12|a13=>refine' Lk11.aEo ?a ?b ?c ?d;(case a=>k_is);(case b=>k_is);(case c=>k_is);case d=>k_is)
  (case a14|l14|c14|k14|z_len|z_min|z_max|z_list|z_tuple|z_sorted|z_range|z_isinstance|z_int|z_bool|z_str|z_dict|z_all|z_enumerate|z_sum|z_zip|z_abs|z_reversed=>k_is)
end
